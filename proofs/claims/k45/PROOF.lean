import PyProof.Rows.All
import Wide.All
import OpenK.AllK
import Wide.FinOn
import Lean
import PyProof.EqAt
import PyProof.EqKinds
import PyProof.TupleCall
import PyProof.NeKinds
import PySem.Challenge.RW_spareplank_k45_new_blocks_and_sums
set_option Elab.async false
set_option linter.all false
set_option maxRecDepth 100000
set_option maxHeartbeats 1000000
theorem zK:type_of% @List.getD_eq_getElem?_getD:=@List.getD_eq_getElem?_getD
theorem zL:type_of% @List.getElem?_eq_getElem:=@List.getElem?_eq_getElem
theorem zM:type_of% @List.length_map:=@List.length_map
theorem zN:type_of% @of_decide_eq_true:=@of_decide_eq_true
theorem zO:type_of% @List.getElem?_map:=@List.getElem?_map
theorem zP:type_of% @PySem.Heap.get?_push_of_some:=@PySem.Heap.get?_push_of_some
theorem zQ:type_of% @Nat.le_refl:=@Nat.le_refl
theorem zR:type_of% @Nat.le_trans:=@Nat.le_trans
theorem zS:type_of% @List.length_range:=@List.length_range
theorem zT:type_of% @PySem.wpAny_bind:=@PySem.wpAny_bind
theorem zU:type_of% @PySem.Heap.lt_size:=@PySem.Heap.lt_size
theorem zV:type_of% @List.getElem?_eq_some_iff:=@List.getElem?_eq_some_iff
theorem zW:type_of% @List.size_toArray:=@List.size_toArray
theorem zX:type_of% @Option.some.inj:=@Option.some.inj
theorem zY:type_of% @List.getElem?_eq_none:=@List.getElem?_eq_none
theorem zZ:type_of% @decide_eq_true:=@decide_eq_true
theorem aa0:type_of% @List.mem_of_getElem?:=@List.mem_of_getElem?
theorem aa1:type_of% @List.mem_range:=@List.mem_range
theorem aa2:type_of% @Nat.lt_of_lt_of_le:=@Nat.lt_of_lt_of_le
theorem aa3:type_of% @Bool.false_ne_true:=@Bool.false_ne_true
theorem aa4:type_of% @Nat.ne_of_lt:=@Nat.ne_of_lt
theorem aa5:type_of% @List.mem_cons:=@List.mem_cons
theorem aa6:type_of% @List.mem_singleton:=@List.mem_singleton
theorem aa7:type_of% @List.mem_filter:=@List.mem_filter
theorem aa8:type_of% @PySem.Heap.get?_push_size:=@PySem.Heap.get?_push_size
theorem aa9:type_of% @decide_eq_false:=@decide_eq_false
theorem ab0:type_of% @List.getElem?_range:=@List.getElem?_range
theorem ab1:type_of% @Nat.zero_le:=@Nat.zero_le
theorem ab2:type_of% @PySem.wpAny_pure:=@PySem.wpAny_pure
theorem ab3:type_of% @Nat.lt_succ_self:=@Nat.lt_succ_self
theorem ab4:type_of% @List.all_eq_true:=@List.all_eq_true
theorem ab5:type_of% @List.mem_append:=@List.mem_append
theorem ab6:type_of% @List.length_append:=@List.length_append
theorem ab7:type_of% @PySem.boot_len:=@PySem.boot_len
theorem ab8:type_of% @List.contains_iff_mem:=@List.contains_iff_mem
theorem ab9:type_of% @List.not_mem_nil:=@List.not_mem_nil
theorem ac0:type_of% @List.length_filter_le:=@List.length_filter_le
theorem ac1:type_of% @List.lookup_cons:=@List.lookup_cons
theorem ac2:type_of% @Int.toNat_natCast:=@Int.toNat_natCast
theorem ac3:type_of% @List.mem_cons_of_mem:=@List.mem_cons_of_mem
theorem ac4:type_of% @List.map_map:=@List.map_map
theorem ac5:type_of% @PySem.F.plainAttrs_list:=@PySem.F.plainAttrs_list
theorem ac6:type_of% @List.mem_append_right:=@List.mem_append_right
theorem ac7:type_of% @List.length_cons:=@List.length_cons
theorem ac8:type_of% @Bool.and_eq_true:=@Bool.and_eq_true
theorem ac9:type_of% @List.mem_cons_self:=@List.mem_cons_self
theorem ad0:type_of% @Nat.lt_succ_of_lt:=@Nat.lt_succ_of_lt
theorem ad1:type_of% @PySem.F.slot_list_append:=@PySem.F.slot_list_append
theorem ad2:type_of% @PySem.F.type_list_append:=@PySem.F.type_list_append
theorem ad3:type_of% @Ne.symm:=@Ne.symm
theorem ad4:type_of% @Nat.lt_irrefl:=@Nat.lt_irrefl
theorem ad5:type_of% @Nat.mod_two_eq_zero_or_one:=@Nat.mod_two_eq_zero_or_one
theorem ad6:type_of% @List.map_append:=@List.map_append
theorem ad7:type_of% @beq_eq_false_iff_ne:=@beq_eq_false_iff_ne
theorem ad8:type_of% @List.map_cons:=@List.map_cons
theorem ad9:type_of% @List.ext_getElem?:=@List.ext_getElem?
theorem ae0:type_of% @PySem.mem_of_lookup:=@PySem.mem_of_lookup
theorem ae1:type_of% @List.getElem_mem:=@List.getElem_mem
theorem ae2:type_of% @List.mem_map:=@List.mem_map
theorem ae3:type_of% @Option.map_some:=@Option.map_some
theorem ae4:type_of% @Nat.zero_xor:=@Nat.zero_xor
theorem ae5:type_of% @Nat.xor_zero:=@Nat.xor_zero
theorem ae6:type_of% @List.length_set:=@List.length_set
theorem ae7:type_of% @Nat.lt_of_le_of_lt:=@Nat.lt_of_le_of_lt
theorem ae8:type_of% @List.getElem?_append_left:=@List.getElem?_append_left
theorem ae9:type_of% @Nat.testBit_xor:=@Nat.testBit_xor
theorem af0:type_of% @Nat.two_pow_pos:=@Nat.two_pow_pos
theorem af1:type_of% @beq_self_eq_true:=@beq_self_eq_true
theorem af2:type_of% @List.Pairwise.filter:=@List.Pairwise.filter
theorem af3:type_of% @PySem.wpAny_mono:=@PySem.wpAny_mono
theorem af4:type_of% @List.map_congr_left:=@List.map_congr_left
theorem af5:type_of% @Nat.not_lt_zero:=@Nat.not_lt_zero
theorem af6:type_of% @List.getElem?_append_right:=@List.getElem?_append_right
theorem af7:type_of% @List.getElem?_set_ne:=@List.getElem?_set_ne
theorem af8:type_of% @Nat.pow_le_pow_right:=@Nat.pow_le_pow_right
theorem af9:type_of% @List.range_succ:=@List.range_succ
theorem ag0:type_of% @List.length_take:=@List.length_take
theorem ag1:type_of% @Nat.xor_assoc:=@Nat.xor_assoc
theorem ag2:type_of% @List.replicate_succ:=@List.replicate_succ
theorem ag3:type_of% @PyProof.Rows.callWith_type1:=@PyProof.Rows.callWith_type1
theorem ag4:type_of% @Nat.pow_succ:=@Nat.pow_succ
theorem ag5:type_of% @PyProof.Rows.slot_int_bit_length:=@PyProof.Rows.slot_int_bit_length
theorem ag6:type_of% @PyProof.Rows.type_int_bit_length:=@PyProof.Rows.type_int_bit_length
theorem ag7:type_of% @Nat.xor_lt_two_pow:=@Nat.xor_lt_two_pow
theorem ag8:type_of% @PySem.wpAny_holding:=@PySem.wpAny_holding
theorem ag9:type_of% @PySem.W.kia_one:=@PySem.W.kia_one
theorem ah0:type_of% @List.getElem?_set_self:=@List.getElem?_set_self
theorem ah1:type_of% @PySem.F.plain_min_loop:=@PySem.F.plain_min_loop
theorem ah2:type_of% @PySem.wpAny_truthy_bool:=@PySem.wpAny_truthy_bool
theorem ah3:type_of% @PyProof.Rows.Boot.sorted:=@PyProof.Rows.Boot.sorted
theorem ah4:type_of% @Nat.le_of_lt:=@Nat.le_of_lt
theorem ah5:type_of% @Nat.eq_of_testBit_eq:=@Nat.eq_of_testBit_eq
theorem ah6:type_of% @Nat.testBit_succ:=@Nat.testBit_succ
theorem ah7:type_of% @Array.length_toList:=@Array.length_toList
theorem ah8:type_of% @List.length_replicate:=@List.length_replicate
theorem ah9:type_of% @PySem.wpAny_Call_Name_kw:=@PySem.wpAny_Call_Name_kw
theorem ai0:type_of% @List.nodup_range:=@List.nodup_range
theorem ai1:type_of% @List.take_length:=@List.take_length
theorem ai2:type_of% @Option.isSome_iff_exists:=@Option.isSome_iff_exists
theorem ai3:type_of% @Nat.mul_comm:=@Nat.mul_comm
theorem ai4:type_of% @Nat.xor_self:=@Nat.xor_self
theorem ai5:type_of% @Bool.and_true:=@Bool.and_true
theorem ai6:type_of% @List.mem_append_left:=@List.mem_append_left
theorem ai7:type_of% @List.flatten_cons:=@List.flatten_cons
theorem ai8:type_of% @List.append_nil:=@List.append_nil
theorem ai9:type_of% @Bool.or_eq_true:=@Bool.or_eq_true
theorem aj0:type_of% @List.filter_nil:=@List.filter_nil
theorem aj1:type_of% @PySem.Heap.SameBut.update:=@PySem.Heap.SameBut.update
theorem aj2:type_of% @PySem.F.plainAttrs_int:=@PySem.F.plainAttrs_int
theorem aj3:type_of% @List.all_cons:=@List.all_cons
theorem aj4:type_of% @Nat.le_add_right:=@Nat.le_add_right
theorem aj5:type_of% @List.filter_append:=@List.filter_append
theorem aj6:type_of% @List.set_append_right:=@List.set_append_right
theorem aj7:type_of% @PySem.wpAny_passesOwn:=@PySem.wpAny_passesOwn
theorem aj8:type_of% @Nat.ne_of_gt:=@Nat.ne_of_gt
theorem aj9:type_of% @PySem.wpAny_pyIter_list:=@PySem.wpAny_pyIter_list
theorem ak0:type_of% @Option.some.injEq:=@Option.some.injEq
theorem ak1:type_of% @List.mem_of_mem_take:=@List.mem_of_mem_take
theorem ak2:type_of% @List.filterMap_cons:=@List.filterMap_cons
theorem ak3:type_of% @PySem.W.plainGet_of:=@PySem.W.plainGet_of
theorem ak4:type_of% @List.filter_cons_of_pos:=@List.filter_cons_of_pos
theorem ak5:type_of% @List.filter_cons_of_neg:=@List.filter_cons_of_neg
theorem ak6:type_of% @List.ext_getElem:=@List.ext_getElem
theorem ak7:type_of% @List.any_eq_true:=@List.any_eq_true
theorem ak8:type_of% @Nat.add_sub_cancel_left:=@Nat.add_sub_cancel_left
theorem ak9:type_of% @Bool.false_eq_true:=@Bool.false_eq_true
theorem al0:type_of% @Nat.lt_trans:=@Nat.lt_trans
theorem al1:type_of% @Option.map_eq_some_iff:=@Option.map_eq_some_iff
theorem al2:type_of% @Bool.eq_iff_iff:=@Bool.eq_iff_iff
theorem al3:type_of% @List.nodup_cons:=@List.nodup_cons
theorem al4:type_of% @List.of_mem_zip:=@List.of_mem_zip
theorem al5:type_of% @List.find?_cons:=@List.find?_cons
theorem al6:type_of% @Nat.div_lt_self:=@Nat.div_lt_self
theorem al7:type_of% @Int.natCast_mul:=@Int.natCast_mul
theorem al8:type_of% @List.any_cons:=@List.any_cons
theorem al9:type_of% @Bool.false_or:=@Bool.false_or
theorem am0:type_of% @List.countP_mono_left:=@List.countP_mono_left
theorem am1:type_of% @List.append_assoc:=@List.append_assoc
theorem am2:type_of% @List.take_add_one:=@List.take_add_one
theorem am3:type_of% @Bool.not_eq_true':=@Bool.not_eq_true'
theorem am4:type_of% @Option.mem_toList:=@Option.mem_toList
theorem am5:type_of% @Nat.le_succ:=@Nat.le_succ
theorem am6:type_of% @PySem.codeAny_mono:=@PySem.codeAny_mono
theorem am7:type_of% @Nat.sub_self:=@Nat.sub_self
theorem am8:type_of% @Bool.or_true:=@Bool.or_true
namespace L2
open PySem PySem.Spec PyProof.Rows
abbrev Key:=Sum Int Str
def eV:Key->Value->Bool
 | .inl k,v=>Value.isInt k v
 | .inr x,v=>Value.isStrOf x v
def keyH (w:World):Key->Int
 | .inl k=>hashInt k
 | .inr x=>hashStr w x
theorem bB:∀ {k:Key}{v:Value},eV k v=true->(∃ i t,k=Sum.inl i/\v=Value.int i t)\/(∃ x t,k=Sum.inr x/\v=Value.str x t)
 | .inl i,v,h=>by
  obtain ⟨t,e⟩:=Value.isInt_shape (k:=i) (v:=v) h;exact .inl ⟨i,t,rfl,e⟩
 | .inr x,v,h=>by
  obtain ⟨t,e⟩:=Value.isStrOf_shape (x:=x) (v:=v) h;exact .inr ⟨x,t,rfl,e⟩
theorem sj (i:Int) (t:Tok):eV (.inl i) (.int i t)=true:=by simp [eV,Value.isInt]
theorem sr (x:Str) (t:Tok):eV (.inr x) (.str x t)=true:=by simp [eV,Value.isStrOf]
theorem yu (a b:Int):decide ((Sum.inl a:Key)=Sum.inl b)=(a == b):=by
 by_cases e:a=b
 ·subst e;simp
 ·have h:¬ (Sum.inl a:Key)=Sum.inl b:=fun q=>e (Sum.inl.inj q)
  rw [aa9 h];exact (ad7.mpr e).symm
theorem yv (a b:Str):decide ((Sum.inr a:Key)=Sum.inr b)=decide (a=b):=by
 by_cases e:a=b
 ·subst e;simp
 ·have h:¬ (Sum.inr a:Key)=Sum.inr b:=fun q=>e (Sum.inr.inj q)
  rw [aa9 h,aa9 e]
theorem yw (a:Int) (b:Str):decide ((Sum.inl a:Key)=Sum.inr b)=false:=aa9 (fun q=>nomatch q)
theorem yz (a:Str) (b:Int):decide ((Sum.inr a:Key)=Sum.inl b)=false:=aa9 (fun q=>nomatch q)
def ba (prog:Program) (w:World):PySem.KeyKind prog w Key where
 is:=eV
 hash:=keyH w
 inj:=fun v a b ha hb=>by
  rcases bB ha with ⟨i,t,rfl,rfl⟩ | ⟨x,t,rfl,rfl⟩
  ·rcases bB hb with ⟨j,u,rfl,e⟩ | ⟨y,u,rfl,e⟩
   ·injection e with e1 _;rw [e1]
   ·exact nomatch e
  ·rcases bB hb with ⟨j,u,rfl,e⟩ | ⟨y,u,rfl,e⟩
   ·exact nomatch e
   ·injection e with e1 _;rw [e1]
 byValue:=fun k v h=>by
  rcases bB h with ⟨i,t,rfl,rfl⟩ | ⟨x,t,rfl,rfl⟩ <;> rfl
 pyHash:=fun hv h=>by
  rcases bB hv with ⟨i,t,rfl,rfl⟩ | ⟨x,t,rfl,rfl⟩
  ·exact wpAny_pyHash_int h
  ·exact wpAny_pyHash_str h
 eqBool:=fun hu hv h=>by
  rcases bB hu with ⟨i,t,rfl,rfl⟩ | ⟨x,t,rfl,rfl⟩
  ·rcases bB hv with ⟨j,u,rfl,rfl⟩ | ⟨y,u,rfl,rfl⟩
   ·rw [yu] at h;exact wpAny_eqBool_int h
   ·rw [yw] at h;exact SeqAt.EqAt.int_str i t y u _ _ _ _ h
  ·rcases bB hv with ⟨j,u,rfl,rfl⟩ | ⟨y,u,rfl,rfl⟩
   ·rw [yz] at h;exact SeqAt.EqAt.str_int x t j u _ _ _ _ h
   ·rw [yv] at h;exact wpAny_eqBool_str h
 «strs»:=fun k x t v h=>by
  rcases bB h with ⟨i,u,rfl,e⟩ | ⟨y,u,rfl,e⟩
  ·exact nomatch e
  ·injection e with e1 _
   subst e1
   cases v <;> rfl
theorem pe (prog:Program) (w:World) (i:Int) (t:Tok):(ba prog w).is (.inl i) (.int i t)=true:=sj i t
theorem pf (prog:Program) (w:World) (x:Str) (t:Tok):(ba prog w).is (.inr x) (.str x t)=true:=sr x t
inductive V where
 | non | bl (b:Bool) | int (i:Int) | str (x:Str) | byt (b:Array UInt8) | flt (b:UInt64) | ref (a:Addr) | ty (n:String)
 deriving DecidableEq
def RelV:V->Value->Prop
 | .non,u=>u=Value.none
 | .bl b,u=>u=Value.bool b
 | .int i,u=>∃ t,u=Value.int i t
 | .str x,u=>∃ t,u=Value.str x t
 | .byt b,u=>∃ t,u=Value.bytes b t
 | .flt b,u=>∃ t,u=Value.float b t
 | .ref a,u=>u=Value.ref a
 | .ty n,u=>u=Value.type n
abbrev Vals:List V->List Value->Prop:=Paired RelV
theorem Vals.length {xs:List V}{us:List Value} (r:Vals xs us):xs.length=us.length:=Paired.length r
theorem Vals.get:∀ {xs:List V}{us:List Value}{i:Nat}{x:V},Vals xs us->xs[i]?=some x->∃ u,us[i]?=some u/\RelV x u
 | _,_,_,_,.nil,e=>by simp at e
 | _,_,0,_,.cons r _,e=>by simp at e;subst e;exact ⟨_,rfl,r⟩
 | _,_,i+1,x,.cons _ t,e=>by
  obtain ⟨u,h1,h2⟩:=Vals.get (i:=i) (x:=x) t (by simpa using e)
  exact ⟨u,by simpa using h1,h2⟩
theorem Vals.set {x:V}{u:Value} (r:RelV x u):∀ {xs:List V}{us:List Value} (i:Nat),Vals xs us->Vals (xs.set i x) (us.set i u)
 | _,_,_,.nil=>.nil
 | _,_,0,.cons _ t=>.cons r t
 | _,_,i+1,.cons q t=>.cons q (Vals.set r i t)
theorem Vals.append:∀ {xs ys:List V}{us ws:List Value},Vals xs us->Vals ys ws->Vals (xs++ys) (us++ws)
 | _,_,_,_,.nil,s=>s
 | _,_,_,_,.cons r t,s=>.cons r (Vals.append t s)
theorem Vals.take:∀ {xs:List V}{us:List Value} (n:Nat),Vals xs us->Vals (xs.take n) (us.take n)
 | _,_,0,_=>.nil
 | _,_,_+1,.nil=>.nil
 | _,_,n+1,.cons r t=>.cons r (Vals.take n t)
theorem Vals.drop:∀ {xs:List V}{us:List Value} (n:Nat),Vals xs us->Vals (xs.drop n) (us.drop n)
 | _,_,0,r=>r
 | _,_,_+1,.nil=>.nil
 | _,_,n+1,.cons _ t=>Vals.drop n t
def RelO:Option V->Option Value->Prop
 | some v,some u=>RelV v u
 | none,none=>True
 | _,_=>False
def KV {κ:Type}:List (κ × V)->List (κ × Value)->Prop:=Paired fun (p:κ × V) (q:κ × Value)=>p.1=q.1/\RelV p.2 q.2
def kV:Key->V
 | .inl i=>.int i
 | .inr x=>.str x
inductive HO where
 | lst (xs:List V)
 | tup (xs:List V)
 | dK (kvs:List (Key × V)) | dT (kvs:List (List Key × V))
 | set (S:Int->Bool) (n:Nat)
 | ins (C dx:Addr) (fs:List (Str × V))
 | own (x:Addr)
 | xd (fs:List (Str × V))
 | met (f x:Addr)
 | rng (lo hi:Int)
 | frz (o:Obj) (u:HO)
 | tbl (ps:Array Value)
 | ext (φ:Heap->Prop)
abbrev Hp:=Addr->Option HO
def upd (H:Hp) (a:Addr) (o:HO):Hp:=fun b=>if b=a then some o else H b
variable {H:Hp}{a:Addr}{o:HO}
theorem ab:upd H a o a=some o:=by unfold upd;rw [if_pos rfl]
variable {b:Addr}
theorem ae (h:b≠a):upd H a o b=H b:=by unfold upd;rw [if_neg h]
theorem bA {u:HO}:upd (upd H a o) a u=upd H a u:=by
 funext b;unfold upd;split <;> rfl
theorem aN {u:HO} (h:H a=some o) (h':H b=some u) (d:o≠u):a≠b:=by
 intro e;subst e;rw [h] at h';exact d (zX h')
theorem am (h:H a=some o) (h':H b=none):a≠b:=by
 intro e;subst e;rw [h] at h';cases h'
section
variable (P:Program) (w:World)
def ObjOk (H:Hp) (h:Heap) (a:Addr):HO->Prop
 | .lst xs=>xs.length≤sizeLine ∧ ∃ (its:List Value) (n:Nat),Vals xs its∧h.get? a=some { cls:=.type "list",data:=.seq its.toArray n }
 | .tup xs=>xs.length<=sizeLine/\∃ its:List Value,Vals xs its/\IsTup h a its.toArray
 | .dK kvs=>kvs.length<=sizeLine/\(a == sysModules)=false/\∃ vs,KV kvs vs/\h.DictOf (ba P w) a vs
 | .dT kvs=>kvs.length<=sizeLine/\(a == sysModules)=false/\∃ xs:List (List Key × Addr × Value),
   Paired (fun (p:List Key × V) (q:List Key × Addr × Value)=>p.1=q.1/\H q.2.1=some (.tup (p.1.map kV))/\RelV p.2 q.2.2) kvs xs ∧
   ∃ o es ep,h.get? a=some o/\o.ExactDict/\o.data=.dict es ep/\es.toList=xs.map (entryOfKey (tupleKind (ba P w)))/\(xs.map (·.1)).Nodup
 | .set S n=>h.SetOf (intKind P w) a S n
 | .ins C dx fs=>H dx=some (.own a)/\fs.length<=1000/\dx≠a/\h.get? a=some (PySem.W.instObj C dx) ∧
   ∃ mA,h.Ns1 dx mA/\(∀ f,RelO (fs.lookup f) (mA f))/\PySem.Within mA (fs.map (·.1))
 | .own _=>∃ o,h.get? a=some o
 | .xd fs=>∃ mA,h.Ns1 a mA/\∀ f,RelO (fs.lookup f) (mA f)
 | .rng lo hi=>∃ t u v,h.get? a=some { cls:=.type "range",data:=.fields #[.int lo t,.int hi u,.int 1 v] }
 | .frz o u=>h.get? a=some o/\ObjOk H h a u
 | .tbl ps=>h.get? a=some { cls:=.none,data:=.fields ps }
 | .met f x=>h.get? a=some (PySem.W.methodObj (.ref f) (.ref x))
 | .ext φ=>φ h/\(∃ o,h.get? a=some o)/\∀ h1 h2:Heap,φ h1->(∀ o,h1.get? a=some o->h2.get? a=some o)->φ h2
def HOk (H:Hp) (h:Heap):Prop:=∀ a o,H a=some o->ObjOk P w H h a o
end
section
variable {P:Program}{w:World}{H H':Hp}{h h':Heap}{a:Addr}{o:HO}
theorem ObjOk.lt (x:ObjOk P w H h a o):a < h.objs.size:=by
 cases o with
 | lst xs=>obtain ⟨_,_,_,_,e⟩:=x;exact zU e
 | tup xs=>obtain ⟨_,_,_,p⟩:=x;exact p.lt
 | dK kvs=>obtain ⟨_,_,_,_,o,_,_,e,_⟩:=x;exact zU e
 | dT kvs=>obtain ⟨_,_,_,_,o,_,_,e,_⟩:=x;exact zU e
 | set S n=>obtain ⟨o,_,_,_,e,_⟩:=x;exact zU e
 | ins C dx fs=>obtain ⟨_,_,_,e,_⟩:=x;exact zU e
 | own y=>obtain ⟨_,e⟩:=x;exact zU e
 | xd fs=>obtain ⟨_,⟨_,_,_,e,_⟩,_⟩:=x;exact zU e
 | rng lo hi=>obtain ⟨_,_,_,e⟩:=x;exact zU e
 | frz ob u=>obtain ⟨e,_⟩:=x;exact zU e
 | tbl ps=>exact zU (show h.get? a=some _ from x)
 | met f y=>exact zU (show h.get? a=some _ from x)
 | ext φ=>obtain ⟨_,⟨_,e⟩,_⟩:=x;exact zU e
theorem Paired.mapP {α β:Type}{F G:α->β->Prop}:∀ {l₁:List α}{l₂:List β},Paired F l₁ l₂->(∀ a b,F a b->G a b)->Paired G l₁ l₂
 | _,_,.nil,_=>.nil
 | _,_,.cons r t,f=>.cons (f _ _ r) (Paired.mapP t f)
theorem ObjOk.stay (x:ObjOk P w H h a o) (k:∀ b u,(b=a\/H b=some (.own a))->h.get? b=some u->h'.get? b=some u)
  (ho:∀ b,H b=some (.own a)->H' b=some (.own a)) (ht:∀ b xs,H b=some (.tup xs)->H' b=some (.tup xs)):ObjOk P w H' h' a o:=by
 induction o with
 | lst xs=>obtain ⟨z,g,n,r,e⟩:=x;exact ⟨z,g,n,r,k _ _ (.inl rfl) e⟩
 | tup xs=>obtain ⟨z,g,r,ob,e,c⟩:=x;exact ⟨z,g,r,ob,k _ _ (.inl rfl) e,c⟩
 | dK kvs=>obtain ⟨z,y,vs,r,ob,es,ep,e,c⟩:=x;exact ⟨z,y,vs,r,ob,es,ep,k _ _ (.inl rfl) e,c⟩
 | dT kvs =>
  obtain ⟨z,y,xs,r,ob,es,ep,e,c⟩:=x;exact ⟨z,y,xs,Paired.mapP r fun p q z=>⟨z.1,ht _ _ z.2.1,z.2.2⟩,ob,es,ep,k _ _ (.inl rfl) e,c⟩
 | set S n=>obtain ⟨ob,es,ep,t,e,c⟩:=x;exact ⟨ob,es,ep,t,k _ _ (.inl rfl) e,c⟩
 | ins C dx fs =>
  obtain ⟨d,z,ne,e,mA,⟨od,es,ep,e2,c⟩,r⟩:=x;exact ⟨ho _ d,z,ne,k _ _ (.inl rfl) e,mA,⟨od,es,ep,k _ _ (.inr d) e2,c⟩,r⟩
 | own y=>obtain ⟨ob,e⟩:=x;exact ⟨ob,k _ _ (.inl rfl) e⟩
 | xd fs=>obtain ⟨mA,⟨od,es,ep,e,c⟩,r⟩:=x;exact ⟨mA,⟨od,es,ep,k _ _ (.inl rfl) e,c⟩,r⟩
 | rng lo hi=>obtain ⟨t,u,v,e⟩:=x;exact ⟨t,u,v,k _ _ (.inl rfl) e⟩
 | frz ob u ih=>obtain ⟨e,q⟩:=x;exact ⟨k _ _ (.inl rfl) e,ih q⟩
 | tbl ps =>
  have e:h.get? a=some { cls:=.none,data:=.fields ps }:=x
  show h'.get? a=some { cls:=.none,data:=.fields ps }
  exact k a _ (.inl rfl) e
 | met f y =>
  have e:h.get? a=some (PySem.W.methodObj (.ref f) (.ref y)):=x
  show h'.get? a=some (PySem.W.methodObj (.ref f) (.ref y))
  exact k a _ (.inl rfl) e
 | ext φ=>obtain ⟨p,⟨o,e⟩,st⟩:=x;exact ⟨st _ _ p fun o q=>k _ _ (.inl rfl) q,⟨o,k _ _ (.inl rfl) e⟩,st⟩
theorem HOk.lt (x:HOk P w H h) (e:H a=some o):a < h.objs.size:=(x a o e).lt
theorem HOk.fresh (x:HOk P w H h) (e:h.objs.size<=a):H a=none:=by
 cases q:H a with
 | none=>rfl
 | some u=>exact absurd (aa2 (x.lt q) e) (ad4 _)
theorem HOk.kept (x:HOk P w H h) (k:∀ b u,h.get? b=some u->h'.get? b=some u):HOk P w H h':=fun a o e =>
 (x a o e).stay (fun b u _ q=>k b u q) (fun _ q=>q) fun _ _ q=>q
theorem HOk.laid (x:HOk P w H h) (k:∀ b u,h.get? b=some u->h'.get? b=some u) (hp:h.objs.size<=a) (new:ObjOk P w (upd H a o) h' a o):HOk P w (upd H a o) h':=fun b u e=>by
 have hn:=x.fresh hp
 by_cases hb:b=a
 ·subst hb;rw [ab] at e;cases e;exact new
 ·rw [ae hb] at e
  exact (x b u e).stay (fun c v _ q=>k c v q) (fun c q=>by rw [ae (am q hn)];exact q) fun c xs q=>by rw [ae (am q hn)];exact q
end
def Rd (H:Hp) (a:Addr) (u:HO):Prop:=H a=some u\/∃ o,H a=some (.frz o u)
variable {P:Program}{w:World}{h:Heap}
theorem Rd.ok {u:HO} (r:Rd H a u) (x:HOk P w H h):ObjOk P w H h a u:=by
 rcases r with r | ⟨o,r⟩
 ·exact x a u r
 ·obtain ⟨_,q⟩:=x a _ r
  exact q
def Mut:Option HO->Prop
 | some (.lst _)=>True
 | some (.dK _)=>True
 | some (.dT _)=>True
 | some (.set _ _)=>True
 | some (.ins _ _ _)=>True
 | some (.ext _)=>True
 | _=>False
section
variable {P:Program}{w:World}{H:Hp}{h h':Heap}{x e:Addr}{o':HO}
theorem HOk.write (ok:HOk P w H h) (mu:Mut (H x)) (he:e=x\/H e=some (.own x)) (k:∀ b u,b≠e->h.get? b=some u->h'.get? b=some u) (heo:∃ u,h'.get? e=some u)
  (new:ObjOk P w (upd H x o') h' x o'):HOk P w (upd H x o') h':=fun b u q=>by
 have nown:∀ c y,H c=some (.own y)->c≠x:=fun c y r z=>by subst z;rw [r] at mu;exact mu
 have ntup:∀ c xs,H c=some (.tup xs)->c≠x:=fun c xs r z=>by subst z;rw [r] at mu;exact mu
 by_cases hb:b=x
 ·subst hb;rw [ab] at q;cases q;exact new
 ·rw [ae hb] at q
  by_cases hbe:b=e
  ·have q':H b=some (.own x):=by
    rcases he with z | z
    ·exact absurd (hbe.trans z) hb
    ·rw [hbe];exact z
   rw [q] at q';cases q';obtain ⟨v,hv⟩:=heo;exact ⟨v,by rw [hbe];exact hv⟩
  ·refine (ok b u q).stay (fun c v hc r=>k c v ?_ r) (fun c r=>by rw [ae (nown c b r)];exact r) fun c xs r=>by rw [ae (ntup c xs r)];exact r
   rcases hc with rfl | hc
   ·exact hbe
   ·rintro rfl
    rcases he with z | z
    ·exact nown c b hc z
    ·rw [hc] at z;cases z;exact hb rfl
end
structure Un (fs ex:List Addr) (H H':Hp) (h h':Heap):Prop where
 keep:∀ b o,h.get? b=some o->H b=none->b∉fs->b∉ex->h'.get? b=some o
 slot:∀ b o,h.get? b=some o->H b=none->b∈fs->b∉ex->∃ sl,h'.get? b=some { o with slots:=sl }
 free:∀ b o,h.get? b=some o->H b=none->b∉ex->H' b=none
 there:∀ b o,h.get? b=some o->b∉ex->∃ o',h'.get? b=some o'
 tups:∀ b xs,H b=some (.tup xs)->H' b=some (.tup xs)
 frzs:∀ b o u,H b=some (.frz o u)->H' b=some (.frz o u)
 tbls:∀ b ps,H b=some (.tbl ps)->∃ more,H' b=some (.tbl (ps++more))
section
variable {fs fs' ex ex':List Addr}{H H1 H2:Hp}{h h1 h2 h':Heap}{a x e:Addr}{o:HO}
theorem Un.any (u:Un fs ex H H1 h h1) {b:Addr}{ob:Obj} (q:h.get? b=some ob) (n:H b=none) (hx:b∉ex):∃ sl,h1.get? b=some { ob with slots:=sl }:=by
 by_cases hb:b∈fs
 ·exact u.slot b ob q n hb hx
 ·exact ⟨ob.slots,u.keep b ob q n hb hx⟩
theorem Un.trans (a:Un fs ex H H1 h h1) (b:Un fs ex H1 H2 h1 h2):Un fs ex H H2 h h2 where
 keep:=fun c ob q n hc hx=>b.keep c ob (a.keep c ob q n hc hx) (a.free c ob q n hx) hc hx
 slot:=fun c ob q n hc hx=>by
  obtain ⟨sl,e1⟩:=a.slot c ob q n hc hx;obtain ⟨sl',e2⟩:=b.slot c _ e1 (a.free c ob q n hx) hc hx;exact ⟨sl',e2⟩
 free:=fun c ob q n hx=>by
  obtain ⟨o',e1⟩:=a.there c ob q hx;exact b.free c o' e1 (a.free c ob q n hx) hx
 there:=fun c ob q hx=>by
  obtain ⟨o',e1⟩:=a.there c ob q hx;exact b.there c o' e1 hx
 tups:=fun c xs q=>b.tups c xs (a.tups c xs q)
 frzs:=fun c ob xs q=>b.frzs c ob xs (a.frzs c ob xs q)
 tbls:=fun c ps q=>by
  obtain ⟨m1,e1⟩:=a.tbls c ps q;obtain ⟨m2,e2⟩:=b.tbls c _ e1;exact ⟨m1++m2,by rw [e2,Array.append_assoc]⟩
theorem Un.kept (k:∀ b u,h.get? b=some u->h'.get? b=some u):Un fs ex H H h h' :=
 ⟨fun b ob q _ _ _=>k b ob q,fun b ob q _ _ _=>⟨ob.slots,k b ob q⟩,fun _ _ _ n _=>n,fun b ob q _=>⟨ob,k b ob q⟩,fun _ _ q=>q,fun _ _ _ q=>q,fun _ ps q=>⟨#[],by rw [q];simp⟩⟩
theorem Un.refl:Un fs ex H H h h:=Un.kept fun _ _ q=>q
theorem Un.laid (k:∀ b u,h.get? b=some u->h'.get? b=some u) (hp:h.objs.size<=a) (hn:H a=none):Un fs ex H (upd H a o) h h' where
 keep:=fun b u q _ _ _=>k b u q
 slot:=fun b u q _ _ _=>⟨u.slots,k b u q⟩
 free:=fun b u q n _=>by rw [ae (aa4 (aa2 (zU q) hp))];exact n
 there:=fun b u q _=>⟨u,k b u q⟩
 tups:=fun b xs q=>by rw [ae (am q hn)];exact q
 frzs:=fun b u xs q=>by rw [ae (am q hn)];exact q
 tbls:=fun b ps q=>⟨#[],by rw [ae (am q hn),q];simp⟩
theorem Un.write (mu:Mut (H x)) (he:e=x\/H e=some (.own x)) (k:∀ b u,b≠e->h.get? b=some u->h'.get? b=some u) (heo:∃ u,h'.get? e=some u):Un fs ex H (upd H x o) h h':=by
 have hx:∀ b,H b=none->b≠x:=fun b n z=>by subst z;rw [n] at mu;exact mu
 have hb:∀ b,H b=none->b≠e:=fun b n z=>by
  subst z;rcases he with r | r
  ·exact hx b n r
  ·rw [n] at r;cases r
 have hm:∀ b u,H b=some u->¬ Mut (some u)->b≠x:=fun b u q nm z=>by subst z;rw [q] at mu;exact nm mu
 refine ⟨fun b u q n _ _=>k b u (hb b n) q,fun b u q n _ _=>⟨u.slots,k b u (hb b n) q⟩,fun b u q n _=>by rw [ae (hx b n)];exact n,fun b u q _=>?_,
  fun b xs q=>by rw [ae (hm b _ q fun z=>z)];exact q,fun b u xs q=>by rw [ae (hm b _ q fun z=>z)];exact q,fun b ps q=>⟨#[],by rw [ae (hm b _ q fun z=>z),q];simp⟩⟩
 by_cases hbe:b=e
 ·subst hbe;exact heo
 ·exact ⟨u,k b u hbe q⟩
end
def trk (h:Heap) (H:Hp):List Addr:=(List.range h.objs.size).filter fun a=>(H a).isSome
def hidT (h:Heap) (H:Hp):Heap:=PySem.W.hideAll h (trk h H)
theorem ss (h:Heap) (H:Hp):(hidT h H).objs.size=h.objs.size:=PySem.W.hideAll_size _ _
theorem vc {o:Obj} (e:h.get? b=some o) (n:H b=none):(hidT h H).get? b=some o :=
 PySem.W.hideAll_get _ e fun hm=>by
  have q:(H b).isSome=true:=(aa7.mp hm).2;rw [n] at q;simp at q
theorem wS {o:Obj} (e:(hidT h H).get? b=some o):h.get? b=some o/\H b=none:=by
 have e':h.get? b=some o:=PySem.W.of_hideAll (trk h H) e;refine ⟨e',?_⟩
 cases q:H b with
 | none=>rfl
 | some x =>
  have hm:b∈trk h H:=aa7.mpr ⟨aa1.mpr (zU e'),by simp [q]⟩
  have z:(hidT h H).get? b=none:=PySem.W.hideAll_none (trk h H) hm;rw [z] at e;cases e
def wT (g h:Heap) (L:Addr):List (Addr × Obj):=(List.range h.objs.size).filterMap fun a=>if a=L\/(g.get? a).isSome=true then none else (h.get? a).map fun o=>(a,o)
def rest (g h:Heap) (L d:Addr):List (Addr × Obj):=(wT g h L).filter fun p=>decide (p.1≠d)
structure Mod (K:PySem.W.Frag) (mg:Str->Option Value) (base:Heap):Prop where
 kin:K.In base
 glob:base.Ns mainGlobals mg
 blt:∃ mb,base.Ns builtinsNs mb ∧ ∀ x:Str,x ≠ "__name__" → mb x=bootBuiltins x
 nolimit:base.NoLimit
structure Cx where
 prog:Program
 w:World
 K:PySem.W.Frag
 mg:Str->Option Value
 base:Heap
 A:Around
 N:List Str
 s₀:Shared
 H₀:Hp
 env:Env
 outer:List Env
 stack:List Env
 ex:List Addr
 fn:Str->Bool
 calm:Bool
 pn:List (Addr × Obj)
 xe:Value->Shared->Prop
def frs (l:List Env):List Addr:=l.filterMap (·.frame)
abbrev Cx.fs (X:Cx):List Addr:=frs X.outer
def Vis (sc:Scope) (x:Str):Prop:=sc.names.lookup x=some .local\/sc.names.lookup x=some .cell\/sc.names.lookup x=some .free
def Loc (sc:Scope) (x:Str):Prop:=sc.names.lookup x=some .local\/sc.names.lookup x=some .cell
def Look (env:Env) (h:Heap) (m:Str->Option Value) (x:Str) (u:Value):Prop :=
 (env.kindOf x=some .local/\m x=some u)\/((env.kindOf x=some .cell\/env.kindOf x=some .free)/\∃ c,env.cells.lookup x=some c/\h.IsCell c (some u))
structure Cx.Ok (X:Cx):Prop where
 mod:Mod X.K X.mg X.base
 kind:X.env.scope.kind=.function
 glob:X.env.globals=mainGlobals
 blt:X.env.builtins=builtinsNs
 above:X.s₀.heap.objs.size<=X.env.locals
 inj:∀ x y c,X.env.cells.lookup x=some c->X.env.cells.lookup y=some c->x=y
 has:∀ x,(X.env.kindOf x=some .cell\/X.env.kindOf x=some .free)->∃ c,X.env.cells.lookup x=some c
 cab:∀ x c,X.fn x=true->X.env.cells.lookup x=some c->X.s₀.heap.objs.size<=c
 hd:X.calm=true->X.A.handled=none
 frames:X.A.frames=some X.stack
 stk:X.stack=X.outer\/(X.stack=X.env :: X.outer/\X.env.frame=some X.env.locals)
 exf:∀ b∈X.ex,b≠X.env.locals/\∀ x c,X.env.cells.lookup x=some c->c≠b
 bs:∀ b o,X.base.get? b=some o->X.s₀.heap.get? b=some o/\X.H₀ b=none
 bsz:X.base.objs.size<=X.s₀.heap.objs.size
 noex:∀ b o,X.base.get? b=some o->b∉X.ex
 exfs:∀ b∈X.ex,b∉X.fs
 funs:X.s₀.heap.FunFrames X.base X.outer
 frf:∀ b∈X.fs,X.H₀ b=none
structure Inv (X:Cx) (pins:List (Addr × Obj)) (σ:List (Option V)) (H:Hp) (s:Shared):Prop where
 ok:X.Ok
 os:s.os=X.s₀.os
 bare:AllBare s.gens
 base:Un X.fs X.ex X.H₀ H X.s₀.heap s.heap
 loc:∃ m,s.heap.Ns X.env.locals m/\∀ (i:Nat) (x:Str) (v:V),X.N[i]?=some x->σ[i]?=some (some v)->Vis X.env.scope x->∃ u,RelV v u/\Look X.env s.heap m x u
 cell:∀ x c,X.env.cells.lookup x=some c->∃ v,s.heap.IsCell c v
 free:H X.env.locals=none
 freeC:∀ x c,X.env.cells.lookup x=some c->H c=none
 pin:∀ p∈X.pn++pins,s.heap.get? p.1=some p.2/\H p.1=none/\p.1≠X.env.locals/\p.1∉X.fs/\∀ v,p.2.data≠.cell v
 hok:HOk X.prog X.w H s.heap
 len:σ.length=X.N.length
variable {t' i:Nat}{ch:List Addr}{N:List Str}{M:Model}{A:Around}{E:Value->Shared->Prop}{x:Str}{v:V}{Q:Unit->Shared->Prop}
section
variable {X:Cx}{pins:List (Addr × Obj)}{σ:List (Option V)}{H H':Hp}{s:Shared}{h':Heap}
theorem Cx.Ok.nofr (ok:X.Ok) {b:Addr}{o:Obj} (e:X.base.get? b=some o):b∉X.fs:=fun hb=>by
 have:=(ok.funs.mem hb).1;rw [e] at this;cases this
theorem Inv.bs (I:Inv X pins σ H s):∀ b o,X.base.get? b=some o->s.heap.get? b=some o/\H b=none:=fun b o e =>
 ⟨I.base.keep b o (I.ok.bs b o e).1 (I.ok.bs b o e).2 (I.ok.nofr e) (I.ok.noex b o e),I.base.free b o (I.ok.bs b o e).1 (I.ok.bs b o e).2 (I.ok.noex b o e)⟩
theorem Inv.bk (I:Inv X pins σ H s):∀ b o,X.base.get? b=some o->s.heap.get? b=some o:=fun b o e=>(I.bs b o e).1
theorem Inv.mod (I:Inv X pins σ H s):Mod X.K X.mg X.base:=I.ok.mod
theorem Inv.kIn (I:Inv X pins σ H s):X.K.In s.heap:=I.ok.mod.kin.keeps I.bk
theorem Inv.lt (I:Inv X pins σ H s):X.env.locals < s.heap.objs.size:=let ⟨_,hn,_⟩:=I.loc;hn.lt
theorem Inv.sz (I:Inv X pins σ H s):X.s₀.heap.objs.size<=s.heap.objs.size:=zR I.ok.above (ah4 I.lt)
theorem Inv.nofs (I:Inv X pins σ H s) {a:Addr} (h:s.heap.objs.size<=a):a∉X.fs:=fun hb=>by
 obtain ⟨_,o,ho,_⟩:=I.ok.funs.mem hb;exact absurd (aa2 (zU ho) (zR I.sz h)) (ad4 _)
theorem Inv.cne (I:Inv X pins σ H s):∀ x c,X.env.cells.lookup x=some c->c≠X.env.locals:=fun x c e z=>by
 obtain ⟨v,o,ho,hd⟩:=I.cell x c e;obtain ⟨m,⟨o',es,ep,ho',hd',_⟩,_⟩:=I.loc;rw [z,ho'] at ho;cases ho;rw [hd'] at hd;cases hd
theorem Inv.funs (I:Inv X pins σ H s):s.heap.FunFrames X.base X.outer:=by
 have all:∀ (l:List Env),(∀ b∈frs l,b∈X.fs)->X.s₀.heap.FunFrames X.base l->s.heap.FunFrames X.base l:=by
  intro l
  induction l with
  | nil=>intro _ _;trivial
  | cons env r ih =>
   intro hs hl;obtain ⟨hk,⟨L,o,hf,hn,ho,hd⟩,hr⟩:=hl
   have hL:L∈X.fs:=hs L (by unfold frs;rw [ak2,hf];exact ac9)
   obtain ⟨sl,e⟩:=I.base.slot L o ho (I.ok.frf L hL) hL fun z=>I.ok.exfs L z hL;exact ⟨hk,⟨L,_,hf,hn,e,hd⟩,ih (fun b hb=>hs b (by unfold frs;rw [ak2,hf];exact ac3 _ hb)) hr⟩
 exact all X.outer (fun _ hb=>hb) I.ok.funs
theorem Inv.stack (I:Inv X pins σ H s):s.heap.FunFrames X.base X.stack:=by
 rcases I.ok.stk with e | ⟨e,hf⟩
 ·rw [e];exact I.funs
 ·rw [e]
  obtain ⟨m,hn,_⟩:=I.loc;refine .cons (by rw [I.ok.kind];decide) hf hn ?_ I.funs
  exact Heap.get?_none_of_le (zR I.ok.bsz I.ok.above)
theorem Inv.stkSub (I:Inv X pins σ H s):∀ b∈frs X.stack,b∈X.env.locals :: X.fs:=fun b hb=>by
 rcases I.ok.stk with e | ⟨e,hf⟩
 ·rw [e] at hb;exact ac3 _ hb
 ·rw [e] at hb
  unfold frs at hb;rw [ak2,hf] at hb;exact hb
theorem Inv.stkFree (I:Inv X pins σ H s):∀ b∈frs X.stack,H b=none:=fun b hb=>by
 rcases aa5.mp (I.stkSub b hb) with e | hb
 ·rw [e];exact I.free
 ·obtain ⟨_,o,ho,_⟩:=I.ok.funs.mem hb
  exact I.base.free b o ho (I.ok.frf b hb) fun z=>I.ok.exfs b z hb
theorem Inv.step {g':Array GenState}{d':Drawn} (I:Inv X pins σ H s)
  (hch:∀ b∈ch,(b∈X.ex\/X.s₀.heap.objs.size<=b)/\b≠X.env.locals/\(∀ x c,X.env.cells.lookup x=some c->c≠b)/\∀ p∈X.pn++pins,p.1≠b)
  (keep:∀ b o,b≠X.env.locals->b∉X.fs->b∉ch->s.heap.get? b=some o->H b=none->h'.get? b=some o)
  (slot:∀ b o,b≠X.env.locals->b∈X.fs->b∉ch->s.heap.get? b=some o->H b=none->∃ sl,h'.get? b=some { o with slots:=sl }) (free:∀ b o,b∉ch->s.heap.get? b=some o->H b=none->H' b=none)
  (there:∀ b o,b∉ch->s.heap.get? b=some o->∃ o',h'.get? b=some o')
  (tups:∀ b xs,H b=some (.tup xs)->H' b=some (.tup xs)) (frzs:∀ b o u,H b=some (.frz o u)->H' b=some (.frz o u)) (tbls:∀ b ps,H b=some (.tbl ps)->∃ more,H' b=some (.tbl (ps++more)))
  (ns:∀ m,s.heap.Ns X.env.locals m->h'.Ns X.env.locals m) (hok:HOk X.prog X.w H' h') (hg:AllBare g') :
  Inv X pins σ H' { s with heap:=h',gens:=g',drawn:=d',toks:=t' }:=by
 have C:∀ b o,X.s₀.heap.get? b=some o->b≠X.env.locals:=fun b o e=>aa4 (aa2 (zU e) I.ok.above)
 have B:∀ b o,X.s₀.heap.get? b=some o->b∉X.ex->b∉ch:=fun b o e hx hb=>by
  rcases (hch b hb).1 with z | z
  ·exact hx z
  ·exact absurd (aa2 (zU e) z) (ad4 _)
 have h:∀ x c,X.env.cells.lookup x=some c->∀ v,s.heap.IsCell c v->h'.IsCell c v:=fun x c e v ⟨o,ho,hd⟩=>by
  have g:c∉ch:=fun z=>(hch c z).2.2.1 x c e rfl
  by_cases hc:c∈X.fs
  ·obtain ⟨sl,q⟩:=slot c o (I.cne x c e) hc g ho (I.freeC x c e)
   exact ⟨_,q,hd⟩
  ·exact ⟨o,keep c o (I.cne x c e) hc g ho (I.freeC x c e),hd⟩
 refine ⟨I.ok,I.os,hg,⟨fun b o e n hb hx=>?_,fun b o e n hb hx=>?_,fun b o e n hx=>?_,fun b o e hx=>?_,fun b xs e=>tups b xs (I.base.tups b xs e),fun b o xs e=>frzs b o xs (I.base.frzs b o xs e),fun b ps e=>?_⟩,?_,fun x c e=>?_,?_,fun x c e=>?_,fun p hp=>?_,hok,I.len⟩
 ·exact keep b o (C b o e) hb (B b o e hx) (I.base.keep b o e n hb hx) (I.base.free b o e n hx)
 ·obtain ⟨sl,e1⟩:=I.base.slot b o e n hb hx
  obtain ⟨D,e2⟩:=slot b _ (C b o e) hb (B b o e hx) e1 (I.base.free b o e n hx);exact ⟨D,e2⟩
 ·obtain ⟨o',e1⟩:=I.base.there b o e hx
  exact free b o' (B b o e hx) e1 (I.base.free b o e n hx)
 ·obtain ⟨o',e1⟩:=I.base.there b o e hx
  exact there b o' (B b o e hx) e1
 ·obtain ⟨m1,e1⟩:=I.base.tbls b ps e
  obtain ⟨m2,e2⟩:=tbls b _ e1;exact ⟨m1++m2,by rw [e2,Array.append_assoc]⟩
 ·obtain ⟨m,hn,hl⟩:=I.loc
  refine ⟨m,ns m hn,fun i x v e1 e2 e3=>?_⟩;obtain ⟨u,r,l⟩:=hl i x v e1 e2 e3;refine ⟨u,r,?_⟩;rcases l with l | ⟨k,c,e,z⟩
  ·exact .inl l
  ·exact .inr ⟨k,c,e,h x c e _ z⟩
 ·obtain ⟨v,z⟩:=I.cell x c e
  exact ⟨v,h x c e v z⟩
 ·obtain ⟨m,⟨o,_,_,ho,_⟩,_⟩:=I.loc
  exact free _ o (fun z=>(hch _ z).2.1 rfl) ho I.free
 ·obtain ⟨v,o,ho,hd⟩:=I.cell x c e
  exact free c o (fun z=>(hch c z).2.2.1 x c e rfl) ho (I.freeC x c e)
 ·obtain ⟨e,n,ne,nf,d⟩:=I.pin p hp
  have g:p.1∉ch:=fun z=>(hch p.1 z).2.2.2 p hp rfl;exact ⟨keep p.1 p.2 ne nf g e n,free p.1 p.2 g e n,ne,nf,d⟩
theorem Inv.un (I:Inv X pins σ H s) (u:Un X.fs [] H H' s.heap h') (hok:HOk X.prog X.w H' h'):Inv X pins σ H' { s with heap:=h',toks:=t' }:=by
 obtain ⟨m,⟨o,es,ep,ho,r⟩,_⟩:=id I.loc;obtain ⟨sl,hL⟩:=u.any ho I.free (by simp)
 exact I.step (g':=s.gens) (d':=s.drawn) (ch:=[]) (fun _ z=>nomatch z) (fun b o _ hb _ e n=>u.keep b o e n hb (by simp)) (fun b o _ hb _ e n=>u.slot b o e n hb (by simp)) (fun b o _ e n=>u.free b o e n (by simp)) (fun b o _ e=>u.there b o e (by simp)) u.tups u.frzs u.tbls (fun m' hm=>by
  obtain ⟨o',h,l,g,r'⟩:=hm;rw [ho] at g;cases g
  exact ⟨_,h,l,hL,r'⟩) hok I.bare
theorem Inv.call {g':Array GenState}{d':Drawn} (I:Inv X pins σ H s) (u:Un (frs X.stack) ch H H' s.heap h') (hok:HOk X.prog X.w H' h') (hg:AllBare g')
  (hch:∀ b∈ch,(b∈X.ex\/X.s₀.heap.objs.size<=b)/\b≠X.env.locals/\(∀ x c,X.env.cells.lookup x=some c->c≠b)/\∀ p∈X.pn++pins,p.1≠b) :
  Inv X pins σ H' { s with heap:=h',gens:=g',drawn:=d',toks:=t' }:=by
 obtain ⟨m,⟨o,es,ep,ho,r⟩,_⟩:=id I.loc;obtain ⟨sl,hL⟩:=u.any ho I.free fun z=>(hch _ z).2.1 rfl
 exact I.step (ch:=ch) hch (fun b o hL hb hc e n=>u.keep b o e n (fun z=>(aa5.mp (I.stkSub b z)).elim hL hb) hc) (fun b o _ _ hc e n=>u.any e n hc) (fun b o hc e n=>u.free b o e n hc) (fun b o hc e=>u.there b o e hc) u.tups u.frzs u.tbls (fun m' hm=>by
  obtain ⟨o',h,l,g,r'⟩:=hm;rw [ho] at g;cases g
  exact ⟨_,h,l,hL,r'⟩) hok hg
theorem Inv.turned {it:Addr} (I:Inv X pins σ H s) (k:∀ b o,b≠it->s.heap.get? b=some o->h'.get? b=some o) (hn:H it=none) (hL:it≠X.env.locals)
  (h1:it∈X.ex\/X.s₀.heap.objs.size<=it) (h2:∀ x c,X.env.cells.lookup x=some c->c≠it) (h3:∀ p∈X.pn++pins,p.1≠it):Inv X pins σ H { s with heap:=h',toks:=t' }:=by
 have g:∀ b u,H b=some u->b≠it:=fun b u e z=>by rw [z,hn] at e;cases e
 refine I.step (g':=s.gens) (d':=s.drawn) (ch:=[it]) (fun b hb=>?_) (fun b o _ _ hc e _=>k b o (fun z=>hc (by simp [z])) e) (fun b o _ _ hc e _=>⟨o.slots,k b o (fun z=>hc (by simp [z])) e⟩) (fun _ _ _ _ n=>n)
  (fun b o hc e=>⟨o,k b o (fun z=>hc (by simp [z])) e⟩) (fun _ _ e=>e) (fun _ _ _ e=>e) (fun b ps e=>⟨#[],by rw [e];simp⟩) (fun m hm=>?_) (fun b u e=>?_) I.bare
 ·have e:b=it:=by simpa using hb
  subst e;exact ⟨h1,hL,h2,h3⟩
 ·obtain ⟨o,es,ep,ho,r⟩:=hm
  exact ⟨o,es,ep,k _ o (ad3 hL) ho,r⟩
 ·refine (I.hok b u e).stay (fun c v hc q=>k c v ?_ q) (fun _ q=>q) fun _ _ q=>q
  rcases hc with z | z
  ·rw [z];exact g b u e
  ·exact g c _ z
theorem Inv.tok (I:Inv X pins σ H s) (t:Nat):Inv X pins σ H { s with toks:=t }:=I.un (h':=s.heap) (t':=t) Un.refl I.hok
theorem Inv.kept {t':Nat} (I:Inv X pins σ H s) (k:∀ b u,s.heap.get? b=some u->h'.get? b=some u):Inv X pins σ H { s with heap:=h',toks:=t' }:=I.un (Un.kept k) (I.hok.kept k)
theorem Inv.laid {a:Addr}{o:HO}{t':Nat} (I:Inv X pins σ H s) (k:∀ b u,s.heap.get? b=some u->h'.get? b=some u) (hp:s.heap.objs.size<=a) (new:ObjOk X.prog X.w (upd H a o) h' a o) :
  Inv X pins σ (upd H a o) { s with heap:=h',toks:=t' }:=I.un (Un.laid k hp (I.hok.fresh hp)) (I.hok.laid k hp new)
theorem Inv.write {x e:Addr}{o:HO}{t':Nat} (I:Inv X pins σ H s) (mu:Mut (H x)) (he:e=x\/H e=some (.own x)) (k:∀ b u,b≠e->s.heap.get? b=some u->h'.get? b=some u) (heo:∃ u,h'.get? e=some u)
  (new:ObjOk X.prog X.w (upd H x o) h' x o):Inv X pins σ (upd H x o) { s with heap:=h',toks:=t' }:=I.un (Un.write mu he k heo) (I.hok.write mu he k heo new)
theorem Inv.pins_of {pins':List (Addr × Obj)} (I:Inv X pins σ H s) (h:∀ p∈pins',s.heap.get? p.1=some p.2/\H p.1=none/\p.1≠X.env.locals/\p.1∉X.fs/\∀ v,p.2.data≠.cell v):Inv X pins' σ H s :=
 ⟨I.ok,I.os,I.bare,I.base,I.loc,I.cell,I.free,I.freeC,fun p hp=>(ab5.mp hp).elim (fun z=>I.pin p (ai6 _ z)) (h p),I.hok,I.len⟩
theorem jr (hN:N.Nodup) {i j:Nat}{x:Str} (a:N[i]?=some x) (b:N[j]?=some x):i=j:=by
 obtain ⟨h1,e1⟩:=zV.mp a;obtain ⟨h2,e2⟩:=zV.mp b;exact (List.getElem_inj hN).mp (e1.trans e2.symm)
theorem lA {u:Value} (I:Inv X pins σ H s) (hN:X.N.Nodup) (hi:X.N[i]?=some x) (hx:Loc X.env.scope x) (r:RelV v u)
  (h:∀ s',Inv X pins (σ.set i (some v)) H s'->(∃ a,Heap.SameBut a s.heap s'.heap/\(a=X.env.locals\/X.env.cells.lookup x=some a))->Q () s') (hf:X.fn x=true\/X.env.scope.names.lookup x=some .local:=by first | exact .inl rfl | exact .inr rfl | assumption):wpAny M A (storeName X.env x u) Q E s:=by
 obtain ⟨m,hn,hl⟩:=id I.loc
 have L:(X.env.scope.kind == .class || (X.env.scope.kind == .module && X.env.locals != X.env.globals))=false:=by rw [I.ok.kind];rfl
 have G:i < σ.length:=by rw [I.len];exact (zV.mp hi).1
 have cne:=I.cne
 have g:∀ {a:Addr}{h':Heap},(∃ o,s.heap.get? a=some o/\H a=none)->Heap.SameBut a s.heap h'->HOk X.prog X.w H h':=fun {a h'} ha hs b ob e=>by
  obtain ⟨_,_,l⟩:=ha;refine (I.hok b ob e).stay (fun c w' hc q=>(hs.2 c ?_).trans q) (fun _ q=>q) fun _ _ q=>q;rintro rfl;rcases hc with rfl | hc
  ·rw [l] at e;cases e
  ·rw [l] at hc;cases hc
 rcases hx with hk | hk
 ·refine wpAny_storeName_local hk hn (fun h' P hs=>?_) L
  obtain ⟨oL,_,_,O,_⟩:=id hn;refine h _ ⟨I.ok,I.os,I.bare,⟨fun b o e n hb hx=>?_,fun b o e n hb hx=>?_,I.base.free,fun b o e hx=>?_,I.base.tups,I.base.frzs,I.base.tbls⟩,⟨_,P,fun j y v' e1 e2 e3=>?_⟩,fun y c e=>?_,I.free,I.freeC,fun p hp=>?_,g ⟨oL,O,I.free⟩ hs,by simpa using I.len⟩ ⟨_,hs,.inl rfl⟩
  ·exact (hs.2 b (aa4 (aa2 (zU e) I.ok.above))).trans (I.base.keep b o e n hb hx)
  ·obtain ⟨sl,e1⟩:=I.base.slot b o e n hb hx
   exact ⟨sl,(hs.2 b (aa4 (aa2 (zU e) I.ok.above))).trans e1⟩
  ·obtain ⟨o',e1⟩:=I.base.there b o e hx
   exact ⟨o',(hs.2 b (aa4 (aa2 (zU e) I.ok.above))).trans e1⟩
  ·by_cases hj:j=i
   ·subst hj
    rw [hi] at e1;cases e1;rw [ah0 G] at e2
    cases e2;exact ⟨u,r,.inl ⟨hk,by simp⟩⟩
   ·rw [af7 (ad3 hj)] at e2
    obtain ⟨u',r',q⟩:=hl j y v' e1 e2 e3;refine ⟨u',r',?_⟩;rcases q with ⟨k,e⟩ | ⟨k,c,e,z⟩
    ·refine .inl ⟨k,?_⟩
     have:y≠x:=fun e=>hj (jr hN e1 (e ▸ hi))
     simp [this,e]
    ·exact .inr ⟨k,c,e,z.sameBut hs (cne y c e)⟩
  ·obtain ⟨w',z⟩:=I.cell y c e
   exact ⟨w',z.sameBut hs (cne y c e)⟩
  ·obtain ⟨e,n,ne,nf,d⟩:=I.pin p hp
   exact ⟨(hs.2 p.1 ne).trans e,n,ne,nf,d⟩
 ·have B:X.fn x=true:=by
   rcases hf with z | z
   ·exact z
   ·rw [z] at hk;cases hk
  obtain ⟨c,hc⟩:=I.ok.has x (.inl hk);obtain ⟨w',z⟩:=I.cell x c hc;refine wpAny_storeName_cell I.ok.kind hk hc z (fun h' D hs=>?_);obtain ⟨oc,C,J⟩:=id z;refine h { s with heap:=h' } ⟨I.ok,I.os,I.bare,⟨fun b o e n hb hx=>?_,fun b o e n hb hx=>?_,I.base.free,fun b o e hx=>?_,I.base.tups,I.base.frzs,I.base.tbls⟩,⟨m,hn.sameBut hs (ad3 (cne x c hc)),fun j y v' e1 e2 e3=>?_⟩,fun y c' e=>?_,I.free,I.freeC,fun p hp=>?_,g ⟨oc,C,I.freeC x c hc⟩ hs,by simpa using I.len⟩ ⟨c,hs,.inr hc⟩
  ·exact (hs.2 b (aa4 (aa2 (zU e) (I.ok.cab x c B hc)))).trans (I.base.keep b o e n hb hx)
  ·obtain ⟨sl,e1⟩:=I.base.slot b o e n hb hx
   exact ⟨sl,(hs.2 b (aa4 (aa2 (zU e) (I.ok.cab x c B hc)))).trans e1⟩
  ·obtain ⟨o',e1⟩:=I.base.there b o e hx
   exact ⟨o',(hs.2 b (aa4 (aa2 (zU e) (I.ok.cab x c B hc)))).trans e1⟩
  ·by_cases hj:j=i
   ·subst hj
    rw [hi] at e1;cases e1;rw [ah0 G] at e2
    cases e2;exact ⟨u,r,.inr ⟨.inl hk,c,hc,D⟩⟩
   ·rw [af7 (ad3 hj)] at e2
    obtain ⟨u',r',q⟩:=hl j y v' e1 e2 e3;refine ⟨u',r',?_⟩;rcases q with q | ⟨k,c',e,z'⟩
    ·exact .inl q
    ·refine .inr ⟨k,c',e,z'.sameBut hs ?_⟩
     rintro rfl;exact hj (jr hN e1 (I.ok.inj _ _ _ e hc ▸ hi))
  ·by_cases hcc:c'=c
   ·subst hcc;exact ⟨_,D⟩
   ·obtain ⟨w2,z2⟩:=I.cell y c' e
    exact ⟨w2,z2.sameBut hs hcc⟩
  ·obtain ⟨e,n,ne,nf,d⟩:=I.pin p hp
   refine ⟨(hs.2 p.1 ?_).trans e,n,ne,nf,d⟩;intro q;rw [q,C] at e
   have q':oc=p.2:=zX e;exact d w' (by rw [<- q'];exact J)
theorem gB {u:Value} (I:Inv X pins σ H s) (hN:X.N.Nodup) (hi:X.N[i]?=some x) (hx:Loc X.env.scope x) (r:RelV v u)
  (h:∀ s',Inv X pins (σ.set i (some v)) H s'->Q () s') (hf:X.fn x=true\/X.env.scope.names.lookup x=some .local:=by first | exact .inl rfl | exact .inr rfl | assumption):wpAny M A (storeName X.env x u) Q E s :=
 lA I hN hi hx r (fun s' I' _=>h s' I') hf
theorem Inv.call' {s':Shared} (I:Inv X pins σ H s) (ho:s'.os=s.os) (u:Un (frs X.stack) ch H H' s.heap s'.heap) (hok:HOk X.prog X.w H' s'.heap) (hg:AllBare s'.gens)
  (hch:∀ b∈ch,(b∈X.ex\/X.s₀.heap.objs.size<=b)/\b≠X.env.locals/\(∀ x c,X.env.cells.lookup x=some c->c≠b)/\∀ p∈X.pn++pins,p.1≠b):Inv X pins σ H' s':=by
 obtain ⟨h',g',d',t',o'⟩:=s'
 have e:o'=s.os:=ho;subst e;exact I.call (g':=g') (t':=t') (d':=d') u hok hg hch
end
abbrev XK:=Value->Option Addr->Hp->Prop
abbrev St:=List (Option V)
abbrev VK:=V->Hp->Prop
abbrev TE:=St->Hp->VK->Prop
abbrev TT:=St->Hp->(Bool->Hp->Prop)->Prop
abbrev TA:=St->Hp->(List V->Hp->Prop)->Prop
structure Ends where
 nx:St->Hp->Prop
 rt:VK
 bk:St->Hp->Prop:=fun _ _=>False
 ct:St->Hp->Prop:=fun _ _=>False
abbrev TS:=Ends->St->Hp->Prop
def EP (X:Cx) (pins:List (Addr × Obj)) (σ:St) (Q:VK) (u:Value) (s':Shared):Prop:=∃ v H',Inv X pins σ H' s'/\RelV v u/\Q v H'
def TP (X:Cx) (pins:List (Addr × Obj)) (σ:St) (Q:Bool->Hp->Prop) (b:Bool) (s':Shared):Prop:=∃ H',Inv X pins σ H' s'/\Q b H'
def AP (X:Cx) (pins:List (Addr × Obj)) (σ:St) (Q:List V->Hp->Prop) (us:List Value) (s':Shared):Prop:=∃ vs H',Inv X pins σ H' s'/\Vals vs us/\Q vs H'
def SP (X:Cx) (pins:List (Addr × Obj)) (D:Ends) (f:Flow) (s':Shared):Prop :=
 match f with
 | .next=>∃ σ' H',Inv X pins σ' H' s'/\D.nx σ' H'
 | .brk=>∃ σ' H',Inv X pins σ' H' s'/\D.bk σ' H'
 | .cont=>∃ σ' H',Inv X pins σ' H' s'/\D.ct σ' H'
 | .ret u=>∃ v σ' H',Inv X pins σ' H' s'/\RelV v u/\D.rt v H'
def PE (X:Cx) (e:Expr) (t:TE):Prop :=
 ∀ (pins:List (Addr × Obj)) (s:Shared) (σ:St) (H:Hp) (Q:VK),Inv X pins σ H s->t σ H Q->wpAny (model X.prog X.w) X.A (eval e X.env) (EP X pins σ Q) X.xe s
def PT (X:Cx) (e:Expr) (t:TT):Prop :=
 ∀ (pins:List (Addr × Obj)) (s:Shared) (σ:St) (H:Hp) (Q:Bool->Hp->Prop),Inv X pins σ H s->t σ H Q->wpAny (model X.prog X.w) X.A (isTrue e X.env (eval e X.env)) (TP X pins σ Q) X.xe s
def PW (X:Cx) (e:Expr) (t:TT):Prop :=
 ∀ (whole:Sem Value) (pins:List (Addr × Obj)) (s:Shared) (σ:St) (H:Hp) (Q:Bool->Hp->Prop),Inv X pins σ H s->t σ H Q->wpAny (model X.prog X.w) X.A (isTrue e X.env whole) (TP X pins σ Q) X.xe s
variable {X:Cx}{e:Expr}
theorem PW.pt {t:TT} (h:PW X e t):PT X e t:=h _
def PA (X:Cx) (es:List Expr) (t:TA):Prop :=
 ∀ (pos:Pos) (pins:List (Addr × Obj)) (s:Shared) (σ:St) (H:Hp) (Q:List V->Hp->Prop),Inv X pins σ H s->t σ H Q->wpAny (model X.prog X.w) X.A (spliced (backTo pos (starEach es X.env))) (AP X pins σ Q) X.xe s
def PS (X:Cx) (st:Stmt) (t:TS):Prop :=
 ∀ (pins:List (Addr × Obj)) (s:Shared) (σ:St) (H:Hp) (D:Ends),Inv X pins σ H s->t D σ H->wpAny (model X.prog X.w) X.A (exec st X.env) (SP X pins D) X.xe s
def PSs (X:Cx) (st:List Stmt) (t:TS):Prop :=
 ∀ (pins:List (Addr × Obj)) (s:Shared) (σ:St) (H:Hp) (D:Ends),Inv X pins σ H s->t D σ H->wpAny (model X.prog X.w) X.A (execs st X.env) (SP X pins D) X.xe s
variable {s:Shared}
theorem thn {α:Type}{t:Sem α}{Q Q':α->Shared->Prop} (h:wpAny M A t Q E s) (hQ:∀ a s,Q a s->Q' a s):wpAny M A t Q' E s:=af3 h hQ fun _ _ x=>x
variable {pos:Pos}{pins:List (Addr × Obj)}{σ:St}{op:CmpOp}{t:TE}{c:Expr}
section
variable {X:Cx}
inductive tVar (i:Nat) (σ:St) (H:Hp) (Q:VK):Prop
 | mk:∀ v,σ[i]?=some (some v)->Q v H->tVar i σ H Q
def tC (v:V):TE:=fun _ H Q=>Q v H
theorem yA (hN:X.N[i]?=some x) (hv:Vis X.env.scope x) (hd:(x == ("__debug__" : Str))=false:=by decide) (hcd:(x == ("__classdict__" : Str))=false:=by decide):PE X (.Name x pos) (tVar i):=by
 intro B s σ H Q I h;obtain ⟨v,e,h⟩:=h;obtain ⟨m,hn,hl⟩:=I.loc;obtain ⟨u,r,l⟩:=hl i x v hN e hv
 have fin:EP X B σ Q u s:=⟨v,H,I,r,h⟩;rcases l with ⟨hk,hm⟩ | ⟨hk,c,hc,g⟩
 ·exact wpAny_Name (wpAny_loadName_local I.ok.kind hk hn hm fin) hd
 ·rcases hk with hk | hk
  ·exact wpAny_Name (wpAny_loadName_cell I.ok.kind hk hc g fin) hd
  ·exact wpAny_Name (wpAny_loadName_free I.ok.kind hk hc g fin hcd) hd
theorem ai {i j pos}:PE X (.Constant (.int i) j pos) (tC (.int i)):=fun _ _ _ H _ I h=>wpAny_Constant_int ⟨.int i,H,I.tok _,⟨_,rfl⟩,h⟩
theorem dC {b j pos}:PE X (.Constant (.bool b) j pos) (tC (.bl b)):=fun _ _ _ H _ I h=>Constant_bool ⟨.bl b,H,I,rfl,h⟩
theorem aR {j pos}:PE X (.Constant .none j pos) (tC .non):=fun _ _ _ H _ I h=>Constant_none ⟨.non,H,I,rfl,h⟩
theorem jU {x j pos}:PE X (.Constant (.str x) j pos) (tC (.str x)):=fun _ _ _ H _ I h=>Calls.Constant_str ⟨.str x,H,I.tok _,⟨_,rfl⟩,h⟩
def Gl (X:Cx) (x:Str):Prop:=X.env.kindOf x=some .globalImplicit
theorem kU {u:Value}{Q:Value->Shared->Prop} (I:Inv X pins σ H s) (hg:Gl X x) (hm:X.mg x=some u) (h:Q u s)
  (hd:(x == ("__debug__" : Str))=false:=by decide):wpAny (model X.prog X.w) X.A (eval (.Name x pos) X.env) Q E s :=
 Calls.Name_function_global I.ok.kind hg (Calls.loadGlobal_global (by rw [I.ok.glob];exact I.mod.glob.keeps I.bk) hm h) hd
theorem cA {u:Value}{Q:Value->Shared->Prop} (I:Inv X pins σ H s) (hg:Gl X x) (hm:X.mg x=none) (hv:bootBuiltins x=some u) (h:Q u s)
  (hn:x ≠ "__name__":=by decide) (hd:(x == ("__debug__" : Str))=false:=by decide):wpAny (model X.prog X.w) X.A (eval (.Name x pos) X.env) Q E s:=by
 obtain ⟨mb,h1,h2⟩:=I.mod.blt;exact Calls.Name_function_global I.ok.kind hg (Calls.loadGlobal_builtin (by rw [I.ok.glob];exact I.mod.glob.keeps I.bk) hm (by rw [I.ok.blt];exact h1.keeps I.bk) ((h2 x hn).trans hv) h) hd
theorem gh {u:Value} (hg:Gl X x) (hm:X.mg x=some u) (r:RelV v u) (hd:(x == ("__debug__" : Str))=false:=by decide):PE X (.Name x pos) (tC v) :=
 fun _ _ _ H _ I h=>kU I hg hm ⟨v,H,I,r,h⟩ hd
theorem gj {u:Value} (hg:Gl X x) (hm:X.mg x=none) (hv:bootBuiltins x=some u) (r:RelV v u) (hn:x ≠ "__name__":=by decide) (hd:(x == ("__debug__" : Str))=false:=by decide):PE X (.Name x pos) (tC v) :=
 fun _ _ _ H _ I h=>cA I hg hm hv ⟨v,H,I,r,h⟩ hn hd
variable {a b:Expr}{ta tb:TE}{pos:Pos}
def PC (X:Cx) (op:CmpOp) (a b:Expr) (t:TE):Prop :=
 ∀ (pins:List (Addr × Obj)) (s:Shared) (σ:St) (H:Hp) (Q:VK),Inv X pins σ H s->t σ H Q →
  wpAny (model X.prog X.w) X.A (eval a X.env) (fun v s₁=>wpAny (model X.prog X.w) X.A (eval b X.env) (fun u s₂=>wpAny (model X.prog X.w) X.A (compareOp op v u) (EP X pins σ Q) X.xe s₂) X.xe s₁) X.xe s
inductive tB_k (Q:Bool->Hp->Prop) (x:V) (H1:Hp):Prop
 | mk:∀ c,x=.bl c->Q c H1->tB_k Q x H1
def tB (t:TE):TT:=fun σ H Q=>t σ H fun x H1=>tB_k Q x H1
theorem yB (h:PC X op a b t) (h1:behindInMarks op b=false:=by first | exact nobehind _ (by decide) (by decide) | rfl):PE X (.Compare a [op] [b] pos) t:=fun g s σ H Q I hw=>wpAny_Compare1 (h g s σ H Q I hw) h1
theorem mZ (h:PC X op a b t) (h1:behindInMarks op b=false:=by first | exact nobehind _ (by decide) (by decide) | rfl):PT X (.Compare a [op] [b] pos) (tB t):=by
 intro g s σ H Q I hw;refine wpAny_isTrue_Compare1 (thn (h g s σ H _ I hw) fun v s1 h1=>thn h1 fun u s2 h2=>thn h2 fun c s3 ⟨x,H1,I1,r1,q1⟩=>?_) h1;obtain ⟨d,rfl,q⟩:=q1
 cases r1;exact ah2 ⟨H1,I1,q⟩
theorem bd (h:PE X e t) (he:∀ whole,isTrue e X.env whole=(do let v ← whole;standAt e.pos;holding [v] (truthy v)):=by intro _;rfl):PT X e (tB t):=by
 intro g s σ H Q I hw;refine isTrue_plain (thn (h g s σ H _ I hw) fun v s1 ⟨x,H1,I1,r1,q1⟩=>?_) (he _);obtain ⟨d,rfl,q⟩:=q1
 cases r1;exact ah2 ⟨H1,I1,q⟩
variable {tA tB':TT}{rest:List Expr}
def tAnd (t u:TT):TT:=fun σ H Q=>t σ H fun c H1=>if c=true then u σ H1 Q else Q false H1
def tOr (t u:TT):TT:=fun σ H Q=>t σ H fun c H1=>if c=true then Q true H1 else u σ H1 Q
def tNot (t:TT):TT:=fun σ H Q=>t σ H fun c H1=>Q (!c) H1
theorem iR (ha:PT X a tA):PW X (.BoolOp .And [a] pos) tA:=by
 intro wh g s σ H Q I h;refine isTrue_and (thn (ha g s σ H Q I h) fun c s1 e=>?_)
 cases c with
 | true=>exact isTrue_and_nil e
 | false=>exact e
theorem bJ (ha:PT X a tA):PW X (.BoolOp .Or [a] pos) tA:=by
 intro wh g s σ H Q I h;refine isTrue_or (thn (ha g s σ H Q I h) fun c s1 e=>?_)
 cases c with
 | false=>exact isTrue_or_nil e
 | true=>exact e
theorem jV (ha:PT X a tA) (hb:PW X (.BoolOp .And (b :: rest) pos) tB'):PW X (.BoolOp .And (a :: b :: rest) pos) (tAnd tA tB'):=by
 intro wh g s σ H Q I h;refine isTrue_and (thn (ha g s σ H _ I h) fun c s1 ⟨H1,I1,q1⟩=>?_)
 cases c with
 | true=>exact hb wh g s1 σ H1 Q I1 q1
 | false=>exact ⟨H1,I1,q1⟩
theorem bC (ha:PT X a tA) (hb:PW X (.BoolOp .Or (b :: rest) pos) tB'):PW X (.BoolOp .Or (a :: b :: rest) pos) (tOr tA tB'):=by
 intro wh g s σ H Q I h;refine isTrue_or (thn (ha g s σ H _ I h) fun c s1 ⟨H1,I1,q1⟩=>?_)
 cases c with
 | true=>exact ⟨H1,I1,q1⟩
 | false=>exact hb wh g s1 σ H1 Q I1 q1
theorem bQ (ha:PT X a tA):PT X (.UnaryOp .Not a pos) (tNot tA):=by
 intro g s σ H Q I h;exact isTrue_not (ha g s σ H (fun c H1=>Q (!c) H1) I h)
inductive pI (tb:TE) (σ:St) (Q:VK) (x:V) (H1:Hp):Prop
 | mk:∀ c,x=.bl c->(if c=true then tb σ H1 Q else Q (.bl false) H1)->pI tb σ Q x H1
def ze (ta tb:TE):TE:=fun σ H Q=>ta σ H fun x H1=>pI tb σ Q x H1
inductive sw (tb:TE) (σ:St) (Q:VK) (x:V) (H1:Hp):Prop
 | mk:∀ c,x=.bl c->(if c=true then Q (.bl true) H1 else tb σ H1 Q)->sw tb σ Q x H1
def tOrV (ta tb:TE):TE:=fun σ H Q=>ta σ H fun x H1=>sw tb σ Q x H1
inductive pJ (Q:VK) (x:V) (H1:Hp):Prop
 | mk:∀ c,x=.bl c->Q (.bl (!c)) H1->pJ Q x H1
def zg (ta:TE):TE:=fun σ H Q=>ta σ H fun x H1=>pJ Q x H1
theorem ie {op}{t:TE} (h:PE X a t):PE X (.BoolOp op [a] pos) t:=fun pins s σ H Q I hw=>BoolOp_one (h pins s σ H Q I hw)
theorem m3 (ha:PE X a ta) (hb:PE X (.BoolOp .And (b :: rest) pos) tb):PE X (.BoolOp .And (a :: b :: rest) pos) (ze ta tb):=by
 intro g s σ H Q I h;refine BoolOp_and (thn (ha g s σ H _ I h) fun v s1 ⟨x,H1,I1,r1,q1⟩=>?_);obtain ⟨c,rfl,q1⟩:=q1
 cases r1;refine ah2 ?_
 cases c with
 | true=>exact hb g s1 σ H1 Q I1 q1
 | false=>exact ⟨.bl false,H1,I1,rfl,q1⟩
theorem wC (ha:PE X a ta) (hb:PE X (.BoolOp .Or (b :: rest) pos) tb):PE X (.BoolOp .Or (a :: b :: rest) pos) (tOrV ta tb):=by
 intro g s σ H Q I h;refine BoolOp_or (thn (ha g s σ H _ I h) fun v s1 ⟨x,H1,I1,r1,q1⟩=>?_);obtain ⟨c,rfl,q1⟩:=q1
 cases r1;refine ah2 ?_
 cases c with
 | false=>exact hb g s1 σ H1 Q I1 q1
 | true=>exact ⟨.bl true,H1,I1,rfl,q1⟩
theorem yC (ha:PE X a ta):PE X (.UnaryOp .Not a pos) (zg ta):=by
 intro g s σ H Q I h;refine UnaryOp_ (thn (ha g s σ H _ I h) fun v s1 ⟨x,H1,I1,r1,q1⟩=>?_);obtain ⟨c,rfl,q1⟩:=q1
 cases r1;exact not_of (ah2 ⟨.bl (!c),H1,I1,rfl,q1⟩)
def tIf (t:TT) (ta tb:TE):TE:=fun σ H Q=>t σ H fun c H1=>if c=true then ta σ H1 Q else tb σ H1 Q
theorem jt (hc:PT X c tA) (ha:PE X a ta) (hb:PE X b tb):PE X (.IfExp c a b pos) (tIf tA ta tb):=by
 intro g s σ H Q I h;refine wpAny_IfExp (thn (hc g s σ H _ I h) fun d s1 ⟨H1,I1,q1⟩=>?_)
 cases d with
 | true=>exact ha g s1 σ H1 Q I1 q1
 | false=>exact hb g s1 σ H1 Q I1 q1
end
def SqL (K:PySem.W.Frag) (H:Hp) (a:Addr) (xs:List V):Prop :=
 Rd H a (.lst xs) ∨
  ∃ (o:Obj) (its:Array Value) (n:Nat),K.lookup a=some o∧o.cls=.type "list" ∧ o.dict=none∧o.data=.seq its n∧its.size≤sizeLine∧Vals xs its.toList
def SqT (K:PySem.W.Frag) (H:Hp) (a:Addr) (xs:List V):Prop :=
 Rd H a (.tup xs) ∨
  ∃ (o:Obj) (its:Array Value) (n:Nat),K.lookup a=some o∧o.cls=.type "tuple" ∧ o.data=.seq its n∧its.size≤sizeLine∧Vals xs its.toList
def absV:Value->Option V
 | .none=>some .non
 | .bool b=>some (.bl b)
 | .int i _=>some (.int i)
 | .str x _=>some (.str x)
 | .bytes b _=>some (.byt b)
 | .float b _=>some (.flt b)
 | .ref a=>some (.ref a)
 | .type n=>some (.ty n)
 | _=>none
theorem RelV.abs {x:V}{u:Value} (r:RelV x u):absV u=some x:=by
 cases x with
 | non=>cases r;rfl
 | bl _=>cases r;rfl
 | int _=>obtain ⟨t,rfl⟩:=r;rfl
 | str _=>obtain ⟨t,rfl⟩:=r;rfl
 | byt _=>obtain ⟨t,rfl⟩:=r;rfl
 | flt _=>obtain ⟨t,rfl⟩:=r;rfl
 | ref _=>cases r;rfl
 | ty _=>cases r;rfl
theorem RelV.inj {x y:V}{u:Value} (r:RelV x u) (q:RelV y u):x=y:=zX (r.abs.symm.trans q.abs)
theorem Vals.inj:∀ {xs ys:List V}{us:List Value},Vals xs us->Vals ys us->xs=ys
 | _,_,_,.nil,.nil=>rfl
 | _,_,_,.cons r t,.cons r' t'=>by rw [r.inj r',Vals.inj t t']
variable {K:PySem.W.Frag}
section
variable {X:Cx}{pins:List (Addr × Obj)}{σ:St}{H:Hp}{s:Shared}{a:Addr}{xs ys:List V}
theorem SqL.of (h:H a=some (.lst xs)):SqL K H a xs:=.inl (.inl h)
theorem SqT.of (h:H a=some (.tup xs)):SqT K H a xs:=.inl (.inl h)
theorem Inv.list (I:Inv X pins σ H s) (h:SqL X.K H a xs):∃ its:List Value,Vals xs its/\PlainL s.heap a its.toArray/\xs.length<=sizeLine:=by
 rcases h with h | ⟨o,its,n,hk,hc,hd,hs,hz,r⟩
 ·obtain ⟨z,its,n,r,e⟩:=h.ok I.hok
  exact ⟨its,r,⟨_,n,e,rfl,rfl,rfl⟩,z⟩
 ·refine ⟨its.toList,r,⟨o,n,I.kIn a o hk,hc,hd,by simpa using hs⟩,?_⟩
  have e:=r.length;simp only [ah7] at e;omega
theorem Inv.tuple (I:Inv X pins σ H s) (h:SqT X.K H a xs):∃ its:List Value,Vals xs its/\IsTup s.heap a its.toArray/\xs.length<=sizeLine:=by
 rcases h with h | ⟨o,its,n,hk,hc,hs,hz,r⟩
 ·obtain ⟨z,its,r,p⟩:=h.ok I.hok
  exact ⟨its,r,p,z⟩
 ·refine ⟨its.toList,r,⟨o,I.kIn a o hk,hc,n,by simpa using hs⟩,?_⟩
  have e:=r.length;simp only [ah7] at e;omega
theorem Inv.list_inj (I:Inv X pins σ H s) (h:SqL X.K H a xs) (h':SqL X.K H a ys):xs=ys:=by
 obtain ⟨l,r,⟨o,n,e,_,_,d⟩,_⟩:=I.list h;obtain ⟨g,r',⟨o',n',e',_,_,d'⟩,_⟩:=I.list h';rw [e] at e';cases e';rw [d] at d'
 injection d' with d1 _
 have:l=g:=by simpa using congrArg Array.toList d1
 subst this;exact r.inj r'
theorem Inv.tuple_inj (I:Inv X pins σ H s) (h:SqT X.K H a xs) (h':SqT X.K H a ys):xs=ys:=by
 obtain ⟨l,r,⟨o,e,_,n,d⟩,_⟩:=I.tuple h;obtain ⟨g,r',⟨o',e',_,n',d'⟩,_⟩:=I.tuple h';rw [e] at e';cases e';rw [d] at d'
 injection d' with d1 _
 have:l=g:=by simpa using congrArg Array.toList d1
 subst this;exact r.inj r'
end
abbrev Cx.wish (X:Cx) (E:Value->Shared->Prop):Cx:={ X with xe:=E }
abbrev Cx.nox (X:Cx):Cx:=X.wish fun _ _=>False
theorem Cx.Ok.wish {X:Cx} (ok:X.Ok) (E:Value->Shared->Prop):(X.wish E).Ok :=
 ⟨ok.mod,ok.kind,ok.glob,ok.blt,ok.above,ok.inj,ok.has,ok.cab,ok.hd,ok.frames,ok.stk,ok.exf,ok.bs,ok.bsz,ok.noex,ok.exfs,ok.funs,ok.frf⟩
theorem Cx.Ok.unwish (ok:(X.wish E).Ok):X.Ok :=
 ⟨ok.mod,ok.kind,ok.glob,ok.blt,ok.above,ok.inj,ok.has,ok.cab,ok.hd,ok.frames,ok.stk,ok.exf,ok.bs,ok.bsz,ok.noex,ok.exfs,ok.funs,ok.frf⟩
section
variable {X:Cx}{pins:List (Addr × Obj)}{σ:St}{H:Hp}{s:Shared}{E:Value->Shared->Prop}
theorem Inv.wish (I:Inv X pins σ H s) (E:Value->Shared->Prop):Inv (X.wish E) pins σ H s:=⟨I.ok.wish E,I.os,I.bare,I.base,I.loc,I.cell,I.free,I.freeC,I.pin,I.hok,I.len⟩
theorem Inv.unwish (I:Inv (X.wish E) pins σ H s):Inv X pins σ H s:=⟨I.ok.unwish,I.os,I.bare,I.base,I.loc,I.cell,I.free,I.freeC,I.pin,I.hok,I.len⟩
theorem SP.unwish {D:Ends}{f:Flow}{s':Shared} (h:SP (X.wish E) pins D f s'):SP X pins D f s':=by
 cases f with
 | next=>obtain ⟨σ',H',I,q⟩:=h;exact ⟨σ',H',I.unwish,q⟩
 | brk=>obtain ⟨σ',H',I,q⟩:=h;exact ⟨σ',H',I.unwish,q⟩
 | cont=>obtain ⟨σ',H',I,q⟩:=h;exact ⟨σ',H',I.unwish,q⟩
 | ret u=>obtain ⟨v,σ',H',I,r,q⟩:=h;exact ⟨v,σ',H',I.unwish,r,q⟩
theorem PSs.nox {st:List Stmt}{t:TS} (h:PSs X.nox st t):PSs X st t:=fun pins s σ H D I hw =>
 af3 (h pins s σ H D (I.wish _) hw) (fun _ _ q=>q.unwish) fun _ _ z=>False.elim z
end
section
variable {X:Cx}{st:Stmt}{rest:List Stmt}{t u:TS}{e:Expr}{te:TE}{pos:Pos}
def wD:TS:=fun D σ H=>D.nx σ H
def tSeq (t u:TS):TS:=fun D σ H=>t { D with nx:=u D } σ H
theorem aF:PSs X [] wD:=fun _ _ σ H _ I h=>wpAny_execs_nil ⟨σ,H,I,h⟩
theorem ju (h1:PS X st t) (h2:PSs X rest u):PSs X (st :: rest) (tSeq t u):=by
 intro g s σ H D I h;refine wpAny_execs_cons (thn (h1 g s σ H { D with nx:=u D } I h) fun f s1 q=>?_)
 cases f with
 | next =>
  obtain ⟨σ',H',I',q⟩:=q;exact h2 g s1 σ' H' D I' q
 | ret v=>exact q
 | brk=>exact q
 | cont=>exact q
theorem iS (h1:PS X st t):PSs X [st] t:=by
 intro g s σ H D I h;refine wpAny_execs_cons (thn (h1 g s σ H D I h) fun f s1 q=>?_)
 cases f with
 | next=>exact wpAny_execs_nil q
 | ret v=>exact q
 | brk=>exact q
 | cont=>exact q
def yD:TS:=fun D σ H=>D.bk σ H
def zj:TS:=fun D σ H=>D.ct σ H
theorem vd:PS X (.Break pos) yD:=fun _ _ σ H _ I h=>wpAny_Break ⟨σ,H,I,h⟩
theorem pi:PS X (.Continue pos) zj:=fun _ _ σ H _ I h=>wpAny_Continue ⟨σ,H,I,h⟩
theorem Inv.quiet (I:Inv X pins σ H s):interactive X.env=false:=by simp [interactive,I.ok.kind]
def zk (te:TE):TS:=fun D σ H=>te σ H fun _ H1=>D.nx σ H1
theorem aS (he:PE X e te) (hs:swapsWith e none pos.line X.env=pure false:=by rfl):PS X (.Expr e pos) (zk te):=by
 intro g s σ H D I h;exact wpAny_Expr_any (thn (he g s σ H _ I h) fun v s1 ⟨x,H1,I1,r1,q1⟩=>⟨σ,H1,I1,q1⟩) I.quiet hs
def tRet (te:TE):TS:=fun D σ H=>te σ H D.rt
theorem av (he:PE X e te):PS X (.Return (some e) pos) (tRet te):=by
 intro g s σ H D I h;exact wpAny_Return_some (thn (he g s σ H _ I h) fun v s1 ⟨x,H1,I1,r1,q1⟩=>⟨x,σ,H1,I1,r1,q1⟩)
def tIfS (c:TT) (t u:TS):TS:=fun D σ H=>c σ H fun b H1=>if b=true then t D σ H1 else u D σ H1
theorem zl {a b:List Stmt}{tc:TT} (hc:PT X c tc) (ha:PSs X a t) (hb:PSs X b u):PS X (.If c a b pos) (tIfS tc t u):=by
 intro g s σ H D I h;refine wpAny_If (thn (hc g s σ H _ I h) fun d s1 ⟨H1,I1,q1⟩=>?_)
 cases d with
 | true=>exact ha g s1 σ H1 D I1 q1
 | false=>exact hb g s1 σ H1 D I1 q1
def yE:TS:=fun _ _ _=>False
theorem bo:PS X st yE:=fun _ _ _ _ _ _ h=>h.elim
end
abbrev TG:=V->St->Hp->(St->Hp->Prop)->Prop
abbrev TGs:=List V->St->Hp->(St->Hp->Prop)->Prop
def PG (X:Cx) (target:Expr) (t:TG):Prop :=
 ∀ (pins:List (Addr × Obj)) (s:Shared) (σ:St) (H:Hp) (v:V) (u:Value) (Q:St->Hp->Prop),Inv X pins σ H s->RelV v u->t v σ H Q →
  wpAny (model X.prog X.w) X.A (assign target X.env u) (fun _ s'=>∃ σ' H',Inv X pins σ' H' s'/\Q σ' H') X.xe s
def PGs (X:Cx) (ts:List Expr) (t:TGs):Prop :=
 ∀ (pins:List (Addr × Obj)) (s:Shared) (σ:St) (H:Hp) (vs:List V) (us:List Value) (Q:St->Hp->Prop),Inv X pins σ H s->Vals vs us->t vs σ H Q →
  wpAny (model X.prog X.w) X.A (assignInOrder ((assignEach ts X.env).map (·.2)) us) (fun _ s'=>∃ σ' H',Inv X pins σ' H' s'/\Q σ' H') X.xe s
abbrev TSet:=V->V->V->Hp->(Hp->Prop)->Prop
def PSet (X:Cx) (t:TSet):Prop :=
 ∀ (pins:List (Addr × Obj)) (s:Shared) (σ:St) (H:Hp) (o i v:V) (ov iv u:Value) (Q:Hp->Prop),Inv X pins σ H s->RelV o ov->RelV i iv->RelV v u->t o i v H Q →
  wpAny (model X.prog X.w) X.A (setItem ov iv u) (fun _ s'=>∃ H',Inv X pins σ H' s'/\Q H') X.xe s
abbrev TIp:=V->V->Hp->VK->Prop
def PIp (X:Cx) (op:Operator) (t:TIp):Prop :=
 ∀ (pins:List (Addr × Obj)) (s:Shared) (σ:St) (H:Hp) (x y:V) (v u:Value) (Q:VK),Inv X pins σ H s->RelV x v->RelV y u->t x y H Q →
  wpAny (model X.prog X.w) X.A (inplaceOp op v u) (EP X pins σ Q) X.xe s
variable {n:Nat}{tg:Expr}{te:TE}{g:TG}
section
variable {X:Cx}{pos:Pos}
def be (i:Nat):TG:=fun v σ H Q=>Q (σ.set i (some v)) H
theorem ar (hN:X.N.Nodup) (hi:X.N[i]?=some x) (hx:Loc X.env.scope x) (hf:X.fn x=true\/X.env.scope.names.lookup x=some .local:=by first | exact .inl rfl | exact .inr rfl | assumption):PG X (.Name x pos) (be i):=by
 intro g s σ H v u Q I r h;exact wpAny_assign_Name (gB I hN hi hx r (fun s' I'=>⟨_,H,I',h⟩) hf)
def gNil:TGs:=fun vs σ H Q=>vs=[]/\Q σ H
inductive d7 (t:TG) (u:TGs) (vs:List V) (σ:St) (H:Hp) (Q:St->Hp->Prop):Prop
 | mk:∀ v r,vs=v :: r->(t v σ H fun σ' H'=>u r σ' H' Q)->d7 t u vs σ H Q
theorem cB:PGs X [] gNil:=by
 intro g s σ H vs us Q I r h;obtain ⟨e,h⟩:=h;subst e
 cases r;exact assignInOrder_nil ⟨σ,H,I,h⟩
theorem aU {es:List Expr}{t:TG}{u:TGs} (h1:PG X e t) (h2:PGs X es u)
  (hs:(assignEach (e :: es) X.env).map (·.2)=assign e X.env :: (assignEach es X.env).map (·.2):=by rfl):PGs X (e :: es) (d7 t u):=by
 intro g s σ H vs us Q I r h;obtain ⟨v,vr,e1,h⟩:=h;subst e1
 cases r with
 | cons r rr =>
  rw [hs];refine assignInOrder_cons (thn (h1 g s σ H _ _ _ I r h) fun _ s1 ⟨σ1,H1,I1,q1⟩=>?_);exact h2 g s1 σ1 H1 _ _ Q I1 rr q1
inductive gTup (K:PySem.W.Frag) (n:Nat) (t:TGs) (v:V) (σ:St) (H:Hp) (Q:St->Hp->Prop):Prop
 | mk:∀ a xs,v=.ref a->SqT K H a xs->xs.length=n->t xs σ H Q->gTup K n t v σ H Q
theorem eA {es:List Expr}{k:Nat}{t:TGs} (hc:X.calm=true) (h:PGs X es t)
  (hn:(assignEach es X.env).length=n:=by rfl) (hst:(assignEach es X.env).findIdx? (·.1)=none:=by rfl):PG X (.Tuple es k pos) (gTup X.K n t):=by
 intro g s σ H v u Q I r hw;obtain ⟨a,xs,e1,hq,hl,hw⟩:=hw;subst e1
 cases r;obtain ⟨l,rv,ht,hz⟩:=I.tuple hq;refine assign_Tuple_tuple (I.ok.hd hc) ht (by simp [hn,← hl,rv.length]) hst fun h' hx=>?_
 have I1:Inv X g σ H { s with heap:=h' }:=I.kept (t':=s.toks) fun b o e=>hx b o (aa4 (zU e)) e;exact h g _ σ H xs _ Q I1 (by simpa using rv) hw
def gSub (to ti:TE) (t:TSet):TG:=fun v σ H Q=>to σ H fun o H1=>ti σ H1 fun i H2=>t o i v H2 fun H3=>Q σ H3
theorem dD {o i:Expr}{to ti:TE}{t:TSet} (ho:PE X o to) (hi:PE X i ti) (hs:PSet X t)
  (ha:∀ v,assign (.Subscript o i pos) X.env v=(do
   let ov ← holding [v] (eval o X.env)
   let iv ← holding [v,ov] (eval i X.env)
   standAt pos
   holding [v,ov,iv] (setItem ov iv v)
   release [v,ov,iv] []):=by intro _;rfl):PG X (.Subscript o i pos) (gSub to ti t):=by
 intro g s σ H v u Q I r h;rw [ha];refine zT (ag8 (thn (ho g s σ H _ I h) fun ov s1 ⟨x,H1,I1,r1,q1⟩=>?_));refine zT (ag8 (thn (hi g s1 σ H1 _ I1 q1) fun iv s2 ⟨y,H2,I2,r2,q2⟩=>?_));refine zT (wpAny_standAt (zT (ag8 (thn (hs g s2 σ H2 x y v ov iv u _ I2 r1 r2 r q2) fun _ s3 ⟨H3,I3,q3⟩=>?_))));exact wpAny_release ⟨σ,H3,I3,q3⟩
def tAsg (te:TE) (g:TG):TS:=fun D σ H=>te σ H fun x H1=>g x σ H1 D.nx
theorem de (he:PE X e te) (hg:PG X tg g) (hs:swapsWithSole [tg] e pos.line X.env=pure false:=by rfl) (hw:swappedStores [tg] e X.env=pure none:=by rfl)
  (h1:(assignEach [tg] X.env).map (·.2)=[assign tg X.env]:=by rfl):PS X (.Assign [tg] e pos) (tAsg te g):=by
 intro l s σ H D I h;refine wpAny_Assign_stores (thn (he l s σ H _ I h) fun v s1 ⟨x,H1,I1,r1,q1⟩=>?_) hs hw;rw [h1];exact thn (hg l s1 σ H1 x v _ I1 r1 q1) fun _ s2 q=>q
theorem al {pos':Pos} (hN:X.N.Nodup) (hi:X.N[i]?=some x) (hx:Loc X.env.scope x) (he:PE X e te) (hs:swapsWith e (some (.Name x pos')) pos.line X.env=pure false:=by rfl) (hf:X.fn x=true\/X.env.scope.names.lookup x=some .local:=by first | exact .inl rfl | exact .inr rfl | assumption) :
  PS X (.Assign [.Name x pos'] e pos) (tAsg te (be i)):=by
 intro g s σ H D I h;refine wpAny_Assign_Name (thn (he g s σ H _ I h) fun v s1 ⟨y,H1,I1,r1,q1⟩=>?_) hs;exact gB I1 hN hi hx r1 (fun s2 I2=>⟨_,H1,I2,q1⟩) hf
inductive tAug (i:Nat) (te:TE) (ti:TIp) (D:Ends) (σ:St) (H:Hp):Prop
 | mk:∀ x,σ[i]?=some (some x)->(te σ H fun y H1=>ti x y H1 fun z H2=>D.nx (σ.set i (some z)) H2)->tAug i te ti D σ H
theorem yF {op:Operator}{ti:TIp}{pos':Pos} (hN:X.N.Nodup) (hi:X.N[i]?=some x) (hx:Loc X.env.scope x) (he:PE X e te) (ho:PIp X op ti) (hf:X.fn x=true\/X.env.scope.names.lookup x=some .local:=by first | exact .inl rfl | exact .inr rfl | assumption) :
  PS X (.AugAssign (.Name x pos') op e pos) (tAug i te ti):=by
 intro g s σ H D I h;obtain ⟨v,e1,h⟩:=h;obtain ⟨m,hn,hl⟩:=I.loc
 have C:Vis X.env.scope x:=by rcases hx with k | k;exact .inl k;exact .inr (.inl k)
 obtain ⟨u,r,l⟩:=hl i x v hi e1 C;refine wpAny_AugAssign_Name ?_
 have go:wpAny (model X.prog X.w) X.A (eval e X.env) (fun w s₂=>wpAny (model X.prog X.w) X.A (inplaceOp op u w) (fun r s₃=>wpAny (model X.prog X.w) X.A (storeName X.env x r) (fun _=>SP X g D .next) X.xe s₃) X.xe s₂) X.xe s:=by
  refine thn (he g s σ H _ I h) fun w s1 ⟨y,H1,I1,r1,q1⟩=>?_;refine thn (ho g s1 σ H1 v y u w _ I1 r r1 q1) fun z s2 ⟨zv,H2,I2,r2,q2⟩=>?_;exact gB I2 hN hi hx r2 (fun s3 I3=>⟨_,H2,I3,q2⟩) hf
 rcases l with ⟨hk,hm⟩ | ⟨hk,c,hc,B⟩
 ·exact wpAny_loadName_local I.ok.kind hk hn hm go
 ·rcases hk with hk | hk
  ·exact wpAny_loadName_cell I.ok.kind hk hc B go
  ·rcases hx with k | k
   ·have:X.env.scope.names.lookup x=some .free:=hk
    rw [k] at this;cases this
   ·have:X.env.scope.names.lookup x=some .free:=hk
    rw [k] at this;cases this
inductive ipI (f:Int->Int->Int) (x y:V) (H:Hp) (Q:VK):Prop
 | mk:∀ i j,x=.int i->y=.int j->Q (.int (f i j)) H->ipI f x y H Q
theorem yG:PIp X .Add (ipI fun i j=>i+j):=by
 intro g s σ H x y v u Q I r1 r2 h;obtain ⟨i,j,e1,e2,q⟩:=h;subst e1;subst e2;obtain ⟨t,rfl⟩:=r1;obtain ⟨t',rfl⟩:=r2;exact iadd_int ⟨.int _,H,I.tok _,⟨_,rfl⟩,q⟩
end
variable {body:List Stmt}{tb:TS}
section
variable {X:Cx}{pos:Pos}
def sy (c:TT) (tb:TS):TS:=fun D σ H=>∃ W:Nat->St->Hp->Prop,(∃ m,W m σ H)/\∀ m σ H,W m σ H →
 c σ H fun b H1=>if b=true then ∃ N:St->Hp->Prop,(∀ σ' H',N σ' H'->∃ m',m' < m/\W m' σ' H')/\tb { D with nx:=N,ct:=N,bk:=D.nx } σ H1 else D.nx σ H1
theorem ve {tc:TT} (hp:PassesOwn (model X.prog X.w) X.A X.env X.xe) (hc:PT X c tc) (hb:PSs X body tb):PS X (.While c body [] pos) (sy tc tb):=by
 intro g s σ H D I h;obtain ⟨W,⟨m0,w0⟩,turn⟩:=h;refine wpAny_While (codeAny_whileLoop (fun n s'=>∃ σ' H',Inv X g σ' H' s'/\W n σ' H') ?_ m0 ⟨σ,H,I,w0⟩);rintro n s1 ⟨σ1,H1,I1,w1⟩;refine aj7 hp (thn (hc g s1 σ1 H1 _ I1 (turn n σ1 H1 w1)) fun b s2 ⟨H2,I2,q2⟩=>?_)
 cases b with
 | true =>
  obtain ⟨N,hN,q2⟩:=q2;rw [if_pos rfl];refine aj7 hp (thn (hb g s2 σ1 H2 _ I2 q2) fun f s3 q3=>?_)
  cases f with
  | next =>
   obtain ⟨σ3,H3,I3,n3⟩:=q3;obtain ⟨m',hm,w3⟩:=hN σ3 H3 n3;exact ⟨m',hm,σ3,H3,I3,w3⟩
  | cont =>
   obtain ⟨σ3,H3,I3,n3⟩:=q3;obtain ⟨m',hm,w3⟩:=hN σ3 H3 n3;exact ⟨m',hm,σ3,H3,I3,w3⟩
  | brk=>exact q3
  | ret v=>exact q3
 | false =>
  rw [if_neg aa3];exact wpAny_execs_nil ⟨σ1,H2,I2,q2⟩
end
structure It where
 go:Nat->Hp->Prop
 yld:Nat->Hp->V->Hp->Prop
 stop:Nat->Hp->Prop
def FpOk (X:Cx) (pins:List (Addr × Obj)) (H:Hp) (b:Addr):Prop :=
 H b=none/\b≠X.env.locals/\b∉X.fs/\(b∈X.ex\/X.s₀.heap.objs.size<=b)/\(∀ x c,X.env.cells.lookup x=some c->c≠b)/\∀ p∈X.pn++pins,p.1≠b
theorem Inv.fpOk {H':Hp} (I:Inv X pins σ H s) (hb:s.heap.objs.size<=b) (hn:H' b=none):FpOk X pins H' b:=by
 refine ⟨hn,aj8 (aa2 I.lt hb),I.nofs hb,.inr (zR I.sz hb),fun x c e z=>?_,fun p hp z=>?_⟩
 ·obtain ⟨v,q⟩:=I.cell x c e
  exact absurd (aa2 q.lt (by rw [z];exact hb)) (ad4 _)
 ·exact absurd (aa2 (zU (I.pin p hp).1) (by rw [z];exact hb)) (ad4 _)
structure Turn (P:Program) (w:World) (K:PySem.W.Frag) (tg:Expr) (J:It) (fp:List Addr) (it:Addr) (tn:Nat->Heap->Prop):Prop where
 mem:it∈fp
 obj:∀ i h,tn i h->∀ b∈fp,∃ o,h.get? b=some o/\∀ v,o.data≠.cell v
 keep:∀ i h h',tn i h->(∀ b∈fp,∀ o,h.get? b=some o->h'.get? b=some o)->tn i h'
 item:∀ (X:Cx),X.prog=P->X.w=w->X.K=K->X.calm=true->∀ (i:Nat) (pins:List (Addr × Obj)) (s:Shared) (σ:St) (H:Hp) (E:Value->Shared->Prop),Inv X pins σ H s->(∀ b∈fp,FpOk X pins H b)->tn i s.heap->J.go i H →
  wpAny (model P w) X.A (pyNext (.ref it)) (fun r s1=>∃ u,r=some u ∧
   wpAny (model P w) X.A (letOwnedTupleGo tg (.ref it) u) (fun _ s2=>∃ x H',Inv X pins σ H' s2/\RelV x u/\J.yld i H x H'/\tn (i+1) s2.heap/\∀ b∈fp,H' b=none) E s1) E s
 done:∀ (X:Cx),X.prog=P->X.w=w->X.K=K->X.calm=true->∀ (i:Nat) (pins:List (Addr × Obj)) (s:Shared) (σ:St) (H:Hp) (E:Value->Shared->Prop),Inv X pins σ H s->(∀ b∈fp,FpOk X pins H b)->tn i s.heap->J.stop i H →
  wpAny (model P w) X.A (pyNext (.ref it)) (fun r s1=>r=none/\Inv X pins σ H s1) E s
 self:∀ (A:Around) (i:Nat) (s:Shared) (Q:Value->Shared->Prop) (E:Value->Shared->Prop),tn i s.heap->Q (.ref it) s->wpAny (model P w) A (pyIter (.ref it)) Q E s
abbrev TI:=St->Hp->(It->Hp->Prop)->Prop
def PIE (X:Cx) (pins:List (Addr × Obj)) (σ:St) (tg:Expr) (R:It->Hp->Prop) (itv:Value) (s2:Shared):Prop :=
 ∃ (it:Addr) (fp:List Addr) (tn:Nat->Heap->Prop) (J:It) (H':Hp),itv=.ref it/\Inv X pins σ H' s2/\Turn X.prog X.w X.K tg J fp it tn/\tn 0 s2.heap/\(∀ b∈fp,FpOk X pins H' b)/\R J H'
def PI (X:Cx) (tg iter:Expr) (wi:TI):Prop :=
 ∀ (pins:List (Addr × Obj)) (s:Shared) (σ:St) (H:Hp) (R:It->Hp->Prop),Inv X pins σ H s->wi σ H R →
  wpAny (model X.prog X.w) X.A (eval iter X.env) (fun v s1=>wpAny (model X.prog X.w) X.A (pyIter v) (PIE X pins σ tg R) X.xe s1) X.xe s
theorem jW {it:Addr}{u:Value}{o:Obj}{n:String}{vs:Array Value} (ho:s.heap.get? it=some o) (hc:o.cls=.type n) (hd:o.data=.fields vs)
  (hn:["enumerate", "zip", "dict_itemiterator", "dict_reverseitemiterator", "odict_iterator", "itertools.zip_longest", "itertools.pairwise"].contains n=false) (hQ:Q () s):wpAny M A (letOwnedTupleGo tg (.ref it) u) Q E s:=by
 unfold letOwnedTupleGo
 cases tg <;> first
  | exact ab2 hQ
  | (cases u <;> first
    | exact ab2 hQ
    | (refine zT (wpAny_load ho ?_)
       rw [hc,hd]
       show wpAny M A (if (["enumerate", "zip", "dict_itemiterator", "dict_reverseitemiterator", "odict_iterator", "itertools.zip_longest", "itertools.pairwise"].contains n && vs[0]? == some (rawInt _))=true then _ else _) Q E s
       rw [if_neg (by intro h;rw [hn,Bool.false_and] at h;cases h)]
       exact ab2 hQ))
def Itl (K:PySem.W.Frag) (a:Addr):It :=
 ⟨fun i H=>∃ xs x,SqL K H a xs/\xs[i]?=some x,fun i H x H'=>H'=H/\∀ xs,SqL K H a xs->xs[i]?=some x,fun i H=>∃ xs,SqL K H a xs/\xs.length<=i⟩
def Itt (K:PySem.W.Frag) (a:Addr):It :=
 ⟨fun i H=>∃ xs x,SqT K H a xs/\xs[i]?=some x,fun i H x H'=>H'=H/\∀ xs,SqT K H a xs->xs[i]?=some x,fun i H=>∃ xs,SqT K H a xs/\xs.length<=i⟩
def Itr (lo:Int) (n:Nat):It:=⟨fun i _=>i < n,fun i H x H'=>H'=H/\x=.int (lo+i),fun i _=>n<=i⟩
theorem sB (a it:Addr):Turn P w K tg (Itl K a) [it] it (fun i h=>h.IsListIter it a i) where
 mem:=by simp
 obj:=fun i h st b hb=>by
  have e:b=it:=by simpa using hb
  subst e;obtain ⟨o,e,c,d⟩:=st;exact ⟨o,e,fun v z=>by rw [d] at z;cases z⟩
 keep:=fun i h h' st k=>st.at fun o e=>k it (by simp) o e
 item:=by
  intro X hP hw hK hc i g s σ H E I hf st hg;subst hP hw hK;obtain ⟨xs,x,hq,hx⟩:=hg;obtain ⟨r,rv,p,hz⟩:=I.list hq;obtain ⟨u,hu,ru⟩:=rv.get hx;obtain ⟨f0,f1,f2,f3,f4,f5⟩:=hf it (by simp)
  refine wpAny_pyNext_list_item st p.isList (x:=u) (by simpa using hu) fun h' l sb=>?_
  have I1:Inv X g σ H { s with heap:=h' }:=I.turned (t':=s.toks) (fun b o hb e=>(sb.2 b hb).trans e) f0 f1 f3 f4 f5;obtain ⟨o,e,c,d⟩:=id l;exact ⟨u,rfl,jW (s:={ s with heap:=h' }) e c d (by decide) ⟨x,H,I1,ru,⟨rfl,fun ys hy=>by rw [I.list_inj hy hq];exact hx⟩,l,fun b hb=>(hf b hb).1⟩⟩
 done:=by
  intro X hP hw hK hc i g s σ H E I hf st hg;subst hP hw hK;obtain ⟨xs,hq,hx⟩:=hg;obtain ⟨r,rv,p,hz⟩:=I.list hq;obtain ⟨f0,f1,f2,f3,f4,f5⟩:=hf it (by simp)
  have hl:=rv.length;exact wpAny_pyNext_list_end (I.ok.hd hc) st p.isList (by simp;omega) fun h' eb=>⟨rfl,I.turned (t':=s.toks) (fun b o hb e=>eb b o hb e) f0 f1 f3 f4 f5⟩
 self:=fun _ _ _ _ _ st h=>wpAny_pyIter_listiter st h
theorem rA (a it:Addr):Turn P w K tg (Itt K a) [it] it (fun i h=>h.IsTupleIter it a i) where
 mem:=by simp
 obj:=fun i h st b hb=>by
  have e:b=it:=by simpa using hb
  subst e;obtain ⟨o,e,c,d⟩:=st;exact ⟨o,e,fun v z=>by rw [d] at z;cases z⟩
 keep:=fun i h h' st k=>st.at fun o e=>k it (by simp) o e
 item:=by
  intro X hP hw hK hc i l s σ H E I hf st hg;subst hP hw hK;obtain ⟨xs,x,hq,hx⟩:=hg;obtain ⟨g,rv,p,hz⟩:=I.tuple hq;obtain ⟨u,hu,ru⟩:=rv.get hx;obtain ⟨f0,f1,f2,f3,f4,f5⟩:=hf it (by simp)
  refine wpAny_pyNext_tuple_item st (show s.heap.IsTuple a g.toArray from p) (x:=u) (by simpa using hu) fun h' r sb=>?_
  have I1:Inv X l σ H { s with heap:=h' }:=I.turned (t':=s.toks) (fun b o hb e=>(sb.2 b hb).trans e) f0 f1 f3 f4 f5;obtain ⟨o,e,c,d⟩:=id r;exact ⟨u,rfl,jW (s:={ s with heap:=h' }) e c d (by decide) ⟨x,H,I1,ru,⟨rfl,fun ys hy=>by rw [I.tuple_inj hy hq];exact hx⟩,r,fun b hb=>(hf b hb).1⟩⟩
 done:=by
  intro X hP hw hK hc i l s σ H E I hf st hg;subst hP hw hK;obtain ⟨xs,hq,hx⟩:=hg;obtain ⟨g,rv,p,hz⟩:=I.tuple hq;obtain ⟨f0,f1,f2,f3,f4,f5⟩:=hf it (by simp)
  have hl:=rv.length;exact wpAny_pyNext_tuple_end (I.ok.hd hc) st (show s.heap.IsTuple a g.toArray from p) (by simp;omega) fun h' eb=>⟨rfl,I.turned (t':=s.toks) (fun b o hb e=>eb b o hb e) f0 f1 f3 f4 f5⟩
 self:=fun _ _ _ _ _ st h=>wpAny_pyIter_tupleiter st h
theorem rB (it:Addr) (lo:Int) (n:Nat):Turn P w K tg (Itr lo n) [it] it (fun i h=>IsRangeIter h it (lo+(i:Nat) * 1) ((n:Int) - (i:Nat)) 1) where
 mem:=by simp
 obj:=fun i h st b hb=>by
  have e:b=it:=by simpa using hb
  subst e
  exact ⟨_,st,fun v z=>by
   have z':Data.fields _=Data.cell v:=z
   cases z'⟩
 keep:=fun i h h' st k=>k it (by simp) _ st
 item:=by
  intro X hP hw hK hc i g s σ H E I hf st hg;subst hP hw hK;obtain ⟨f0,f1,f2,f3,f4,f5⟩:=hf it (by simp)
  have W:=Walks.range (prog:=X.prog) (w:=X.w) (I.ok.hd hc) it lo 1 n;refine W.item i s _ _ hg st fun v h' tk hv l kk=>?_;obtain ⟨t,rfl⟩:=hv
  have I1:Inv X g σ H { s with heap:=h',toks:=tk }:=I.turned (fun b o hb e=>kk b o (by simpa using hb) e) f0 f1 f3 f4 f5
  refine ⟨_,rfl,jW (s:={ s with heap:=h',toks:=tk }) (n:="range_iterator") l rfl rfl (by decide) ⟨.int (lo+i),H,I1,⟨t,?_⟩,⟨rfl,rfl⟩,l,fun b hb=>(hf b hb).1⟩⟩
  rw [Int.mul_one]
 done:=by
  intro X hP hw hK hc i g s σ H E I hf st hg;subst hP hw hK;obtain ⟨f0,f1,f2,f3,f4,f5⟩:=hf it (by simp)
  exact wpAny_pyNext_range_end (I.ok.hd hc) st (by have:n<=i:=hg;omega) fun h' eb=>⟨rfl,I.turned (t':=s.toks) (fun b o hb e=>eb b o hb e) f0 f1 f3 f4 f5⟩
 self:=fun _ _ _ _ _ st h=>wpAny_pyIter_rangeiter st h
variable {fp:List Addr}
section
variable {X:Cx}{tg:Expr}
inductive pK (K:PySem.W.Frag) (R:It->Hp->Prop) (x:V) (H1:Hp):Prop
 | mk:∀ a,x=.ref a->((∃ xs,SqL K H1 a xs))->R (Itl K a) H1->pK K R x H1
def wE (K:PySem.W.Frag) (tl:TE):TI:=fun σ H R=>tl σ H fun x H1=>pK K R x H1
inductive sE (K:PySem.W.Frag) (R:It->Hp->Prop) (x:V) (H1:Hp):Prop
 | mk:∀ a,x=.ref a->((∃ xs,SqT K H1 a xs))->R (Itt K a) H1->sE K R x H1
def iTup (K:PySem.W.Frag) (tl:TE):TI:=fun σ H R=>tl σ H fun x H1=>sE K R x H1
theorem aJ {l:Expr}{tl:TE} (hl:PE X l tl):PI X tg l (wE X.K tl):=by
 intro g s σ H R I h;refine thn (hl g s σ H _ I h) fun v s1 ⟨x,H1,I1,r1,q1⟩=>?_;obtain ⟨a,e,⟨xs,hq⟩,q⟩:=q1;subst e
 cases r1;obtain ⟨r,rv,p,hz⟩:=I1.list hq;refine aj9 p.isList ?_;refine ⟨s1.heap.objs.size,[s1.heap.objs.size],_,_,H1,rfl,I1.kept (t':=s1.toks) fun b o e=>zP _ e,sB a _,⟨_,aa8 _ rfl,rfl,rfl⟩,fun b hb=>?_,q⟩
 have e:b=s1.heap.objs.size:=by simpa using hb
 subst e;exact I1.fpOk (zQ _) (I1.hok.fresh (zQ _))
theorem sF {l:Expr}{tl:TE} (hl:PE X l tl):PI X tg l (iTup X.K tl):=by
 intro g s σ H R I h;refine thn (hl g s σ H _ I h) fun v s1 ⟨x,H1,I1,r1,q1⟩=>?_;obtain ⟨a,e,⟨xs,hq⟩,q⟩:=q1;subst e
 cases r1;obtain ⟨r,rv,p,hz⟩:=I1.tuple hq;refine wpAny_pyIter_tuple (show s1.heap.IsTuple a r.toArray from p) ?_;refine ⟨s1.heap.objs.size,[s1.heap.objs.size],_,_,H1,rfl,I1.kept (t':=s1.toks) fun b o e=>zP _ e,rA a _,⟨_,aa8 _ rfl,rfl,rfl⟩,fun b hb=>?_,q⟩
 have e:b=s1.heap.objs.size:=by simpa using hb
 subst e;exact I1.fpOk (zQ _) (I1.hok.fresh (zQ _))
theorem m4 {R:It->Hp->Prop}{lo hi:Int}{t u v:Tok}{tk:Nat} (I:Inv X pins σ H s) (h1:-(2 ^ 62)<=lo) (h2:lo < 2 ^ 62) (h3:-(2 ^ 62)<=hi) (h4:hi < 2 ^ 62)
  (q:R (Itr lo (hi - lo).toNat) H):wpAny (model X.prog X.w) X.A (pyIter (.ref s.heap.objs.size)) (PIE X pins σ tg R) E { s with heap:=s.heap.push { cls:=.type "range",data:=.fields #[.int lo t,.int hi u,.int 1 v] },toks:=tk }:=by
 refine wpAny_pyIter_range (IsRange.new ..) (small_one h1 h2 h3 h4) ?_
 have I1:Inv X pins σ H { s with heap:=s.heap.push { cls:=.type "range",data:=.fields #[.int lo t,.int hi u,.int 1 v] },toks:=tk }:=I.kept fun b o e=>zP _ e
 refine ⟨(s.heap.push { cls:=.type "range",data:=.fields #[.int lo t,.int hi u,.int 1 v] }).objs.size,[(s.heap.push { cls:=.type "range",data:=.fields #[.int lo t,.int hi u,.int 1 v] }).objs.size],_,_,H,rfl,
  I1.kept (t':=tk) fun b o e=>zP _ e,rB _ lo (hi - lo).toNat,?_,fun b hb=>?_,q⟩
 ·have e1:lo+((0:Nat):Int) * 1=lo:=by simp
  have e2:(((hi - lo).toNat:Nat):Int) - ((0:Nat):Int)=Builtin.Range.rangeSize lo hi 1:=by rw [rangeSize_one];split <;> omega
  show IsRangeIter _ _ (lo+((0:Nat):Int) * 1) ((((hi - lo).toNat:Nat):Int) - ((0:Nat):Int)) 1
  rw [e1,e2];exact aa8 _ rfl
 ·have e:b=(s.heap.push { cls:=.type "range",data:=.fields #[.int lo t,.int hi u,.int 1 v] }).objs.size:=by simpa using hb
  subst e;exact I1.fpOk (zQ _) (I1.hok.fresh (zQ _))
inductive pM (R:It->Hp->Prop) (vs:List V) (H1:Hp):Prop
 | mk:∀ j:Int,vs=[.int j]->-(2 ^ 62)<=j->j < 2 ^ 62->R (Itr 0 j.toNat) H1->pM R vs H1
def zm (ta:TA):TI:=fun σ H R=>ta σ H fun vs H1=>pM R vs H1
inductive pN (R:It->Hp->Prop) (vs:List V) (H1:Hp):Prop
 | mk:∀ i j:Int,vs=[.int i,.int j]->(-(2 ^ 62)<=i/\i < 2 ^ 62/\-(2 ^ 62)<=j/\j < 2 ^ 62)->R (Itr i (j - i).toNat) H1->pN R vs H1
def zn (ta:TA):TI:=fun σ H R=>ta σ H fun vs H1=>pN R vs H1
theorem aW {a:Expr}{ta:TA}{p:Pos} (hg:Gl X "range") (hm:X.mg "range" = none) (ha:PA X [a] ta) (hs:starEach [a] X.env=[(false,eval a X.env)]:=by rfl):PI X tg (.Call (.Name "range" p) [a] [] pos) (zm ta):=by
 intro g s σ H R I h;refine Call_ (cA I hg hm boot_range (ag3 (thn (ha pos g s σ H _ I h) fun us s1 ⟨vs,H1,I1,r1,q1⟩=>?_) hs rfl));obtain ⟨j,e,q1,q2,q⟩:=q1;subst e
 cases r1 with
 | cons r rr =>
  cases rr;obtain ⟨t,rfl⟩:=r;exact call_range_1 (m4 I1 (by omega) (by omega) q1 q2 (by simpa using q))
theorem sH {a b:Expr}{ta:TA}{p:Pos} (hg:Gl X "range") (hm:X.mg "range" = none) (ha:PA X [a,b] ta) (hs:starEach [a,b] X.env=[(false,eval a X.env),(false,eval b X.env)]:=by rfl) (hs2:starEach [b] X.env=[(false,eval b X.env)]:=by rfl) :
  PI X tg (.Call (.Name "range" p) [a,b] [] pos) (zn ta):=by
 intro g s σ H R I h;refine Call_ (cA I hg hm boot_range (ag3 (thn (ha pos g s σ H _ I h) fun us s1 ⟨vs,H1,I1,r1,q1⟩=>?_) (by rw [hs,hs2]) (by rw [hs2];rfl)))
 obtain ⟨i,j,e,⟨q1,q2,q3,q4⟩,q⟩:=q1;subst e
 cases r1 with
 | cons r rr =>
  cases rr with
  | cons r' rr =>
   cases rr;obtain ⟨t,rfl⟩:=r;obtain ⟨t',rfl⟩:=r';exact call_range_2 (m4 I1 q1 q2 q3 q4 q)
def tFor (wi:TI) (g:TG) (tb:TS):TS:=fun D σ H=>wi σ H fun J H1=>∃ W:Nat->Nat->St->Hp->Prop,(∃ m,W 0 m σ H1)/\∀ i m σ H,W i m σ H →
 (J.stop i H/\D.nx σ H)\/(J.go i H/\∃ N:St->Hp->Prop,(∀ σ' H',N σ' H'->∃ m',m' < m/\W (i+1) m' σ' H')/\∀ x H',J.yld i H x H'->g x σ H' fun σ2 H2=>tb { D with nx:=N,ct:=N,bk:=D.nx } σ2 H2)
def eB (fp:List Addr) (h:Heap):List (Addr × Obj):=fp.filterMap fun b=>(h.get? b).map fun o=>(b,o)
theorem cW {o:Obj} (hb:b∈fp) (e:h.get? b=some o):(b,o)∈eB fp h:=List.mem_filterMap.mpr ⟨b,hb,by rw [e];rfl⟩
theorem sI {p:Addr × Obj} (hp:p∈eB fp h):p.1∈fp/\h.get? p.1=some p.2:=by
 obtain ⟨b,hb,e⟩:=List.mem_filterMap.mp hp
 cases q:h.get? b with
 | none=>rw [q] at e;cases e
 | some o =>
  rw [q] at e
  have e':(b,o)=p:=zX e;subst e';exact ⟨hb,q⟩
theorem Inv.pinned (I:Inv X pins σ H s) (hf:∀ b∈fp,FpOk X pins H b) (ho:∀ b∈fp,∃ o,s.heap.get? b=some o/\∀ v,o.data≠.cell v):Inv X (pins++eB fp s.heap) σ H s :=
 I.pins_of fun p hp=>(ab5.mp hp).elim (fun z=>I.pin p (ac6 _ z)) fun z=>by
  obtain ⟨hb,e⟩:=sI z;obtain ⟨f0,f1,f2,_⟩:=hf p.1 hb;obtain ⟨o,e',d⟩:=ho p.1 hb;rw [e] at e';cases e';exact ⟨e,f0,f1,f2,d⟩
theorem Inv.unpinned {pl:List (Addr × Obj)} (I:Inv X (pins++pl) σ H s):Inv X pins σ H s:=I.pins_of fun p hp=>I.pin p (ac6 _ (ai6 _ hp))
theorem sJ {iter:Expr}{wi:TI} (hp:PassesOwn (model X.prog X.w) X.A X.env X.xe) (hc:X.calm=true) (hi:PI X tg iter wi) (hg:PG X tg g) (hb:PSs X body tb)
  (hs:∀ x,foldedSetIterable iter X.env x=pure x:=by intro _;rfl):PS X (.For tg iter body [] pos) (tFor wi g tb):=by
 intro l s σ H D I h;refine wpAny_For (thn (hi l s σ H _ I h) fun v s1 h1=>thn h1 fun Q s2 h2=>?_) hs;obtain ⟨it,fp,tn,J,H2,e,I2,T,P,f2,W,⟨m0,w0⟩,turn⟩:=h2;subst e
 have B:∀ {H':Hp},(∀ b∈fp,H' b=none)->∀ b∈fp,FpOk X l H' b:=fun hn b hb=>⟨hn b hb,(f2 b hb).2⟩;refine codeAny_forLoop_any (fun n s'=>∃ i σ' H',Inv X l σ' H' s'/\tn i s'.heap/\(∀ b∈fp,H' b=none)/\W i n σ' H') ?_ m0 ⟨0,σ,H2,I2,P,fun b hb=>(f2 b hb).1,w0⟩;rintro n s3 ⟨i,σ3,H3,I3,G,E,w3⟩;rcases turn i n σ3 H3 w3 with ⟨stop,qn⟩ | ⟨go,N,hN,step⟩
 ·refine aj7 hp (thn (T.done X rfl rfl rfl hc i l s3 σ3 H3 X.xe I3 (B E) G stop) fun r s4 ⟨hr,I4⟩=>?_)
  subst hr;exact wpAny_execs_nil ⟨σ3,H3,I4,qn⟩
 ·refine aj7 hp (thn (T.item X rfl rfl rfl hc i l s3 σ3 H3 X.xe I3 (B E) G go) fun r s4 ⟨u,hr,h4⟩=>?_)
  subst hr;refine aj7 hp (thn h4 fun _ s5 ⟨x,H5,I5,r5,y5,C,L⟩=>?_)
  have O:=I5.pinned (B L) (T.obj _ _ C);refine aj7 hp (thn (hg _ s5 σ3 H5 x u _ O r5 (step x H5 y5)) fun _ s6 ⟨σ6,H6,I6,q6⟩=>?_);refine aj7 hp (thn (hb _ s6 σ6 H6 _ I6 q6) fun f s7 q7=>?_)
  have again:∀ {σ7:St}{H7:Hp},Inv X (l++eB fp s5.heap) σ7 H7 s7->N σ7 H7->∃ m,m < n/\∃ i σ' H',Inv X l σ' H' s7/\tn i s7.heap/\(∀ b∈fp,H' b=none)/\W i m σ' H':=fun {σ7 H7} I7 n7=>by
   obtain ⟨m',hm,w7⟩:=hN σ7 H7 n7;refine ⟨m',hm,i+1,σ7,H7,I7.unpinned,T.keep _ _ _ C fun b hb o e=>(I7.pin (b,o) (ac6 _ (ac6 _ (cW hb e)))).1,fun b hb=>?_,w7⟩;obtain ⟨o,e,d⟩:=T.obj _ _ C b hb;exact (I7.pin (b,o) (ac6 _ (ac6 _ (cW hb e)))).2.1
  cases f with
  | next=>obtain ⟨σ7,H7,I7,n7⟩:=q7;exact again I7 n7
  | cont=>obtain ⟨σ7,H7,I7,n7⟩:=q7;exact again I7 n7
  | brk=>obtain ⟨σ7,H7,I7,q7⟩:=q7;exact ⟨σ7,H7,I7.unpinned,q7⟩
  | ret v=>obtain ⟨x7,σ7,H7,I7,r7,q7⟩:=q7;exact ⟨x7,σ7,H7,I7.unpinned,r7,q7⟩
end
variable {D:Ends}
theorem bR {xs:List V} (Pv:Nat->St->Hp->Prop) (h0:Pv 0 σ H) (hl:∀ i σ H,i<=xs.length->Pv i σ H->SqL K H a xs)
  (hs:∀ i x σ H,xs[i]?=some x->Pv i σ H->g x σ H fun σ2 H2=>tb { D with nx:=Pv (i+1),ct:=Pv (i+1),bk:=D.nx } σ2 H2) (hd:∀ σ H,Pv xs.length σ H->D.nx σ H) :
  ∃ W:Nat->Nat->St->Hp->Prop,(∃ m,W 0 m σ H)/\∀ i m σ H,W i m σ H →
   ((Itl K a).stop i H/\D.nx σ H)\/((Itl K a).go i H/\∃ N:St->Hp->Prop,(∀ σ' H',N σ' H'->∃ m',m' < m/\W (i+1) m' σ' H')/\∀ x H',(Itl K a).yld i H x H'->g x σ H' fun σ2 H2=>tb { D with nx:=N,ct:=N,bk:=D.nx } σ2 H2):=by
 refine ⟨fun i m σ H=>m=xs.length - i/\i<=xs.length/\Pv i σ H,⟨xs.length,by simp,ab1 _,h0⟩,?_⟩
 rintro i m σ H ⟨rfl,hi,p⟩
 have q:=hl i σ H hi p
 by_cases hlt:i < xs.length
 ·refine .inr ⟨⟨xs,xs[i],q,by simp [hlt]⟩,Pv (i+1),fun σ' H' p'=>⟨xs.length - (i+1),by omega,rfl,hlt,p'⟩,fun x H' y=>?_⟩
  obtain ⟨e,y⟩:=y;subst e;exact hs i x σ _ (y xs q) p
 ·have e:i=xs.length:=by omega
  subst e;exact .inl ⟨⟨xs,q,zQ _⟩,hd σ H p⟩
theorem wU {xs:List V} (Pv:Nat->St->Hp->Prop) (h0:Pv 0 σ H) (hl:∀ i σ H,i<=xs.length->Pv i σ H->SqT K H a xs)
  (hs:∀ i x σ H,xs[i]?=some x->Pv i σ H->g x σ H fun σ2 H2=>tb { D with nx:=Pv (i+1),ct:=Pv (i+1),bk:=D.nx } σ2 H2) (hd:∀ σ H,Pv xs.length σ H->D.nx σ H) :
  ∃ W:Nat->Nat->St->Hp->Prop,(∃ m,W 0 m σ H)/\∀ i m σ H,W i m σ H →
   ((Itt K a).stop i H/\D.nx σ H)\/((Itt K a).go i H/\∃ N:St->Hp->Prop,(∀ σ' H',N σ' H'->∃ m',m' < m/\W (i+1) m' σ' H')/\∀ x H',(Itt K a).yld i H x H'->g x σ H' fun σ2 H2=>tb { D with nx:=N,ct:=N,bk:=D.nx } σ2 H2):=by
 refine ⟨fun i m σ H=>m=xs.length - i/\i<=xs.length/\Pv i σ H,⟨xs.length,by simp,ab1 _,h0⟩,?_⟩
 rintro i m σ H ⟨rfl,hi,p⟩
 have q:=hl i σ H hi p
 by_cases hlt:i < xs.length
 ·refine .inr ⟨⟨xs,xs[i],q,by simp [hlt]⟩,Pv (i+1),fun σ' H' p'=>⟨xs.length - (i+1),by omega,rfl,hlt,p'⟩,fun x H' y=>?_⟩
  obtain ⟨e,y⟩:=y;subst e;exact hs i x σ _ (y xs q) p
 ·have e:i=xs.length:=by omega
  subst e;exact .inl ⟨⟨xs,q,zQ _⟩,hd σ H p⟩
theorem bO {lo:Int} (Pv:Nat->St->Hp->Prop) (h0:Pv 0 σ H)
  (hs:∀ i σ H,i < n->Pv i σ H->g (.int (lo+i)) σ H fun σ2 H2=>tb { D with nx:=Pv (i+1),ct:=Pv (i+1),bk:=D.nx } σ2 H2) (hd:∀ σ H,Pv n σ H->D.nx σ H) :
  ∃ W:Nat->Nat->St->Hp->Prop,(∃ m,W 0 m σ H)/\∀ i m σ H,W i m σ H →
   ((Itr lo n).stop i H/\D.nx σ H)\/((Itr lo n).go i H/\∃ N:St->Hp->Prop,(∀ σ' H',N σ' H'->∃ m',m' < m/\W (i+1) m' σ' H')/\∀ x H',(Itr lo n).yld i H x H'->g x σ H' fun σ2 H2=>tb { D with nx:=N,ct:=N,bk:=D.nx } σ2 H2):=by
 refine ⟨fun i m σ H=>m=n - i/\i<=n/\Pv i σ H,⟨n,by simp,ab1 _,h0⟩,?_⟩
 rintro i m σ H ⟨rfl,hi,p⟩
 by_cases hlt:i < n
 ·refine .inr ⟨hlt,Pv (i+1),fun σ' H' p'=>⟨n - (i+1),by omega,rfl,hlt,p'⟩,fun x H' y=>?_⟩
  obtain ⟨e,y⟩:=y;subst e y;exact hs i σ _ hlt p
 ·have e:i=n:=by omega
  subst e;exact .inl ⟨zQ _,hd σ H p⟩
abbrev R2:=V->V->Hp->VK->Prop
def OpR (X:Cx) (f:Value->Value->Sem Value) (r:R2):Prop :=
 ∀ (pins:List (Addr × Obj)) (s:Shared) (σ:St) (H:Hp) (x y:V) (v u:Value) (Q:VK),Inv X pins σ H s->RelV x v->RelV y u->r x y H Q →
  wpAny (model X.prog X.w) X.A (f v u) (EP X pins σ Q) X.xe s
def cG (X:Cx) (f:Value) (r:List V->Hp->VK->Prop):Prop :=
 ∀ (pins:List (Addr × Obj)) (s:Shared) (σ:St) (H:Hp) (xs:List V) (us:List Value) (Q:VK),Inv X pins σ H s->Vals xs us->r xs H Q →
  wpAny (model X.prog X.w) X.A (call f us) (EP X pins σ Q) X.xe s
def tOp (r:R2) (ta tb:TE):TE:=fun σ H Q=>ta σ H fun x H1=>tb σ H1 fun y H2=>r x y H2 Q
inductive rI (C:Int->Int->Prop) (g:Int->Int->V) (x y:V) (H:Hp) (Q:VK):Prop
 | mk:∀ i j,x=.int i->y=.int j->C i j->Q (g i j) H->rI C g x y H Q
inductive rI0 (g:Int->Int->V) (x y:V) (H:Hp) (Q:VK):Prop
 | mk:∀ i j,x=.int i->y=.int j->Q (g i j) H->rI0 g x y H Q
variable {r:R2}{f:Value->Value->Sem Value}
section
variable {X:Cx}{a b c:Expr}{ta tb tc:TE}{pos:Pos}
theorem binT (ha:PE X a ta) (hb:PE X b tb) {pins:List (Addr × Obj)}{s:Shared}{σ:St}{H:Hp}{R:V->V->Hp->Prop} (I:Inv X pins σ H s)
  (h:ta σ H fun x H1=>tb σ H1 fun y H2=>R x y H2) {Q:Value->Shared->Prop}{f:Value->Value->Sem Value}
  (hf:∀ v u s2 x y H2,Inv X pins σ H2 s2->RelV x v->RelV y u->R x y H2->wpAny (model X.prog X.w) X.A (f v u) Q X.xe s2) :
  wpAny (model X.prog X.w) X.A (eval a X.env) (fun v s₁=>wpAny (model X.prog X.w) X.A (eval b X.env) (fun u s₂=>wpAny (model X.prog X.w) X.A (f v u) Q X.xe s₂) X.xe s₁) X.xe s:=by
 refine thn (ha pins s σ H _ I h) fun v s1 ⟨x,H1,I1,r1,q1⟩=>?_;refine thn (hb pins s1 σ H1 _ I1 q1) fun u s2 ⟨y,H2,I2,r2,q2⟩=>?_;exact hf v u s2 x y H2 I2 r1 r2 q2
theorem aq {op:Operator} (ho:OpR X (binaryOp op) r) (ha:PE X a ta) (hb:PE X b tb):PE X (.BinOp a op b pos) (tOp r ta tb):=by
 intro g s σ H Q I h;exact wpAny_BinOp (binT ha hb I h fun v u s2 x y H2 I2 rx ry q=>ho g s2 σ H2 x y v u Q I2 rx ry q)
theorem opI {C:Int->Int->Prop}{g:Int->Int->Int}
  (rule:∀ (i j:Int) (t u:Tok) (s:Shared) (Q:Value->Shared->Prop) (E:Value->Shared->Prop),C i j->Q (.int (g i j) s.toks) { s with toks:=s.toks+1 }->wpAny (model X.prog X.w) X.A (f (.int i t) (.int j u)) Q E s) :
  OpR X f (rI C fun i j=>.int (g i j)):=by
 intro l s σ H x y v u Q I rx ry h;obtain ⟨i,j,rfl,rfl,hc,q⟩:=h;obtain ⟨t,rfl⟩:=rx;obtain ⟨t',rfl⟩:=ry;exact rule i j t t' s _ _ hc ⟨.int (g i j),H,I.tok _,⟨_,rfl⟩,q⟩
theorem opI0 {g:Int->Int->Int}
  (rule:∀ (i j:Int) (t u:Tok) (s:Shared) (Q:Value->Shared->Prop) (E:Value->Shared->Prop),Q (.int (g i j) s.toks) { s with toks:=s.toks+1 }->wpAny (model X.prog X.w) X.A (f (.int i t) (.int j u)) Q E s) :
  OpR X f (rI0 fun i j=>.int (g i j)):=by
 intro l s σ H x y v u Q I rx ry h;obtain ⟨i,j,rfl,rfl,q⟩:=h;obtain ⟨t,rfl⟩:=rx;obtain ⟨t',rfl⟩:=ry;exact rule i j t t' s _ _ ⟨.int (g i j),H,I.tok _,⟨_,rfl⟩,q⟩
theorem opB0 {g:Int->Int->Bool}
  (rule:∀ (i j:Int) (t u:Tok) (s:Shared) (Q:Value->Shared->Prop) (E:Value->Shared->Prop),Q (.bool (g i j)) s->wpAny (model X.prog X.w) X.A (f (.int i t) (.int j u)) Q E s) :
  OpR X f (rI0 fun i j=>.bl (g i j)):=by
 intro l s σ H x y v u Q I rx ry h;obtain ⟨i,j,rfl,rfl,q⟩:=h;obtain ⟨t,rfl⟩:=rx;obtain ⟨t',rfl⟩:=ry;exact rule i j t t' s _ _ ⟨.bl (g i j),H,I,rfl,q⟩
def CDiv (i j:Int):Prop:=0 < j/\j < 1073741824
def CPow (i j:Int):Prop:=0<=j/\j<=1000000/\i.natAbs < 2 ^ 64
def CMul (i j:Int):Prop:=(-(2 ^ 64) < i/\i < 2 ^ 64)\/(-(2 ^ 64) < j/\j < 2 ^ 64)
theorem CMul.ok {i j:Int} (h:CMul i j):IntMulOk i j:=by
 rcases h with ⟨h1,h2⟩ | ⟨h1,h2⟩
 ·exact .of_left (intBits_le_64 h1 h2)
 ·exact .of_right (intBits_le_64 h1 h2)
theorem aO:OpR X (binaryOp .Add) (rI0 fun i j=>.int (i+j)):=opI0 fun _ _ _ _ _ _ _ q=>add_int q
theorem eC:OpR X (binaryOp .Sub) (rI0 fun i j=>.int (i - j)):=opI0 fun _ _ _ _ _ _ _ q=>sub_int q
theorem cM:OpR X (binaryOp .Mult) (rI CMul fun i j=>.int (i * j)):=opI fun _ _ _ _ _ _ _ hc q=>mul_int q hc.ok
theorem cC:OpR X (binaryOp .FloorDiv) (rI CDiv fun i j=>.int (i / j)):=opI fun i j _ _ _ _ _ hc q=>by
 have h1:(0:Int) < j:=hc.1
 have h2:j < 1073741824:=hc.2;exact floordiv_int (by omega) (by rw [Int.fdiv_eq_ediv_of_nonneg i (by omega)];exact q) (.inl (PyProof.noPylong_small (by omega)))
theorem aX:OpR X (binaryOp .Mod) (rI (fun _ j=>0 < j) fun i j=>.int (i % j)):=opI fun i j _ _ _ _ _ hc q=>by
 have h1:(0:Int) < j:=hc;exact mod_int' (by omega) (by rw [Int.fmod_eq_emod_of_nonneg i (by omega)];exact q)
theorem yH:OpR X (binaryOp .Pow) (rI CPow fun i j=>.int (i ^ j.toNat)):=opI fun _ _ _ _ _ _ _ hc q=>pow_int_small hc.1 hc.2.1 hc.2.2 q
theorem jX:OpR X (binaryOp .LShift) (rI CPow fun i j=>.int (i * 2 ^ j.toNat)):=opI fun _ _ _ _ _ _ _ hc q=>lshift_int_small hc.1 hc.2.1 hc.2.2 q
theorem dE:OpR X (binaryOp .BitXor) (rI0 fun i j=>.int (Builtin.bitXor i j)):=opI0 fun _ _ _ _ _ _ _ q=>xor_int q
end
def scal:V->V->Bool
 | .non,.non=>true | .non,.int _=>true | .int _,.non=>true | .non,.bl _=>true | .bl _,.non=>true | .non,.str _=>true | .str _,.non=>true
 | .int _,.int _=>true | .bl _,.bl _=>true | .str _,.str _=>true | .byt _,.byt _=>true
 | .int _,.str _=>true | .str _,.int _=>true | .bl _,.str _=>true | .str _,.bl _=>true
 | _,_=>false
def rEq:R2:=fun x y H Q=>scal x y=true/\Q (.bl (decide (x=y))) H
def rNe:R2:=fun x y H Q=>scal x y=true/\Q (.bl (!decide (x=y))) H
theorem pO {i j:Int}:decide (V.int i=V.int j)=(i == j):=by
 rw [al2]
 simp
theorem sK {i j:Bool}:decide (V.bl i=V.bl j)=(i == j):=by
 rw [al2]
 simp
theorem pP {i j:Str}:decide (V.str i=V.str j)=(i == j):=by
 rw [al2]
 simp
theorem pQ {i j:Array UInt8}:decide (V.byt i=V.byt j)=(i.toList == j.toList):=by
 rw [al2]
 cases i
 cases j
 simp
variable {us:List Value}
section
variable {X:Cx}{a b c:Expr}{ta tb tc:TE}{pos:Pos}
theorem aM {Q:VK}{k k':Bool} (I:Inv X pins σ H s) (q:Q (.bl k) H) (e:k=k'):EP X pins σ Q (.bool k') s:=by
 subst e;exact ⟨.bl k,H,I,rfl,q⟩
theorem bU:OpR X (compareOp .Eq) rEq:=by
 intro g s σ H x y v u Q I rx ry h;obtain ⟨hs,q⟩:=h
 cases x with
 | non =>
  cases rx
  cases y with
  | non=>cases ry;exact PySem.EqNone.eq_none_none (aM I q (by simp))
  | bl j=>cases ry;exact PySem.EqNone.eq_none_bool (aM I q (by simp))
  | int j=>obtain ⟨t',rfl⟩:=ry;exact PySem.EqNone.eq_none_int (aM I q (by simp))
  | str j=>obtain ⟨t',rfl⟩:=ry;exact PySem.EqNone.eq_none_str (aM I q (by simp))
  | _=>exact absurd (show false=true from hs) aa3
 | bl i =>
  cases rx
  cases y with
  | non=>cases ry;exact PySem.EqNone.eq_bool_none (aM I q (by simp))
  | bl j=>cases ry;exact eq_bool (aM I q sK)
  | str j=>obtain ⟨t',rfl⟩:=ry;exact PySem.EqMixed.eq_bool_str (aM I q (by simp))
  | _=>exact absurd (show false=true from hs) aa3
 | int i =>
  obtain ⟨t,rfl⟩:=rx
  cases y with
  | non=>cases ry;exact PySem.EqNone.eq_int_none (aM I q (by simp))
  | int j=>obtain ⟨t',rfl⟩:=ry;exact eq_int (aM I q pO)
  | str j=>obtain ⟨t',rfl⟩:=ry;exact PySem.EqMixed.eq_int_str (aM I q (by simp))
  | _=>exact absurd (show false=true from hs) aa3
 | str i =>
  obtain ⟨t,rfl⟩:=rx
  cases y with
  | non=>cases ry;exact PySem.EqNone.eq_str_none (aM I q (by simp))
  | bl j=>cases ry;exact PySem.EqMixed.eq_str_bool (aM I q (by simp))
  | int j=>obtain ⟨t',rfl⟩:=ry;exact PySem.EqMixed.eq_str_int (aM I q (by simp))
  | str j=>obtain ⟨t',rfl⟩:=ry;exact eq_str (aM I q pP)
  | _=>exact absurd (show false=true from hs) aa3
 | byt i =>
  obtain ⟨t,rfl⟩:=rx
  cases y with
  | byt j=>obtain ⟨t',rfl⟩:=ry;exact PySem.W.eq_bytes (aM I q pQ)
  | _=>exact absurd (show false=true from hs) aa3
 | _=>cases y <;> exact absurd (show false=true from hs) aa3
theorem eW:OpR X (compareOp .NotEq) rNe:=by
 intro g s σ H x y v u Q I rx ry h;obtain ⟨hs,q⟩:=h
 cases x with
 | non =>
  cases rx
  cases y with
  | non=>cases ry;exact PySem.EqNone.ne_none_none (aM I q (by simp))
  | bl j=>cases ry;exact PySem.EqNone.ne_none_bool (aM I q (by simp))
  | int j=>obtain ⟨t',rfl⟩:=ry;exact PySem.EqNone.ne_none_int (aM I q (by simp))
  | str j=>obtain ⟨t',rfl⟩:=ry;exact PySem.EqNone.ne_none_str (aM I q (by simp))
  | _=>exact absurd (show false=true from hs) aa3
 | bl i =>
  cases rx
  cases y with
  | non=>cases ry;exact PySem.EqNone.ne_bool_none (aM I q (by simp))
  | bl j=>cases ry;exact ne_bool (aM I q (congrArg not sK))
  | str j=>obtain ⟨t',rfl⟩:=ry;exact PySem.EqMixed.ne_bool_str (aM I q (by simp))
  | _=>exact absurd (show false=true from hs) aa3
 | int i =>
  obtain ⟨t,rfl⟩:=rx
  cases y with
  | non=>cases ry;exact PySem.EqNone.ne_int_none (aM I q (by simp))
  | int j=>obtain ⟨t',rfl⟩:=ry;exact ne_int (aM I q (congrArg not pO))
  | str j=>obtain ⟨t',rfl⟩:=ry;exact PySem.EqMixed.ne_int_str (aM I q (by simp))
  | _=>exact absurd (show false=true from hs) aa3
 | str i =>
  obtain ⟨t,rfl⟩:=rx
  cases y with
  | non=>cases ry;exact PySem.EqNone.ne_str_none (aM I q (by simp))
  | bl j=>cases ry;exact PySem.EqMixed.ne_str_bool (aM I q (by simp))
  | int j=>obtain ⟨t',rfl⟩:=ry;exact PySem.EqMixed.ne_str_int (aM I q (by simp))
  | str j=>obtain ⟨t',rfl⟩:=ry;exact ne_str (aM I q (congrArg not pP))
  | _=>exact absurd (show false=true from hs) aa3
 | byt i =>
  obtain ⟨t,rfl⟩:=rx
  cases y with
  | byt j=>obtain ⟨t',rfl⟩:=ry;exact PySem.W.ne_bytes (aM I q (congrArg not pQ))
  | _=>exact absurd (show false=true from hs) aa3
 | _=>cases y <;> exact absurd (show false=true from hs) aa3
theorem d8:OpR X (compareOp .Lt) (rI0 fun i j=>.bl (decide (i < j))):=opB0 fun _ _ _ _ _ _ _ q=>lt_int q
theorem zo:OpR X (compareOp .LtE) (rI0 fun i j=>.bl (decide (i<=j))):=opB0 fun _ _ _ _ _ _ _ q=>le_int q
theorem cX:OpR X (compareOp .Gt) (rI0 fun i j=>.bl (decide (j < i))):=opB0 fun _ _ _ _ _ _ _ q=>gt_int q
theorem jY:OpR X (compareOp .GtE) (rI0 fun i j=>.bl (decide (j<=i))):=opB0 fun _ _ _ _ _ _ _ q=>ge_int q
inductive m5 (x y:V) (H:Hp) (Q:VK):Prop
 | mk:y=.non->Q (.bl (decide (x=.non))) H->m5 x y H Q
theorem ig:OpR X (compareOp .Is) (m5):=by
 intro g s σ H x y v u Q I rx ry h;obtain ⟨rfl,q⟩:=h
 cases ry;refine is_none_gen (aM I q ?_)
 cases x <;> first
  | (cases rx;rfl)
  | (obtain ⟨t,rfl⟩:=rx;rfl)
inductive lB (x y:V) (H:Hp) (Q:VK):Prop
 | mk:y=.non->Q (.bl (!decide (x=.non))) H->lB x y H Q
theorem bZ:OpR X (compareOp .IsNot) (lB):=by
 intro g s σ H x y v u Q I rx ry h;obtain ⟨rfl,q⟩:=h
 cases ry;refine isnot_none_gen (aM I q ?_)
 cases x <;> first
  | (cases rx;rfl)
  | (obtain ⟨t,rfl⟩:=rx;rfl)
theorem ax (b:Expr) {op:CmpOp} (h:op≠.In:=by decide) (h2:op≠.NotIn:=by decide):behindInMarks op b=false:=by
 have e1:(op == CmpOp.In)=false:=by cases op <;> first | rfl | exact absurd rfl h
 have e2:(op == CmpOp.NotIn)=false:=by cases op <;> first | rfl | exact absurd rfl h2
 cases b <;> simp [behindInMarks,e1,e2]
theorem dP (ho:OpR X (compareOp op) r) (ha:PE X a ta) (hb:PE X b tb) (hm:behindInMarks op b=false):PE X (.Compare a [op] [b] pos) (tOp r ta tb):=by
 intro g s σ H Q I h;exact wpAny_Compare1 (binT ha hb I h fun v u s2 x y H2 I2 rx ry q=>ho g s2 σ H2 x y v u Q I2 rx ry q) hm
inductive pR (Q:Bool->Hp->Prop) (x:V) (H':Hp):Prop
 | mk:∀ k,x=.bl k->Q k H'->pR Q x H'
def zp (t:TE):TT:=fun σ H Q=>t σ H fun x H'=>pR Q x H'
theorem au (ho:OpR X (compareOp op) r) (ha:PE X a ta) (hb:PE X b tb) (hm:behindInMarks op b=false):PT X (.Compare a [op] [b] pos) (zp (tOp r ta tb)):=by
 intro g s σ H Q I h
 refine wpAny_isTrue_Compare1 (thn (ha g s σ H _ I h) fun v s1 ⟨x,H1,I1,r1,q1⟩=>thn (hb g s1 σ H1 _ I1 q1) fun u s2 ⟨y,H2,I2,r2,q2⟩ =>
  thn (ho g s2 σ H2 x y v u _ I2 r1 r2 q2) fun c s3 ⟨z,H3,I3,r3,k,e,q3⟩=>?_) hm
 subst e
 cases r3;exact ah2 ⟨H3,I3,q3⟩
theorem ii:(sizeLine:Nat) < 2 ^ 63:=by rw [sizeLine_eq];decide
theorem cH {x:V} (r:Vals [x] us):∃ u,us=[u]/\RelV x u:=by
 cases r with
 | cons r1 r2=>cases r2;exact ⟨_,rfl,r1⟩
theorem jZ {x y:V} (r:Vals [x,y] us):∃ u w',us=[u,w']/\RelV x u/\RelV y w':=by
 cases r with
 | cons r1 r2 =>
  cases r2 with
  | cons r3 r4=>cases r4;exact ⟨_,_,rfl,r1,r3⟩
end
structure ObjM (h:Heap) (x dx C:Addr) (mA:Str->Option Value):Prop where
 obj:h.get? x=some (PySem.W.instObj C dx)
 ns:h.Ns1 dx mA
 ne:dx≠x
theorem sM {dx:Addr}{mA:Str->Option Value} (n:h.Ns1 dx mA):∃ od,h.get? dx=some od/\∀ name,PySem.W.lookIn name od=some (mA name):=by
 obtain ⟨o,es,ep,ho,hd,hk,_,hm⟩:=n;refine ⟨o,ho,fun name=>?_⟩
 have e:=hm name;unfold nsFind findBy at e;rw [<- Array.find?_toList] at e;unfold PySem.W.lookIn;rw [hd];dsimp only
 split
 ·rename_i y q
  rw [q] at e;exact congrArg some e
 ·rename_i q
  rw [q] at e
  have a:es.toList.any (·.refKey)=false:=by
   rw [List.any_eq_false];intro y hy;obtain ⟨z,t,g⟩:=hk y (Array.mem_toList_iff.mp hy)
   simp [DictEntry.refKey,g]
  have a':¬ es.toList.any (·.refKey)=true:=by rw [a];exact aa3
  rw [if_neg a'];exact congrArg some e
variable {C:Addr}
theorem ObjM.look {x dx:Addr}{mA:Str->Option Value} (I:ObjM h x dx C mA):∃ od,PySem.W.InstAt h x (PySem.W.instObj C dx) C (some od)/\∀ name,PySem.W.lookIn name od=some (mA name) :=
 let ⟨od,ho,hl⟩:=sM I.ns
 ⟨od,⟨I.obj,rfl,rfl,ho⟩,hl⟩
variable {pl:Sem Bool}{kw:List (Str × Value)}
section
variable {prog:Program}{w:World}{A:Around}{E:Value->Shared->Prop}{s:Shared}{K:PySem.W.Frag}{x dx C f:Addr}{mA:Str->Option Value}{name:Str}{v:Value}
theorem wV {expr:Bool}{Q:Value->Shared->Prop} (X:K.In s.heap) (I:ObjM s.heap x dx C mA) (hg:PySem.W.plainGet K C name=true) (hh:PySem.W.hasDictIn K C=true)
  (ha:PySem.W.findIn K (.ref C) name=some none) (hv:mA name=some v) (hv':PySem.W.handedIn v=true) (h:Q v { s with toks:=s.toks+1 }) :
  wpAny (model prog w) A (getAttr (.ref x) name expr) Q E s:=by
 obtain ⟨od,J,hl⟩:=I.look;exact PySem.W.get_value X J (ak3 hg).1 (PySem.W.findObj_own hh ha rfl (by rw [hl,hv])) hv' h
theorem vg {Q:Value × List Value->Shared->Prop} (X:K.In s.heap) (I:ObjM s.heap x dx C mA) (hg:PySem.W.plainGet K C name=true)
  (hf:PySem.W.findIn K (.ref C) name=some (some (.ref f))) (ht:PySem.W.isFn K (.ref f)=true) (hv:mA name=none) (h:Q (.ref f,[.ref x]) s) :
  wpAny (model prog w) A (getMethod (.ref x) name pl) Q E s:=by
 obtain ⟨od,J,hl⟩:=I.look;exact PySem.W.method_fn X J (ak3 hg).1 (ak3 hg).2 hf (beq_iff_eq.mp ht) (by show (PySem.W.lookIn name od).map (·.isSome)=some false;rw [hl,hv];rfl) h
theorem wW {ns:List Str} (X:K.In s.heap) (I:ObjM s.heap x dx C mA)
  (hs:PySem.W.findIn K (.ref C) "__setattr__" = some (some (.builtin "object.__setattr__"))) (hp:PySem.W.plainOver K C=true) (ht:PySem.W.takerIn K C name=some none) (hh:PySem.W.hasDictIn K C=true)
  (hw:PySem.Within mA ns) (hsz:ns.length<=sizeLine)
  (h:∀ h',ObjM h' x dx C (fun y=>if y=name then some v else mA y)->Heap.SameBut dx s.heap h'->Q () { s with heap:=h',toks:=s.toks+2 }) :
  wpAny (model prog w) A (setAttr (.ref x) name v) Q E s:=by
 obtain ⟨od,J,hl⟩:=I.look;refine PySem.W.set_plain X J hs (PySem.W.osa_open (s:={ s with toks:=s.toks+1 }) (r:=none) X J hp ht fun b=>?_);obtain ⟨cd,hc,G⟩:=PySem.W.any_some hh
 have hx:s.heap.get? x=some ⟨.ref C,some dx,.plain,#[]⟩:=I.obj;refine zT (ab2 (zT (zT (wpAny_loadPart hx (zT (PySem.W.Looks.here (s:={ s with toks:=s.toks+1 }) (PySem.W.looks_clsIn X hc) ?_))))));rw [G];refine ab2 (a:=some dx) (zT (ab2 (zT ?_)));refine wpAny_nsSet1 (s:={ s with toks:=s.toks+1 }) I.ns fun h' l g=>?_;obtain ⟨oD,O,L,B,D,H⟩:=l.count (PySem.Within.cons name v hw);refine zT (wpAny_lookBehind B (by rw [D];exact pastItsLine_dict (zR H (by rw [ac7];omega))) ?_)
 exact ab2 (h _ ⟨(g.2 _ (ad3 I.ne)).trans I.obj,l,I.ne⟩ g)
theorem vh {R:Result->Shared->Prop}{vs:List Value} (X:K.In s.heap) (hm:PySem.W.makesIn K C=true)
  (hi:PySem.W.findIn K (.ref C) "__init__" = some (some (.ref f))) (hf:PySem.W.typeIn K (.ref f)=some (.type "function"))
  (h:codeAny (model prog w) (A.under (.builtin "type.__call__" ⟨.ref C :: vs,kw⟩)) (.call (.ref f) ⟨.ref (s.heap.objs.size+1) :: vs,kw⟩) (PySem.W.InitBack (s.heap.objs.size+1) R)
   { s with heap:=(s.heap.push PySem.W.emptyDict).push (PySem.W.instObj C s.heap.objs.size) }) :
  codeAny (model prog w) A (.call (.ref C) ⟨vs,kw⟩) R s:=by
 obtain ⟨hh,g,d,t,os⟩:=s;exact PySem.W.make_core (PySem.W.makes_of X hm) (PySem.W.looks_findIn X hi) (fun self=>PySem.W.bind_fn X self hf) (.inl rfl) h
end
def putF (f:Str) (v:V):List (Str × V)->List (Str × V)
 | []=>[(f,v)]
 | (g,x) :: r=>if g=f then (g,v) :: r else (g,x) :: putF f v r
theorem i6 (f g:Str) (v:V):∀ fs:List (Str × V),(putF f v fs).lookup g=if g=f then some v else fs.lookup g
 | []=>by
  show List.lookup g [(f,v)]=_
  by_cases h:g=f
  ·have hb:(g == f)=true:=beq_iff_eq.mpr h
   simp only [List.lookup,hb,if_pos h]
  ·have hb:(g == f)=false:=ad7.mpr h
   simp only [List.lookup,hb,if_neg h]
 | (k,x) :: r=>by
  have ih:=i6 f g v r;rw [show putF f v ((k,x) :: r)=(if k=f then (k,v) :: r else (k,x) :: putF f v r) from rfl]
  by_cases hk:k=f
  ·rw [if_pos hk]
   by_cases h:g=k
   ·have hb:(g == k)=true:=beq_iff_eq.mpr h
    simp only [List.lookup,hb,if_pos (h.trans hk)]
   ·have hb:(g == k)=false:=ad7.mpr h
    simp only [List.lookup,hb,if_neg (fun e:g=f=>h (e.trans hk.symm))]
  ·rw [if_neg hk]
   by_cases h:g=k
   ·have hb:(g == k)=true:=beq_iff_eq.mpr h
    simp only [List.lookup,hb,if_neg (fun e:g=f=>hk (h.symm.trans e))]
   ·have hb:(g == k)=false:=ad7.mpr h
    simp only [List.lookup,hb];exact ih
theorem im (f:Str) (v:V):∀ fs:List (Str × V),f∈(putF f v fs).map (·.1)/\∀ g,g∈fs.map (·.1)->g∈(putF f v fs).map (·.1)
 | []=>⟨by simp [putF],fun g h=>by simp at h⟩
 | (k,x) :: r=>by
  obtain ⟨i1,i2⟩:=im f v r;rw [show putF f v ((k,x) :: r)=(if k=f then (k,v) :: r else (k,x) :: putF f v r) from rfl]
  by_cases hk:k=f
  ·rw [if_pos hk]
   subst hk;exact ⟨by simp,fun g h=>by simpa using h⟩
  ·rw [if_neg hk]
   refine ⟨?_,fun g h=>?_⟩
   ·rw [ad8]
    exact ac3 _ i1
   ·rw [ad8] at h ⊢
    rcases aa5.mp h with e | e
    ·exact aa5.mpr (.inl e)
    ·exact ac3 _ (i2 g e)
theorem i7 (f:Str) (v:V):∀ fs:List (Str × V),(putF f v fs).length<=fs.length+1
 | []=>by simp [putF]
 | (k,x) :: r=>by
  have ih:=i7 f v r;rw [show putF f v ((k,x) :: r)=(if k=f then (k,v) :: r else (k,x) :: putF f v r) from rfl]
  by_cases hk:k=f
  ·rw [if_pos hk,ac7,ac7];omega
  ·rw [if_neg hk,ac7,ac7];omega
theorem RelO.some_of {o:Option Value} (r:RelO (some v) o):∃ u,o=some u/\RelV v u:=by
 cases o with
 | none=>exact (show False from r).elim
 | some u=>exact ⟨u,rfl,r⟩
theorem RelO.none_of {o:Option Value} (r:RelO none o):o=none:=by
 cases o with
 | none=>rfl
 | some u=>exact (show False from r).elim
theorem sN {u:Value} (r:RelV v u):PySem.W.handedIn u=true:=by
 cases v with
 | non=>cases (show u=Value.none from r);rfl
 | bl b=>cases (show u=Value.bool b from r);rfl
 | int i=>obtain ⟨t,e⟩:=(show ∃ t,u=Value.int i t from r);cases e;rfl
 | str x=>obtain ⟨t,e⟩:=(show ∃ t,u=Value.str x t from r);cases e;rfl
 | byt b=>obtain ⟨t,e⟩:=(show ∃ t,u=Value.bytes b t from r);cases e;rfl
 | flt b=>obtain ⟨t,e⟩:=(show ∃ t,u=Value.float b t from r);cases e;rfl
 | ref a=>cases (show u=Value.ref a from r);rfl
 | ty n=>cases (show u=Value.type n from r);rfl
section
variable {P:Program}{w:World}{H H':Hp}{h h':Heap}{a C dx:Addr}{fs fs':List (Str × V)}
theorem gl (hok:HOk P w H h) (e:H a=some (.ins C dx fs)):∃ mA,ObjM h a dx C mA/\(∀ f,RelO (fs.lookup f) (mA f))/\PySem.Within mA (fs.map (·.1))/\fs.length<=1000/\H dx=some (.own a):=by
 obtain ⟨d,z,ne,ob,mA,n,r,q⟩:=(show ObjOk P w H h a (.ins C dx fs) from hok a _ e);exact ⟨mA,⟨ob,n,ne⟩,r,q,z,d⟩
end
structure Cls (K:PySem.W.Frag) (C:Addr):Prop where
 pg:PySem.W.plainGet K C Str.empty=true
 hd:PySem.W.hasDictIn K C=true
 po:PySem.W.plainOver K C=true
 sa:PySem.W.findIn K (.ref C) "__setattr__" = some (some (.builtin "object.__setattr__"))
theorem Cls.get (c:Cls K C) (f:Str):PySem.W.plainGet K C f=true:=c.pg
def NoAttr (K:PySem.W.Frag) (C:Addr) (f:Str):Prop:=PySem.W.findIn K (.ref C) f=some none
theorem NoAttr.taker {f:Str} (n:NoAttr K C f):PySem.W.takerIn K C f=some none:=by
 unfold PySem.W.takerIn;rw [show PySem.W.findIn K (.ref C) f=some none from n];rfl
structure Meth (K:PySem.W.Frag) (C:Addr) (m:Str) (f:Addr):Prop where
 at_:PySem.W.findIn K (.ref C) m=some (some (.ref f))
 fn:PySem.W.isFn K (.ref f)=true
 kp:PySem.W.keepIn K (.ref f)=true
section
variable {X:Cx}{pins:List (Addr × Obj)}{σ:St}{H:Hp}{s:Shared}{a C dx:Addr}{fs:List (Str × V)}{f:Str}{v:V}{A:Around}{E:Value->Shared->Prop}
theorem j0 {b:Bool}{Q:Value->Shared->Prop} (I:Inv X pins σ H s) (e:H a=some (.ins C dx fs)) (c:Cls X.K C) (n:NoAttr X.K C f) (l:fs.lookup f=some v)
  (h:∀ u s',Inv X pins σ H s'->RelV v u->Q u s'):wpAny (model X.prog X.w) A (getAttr (.ref a) f b) Q E s:=by
 obtain ⟨mA,O,r,_,_,_⟩:=gl I.hok e;obtain ⟨u,hu,ru⟩:=RelO.some_of (v:=v) (o:=mA f) (by rw [<- l];exact r f)
 exact wV I.kIn O (c.get f) c.hd n hu (sN ru) (h u _ (I.tok _) ru)
theorem j3 {m:Str}{g:Addr}{Q:Value × List Value->Shared->Prop} (I:Inv X pins σ H s) (e:H a=some (.ins C dx fs)) (c:Cls X.K C) (k:Meth X.K C m g) (l:fs.lookup m=none)
  (h:Q (.ref g,[.ref a]) s):wpAny (model X.prog X.w) A (getMethod (.ref a) m pl) Q E s:=by
 obtain ⟨mA,O,r,_,_,_⟩:=gl I.hok e
 have hn:mA m=none:=RelO.none_of (by rw [<- l];exact r m)
 exact vg I.kIn O (c.get m) k.at_ k.fn hn h
theorem rC {y:V}{u:Value} (I:Inv X pins σ H s) (e:H a=some (.ins C dx fs)) (c:Cls X.K C) (n:NoAttr X.K C f) (hl:fs.length < 1000) (ry:RelV y u)
  (h:∀ s',Inv X pins σ (upd H a (.ins C dx (putF f y fs))) s'->Q () s'):wpAny (model X.prog X.w) A (setAttr (.ref a) f u) Q E s:=by
 obtain ⟨mA,O,r,wi,_,ho⟩:=gl I.hok e
 have hz:(fs.map (·.1)).length<=sizeLine:=by rw [zM,sizeLine_eq];omega
 refine wW I.kIn O c.sa c.po n.taker c.hd wi hz fun h' O' sb=>h _ ?_
 have hd:∃ o,h'.get? dx=some o:=let ⟨o,_,_,e',_⟩:=O'.ns;⟨o,e'⟩;refine I.write (x:=a) (e:=dx) (by rw [e];exact True.intro) (.inr ho) (fun b q hb z=>(sb.2 b hb).trans z) hd ?_
 refine ⟨by rw [ae O.ne];exact ho,?_,O.ne,O'.obj,_,O'.ns,fun g=>?_,fun g hg=>?_⟩
 ·have:=i7 f y fs;omega
 ·show RelO ((putF f y fs).lookup g) (if g=f then some u else mA g)
  rw [i6]
  by_cases q:g=f
  ·rw [if_pos q,if_pos q];exact ry
  ·rw [if_neg q,if_neg q];exact r g
 ·by_cases q:g=f
  ·rw [q];exact (im f y fs).1
  ·refine (im f y fs).2 g (wi g fun z=>hg ?_)
   show (if g=f then some u else mA g)=none
   rw [if_neg q];exact z
theorem Inv.made (I:Inv X pins σ H s):Inv X pins σ (upd (upd H s.heap.objs.size (.own (s.heap.objs.size+1))) (s.heap.objs.size+1) (.ins C s.heap.objs.size []))
  { s with heap:=(s.heap.push PySem.W.emptyDict).push (PySem.W.instObj C s.heap.objs.size) }:=by
 have e1:(s.heap.push PySem.W.emptyDict).get? s.heap.objs.size=some PySem.W.emptyDict:=aa8 s.heap rfl
 have e2:((s.heap.push PySem.W.emptyDict).push (PySem.W.instObj C s.heap.objs.size)).get? (s.heap.objs.size+1)=some (PySem.W.instObj C s.heap.objs.size):=by
  have:=aa8 (s.heap.push PySem.W.emptyDict) (o:=PySem.W.instObj C s.heap.objs.size) rfl
  rwa [Heap.size_push] at this
 have e3:(s.heap.push PySem.W.emptyDict).Ns s.heap.objs.size (fun _=>none):=⟨PySem.W.emptyDict,#[],_,e1,rfl,(fun e he=>absurd he (by simp)),fun _=>rfl⟩
 have I1:=I.laid (a:=s.heap.objs.size) (o:=.own (s.heap.objs.size+1)) (h':=s.heap.push PySem.W.emptyDict) (t':=s.toks) (fun b u q=>zP _ q) (zQ _) ⟨_,e1⟩;refine I1.laid (a:=s.heap.objs.size+1) (o:=.ins C s.heap.objs.size []) (t':=s.toks) (fun b u q=>zP _ q) (Nat.le_of_eq (Heap.size_push _ _)) ?_
 have ne:s.heap.objs.size≠s.heap.objs.size+1:=aa4 (ab3 _);refine ⟨by rw [ae ne,ab],ab1 _,ne,e2,fun _=>none,(Heap.Ns1.of_empty e3).at fun o q=>zP _ q,fun _=>True.intro,fun y hy=>absurd rfl hy⟩
theorem wX {prog:Program}{env:Env}{Q:Value->Shared->Prop} (hb:attributeBase e f env (eval e env)=eval e env)
  (h:wpAny (model prog w) A (eval e env) (fun o s₁=>wpAny (model prog w) A (getAttr o f true) Q E s₁) E s):wpAny (model prog w) A (eval (.Attribute e f pos) env) Q E s :=
 Attribute_any_ h (by rw [arm_eval_Attribute,hb])
end
inductive sO (K:PySem.W.Frag) (f:Str) (Q:VK) (x:V) (H1:Hp):Prop
 | mk:∀ a C dx fs v,x=.ref a->H1 a=some (.ins C dx fs)->Cls K C->NoAttr K C f->fs.lookup f=some v->Q v H1->sO K f Q x H1
def tFld (K:PySem.W.Frag) (ta:TE) (f:Str):TE:=fun σ H Q=>ta σ H fun x H1=>sO K f Q x H1
inductive sR (K:PySem.W.Frag) (f:Str) (D:Ends) (σ:St) (y x:V) (H2:Hp):Prop
 | mk:∀ a C dx fs,x=.ref a->H2 a=some (.ins C dx fs)->Cls K C->NoAttr K C f->fs.length < 1000->D.nx σ (upd H2 a (.ins C dx (putF f y fs)))->sR K f D σ y x H2
def sFld (K:PySem.W.Frag) (ta tv:TE) (f:Str):TS:=fun D σ H=>tv σ H fun y H1=>ta σ H1 fun x H2=>sR K f D σ y x H2
section
variable {X:Cx}{o e value:Expr}{f:Str}{pos pos' tpos:Pos}{ta tv:TE}
theorem az (he:PE X e ta) (hb:attributeBase e f X.env (eval e X.env)=eval e X.env):PE X (.Attribute e f pos) (tFld X.K ta f):=by
 intro g s σ H Q I h;refine wX hb (thn (he g s σ H _ I h) fun u s1 ⟨x,H1,I1,rx,a,C,dx,fs,v,ex,ea,c,n,l,q⟩=>?_);subst ex;obtain rfl:u=Value.ref a:=rx;exact j0 I1 ea c n l fun u' s2 I2 ru=>⟨v,H1,I2,ru,q⟩
theorem bE (ha:PE X o ta) (hv:PE X value tv) (hs:swapsWith value (some (.Attribute o f pos')) pos.line X.env=pure false):PS X (.Assign [.Attribute o f pos'] value pos) (sFld X.K ta tv f):=by
 intro g s σ H D I h;refine plainObj_wpAny_Assign_Attribute (thn (hv g s σ H _ I h) fun u s1 ⟨y,H1,I1,ry,q⟩=>thn (ha g s1 σ H1 _ I1 q) fun ov s2 ⟨x,H2,I2,rx,a,C,dx,fs,ex,ea,c,n,l,q2⟩=>?_) hs;subst ex;obtain rfl:ov=Value.ref a:=rx;exact rC I2 ea c n l ry fun s3 I3=>⟨σ,_,I3,q2⟩
end
section
variable {X:Cx}{pins:List (Addr × Obj)}{σ:St}{H:Hp}{s:Shared}{A:Around}{E:Value->Shared->Prop}{Q:Value->Shared->Prop}{c:Value}{b:Bool}
inductive TyOf (K:PySem.W.Frag) (H:Hp):V->Value->Prop where
 | non:TyOf K H .non (.type "NoneType")
 | bl (x:Bool):TyOf K H (.bl x) (.type "bool")
 | int (i:Int):TyOf K H (.int i) (.type "int")
 | str (x:Str):TyOf K H (.str x) (.type "str")
 | flt (x:UInt64):TyOf K H (.flt x) (.type "float")
 | lst {a:Addr}{xs:List V} (e:H a=some (.lst xs)):TyOf K H (.ref a) (.type "list")
 | frz {a:Addr}{o:Obj}{xs:List V} (e:H a=some (.frz o (.lst xs))):TyOf K H (.ref a) (.type "list")
 | tup {a:Addr}{xs:List V} (e:H a=some (.tup xs)):TyOf K H (.ref a) (.type "tuple")
 | dK {a:Addr}{kvs:List (Key × V)} (e:H a=some (.dK kvs)):TyOf K H (.ref a) (.type "dict")
 | dT {a:Addr}{kvs:List (List Key × V)} (e:H a=some (.dT kvs)):TyOf K H (.ref a) (.type "dict")
 | ins {a C dx:Addr}{fs:List (Str × V)} (e:H a=some (.ins C dx fs)) (cl:Cls K C) (ha:PySem.W.findIn K (.ref C) "__class__" = some (some (.builtin "object.__class__")))
   (hn:PySem.W.specialIn K (.builtin "object.__class__") "__get__" = some (some (.builtin "getset_descriptor.__get__"))) (htk:PySem.W.takesIn K (.builtin "object.__class__")=some true)
   (hm:PySem.W.mroIn K C (.type "object")=some true):TyOf K H (.ref a) (.ref C)
theorem sU {x:V}{u t:Value} (I:Inv X pins σ H s) (rx:RelV x u) (ty:TyOf X.K H x t) (e:PySem.W.kitOne X.K t c=some b) (h:∀ tk,Q (.bool b) { s with toks:=tk }) :
  wpAny (model X.prog X.w) A (call (.builtin "isinstance") [u,c]) Q E s:=by
 cases ty with
 | non=>cases (show u=Value.none from rx);exact ag9 PySem.W.kitx_none I.kIn True.intro e (fun z=>nomatch z) h
 | bl y=>cases (show u=Value.bool y from rx);exact ag9 PySem.W.kitx_bool I.kIn True.intro e (fun z=>nomatch z) h
 | int i=>obtain ⟨t,q⟩:=(show ∃ t,u=Value.int i t from rx);cases q;exact ag9 PySem.W.kitx_int I.kIn True.intro e (fun z=>nomatch z) h
 | str y=>obtain ⟨t,q⟩:=(show ∃ t,u=Value.str y t from rx);cases q;exact ag9 PySem.W.kitx_str I.kIn True.intro e (fun z=>nomatch z) h
 | flt y=>obtain ⟨t,q⟩:=(show ∃ t,u=Value.float y t from rx);cases q;exact ag9 PySem.W.kitx_float I.kIn True.intro e (fun z=>nomatch z) h
 | @lst a xs ea =>
  cases (show u=Value.ref a from rx);obtain ⟨_,_,n,_,h1⟩:=(show ObjOk X.prog X.w H s.heap a (.lst xs) from I.hok a _ ea);exact ag9 PySem.W.kitx_list I.kIn ⟨_,h1,rfl⟩ e (fun z=>nomatch z) h
 | @frz a ob xs ea =>
  cases (show u=Value.ref a from rx);obtain ⟨_,_,_,n,_,h1⟩:=(show ObjOk X.prog X.w H s.heap a (.frz ob (.lst xs)) from I.hok a _ ea);exact ag9 PySem.W.kitx_list I.kIn ⟨_,h1,rfl⟩ e (fun z=>nomatch z) h
 | @tup a xs ea =>
  cases (show u=Value.ref a from rx);obtain ⟨_,_,_,p⟩:=(show ObjOk X.prog X.w H s.heap a (.tup xs) from I.hok a _ ea);obtain ⟨o,h1,h2,_⟩:=p;exact ag9 PySem.W.kitx_tuple I.kIn ⟨o,h1,h2⟩ e (fun z=>nomatch z) h
 | @dK a kvs ea =>
  cases (show u=Value.ref a from rx);obtain ⟨_,_,vs,_,p⟩:=(show ObjOk X.prog X.w H s.heap a (.dK kvs) from I.hok a _ ea);obtain ⟨o,es,ep,h1,h2,_⟩:=p;exact ag9 PySem.W.kitx_dict I.kIn ⟨o,h1,h2.1⟩ e (fun z=>nomatch z) h
 | @dT a kvs ea =>
  cases (show u=Value.ref a from rx);obtain ⟨_,_,xs,_,o,es,ep,h1,h2,_⟩:=(show ObjOk X.prog X.w H s.heap a (.dT kvs) from I.hok a _ ea);exact ag9 PySem.W.kitx_dict I.kIn ⟨o,h1,h2.1⟩ e (fun z=>nomatch z) h
 | @ins a C dx fs ea cl ha hn htk hm =>
  cases (show u=Value.ref a from rx);obtain ⟨mA,O,_⟩:=gl I.hok ea;obtain ⟨od,J,_⟩:=O.look;exact ag9 (PySem.W.kitx_own (cl.get _) cl.hd ha hn htk hm) I.kIn J e (fun z=>nomatch z) h
end
structure Room (k:Nat) (A:Around):Prop where
 hd:A.handled=none
 dp:A.depth+3 * k+5 < recursionLimit
 un:A.units+16 * k+200 < cLine
 gd:A.guards=some []:=by rfl
theorem Room.mono {j k:Nat} (r:Room k A) (h:j<=k):Room j A:=⟨r.hd,by have:=r.dp;omega,by have:=r.un;omega,r.gd⟩
theorem Room.deeper {k:Nat}{A:Around} (r:Room (k+1) A) (env:Env):Room k (A.deeper env) :=
 ⟨r.hd,by have:=r.dp;show A.depth+1+3 * k+5 < _;omega,by have:=r.un;show A.units+3+16 * k+200 < _;omega,r.gd⟩
theorem Room.in1 {k:Nat}{A:Around} (r:Room (k+1) A):Room k A.in1 :=
 ⟨r.hd,by have:=r.dp;show A.depth+3 * k+5 < _;omega,by have:=r.un;show A.units+1+16 * k+200 < _;omega,r.gd⟩
theorem rD:(A.under (.builtin "type.__call__" ⟨.ref C :: us,kw⟩)).depth=A.depth+1:=by
 first | rfl | simp [Around.under,Code.weight,Code.isCreation,Code.isGuard,Code.isCaller,Code.frames,Code.isFrame,guardIds]
theorem rE:(A.under (.builtin "type.__call__" ⟨.ref C :: us,kw⟩)).units=A.units+1:=by
 first | rfl | simp [Around.under,Code.cUnits,Code.frames,Code.isFrame]
theorem Room.make {k:Nat} (r:Room (k+1) A) (C:Addr) (us:List Value) (kw:List (Str × Value)):Room k (A.under (.builtin "type.__call__" ⟨.ref C :: us,kw⟩)) :=
 ⟨r.hd,by have:=r.dp;rw [rD];omega,by have:=r.un;rw [rE];omega,by have:=r.gd;first | exact this | simp [Around.under,Code.weight,Code.isCreation,Code.isGuard,Code.isCaller,Code.frames,Code.isFrame,guardIds,this]⟩
theorem Room.depth {k:Nat}{A:Around} (r:Room k A):A.depth < recursionLimit:=by have:=r.dp;omega
theorem Room.units {k:Nat}{A:Around} (r:Room k A):A.units+64 < cLine:=by have:=r.un;omega
def tNil:TA:=fun _ H Q=>Q [] H
def zq (ta:TE) (tr:TA):TA:=fun σ H Q=>ta σ H fun x H1=>tr σ H1 fun xs H2=>Q (x :: xs) H2
section
variable {X:Cx}{e:Expr}{es:List Expr}{te:TE}{t:TA}{pos:Pos}
theorem ac:PA X [] tNil:=fun _ _ _ _ H Q I h=>Calls.spliced_nil ⟨[],H,I,.nil,h⟩
theorem aa (ha:PE X e te) (hr:PA X es t) (hs:starEach (e :: es) X.env=(false,eval e X.env) :: starEach es X.env:=by rfl):PA X (e :: es) (zq te t):=by
 intro l g s σ H Q I h;rw [hs]
 show wpAny _ _ (spliced ((false,eval e X.env) :: backTo l (starEach es X.env))) _ _ s
 refine Calls.spliced_cons (thn (ha g s σ H _ I h) fun u s1 ⟨x,H1,I1,r1,q1⟩=>?_);exact thn (hr l g s1 σ H1 _ I1 q1) fun us s2 ⟨xs,H2,I2,r2,q2⟩=>⟨x :: xs,H2,I2,.cons r1 r2,q2⟩
def tTup (t:TA):TE:=fun σ H Q=>t σ H fun xs H1=>xs.length<=sizeLine/\∀ p,H1 p=none->Q (.ref p) (upd H1 p (.tup xs))
def tLst (t:TA):TE:=fun σ H Q=>t σ H fun xs H1=>xs.length<=sizeLine/\∀ p,H1 p=none->Q (.ref p) (upd H1 p (.lst xs))
theorem eD {x1} (h:PA X es t):PE X (.Tuple es x1 pos) (tTup t):=by
 intro g s σ H Q I hq;refine wpAny_Tuple_spliced (thn (h pos g s σ H _ I hq) fun us s1 ⟨xs,H1,I1,r,z,q⟩=>⟨by rw [<- r.length];exact z,?_⟩)
 have hf:H1 s1.heap.objs.size=none:=I1.hok.fresh (zQ _);refine ⟨.ref s1.heap.objs.size,upd H1 s1.heap.objs.size (.tup xs),I1.laid (t':=s1.toks) (fun b u e=>zP _ e) (zQ _) ?_,rfl,q _ hf⟩;exact ⟨z,us,r,⟨_,aa8 _ rfl,rfl,_,rfl⟩⟩
theorem bq (h:PA X es t):PE X (.List es pos) (tLst t):=by
 intro g s σ H Q I hq;refine wpAny_List_spliced (thn (h pos g s σ H _ I hq) fun us s1 ⟨xs,H1,I1,r,z,q⟩=>⟨by rw [<- r.length];exact z,?_⟩)
 have hf:H1 s1.heap.objs.size=none:=I1.hok.fresh (zQ _);refine ⟨.ref s1.heap.objs.size,upd H1 s1.heap.objs.size (.lst xs),I1.laid (t':=s1.toks) (fun b u e=>zP _ e) (zQ _) ?_,rfl,q _ hf⟩;exact ⟨z,us,0,r,aa8 _ rfl⟩
end
abbrev Sp:=List V->Hp->VK->XK->Prop
abbrev CXT:=List Env->Hp->Shared->XK->Value->Shared->Prop
structure Env0 (P:Program) (w:World) (K:PySem.W.Frag) (mg:Str->Option Value) (base:Heap) (A:Around) (outer:List Env) (s:Shared) (H:Hp):Prop where
 frames:A.frames=some outer
 mod:Mod K mg base
 bs:∀ b o,base.get? b=some o->s.heap.get? b=some o/\H b=none
 bsz:base.objs.size<=s.heap.objs.size
 funs:s.heap.FunFrames base outer
 frf:∀ b∈frs outer,H b=none
 hok:HOk P w H s.heap
 bare:AllBare s.gens
def CE (outer:List Env) (P:Program) (w:World) (H:Hp) (s:Shared) (Q:VK) (u:Value) (s':Shared):Prop :=
 ∃ v H',s'.os=s.os/\AllBare s'.gens/\Un (frs outer) [] H H' s.heap s'.heap/\HOk P w H' s'.heap/\RelV v u/\Q v H'
def CR (CX:CXT) (outer:List Env) (P:Program) (w:World) (H:Hp) (s:Shared) (Q:VK) (E:XK) (r:Result) (s':Shared):Prop :=
 match r with
 | .ok (.ret u)=>CE outer P w H s Q u s'
 | .ok _=>False
 | .error e=>CX outer H s E e s'
structure FnOk (P:Program) (w:World) (K:PySem.W.Frag) (mg:Str->Option Value) (base:Heap) (CX:CXT) (k:Nat) (f:Addr) (fd:FuncData) (ps:List Str) (sp:Sp):Prop where
 len:∀ vs H Q E,sp vs H Q E->vs.length=ps.length
 run:∀ (A:Around) (outer:List Env) (s:Shared) (H:Hp) (args:Args) (us:List Value) (vs:List V) (Q:VK) (E:XK),Room k A->Env0 P w K mg base A outer s H->BindsTo s fd args (ps.zip us)->Vals vs us->sp vs H Q E →
  codeAny (model P w) A (.call (.ref f) args) (CR CX outer P w H s Q E) s
variable {mg:Str->Option Value}{base:Heap}{CX:CXT}{ps:List Str}
theorem FnOk.imp {k:Nat}{f:Addr}{fd:FuncData}{sp sp':Sp} (F:FnOk P w K mg base CX k f fd ps sp)
  (h:∀ vs H Q E,sp' vs H Q E->sp vs H Q E):FnOk P w K mg base CX k f fd ps sp' :=
 ⟨fun vs H Q E q=>F.len vs H Q E (h _ _ _ _ q),fun A outer s H args us vs Q E hr he hb hv hs=>F.run A outer s H args us vs Q E hr he hb hv (h _ _ _ _ hs)⟩
theorem Env0.make {outer:List Env} (e:Env0 P w K mg base A outer s H) (C:Addr) (us:List Value) (kw:List (Str × Value)) :
  Env0 P w K mg base (A.under (.builtin "type.__call__" ⟨.ref C :: us,kw⟩)) outer s H:=⟨by first | exact e.frames | (simpa [Around.under,Code.envs,Code.isFrame,pushEnvs] using e.frames),e.mod,e.bs,e.bsz,e.funs,e.frf,e.hok,e.bare⟩
section
variable {X:Cx}{pins:List (Addr × Obj)}{σ:St}{H:Hp}{s s':Shared}
theorem Inv.env0 (I:Inv X pins σ H s):Env0 X.prog X.w X.K X.mg X.base X.A X.stack s H :=
 ⟨I.ok.frames,I.ok.mod,I.bs,zR I.ok.bsz I.sz,I.stack,I.stkFree,I.hok,I.bare⟩
theorem Inv.after {Q:VK}{u:Value} (I:Inv X pins σ H s) (h:CE X.stack X.prog X.w H s Q u s'):EP X pins σ Q u s':=by
 obtain ⟨v,H',os,bare,un,hok,r,q⟩:=h;obtain ⟨hh,g,d,t,l⟩:=s';obtain rfl:l=s.os:=os;exact ⟨v,H',I.call (h':=hh) (g':=g) (d':=d) (t':=t) (ch:=[]) un hok bare (fun b z=>absurd z (by simp)),r,q⟩
end
def zr (sp:Sp) (dvs:List V) (E:XK) (t:TA):TE:=fun σ H Q=>t σ H fun vs H1=>sp (vs++dvs) H1 Q E
inductive pS (C:Addr) (m:Str) (sp:Sp) (dvs:List V) (E:XK) (t:TA) (σ:St) (Q:VK) (x:V) (H1:Hp):Prop
 | mk:∀ a dx fs,x=.ref a->H1 a=some (.ins C dx fs)->fs.lookup m=none->(t σ H1 fun vs H2=>sp (x :: (vs++dvs)) H2 Q E)->pS C m sp dvs E t σ Q x H1
def wF (C:Addr) (m:Str) (sp:Sp) (dvs:List V) (E:XK) (ta:TE) (t:TA):TE:=fun σ H Q=>ta σ H fun x H1=>pS C m sp dvs E t σ Q x H1
def zu (C:Addr) (sp:Sp) (dvs:List V) (E:XK) (t:TA):TE:=fun σ H Q=>t σ H fun vs H1=>∀ x dx,H1 x=none->H1 dx=none->dx≠x →
 sp (.ref x :: (vs++dvs)) (upd (upd H1 dx (.own x)) x (.ins C dx [])) (fun v H2=>v=.non/\Q (.ref x) H2) E
def Binds (K:PySem.W.Frag) (fd:FuncData) (ps:List Str) (ds:List Value):Prop :=
 ∀ (s:Shared) (us:List Value),K.In s.heap->(us++ds).length=ps.length->BindsTo s fd ⟨us,[]⟩ (ps.zip (us++ds))
theorem Binds.all {fd:FuncData} (h:∀ us:List Value,us.length=ps.length->bindArgs fd ⟨us,[]⟩=pure (ps.zip us)):Binds K fd ps []:=fun s us _ hl=>by
 rw [ai8] at hl ⊢;exact .of_eq (h us hl)
def ft (CX:CXT) (X:Cx) (E:XK):Prop:=∀ (pins:List (Addr × Obj)) (σ:St) (H:Hp) (s:Shared) (e:Value) (s':Shared),Inv X pins σ H s->CX X.stack H s E e s'->X.xe e s'
variable {vs:List V}
section
variable {X:Cx}{CX:CXT}{k:Nat}{f C:Addr}{fd:FuncData}{ps:List Str}{sp:Sp}{dvs:List V}{ds:List Value}{E:XK}{x m:Str}{p pos apos:Pos}{e o:Expr}{es:List Expr}{ta:TE}{t:TA}
theorem m7 {Q:VK} (F:FnOk X.prog X.w X.K X.mg X.base CX k f fd ps sp) (hr:Room k X.A) (hb:Binds X.K fd ps ds) (hd:Vals dvs ds) (hx:ft CX X E)
  (I:Inv X pins σ H s) (r:Vals vs us) (h:sp (vs++dvs) H Q E):wpAny (model X.prog X.w) X.A (call (.ref f) us) (EP X pins σ Q) X.xe s:=by
 have r2:Vals (vs++dvs) (us++ds):=r.append hd
 have hl:(us++ds).length=ps.length:=by rw [<- r2.length];exact F.len _ _ _ _ h
 refine wpAny_call (am6 (F.run X.A X.stack s H ⟨us,[]⟩ (us++ds) (vs++dvs) Q E hr I.env0 (hb s us I.kIn hl) r2 h) fun r s' hq=>?_)
 cases r with
 | error e=>exact hx pins σ H s e s' I hq
 | ok fl =>
  cases fl with
  | ret u=>exact I.after hq
  | next=>exact False.elim hq
  | brk=>exact False.elim hq
  | cont=>exact False.elim hq
theorem ay (F:FnOk X.prog X.w X.K X.mg X.base CX k f fd ps sp) (hr:Room k X.A) (hg:Gl X x) (hm:X.mg x=some (.ref f)) (hk:PySem.W.keepIn X.K (.ref f)=true) (hb:Binds X.K fd ps ds) (hd:Vals dvs ds) (hx:ft CX X E)
  (ha:PA X (e :: es) t) (hdb:(x == ("__debug__" : Str))=false:=by decide) (he:starEach (e :: es) X.env=(false,eval e X.env) :: starEach es X.env:=by rfl) (hpl:(backTo pos (starEach es X.env)).any (·.1)=false:=by rfl) :
  PE X (.Call (.Name x p) (e :: es) [] pos) (zr sp dvs E t):=by
 intro g s σ H Q I h;refine ah9 (kU I hg hm ?_ hdb);refine PySem.W.callWith_K (h₀:=X.base) I.ok.mod.kin hk (thn (ha pos g s σ H _ I h) fun us s1 ⟨vs,H1,I1,r,q⟩=>⟨I1.kIn,?_⟩) he hpl;exact m7 F hr hb hd hx I1 r q
theorem aE (he:PE X o ta) (c:Cls X.K C) (hm:Meth X.K C m f) (F:FnOk X.prog X.w X.K X.mg X.base CX k f fd ps sp) (hr:Room k X.A) (hb:Binds X.K fd ps ds) (hd:Vals dvs ds) (hx:ft CX X E) (ha:PA X (e :: es) t)
  (hst:starEach (e :: es) X.env=(false,eval e X.env) :: starEach es X.env:=by rfl) (hpl:(backTo pos (starEach es X.env)).any (·.1)=false:=by rfl)
  (ht:eval (.Call (.Attribute o m apos) (e :: es) [] pos) X.env=(do
   let ov ← eval o X.env
   standAt apos.atName
   let (f,first) ← holding [ov] (getMethod ov m pl)
   callWith pos f first (backTo pos (starEach (e :: es) X.env)) (backToKw pos (keywordEach [] X.env))):=by rfl) :
  PE X (.Call (.Attribute o m apos) (e :: es) [] pos) (wF C m sp dvs E ta t):=by
 intro g s σ H Q I h;refine PySem.W.methodCall_KW (pl:=pl) (thn (he g s σ H _ I h) fun u s1 ⟨x,H1,I1,rx,a,dx,fs,ex,ea,l,q⟩=>?_) ht;subst ex;obtain rfl:u=Value.ref a:=rx;refine j3 I1 ea c hm l ?_;refine PySem.W.callWith_K (first:=[.ref a]) (h₀:=X.base) I.ok.mod.kin hm.kp (thn (ha pos g s1 σ H1 _ I1 q) fun us s2 ⟨vs,H2,I2,r,q2⟩=>⟨I2.kIn,?_⟩) hst hpl;exact m7 (us:=.ref a :: us) (vs:=.ref a :: vs) F hr hb hd hx I2 (.cons rfl r) q2
theorem cN (he:PE X o ta) (c:Cls X.K C) (hm:Meth X.K C m f) (F:FnOk X.prog X.w X.K X.mg X.base CX k f fd ps sp) (hr:Room k X.A) (hb:Binds X.K fd ps ds) (hd:Vals dvs ds) (hx:ft CX X E)
  (ht:eval (.Call (.Attribute o m apos) [] [] pos) X.env=(do
   let ov ← eval o X.env
   standAt apos.atName
   let (f,first) ← holding [ov] (getMethod ov m pl)
   callWith pos f first (backTo pos (starEach [] X.env)) (backToKw pos (keywordEach [] X.env))):=by rfl) :
  PE X (.Call (.Attribute o m apos) [] [] pos) (wF C m sp dvs E ta tNil):=by
 intro g s σ H Q I h;refine PySem.W.methodCall_KW (pl:=pl) (thn (he g s σ H _ I h) fun u s1 ⟨x,H1,I1,rx,a,dx,fs,ex,ea,l,q⟩=>?_) ht;subst ex;obtain rfl:u=Value.ref a:=rx;refine j3 I1 ea c hm l ?_;exact PySem.W.callWith_K0 (first:=[.ref a]) I1.kIn hm.kp (m7 (us:=[.ref a]) (vs:=[.ref a]) F hr hb hd hx I1 (.cons rfl .nil) q)
structure Mk (K:PySem.W.Frag) (C f:Addr):Prop where
 makes:PySem.W.makesIn K C=true
 init:PySem.W.findIn K (.ref C) "__init__" = some (some (.ref f))
 fn:PySem.W.isFn K (.ref f)=true
 kp:PySem.W.keepIn K (.ref C)=true
theorem vi {Q:VK} (M:Mk X.K C f) (F:FnOk X.prog X.w X.K X.mg X.base CX k f fd ps sp) (hr:Room (k+1) X.A) (hb:Binds X.K fd ps ds) (hd:Vals dvs ds)
  (hx:ft CX X E) (I:Inv X pins σ H s) (r:Vals vs us)
  (h:∀ x dx,H x=none->H dx=none->dx≠x->sp (.ref x :: (vs++dvs)) (upd (upd H dx (.own x)) x (.ins C dx [])) (fun v H2=>v=.non/\Q (.ref x) H2) E) :
  wpAny (model X.prog X.w) X.A (call (.ref C) us) (EP X pins σ Q) X.xe s:=by
 have hq:=h (s.heap.objs.size+1) s.heap.objs.size (I.hok.fresh (am5 _)) (I.hok.fresh (zQ _)) (aa4 (ab3 _))
 have I2:=Inv.made (C:=C) I
 have r2:Vals (V.ref (s.heap.objs.size+1) :: (vs++dvs)) (Value.ref (s.heap.objs.size+1) :: (us++ds)):=.cons rfl (r.append hd)
 have hl:(Value.ref (s.heap.objs.size+1) :: us++ds).length=ps.length:=by
  have e:=r2.length;rw [F.len _ _ _ _ hq] at e;exact e.symm
 refine wpAny_call (vh (f:=f) I.kIn M.makes M.init (beq_iff_eq.mp M.fn) (am6 (F.run _ X.stack _ _ ⟨Value.ref (s.heap.objs.size+1) :: us,[]⟩ (Value.ref (s.heap.objs.size+1) :: (us++ds)) _ _ E (hr.make C us [])
  (I2.env0.make C us []) (hb _ (Value.ref (s.heap.objs.size+1) :: us) I2.kIn hl) r2 hq) fun r s' g=>?_))
 cases r with
 | error e=>exact hx pins σ _ _ e s' I2 g
 | ok fl =>
  cases fl with
  | ret u =>
   obtain ⟨v,H',I3,rv,ev,q3⟩:=I2.after g;subst ev;exact ⟨rv,⟨V.ref (s.heap.objs.size+1),H',I3,rfl,q3⟩⟩
  | next=>exact False.elim g
  | brk=>exact False.elim g
  | cont=>exact False.elim g
theorem iT (M:Mk X.K C f) (F:FnOk X.prog X.w X.K X.mg X.base CX k f fd ps sp) (hr:Room (k+1) X.A) (hg:Gl X x) (hm:X.mg x=some (.ref C)) (hb:Binds X.K fd ps ds) (hd:Vals dvs ds) (hx:ft CX X E)
  (ha:PA X (e :: es) t) (hdb:(x == ("__debug__" : Str))=false:=by decide) (he:starEach (e :: es) X.env=(false,eval e X.env) :: starEach es X.env:=by rfl) (hpl:(backTo pos (starEach es X.env)).any (·.1)=false:=by rfl) :
  PE X (.Call (.Name x p) (e :: es) [] pos) (zu C sp dvs E t):=by
 intro g s σ H Q I h;refine ah9 (kU I hg hm ?_ hdb);refine PySem.W.callWith_K (h₀:=X.base) I.ok.mod.kin M.kp (thn (ha pos g s σ H _ I h) fun us s1 ⟨vs,H1,I1,r,q⟩=>⟨I1.kIn,?_⟩) he hpl;exact vi M F hr hb hd hx I1 r q
end
section
variable {X:Cx}{CX:CXT}{k:Nat}{f C:Addr}{fd:FuncData}{ps ks:List Str}{sp:Sp}{E:XK}{x m:Str}{p pos apos kpos:Pos}{e o:Expr}{es:List Expr}{kws:List Keyword}{te ta:TE}{t tk:TA}{nm:Option Str}
variable {g:List Value->List Value->List Value}{gV:List V->List V->List V}
end
structure ap (N P:List Str) (sc:Scope):Prop where
 kind:sc.kind=.function
 co:sc.isCoroutine=false
 gen:sc.isGenerator=false
 nd:N.Nodup
 pre:N.take P.length=P
 par:∀ x∈P,sc.names.lookup x=some .local\/sc.names.lookup x=some .cell
 nofree:∀ y∈sc.names,y.2≠.free
theorem lC {kindOf:Str->Option NameKind}{x:Str}:∀ {binds:List (Str × Value)}{m:Str->Option Value},(∀ v,(x,v)∉binds)->bindL kindOf binds m x=m x
 | [],_,_=>rfl
 | (n,v) :: r,m,h=>by
  unfold bindL;rw [lC fun w hw=>h w (ac3 _ hw)]
  split
  ·have:x≠n:=by rintro rfl;exact h v ac9
   simp [this]
  ·rfl
theorem lE {kindOf:Str->Option NameKind}{x:Str}:∀ {binds:List (Str × Value)}{m:Str->Option Value},(∀ v,(x,v)∉binds)->bindC kindOf binds m x=m x
 | [],_,_=>rfl
 | (n,v) :: r,m,h=>by
  unfold bindC;rw [lE fun w hw=>h w (ac3 _ hw)]
  split
  ·rfl
  ·have:x≠n:=by rintro rfl;exact h v ac9
   simp [this]
theorem lF {kindOf:Str->Option NameKind}{x:Str}{v:Value}:∀ {P:List Str}{vs:List Value}{i:Nat}{m:Str->Option Value},P.Nodup->P[i]?=some x->vs[i]?=some v->kindOf x=some .local →
  bindL kindOf (P.zip vs) m x=some v
 | [],_,_,_,_,h,_,_=>by simp at h
 | _ :: _,[],_,_,_,_,h,_=>by simp at h
 | p :: P,w :: vs,0,m,nd,h1,h2,hk=>by
  simp at h1 h2;subst h1;subst h2
  show bindL kindOf ((p,w) :: P.zip vs) m p=_
  unfold bindL;rw [lC fun v hv=>(al3.mp nd).1 (al4 hv).1,if_pos hk]
  simp
 | p :: P,w :: vs,i+1,m,nd,h1,h2,hk=>by
  show bindL kindOf ((p,w) :: P.zip vs) m x=_
  unfold bindL;exact lF (i:=i) (al3.mp nd).2 (by simpa using h1) (by simpa using h2) hk
theorem lG {kindOf:Str->Option NameKind}{x:Str}{v:Value}:∀ {P:List Str}{vs:List Value}{i:Nat}{m:Str->Option Value},P.Nodup->P[i]?=some x->vs[i]?=some v->kindOf x≠some .local →
  bindC kindOf (P.zip vs) m x=some v
 | [],_,_,_,_,h,_,_=>by simp at h
 | _ :: _,[],_,_,_,_,h,_=>by simp at h
 | p :: P,w :: vs,0,m,nd,h1,h2,hk=>by
  simp at h1 h2;subst h1;subst h2
  show bindC kindOf ((p,w) :: P.zip vs) m p=_
  unfold bindC;rw [lE fun v hv=>(al3.mp nd).1 (al4 hv).1,if_neg hk]
  simp
 | p :: P,w :: vs,i+1,m,nd,h1,h2,hk=>by
  show bindC kindOf ((p,w) :: P.zip vs) m x=_
  unfold bindC;exact lG (i:=i) (al3.mp nd).2 (by simpa using h1) (by simpa using h2) hk
def start (N:List Str) (vs:List V):St:=vs.map some++List.replicate (N.length - vs.length) none
def cxOf (CX:CXT) (P:Program) (w:World) (K:PySem.W.Frag) (mg:Str->Option Value) (base:Heap) (N:List Str) (qual:Str) (scope:Scope) (f:Addr) (cd:Value) (A:Around) (outer:List Env) (s:Shared) (H:Hp) (E:XK):Cx where
 prog:=P
 w:=w
 K:=K
 mg:=mg
 base:=base
 A:=A.deeper (envOfC qual scope s.heap.objs.size f cd)
 N:=N
 s₀:=s
 H₀:=H
 env:=envOfC qual scope s.heap.objs.size f cd
 outer:=outer
 stack:=envOfC qual scope s.heap.objs.size f cd :: outer
 ex:=[]
 calm:=true
 fn:=fun _=>true
 pn:=[]
 xe:=fun e s'=>wpAny (model P w) (A.deeper (envOfC qual scope s.heap.objs.size f cd)) (leaving (envOfC qual scope s.heap.objs.size f cd) e) (fun _ s''=>CX outer H s E e s'') (fun e' s''=>CX outer H s E e' s'') s'
theorem m9 {sc:Scope} (h:sc.names.lookup x=some .cell):∃ c,(cellsFrom n sc.names []).lookup x=some c:=by
 have q:=PySem.W.cellsFrom_some sc.names n [] (.inl h);exact ai2.mp q
theorem lH {qual:Str}{scope:Scope}{f:Addr}{cd:Value}{outer:List Env}{s1:Shared}{E:XK}
  (S:ap N ps scope) (hd:A.handled=none) (e0:Env0 P w K mg base A outer s H) (hl:vs.length=ps.length) (r:Vals vs us)
  (x:InCallC s s.heap.objs.size (bindL (envOfC qual scope s.heap.objs.size f cd).kindOf (ps.zip us) fun _=>none) (cellsFrom (s.heap.objs.size+1) scope.names []) (bindC (envOfC qual scope s.heap.objs.size f cd).kindOf (ps.zip us) fun _=>none) s1) :
  Inv (cxOf CX P w K mg base N qual scope f cd A outer s H E) [] (start N vs) H s1:=by
 have B:ps.length<=N.length:=by have:=congrArg List.length S.pre;rw [ag0] at this;omega
 obtain ⟨h1,tk,rfl,hk⟩:=x.done
 have g:∀ b:Addr,b∉(cxOf CX P w K mg base N qual scope f cd A outer s H E).ex:=fun b z=>absurd (show b∈([]:List Addr) from z) (by simp)
 refine ⟨⟨e0.mod,S.kind,rfl,rfl,zQ _,fun y z c h1 h2=>?_,fun y hy=>?_,fun y c _ h=>?_,fun _=>hd,Around.frames_deeper e0.frames,.inr ⟨rfl,rfl⟩,fun b z=>absurd z (g b),e0.bs,e0.bsz,fun b _ _=>g b,fun b z=>absurd z (g b),e0.funs,e0.frf⟩,
  rfl,e0.bare,Un.kept hk,⟨_,x.toInCall.ns,fun i y v h1 h2 h3=>?_⟩,fun y c h=>⟨_,x.cell y c h⟩,e0.hok.fresh (zQ _),fun y c h=>?_,fun p hp=>absurd (show p∈([]:List (Addr × Obj)) from hp) (by simp),e0.hok.kept hk,?_⟩
 ·exact name_of_addr x.apart (ae0 h1) (ae0 h2)
 ·have hy:scope.names.lookup y=some .cell\/scope.names.lookup y=some .free:=hy
  rcases hy with hy | hy
  ·exact m9 hy
  ·exact absurd rfl (S.nofree _ (ae0 hy))
 ·exact ah4 (x.above y c (ae0 h))
 ·have hi:i < vs.length:=by
   unfold start at h2
   by_cases hi:i < vs.length
   ·exact hi
   ·rw [af6 (by simpa using hi)] at h2
    rw [List.getElem?_replicate] at h2
    split at h2 <;> cases h2
  have ha:vs[i]?=some v:=by
   unfold start at h2;rw [ae8 (by simpa using hi),zO] at h2
   cases e:vs[i]? with
   | none=>rw [e] at h2;cases h2
   | some a=>rw [e] at h2;cases h2;rfl
  obtain ⟨u,hu,rv⟩:=r.get ha
  have hp:ps[i]?=some y:=by
   rw [<- S.pre,List.getElem?_take_of_lt (by omega)];exact h1
  have l:ps.Nodup:=by rw [<- S.pre];exact S.nd.sublist (List.take_sublist _ _)
  refine ⟨u,rv,?_⟩;rcases S.par y (aa0 hp) with k | k
  ·exact .inl ⟨k,lF l hp hu k⟩
  ·obtain ⟨c,e⟩:=m9 (n:=s.heap.objs.size+1) k
   refine .inr ⟨.inl k,c,e,?_⟩
   have q:=x.cell y c e;rw [lG l hp hu (by show scope.names.lookup y≠_;rw [k];decide)] at q
   exact q
 ·exact e0.hok.fresh (ah4 (x.above y c (ae0 h)))
 ·unfold start
  show _=N.length
  rw [ab6,zM,ah8];omega
theorem wG {k:Nat}{f:Addr}{name qual:Str}{params:Arguments}{scope:Scope}{dV kV doc pm cdv ct oc:Value}{an od:Option Addr}{osl:Array (Option Value)}{sp:Sp} (lk:K.lookup f=some ⟨oc,od,.func (PySem.W.fnOf name qual params body scope dV kV doc pm an cdv ct),osl⟩) (hcd:PySem.W.codeIn K cdv qual=true) (S:ap N ps scope)
  (len:∀ vs H Q E,sp vs H Q E->vs.length=ps.length)
  (hbody:∀ (A:Around) (outer:List Env) (s:Shared) (H:Hp) (vs:List V) (Q:VK) (E:XK),Room k (A.deeper (envOfC qual scope s.heap.objs.size f cdv))->sp vs H Q E →
   ∃ t,PSs (cxOf CX P w K mg base N qual scope f cdv A outer s H E) body t/\t { nx:=fun _ H'=>Q .non H',rt:=Q } (start N vs) H) :
  FnOk P w K mg base CX (k+1) f (PySem.W.fnOf name qual params body scope dV kV doc pm an cdv ct) ps sp:=by
 refine ⟨len,fun A outer s H B us vs Q E hr e0 hb r h=>?_⟩
 have hl:=len _ _ _ _ h
 have KX:K.In s.heap:=e0.mod.kin.keeps fun b o e=>(e0.bs b o e).1
 have l:s.heap.NoLimit:=e0.mod.nolimit.keeps fun b o e=>(e0.bs b o e).1
 have g:∀ y∈ps.zip us,scope.names.lookup y.1=some .local\/(scope.names.lookup y.1=some .cell/\((cellsFrom (s.heap.objs.size+1) scope.names []).lookup y.1).isSome=true):=fun ⟨n,v⟩ hy=>by
  rcases S.par n (al4 hy).1 with q | q
  ·exact .inl q
  ·exact .inr ⟨q,PySem.W.cellsFrom_some _ _ _ (.inl q)⟩
 refine codeAny_call_function hr.depth (KX _ _ lk) rfl S.co S.gen rfl (PySem.W.codeRec_of KX hcd) (hb _ _ _ _ ?_);refine wpAny_newFunctionEnv_cells S.kind g fun env he s1 x=>?_;subst he;refine ⟨l.keeps x.toInCall.keep,codeAny_func ?_⟩;obtain ⟨t,ht,hq⟩:=hbody A outer s H vs Q E (hr.deeper _) h
 have I:Inv (cxOf CX P w K mg base N qual scope f cdv A outer s H E) [] (start N vs) H s1:=lH S hr.hd e0 hl r x;refine af3 (ht [] s1 (start N vs) H _ I hq) (fun fl s' hs=>?_) fun e s' hs=>hs
 have fin:∀ {σ':St}{H':Hp}{v:V}{u:Value},Inv (cxOf CX P w K mg base N qual scope f cdv A outer s H E) [] σ' H' s'->RelV v u->Q v H'->CE outer P w H s Q u s' :=
  fun {σ' H' v u} J rv q=>⟨v,H',J.os,J.bare,J.base,J.hok,rv,q⟩
 cases fl with
 | ret u =>
  obtain ⟨v,σ',H',J,rv,q⟩:=hs;exact fin J rv q
 | next =>
  obtain ⟨σ',H',J,q⟩:=hs;exact fin (v:=V.non) (u:=Value.none) J rfl q
 | brk =>
  obtain ⟨_,_,_,q⟩:=hs;exact False.elim q
 | cont =>
  obtain ⟨_,_,_,q⟩:=hs;exact False.elim q
section
variable {X:Cx}{x:Str}{p pos:Pos}{e:Expr}{es:List Expr}{t:TA}{id T:String}{r:List V->Hp->VK->Prop}
def tCB (r:List V->Hp->VK->Prop) (t:TA):TE:=fun σ H Q=>t σ H fun vs H1=>r vs H1 Q
theorem aA (hc:cG X (.builtin id) r) (hg:Gl X x) (hm:X.mg x=none) (hv:bootBuiltins x=some (.builtin id)) (ha:PA X (e :: es) t) (hn:x ≠ "__name__":=by decide) (hdb:(x == ("__debug__" : Str))=false:=by decide)
  (he:starEach (e :: es) X.env=(false,eval e X.env) :: starEach es X.env:=by rfl) (hpl:(backTo pos (starEach es X.env)).any (·.1)=false:=by rfl):PE X (.Call (.Name x p) (e :: es) [] pos) (tCB r t):=by
 intro g s σ H Q I h;refine ah9 (cA I hg hm hv ?_ hn hdb);exact PyProof.Rows.callWith_builtin1 (thn (ha pos g s σ H _ I h) fun us s1 ⟨vs,H1,I1,r1,q1⟩=>hc g s1 σ H1 vs us Q I1 r1 q1) he hpl
theorem bP (hc:cG X (.type T) r) (hg:Gl X x) (hm:X.mg x=none) (hv:bootBuiltins x=some (.type T)) (ha:PA X (e :: es) t) (hn:x ≠ "__name__":=by decide) (hdb:(x == ("__debug__" : Str))=false:=by decide)
  (he:starEach (e :: es) X.env=(false,eval e X.env) :: starEach es X.env:=by rfl) (hpl:(backTo pos (starEach es X.env)).any (·.1)=false:=by rfl):PE X (.Call (.Name x p) (e :: es) [] pos) (tCB r t):=by
 intro g s σ H Q I h;refine ah9 (cA I hg hm hv ?_ hn hdb);exact ag3 (thn (ha pos g s σ H _ I h) fun us s1 ⟨vs,H1,I1,r1,q1⟩=>hc g s1 σ H1 vs us Q I1 r1 q1) he hpl
end
end L2
namespace HT
open PySem PyProof.Rows
section
open PySem.SeqAt
open PySem.AutoSeq1 (wpAny_loadPart')
open PySem.MeetsSeq PySem.MeetsSeq2 PySem.MeetsSeq3
end
section
variable {prog:Program}{w:World}{A:Around}{E:Value->Shared->Prop}{s:Shared}
def sIx (n d:Nat):Option Int->Nat
 | none=>d
 | some v=>if v < 0 then (v+(n:Int)).toNat else min v.toNat n
theorem sIx_none (n d:Nat):sIx n d none=d:=rfl
theorem sIx_nat (n d k:Nat):sIx n d (some (k:Int))=min k n:=by
 show (if (k:Int) < 0 then ((k:Int)+(n:Int)).toNat else min (k:Int).toNat n)=min k n
 rw [if_neg (by omega),ac2]
end
end HT
namespace L2
open PySem PySem.Spec PyProof.Rows
abbrev TO:=St->Hp->(Option Int->Hp->Prop)->Prop
def PO (X:Cx) (e:Option Expr) (t:TO):Prop :=
 ∀ (pins:List (Addr × Obj)) (s:Shared) (σ:St) (H:Hp) (Q:Option Int->Hp->Prop),Inv X pins σ H s->t σ H Q →
  wpAny (model X.prog X.w) X.A (evalPart e X.env) (fun u s'=>∃ o H',Inv X pins σ H' s'/\IsPart u o/\Q o H') X.xe s
def wY:TO:=fun _ H Q=>Q none H
inductive pT (Q:Option Int->Hp->Prop) (x:V) (H1:Hp):Prop
 | mk:∀ i,x=.int i->Q (some i) H1->pT Q x H1
def zw (t:TE):TO:=fun σ H Q=>t σ H fun x H1=>pT Q x H1
section
variable {X:Cx}{e:Expr}{te:TE}{lo hi:Option Expr}{tl th:TO}{pos p2:Pos}
theorem kW:PO X none wY:=by
 intro g s σ H Q I h;rw [evalPart_none];exact ab2 ⟨none,H,I,.none,h⟩
theorem kX (h:PE X e te):PO X (some e) (zw te):=by
 intro g s σ H Q I hw;rw [evalPart_some];refine thn (h g s σ H _ I hw) fun u s1 ⟨x,H1,I1,r1,q1⟩=>?_;obtain ⟨i,rfl,q⟩:=q1;obtain ⟨t,rfl⟩:=r1;exact ⟨some i,H1,I1,.int i t,q⟩
def SlR (X:Cx) (r:V->Option Int->Option Int->Hp->VK->Prop):Prop :=
 ∀ (pins:List (Addr × Obj)) (s:Shared) (σ:St) (H:Hp) (x:V) (v vl vu:Value) (lo hi:Option Int) (sl:Addr) (Q:VK),Inv X pins σ H s->RelV x v->s.heap.IsSliceOf sl vl vu .none->IsPart vl lo->IsPart vu hi->r x lo hi H Q →
  ∃ T id,typeLookup (.type T) "__getitem__" = pure (some (.builtin id))∧s.TypeIs v T∧wpAny (model X.prog X.w) X.A (getItem v (.ref sl)) (EP X pins σ Q) X.xe s
def tSl (r:V->Option Int->Option Int->Hp->VK->Prop) (te:TE) (tl th:TO):TE:=fun σ H Q=>te σ H fun x H1=>tl σ H1 fun l H2=>th σ H2 fun u H3=>r x l u H3 Q
theorem jv {r:V->Option Int->Option Int->Hp->VK->Prop} (hr:SlR X r) (he:PE X e te) (hl:PO X lo tl) (hu:PO X hi th):PE X (.Subscript e (.Slice lo hi none p2) pos) (tSl r te tl th):=by
 intro g s σ H Q I h;refine Subscript_ (thn (he g s σ H _ I h) fun v s1 ⟨x,H1,I1,r1,q1⟩=>?_);refine wpAny_Slice (thn (hl g s1 σ H1 _ I1 q1) fun vl s2 ⟨l,H2,I2,pl,q2⟩=>thn (hu g s2 σ H2 _ I2 q2) fun vu s3 ⟨u,H3,I3,pu,q3⟩=>?_);rw [evalPart_none];refine ab2 ?_
 have I4:Inv X g σ H3 { s3 with heap:=s3.heap.push { cls:=.type "slice",data:=.fields #[vl,vu,.none] } }:=I3.kept (t':=s3.toks) fun b ob q=>zP _ q
 obtain ⟨T,id,hT,ht,hg⟩:=hr g { s3 with heap:=s3.heap.push { cls:=.type "slice",data:=.fields #[vl,vu,.none] } } σ H3 x v vl vu l u s3.heap.objs.size Q I4 r1 (Heap.IsSliceOf.new ..) pl pu q3
 show wpAny (model X.prog X.w) X.A (subscriptTail e (.Slice lo hi none p2) v (.ref s3.heap.objs.size)) (EP X g σ Q) X.xe { s3 with heap:=s3.heap.push { cls:=.type "slice",data:=.fields #[vl,vu,.none] } }
 exact tail_any (ops:=[.ref s3.heap.objs.size,v]) ht hT hg (by with_unfolding_all rfl)
def cutV (xs:List V) (lo hi:Option Int):List V:=(xs.drop (HT.sIx xs.length 0 lo)).take (HT.sIx xs.length xs.length hi - HT.sIx xs.length 0 lo)
theorem pj (xs:List V) (lo hi:Option Int):(cutV xs lo hi).length<=xs.length:=by
 unfold cutV;rw [ag0,List.length_drop];omega
end
def ixN (n:Nat) (i:Int):Option Nat:=if 0<=i then (if i < n then some i.toNat else none) else if -(n:Int)<=i then some (i+n).toNat else none
def atI {α:Type} (xs:List α) (i:Int):Option α:=(ixN xs.length i).bind fun j=>xs[j]?
variable {n:Nat}
theorem pU {i:Int}{j:Nat} (h:ixN n i=some j):seqIndex? i n=some j/\j < n/\-(n:Int)<=i/\i < n:=by
 unfold ixN at h
 by_cases h0:0<=i
 ·rw [if_pos h0] at h
  by_cases h1:i < n
  ·rw [if_pos h1] at h
   have e:i.toNat=j:=zX h;exact ⟨by rw [seqIndex_of h0 h1,e],by omega,by omega,h1⟩
  ·rw [if_neg h1] at h;cases h
 ·rw [if_neg h0] at h
  by_cases h1:-(n:Int)<=i
  ·rw [if_pos h1] at h
   have e:(i+n).toNat=j:=zX h;exact ⟨by rw [seqIndex_neg (by omega) h1,e],by omega,h1,by omega⟩
  ·rw [if_neg h1] at h;cases h
theorem pV {α:Type}{xs:List α}{i:Int}{v:α} (h:atI xs i=some v):∃ j,seqIndex? i xs.length=some j/\xs[j]?=some v/\j < xs.length/\-(xs.length:Int)<=i/\i < xs.length:=by
 unfold atI at h
 cases e:ixN xs.length i with
 | none=>rw [e] at h;cases h
 | some j =>
  rw [e] at h;obtain ⟨h1,h2,h3,h4⟩:=pU e;exact ⟨j,h1,h,h2,h3,h4⟩
theorem aC {α:Type}{xs:List α}{j:Nat}{v:α} (h:xs[j]?=some v):atI xs (j:Int)=some v:=by
 have hj:j < xs.length:=(zV.mp h).1
 have e:ixN xs.length (j:Int)=some j:=by
  unfold ixN;rw [if_pos (by omega),if_pos (by omega)];simp
 unfold atI;rw [e];exact h
def wZ (b:Expr):Prop:=∀ o i,subscripted b false o i=operate [o,i] (getItem o i)
def IxR (X:Cx) (r:R2):Prop :=
 ∀ (value slice:Expr) (pins:List (Addr × Obj)) (s:Shared) (σ:St) (H:Hp) (x y:V) (v u:Value) (Q:VK),Inv X pins σ H s->RelV x v->RelV y u->r x y H Q →
  subscripted slice false v u=operate [v,u] (getItem v u)->wpAny (model X.prog X.w) X.A (subscriptTail value slice v u) (EP X pins σ Q) X.xe s
def MtR (X:Cx) (id:String) (r:V->List V->Hp->VK->Prop):Prop :=
 ∀ (pins:List (Addr × Obj)) (s:Shared) (σ:St) (H:Hp) (x:V) (xs:List V) (v:Value) (us:List Value) (Q:VK),Inv X pins σ H s->RelV x v->Vals xs us->r x xs H Q →
  wpAny (model X.prog X.w) X.A (call (.builtin id) (v :: us)) (EP X pins σ Q) X.xe s
variable {s:Shared}{its:List Value}{x:V}
section
variable {X:Cx}{a b:Expr}{ta tb:TE}{pos:Pos}
theorem aI {r:R2} (hr:IxR X r) (ha:PE X a ta) (hb:PE X b tb) (hs:wZ b):PE X (.Subscript a b pos) (tOp r ta tb):=by
 intro g s σ H Q I h;exact Subscript_ (binT ha hb I h fun v u s2 x y H2 I2 rx ry q=>hr a b g s2 σ H2 x y v u Q I2 rx ry q (hs _ _))
inductive rIxL (K:PySem.W.Frag) (x y:V) (H:Hp) (Q:VK):Prop
 | mk:∀ p xs i v,x=.ref p->y=.int i->SqL K H p xs->atI xs i=some v->Q v H->rIxL K x y H Q
inductive rIxT (K:PySem.W.Frag) (x y:V) (H:Hp) (Q:VK):Prop
 | mk:∀ p xs i v,x=.ref p->y=.int i->SqT K H p xs->atI xs i=some v->Q v H->rIxT K x y H Q
theorem aH:IxR X (rIxL X.K):=by
 intro D C g s σ H x y v u Q I rx ry h hs;obtain ⟨p,xs,i,z,rfl,rfl,hq,he,q⟩:=h
 cases rx;obtain ⟨t,rfl⟩:=ry;obtain ⟨l,r,pl,hz⟩:=I.list hq;obtain ⟨j,h1,h2,h3,h4,h5⟩:=pV he;obtain ⟨w,ew,B⟩:=r.get h2
 have hl:=r.length
 have hn:=ii
 have fin:EP X g σ Q w s:=⟨z,H,I,B,q⟩
 by_cases h0:0<=i
 ·have hj:i.toNat=j:=by
   rw [seqIndex_of h0 h5] at h1;exact zX h1
  exact item_listR pl.isList h0 (by omega) (by rw [hj];simpa using ew) fin hs
 ·have hj:(i+(l.toArray.size:Int)).toNat=j:=by
   rw [seqIndex_neg (by omega) h4] at h1
   rw [zW,← hl];exact zX h1
  exact subscriptTail_builtinR (x:=w) pl.isList.typeIs slot_list_getitem.lookup
   (wpAny_getItem_list_neg (Q:=fun r s'=>r=w/\EP X g σ Q r s') pl.isList (by omega) (by rw [zW] <;> omega) (by omega) (by rw [hj];simpa using ew) ⟨rfl,fin⟩) hs
theorem io:IxR X (rIxT X.K):=by
 intro C B g s σ H x y v u Q I rx ry h hs;obtain ⟨p,xs,i,z,rfl,rfl,hq,he,q⟩:=h
 cases rx;obtain ⟨t,rfl⟩:=ry;obtain ⟨D,r,pl,hz⟩:=I.tuple hq;obtain ⟨j,h1,h2,h3,h4,h5⟩:=pV he;obtain ⟨w,ew,l⟩:=r.get h2
 have hl:=r.length
 have hn:=ii
 have fin:EP X g σ Q w s:=⟨z,H,I,l,q⟩
 exact subscriptTail_builtinR (x:=w) pl.typeIs slot_tuple_getitem.lookup
  (getItem_tuple (j:=j) (Q:=fun r s'=>r=w/\EP X g σ Q r s') pl (by omega) (by omega) (by rw [zW,← hl];exact h1) (by simpa using ew) ⟨rfl,fin⟩) hs
theorem rF (its:List Value) (n j:Nat) (u:Value):Obj.mapSeq (·.setIfInBounds j u) { cls:=.type "list",data:=.seq its.toArray n } = { cls:=.type "list",data:=.seq (its.set j u).toArray n }:=by
 simp [Obj.mapSeq]
theorem Inv.lst {pins:List (Addr × Obj)}{σ:St}{H:Hp}{s:Shared}{p:Addr}{xs:List V} (I:Inv X pins σ H s) (h:H p=some (.lst xs)) :
  ∃ (its:List Value) (n:Nat),Vals xs its∧s.heap.get? p=some { cls:=.type "list",data:=.seq its.toArray n } ∧ xs.length≤sizeLine:=by
 obtain ⟨z,its,n,r,e⟩:=I.hok p _ h;exact ⟨its,n,r,e,z⟩
theorem Inv.lstUpd {pins:List (Addr × Obj)}{σ:St}{H:Hp}{p:Addr}{xs ys:List V}{its':List Value}{n':Nat}{f:Obj->Obj} (I:Inv X pins σ H s) (h:H p=some (.lst xs))
  (ho:s.heap.get? p=some { cls:=.type "list",data:=.seq its.toArray n }) (hf:f { cls:=.type "list",data:=.seq its.toArray n } = { cls:=.type "list",data:=.seq its'.toArray n' }) (r:Vals ys its') (hz:ys.length≤sizeLine) (t:Nat) :
  Inv X pins σ (upd H p (.lst ys)) { s with heap:=s.heap.update p f,toks:=t }:=by
 have e:(s.heap.update p f).get? p=some { cls:=.type "list",data:=.seq its'.toArray n' }:=by
  rw [Heap.get?_update_self f ho (by rw [hf] <;> rfl),hf]
 refine I.write (x:=p) (e:=p) (by rw [h];trivial) (.inl rfl) (fun b u hb q=>(Heap.get?_update_other _ _ (ad3 hb)).trans q) ⟨_,e⟩ ?_
 exact ⟨hz,its',n',r,e⟩
inductive wH (o i v:V) (H:Hp) (Q:Hp->Prop):Prop
 | mk:∀ p xs k j,o=.ref p->i=.int k->H p=some (.lst xs)->ixN xs.length k=some j->Q (upd H p (.lst (xs.set j v)))->wH o i v H Q
theorem cm:PSet X wH:=by
 intro l s σ H o i v ov iv u Q I ro ri rv h;obtain ⟨p,xs,k,j,rfl,rfl,hp,hj,q⟩:=h
 cases ro;obtain ⟨t,rfl⟩:=ri;obtain ⟨g,n,r,ho,hz⟩:=I.lst hp;obtain ⟨h1,h2,h3,h4⟩:=pU hj
 have hl:=r.length
 have hn:=ii
 have I':Inv X l σ (upd H p (.lst (xs.set j v))) { s with heap:=s.heap.update p (Obj.mapSeq (·.setIfInBounds j u)) } :=
  I.lstUpd hp ho (rF g n j u) (r.set rv j) (by rw [ae6];exact hz) s.toks
 by_cases h0:0<=k
 ·have hk:k.toNat=j:=by
   rw [seqIndex_of h0 h4] at h1;exact zX h1
  exact PySem.W.ki_setAt ho h0 (by omega) (by rw [zW,← hl];exact h4) (by rw [hk];exact ⟨_,I',q⟩)
 ·have hk:(k+(g.toArray.size:Int)).toNat=j:=by
   rw [seqIndex_neg (by omega) h3] at h1
   rw [zW,← hl];exact zX h1
  exact PySem.W.ki_setBack ho (by omega) (by rw [zW,← hl];exact h3) (by omega) (by rw [hk];exact ⟨_,I',q⟩)
theorem nh (lo hi:Option Int) (n:Nat):(sliceBounds lo hi none n).1=((HT.sIx n 0 lo:Nat):Int)/\(sliceBounds lo hi none n).2.1=((HT.sIx n n hi:Nat):Int)/\(sliceBounds lo hi none n).2.2=1:=by
 refine ⟨?_,?_,rfl⟩
 ·cases lo with
  | none=>simp [sliceBounds,HT.sIx]
  | some i =>
   simp only [sliceBounds,HT.sIx,Option.getD_none,show (1:Int) > 0 by decide,if_true]
   by_cases h:i < 0
   ·simp only [h,if_true] <;> omega
   ·simp only [h,if_false] <;> omega
 ·cases hi with
  | none=>simp [sliceBounds,HT.sIx]
  | some i =>
   simp only [sliceBounds,HT.sIx,Option.getD_none,show (1:Int) > 0 by decide,if_true]
   by_cases h:i < 0
   ·simp only [h,if_true] <;> omega
   ·simp only [h,if_false] <;> omega
theorem mJ (its:List Value) (lo hi:Option Int):slicePick its.toArray lo hi none=((its.drop (HT.sIx its.length 0 lo)).take (HT.sIx its.length its.length hi - HT.sIx its.length 0 lo)).toArray:=by
 obtain ⟨h1,h2,h3⟩:=nh lo hi its.toArray.size;unfold slicePick;rw [h1,h2,h3];simp only [sliceRange_one,pick_run,zW] <;> rfl
inductive rSlL (K:PySem.W.Frag) (x:V) (lo hi:Option Int) (H:Hp) (Q:VK):Prop
 | mk:∀ a xs,x=.ref a->SqL K H a xs->(∀ p,H p=none->Q (.ref p) (upd H p (.lst (cutV xs lo hi))))->rSlL K x lo hi H Q
theorem kY:SlR X (rSlL X.K):=by
 intro l s σ H x v vl vu lo hi sl Q I rx hs pl pu h;obtain ⟨a,xs,rfl,hx,q⟩:=h
 cases rx;obtain ⟨B,r,ht,hz⟩:=I.list hx
 have g:=r.length
 refine ⟨"list",_,slot_list_getitem.lookup,ht.isList.typeIs,?_⟩
 refine wpAny_getItem_list_slice ht.isList hs pl pu .none (by simp) ?_ (by rw [zW] <;> omega)
 rw [mJ,← g];refine ⟨.ref s.heap.objs.size,_,I.laid (t':=s.toks) (o:=.lst (cutV xs lo hi)) (fun b ob q=>zP _ q) (zQ _) ?_,rfl,q _ (I.hok.fresh (zQ _))⟩;exact ⟨zR (pj xs lo hi) hz,_,0,(r.drop (HT.sIx xs.length 0 lo)).take (HT.sIx xs.length xs.length hi - HT.sIx xs.length 0 lo),aa8 _ rfl⟩
def cY:V->Bool
 | .non=>true
 | .bl _=>true
 | .int _=>true
 | .str _=>true
 | _=>false
def eqV:V->V->Bool
 | .non,.non=>true
 | .bl a,.bl b=>a == b
 | .bl a,.int b=>(if a then 1 else 0) == b
 | .int a,.bl b=>a == (if b then 1 else 0)
 | .int a,.int b=>a == b
 | .str a,.str b=>a == b
 | _,_=>false
theorem br {A:Around}{y:V}{u v:Value} (ry:RelV y u) (rx:RelV x v) (fy:cY y=true) (fx:cY x=true):SeqAt.EqAt A s u v (eqV y x):=by
 cases y with
 | non =>
  cases ry
  cases x with
  | non=>cases rx;exact SeqAt.EqAt.same _
  | bl b=>cases rx;exact SeqAt.EqAt.none_bool b
  | int b=>obtain ⟨t,rfl⟩:=rx;exact SeqAt.EqAt.none_int b t
  | str b=>obtain ⟨t,rfl⟩:=rx;exact SeqAt.EqAt.none_str b t
  | _=>exact absurd (show false=true from fx) aa3
 | bl a =>
  cases ry
  cases x with
  | non=>cases rx;exact SeqAt.EqAt.bool_none a
  | bl b=>cases rx;exact SeqAt.EqAt.bool_bool a b
  | int b=>obtain ⟨t,rfl⟩:=rx;exact SeqAt.EqAt.bool_int a b t
  | str b=>obtain ⟨t,rfl⟩:=rx;exact SeqAt.EqAt.bool_str a b t
  | _=>exact absurd (show false=true from fx) aa3
 | int a =>
  obtain ⟨t',rfl⟩:=ry
  cases x with
  | non=>cases rx;exact SeqAt.EqAt.int_none a t'
  | bl b=>cases rx;exact SeqAt.EqAt.int_bool a t' b
  | int b=>obtain ⟨t,rfl⟩:=rx;exact SeqAt.EqAt.int_int a t' b t
  | str b=>obtain ⟨t,rfl⟩:=rx;exact SeqAt.EqAt.int_str a t' b t
  | _=>exact absurd (show false=true from fx) aa3
 | str a =>
  obtain ⟨t',rfl⟩:=ry
  cases x with
  | non=>cases rx;exact SeqAt.EqAt.str_none a t'
  | bl b=>cases rx;exact SeqAt.EqAt.str_bool a t' b
  | int b=>obtain ⟨t,rfl⟩:=rx;exact SeqAt.EqAt.str_int a t' b t
  | str b=>obtain ⟨t,rfl⟩:=rx;exact SeqAt.EqAt.str_str a t' b t
  | _=>exact absurd (show false=true from fx) aa3
 | _=>exact absurd (show false=true from fy) aa3
def eqU (x:V) (u:Value):Bool:=match u with
 | .none=>eqV .non x
 | .bool b=>eqV (.bl b) x
 | .int i _=>eqV (.int i) x
 | .str z _=>eqV (.str z) x
 | _=>false
theorem sV {y:V}{u:Value} (r:RelV y u) (f:cY y=true):eqU x u=eqV y x:=by
 cases y with
 | non=>cases r;rfl
 | bl b=>cases r;rfl
 | int i=>obtain ⟨t,rfl⟩:=r;rfl
 | str z=>obtain ⟨t,rfl⟩:=r;rfl
 | _=>exact absurd (show false=true from f) aa3
theorem kZ {x:V}:∀ {xs:List V}{us:List Value},Vals xs us->xs.all cY=true->us.any (eqU x)=xs.any fun y=>eqV y x
 | _,_,.nil,_=>rfl
 | y :: xs,u :: us,.cons r t,f=>by
  rw [aj3,ac8] at f;rw [al8,al8,sV r f.1,kZ t f.2]
theorem jw {A:Around}{s:Shared}{x:V}{v:Value} (rx:RelV x v) (fx:cY x=true):∀ {xs:List V}{us:List Value},Vals xs us->xs.all cY=true->∀ u∈us,SeqAt.EqAt A s u v (eqU x u)
 | _,_,.nil,_=>fun u hu=>by cases hu
 | y :: xs,u :: us,.cons r t,f=>fun u' hu=>by
  rw [aj3,ac8] at f;rcases aa5.mp hu with rfl | hu
  ·rw [sV r f.1];exact br r rx f.1 fx
  ·exact jw rx fx t f.2 u' hu
def inV (x:V) (xs:List V):Bool:=xs.any fun y=>eqV y x
inductive rIn (K:PySem.W.Frag) (neg:Bool) (x y:V) (H:Hp) (Q:VK):Prop
 | mk:∀ p xs,y=.ref p->(SqL K H p xs\/SqT K H p xs)->cY x=true->xs.all cY=true->(Q (.bl (if neg then !inV x xs else inV x xs)) H)->rIn K neg x y H Q
theorem ni:OpR X (compareOp .NotIn) (rIn X.K true):=by
 intro l s σ H x y v u Q I rx ry h;obtain ⟨p,xs,rfl,hq,fx,fs,q⟩:=h
 cases ry;rcases hq with hq | hq
 ·obtain ⟨g,r,pl,hz⟩:=I.list hq
  refine SeqAt.notIn_listAt (eqU x) pl.isList (fun w hw=>jw rx fx r fs w (by simpa using hw)) ⟨.bl _,H,I,rfl,?_⟩
  rw [show g.toArray.any (eqU x)=g.any (eqU x) by simp,kZ r fs]
  exact q
 ·obtain ⟨g,r,pl,hz⟩:=I.tuple hq
  refine SeqAt.notIn_tupleAt (eqU x) pl (fun w hw=>jw rx fx r fs w (by simpa using hw)) ⟨.bl _,H,I,rfl,?_⟩
  rw [show g.toArray.any (eqU x)=g.any (eqU x) by simp,kZ r fs]
  exact q
inductive dQ (K:PySem.W.Frag) (xs:List V) (H:Hp) (Q:VK):Prop
 | mk:∀ p ys,xs=[.ref p]->(SqL K H p ys\/SqT K H p ys)->Q (.int ys.length) H->dQ K xs H Q
theorem aB:cG X (.builtin "len") (dQ X.K):=by
 intro B s σ H xs us Q I r h;obtain ⟨p,ys,rfl,hq,q⟩:=h;obtain ⟨u,rfl,rx⟩:=cH r
 cases rx
 have hn:=ii;rcases hq with hq | hq
 ·obtain ⟨l,r',pl,hz⟩:=I.list hq
  have g:=r'.length;exact Calls.call_len_list pl.isList (by simp only [zW] <;> omega) ⟨.int ys.length,H,I.tok _,⟨s.toks+1,by rw [zW,g]⟩,q⟩
 ·obtain ⟨l,r',pl,hz⟩:=I.tuple hq
  have g:=r'.length;exact len_tuple pl (by simp only [zW] <;> omega) ⟨.int ys.length,H,I.tok _,⟨s.toks+1,by rw [zW,g]⟩,q⟩
inductive dR (K:PySem.W.Frag) (xs:List V) (H:Hp) (Q:VK):Prop
 | mk:∀ p ys,xs=[.ref p]->(SqL K H p ys\/SqT K H p ys)->(∀ l,H l=none->Q (.ref l) (upd H l (.lst ys)))->dR K xs H Q
theorem b7:cG X (.type "list") (dR X.K):=by
 intro B s σ H xs us Q I r h;obtain ⟨p,ys,rfl,hq,q⟩:=h;obtain ⟨u,rfl,rx⟩:=cH r
 cases rx
 have fin:∀ (g:List Value),Vals ys g->ys.length<=sizeLine->∀ (h':Heap) (c':Nat),(∀ b o',s.heap.get? b=some o'->h'.get? b=some o') →
   h'.get? s.heap.objs.size=some { cls:=.type "list",dict:=none,data:=.seq g.toArray c',slots:=#[] } → EP X B σ Q (.ref s.heap.objs.size) { s with heap:=h' }:=fun g r' hz h' c' kp e =>
  ⟨.ref s.heap.objs.size,_,I.laid (t':=s.toks) kp (zQ _) (show ObjOk X.prog X.w _ h' _ (.lst ys) from ⟨hz,g,c',r',e⟩),rfl,q _ (I.hok.fresh (zQ _))⟩
 rcases hq with hq | hq
 ·obtain ⟨g,r',pl,hz⟩:=I.list hq
  have l:=r'.length;obtain ⟨o,ho,hc,n,hd⟩:=pl.isList;exact call_list_seq p (.inl rfl) ho hc hd (fun h' c' kp e=>fin g r' hz h' c' kp e) (by simp only [zW] <;> omega)
 ·obtain ⟨g,r',pl,hz⟩:=I.tuple hq
  have l:=r'.length;obtain ⟨o,ho,hc,n,hd⟩:=pl;exact call_list_seq p (.inr rfl) ho hc hd (fun h' c' kp e=>fin g r' hz h' c' kp e) (by simp only [zW] <;> omega)
def tyV (K:PySem.W.Frag) (T:String) (x:V) (H:Hp):Prop:=match x with
 | .str _=>T = "str"
 | .int _=>T = "int"
 | .ref p=>(T = "list" ∧ ∃ xs,SqL K H p xs) ∨ (T = "tuple" ∧ ∃ o,K.lookup p=some o∧o.cls=.type "tuple" ∧ o.dict=none) ∨
   (T = "dict" ∧ ((∃ kvs,H p=some (.dK kvs)) ∨ ∃ kvs,H p=some (.dT kvs))) ∨ (T = "set" ∧ ∃ S n,H p=some (.set S n))
 | _=>False
theorem sX {pins:List (Addr × Obj)}{σ:St}{H:Hp}{T:String}{v:Value} (I:Inv X pins σ H s) (r:RelV x v) (ty:tyV X.K T x H) :
  s.TypeIs v T/\∀ a,v=.ref a->∃ ob,s.heap.get? a=some ob/\ob.dict=none:=by
 cases x with
 | str z =>
  obtain ⟨t,rfl⟩:=r
  cases (show T = "str" from ty)
  exact ⟨typeIs_str s z t,fun _ e=>nomatch e⟩
 | int i =>
  obtain ⟨t,rfl⟩:=r
  cases (show T = "int" from ty)
  exact ⟨typeIs_int s i t,fun _ e=>nomatch e⟩
 | ref p =>
  cases r;rcases ty with ⟨rfl,xs,hq⟩ | ⟨rfl,o,hk,hc,hd⟩ | ⟨rfl,hk⟩ | ⟨rfl,S,n,hk⟩
  ·obtain ⟨h,_,pl,_⟩:=I.list hq
   refine ⟨pl.isList.typeIs,fun a e=>?_⟩
   cases e;obtain ⟨o,n,e,c,hd,_⟩:=pl;exact ⟨o,e,hd⟩
  ·refine ⟨⟨o,I.kIn p o hk,hc⟩,fun a e=>?_⟩
   cases e;exact ⟨o,I.kIn _ o hk,hd⟩
  ·have z:∃ o,s.heap.get? p=some o/\o.ExactDict:=by
    rcases hk with ⟨g,hk⟩ | ⟨g,hk⟩
    ·obtain ⟨_,_,_,_,o,_,_,e,ex,_⟩:=I.hok p _ hk
     exact ⟨o,e,ex⟩
    ·obtain ⟨_,_,_,_,o,_,_,e,ex,_⟩:=I.hok p _ hk
     exact ⟨o,e,ex⟩
   obtain ⟨o,e,ex⟩:=z;refine ⟨⟨o,e,ex.1⟩,fun a e2=>?_⟩
   cases e2;exact ⟨o,e,ex.2.1⟩
  ·obtain ⟨o,_,_,_,e,ex,_⟩:=I.hok p _ hk
   refine ⟨⟨o,e,ex.1⟩,fun a e2=>?_⟩
   cases e2;exact ⟨o,e,ex.2.1⟩
 | _=>exact False.elim ty
def tBM0 (K:PySem.W.Frag) (T:String) (r:V->List V->Hp->VK->Prop) (to:TE):TE:=fun σ H Q=>to σ H fun x H1=>tyV K T x H1/\r x [] H1 Q
def tBM (K:PySem.W.Frag) (T:String) (r:V->List V->Hp->VK->Prop) (to:TE) (t:TA):TE:=fun σ H Q=>to σ H fun x H1=>tyV K T x H1/\t σ H1 fun xs H2=>r x xs H2 Q
variable {o e:Expr}{es:List Expr}{to:TE}{t:TA}{name:Str}{apos cpos:Pos}{T id:String}{r:V->List V->Hp->VK->Prop}
theorem eE (pa:PlainAttrs T) (slot:Slot T name id) (hty:typeOf (.builtin id)=pure (.type "method_descriptor")) (hm:MtR X id r) (ho:PE X o to)
  (hbase:attributeBase o name X.env (eval o X.env)=eval o X.env:=by rfl) (hline:(apos.endLine == cpos.line)=true:=by rfl):PE X (.Call (.Attribute o name apos) [] [] cpos) (tBM0 X.K T r to):=by
 intro g s σ H Q I h;refine wpAny_Call_method0_late hbase hline (thn (ho g s σ H _ I h) fun v s1 ⟨x,H1,I1,r1,ty,q1⟩=>?_);obtain ⟨h1,h2⟩:=sX I1 r1 ty;exact ⟨T,id,pa,slot,hty,h1,h2,Calls.callWith_builtin rfl (PySem.evalArgs_none (hm g s1 σ H1 x [] v [] Q I1 r1 .nil q1))⟩
theorem cn (pa:PlainAttrs T) (slot:Slot T name id) (hty:typeOf (.builtin id)=pure (.type "method_descriptor")) (hm:MtR X id r) (ho:PE X o to) (ha:PA X (e :: es) t)
  (hbase:attributeBase o name X.env (eval o X.env)=eval o X.env:=by rfl)
  (hfew:((backTo cpos (starEach (e :: es) X.env)).all (fun x=>!x.1) && (backToKw cpos (keywordEach [] X.env)).all (fun x=>x.1.isSome)
   && decide ((e :: es).length+([]:List Keyword).length+(if ([]:List Keyword).isEmpty then 0 else 1) < 30))=true:=by rfl)
  (hline:(apos.endLine == cpos.line)=true:=by rfl) (hs:starEach (e :: es) X.env=(false,eval e X.env) :: starEach es X.env:=by rfl) (hplain:(backTo cpos (starEach es X.env)).any (·.1)=false:=by rfl) :
  PE X (.Call (.Attribute o name apos) (e :: es) [] cpos) (tBM X.K T r to t):=by
 intro g s σ H Q I h;refine wpAny_Call_method_late hbase hfew hline rfl (thn (ho g s σ H _ I h) fun v s1 ⟨x,H1,I1,r1,ty,q1⟩=>?_);obtain ⟨h1,h2⟩:=sX I1 r1 ty;refine ⟨T,id,pa,slot,hty,h1,h2,?_⟩
 have hA:=ha cpos g s1 σ H1 _ I1 q1;rw [hs] at hA ⊢;refine Calls.callWith_builtin (by show (false || (backTo cpos (starEach es X.env)).any (·.1))=false;rw [hplain] <;> rfl) (Calls.evalArgs_plain ?_)
 exact thn hA fun us s2 ⟨vs,H2,I2,r2,q2⟩=>hm g s2 σ H2 x vs v us Q I2 r1 r2 q2
end
def MtM (X:Cx) (id:String) (r:V->List V->Hp->VK->Prop):Prop :=
 ∀ (pins:List (Addr × Obj)) (s:Shared) (σ:St) (H:Hp) (x:V) (xs:List V) (v:Value) (us:List Value) (Q:VK),Inv X pins σ H s->RelV x v->Vals xs us->r x xs H Q →
  wpAny (model X.prog X.w) X.A (call (.builtin id) (v :: us)) (EP X pins σ Q) X.xe s
theorem Vals.one:∀ {x:V}{us:List Value},Vals [x] us->∃ u,us=[u]/\RelV x u
 | _,_,.cons r .nil=>⟨_,rfl,r⟩
theorem Vals.zero:∀ {us:List Value},Vals [] us->us=[]
 | _,.nil=>rfl
theorem Vals.reverse {xs:List V}{us:List Value} (h:Vals xs us):Vals xs.reverse us.reverse:=by
 induction h with
 | nil=>exact .nil
 | cons r t ih=>rw [List.reverse_cons,List.reverse_cons];exact Vals.append ih (.cons r .nil)
theorem Vals.rep {xs:List V}{us:List Value} (h:Vals xs us):∀ k:Nat,Vals (List.replicate k xs).flatten (List.replicate k us).flatten
 | 0=>.nil
 | k+1=>by
  rw [ag2,ag2,ai7,ai7];exact Vals.append h (Vals.rep h k)
theorem lJ (its:List Value):∀ (k:Nat) (acc:List Value),
  List.foldl (fun x1 x2=>x1++x2) acc.toArray (List.replicate k its.toArray)=(acc++(List.replicate k its).flatten).toArray
 | 0,acc=>by simp
 | k+1,acc=>by
  have e:acc.toArray++its.toArray=(acc++its).toArray:=by simp
  have e2:(acc++its)++(List.replicate k its).flatten=acc++(List.replicate (k+1) its).flatten:=by
   rw [ag2,ai7,am1]
  rw [<- e2,← lJ its k (acc++its),← e,ag2,List.foldl_cons]
section
variable {X:Cx}{pins:List (Addr × Obj)}{σ:St}{H:Hp}{s:Shared}{l b:Addr}{xs ys zs:List V}
theorem Inv.lset {its':List Value}{f:Array Value->Array Value}{t':Nat} (I:Inv X pins σ H s) (hH:H l=some (.lst xs))
  (e:s.heap.get? l=some { cls:=.type "list",data:=.seq its.toArray n }) (hf:f its.toArray=its'.toArray) (hv:Vals ys its') (hz:ys.length≤sizeLine) :
  Inv X pins σ (upd H l (.lst ys)) { s with heap:=s.heap.update l (Obj.mapSeq f),toks:=t' }:=by
 have q:=PySem.IsL.update e f;rw [hf] at q;refine I.write (x:=l) (e:=l) (by rw [hH];exact trivial) (.inl rfl) (fun b' u hb hu=>(Heap.get?_update_other s.heap (Obj.mapSeq f) (ad3 hb)).trans hu) ⟨_,q⟩ ?_
 exact ⟨hz,its',_,hv,q⟩
theorem Inv.lnew {t':Nat} (I:Inv X pins σ H s) (hv:Vals ys its) (hz:ys.length<=sizeLine) :
  Inv X pins σ (upd H s.heap.objs.size (.lst ys)) { s with heap:=s.heap.push { cls:=.type "list",data:=.seq its.toArray },toks:=t' } :=
 I.laid (fun _ _ q=>zP _ q) (zQ _) ⟨hz,its,0,hv,aa8 _ rfl⟩
theorem Inv.fresh (I:Inv X pins σ H s):H s.heap.objs.size=none:=I.hok.fresh (zQ _)
theorem Inv.lstM (I:Inv X pins σ H s) (hH:H l=some (.lst xs)):xs.length≤sizeLine ∧ ∃ (its:List Value) (n:Nat),Vals xs its∧xs.length=its.length∧s.heap.get? l=some { cls:=.type "list",data:=.seq its.toArray n }:=by
 obtain ⟨z,its,n,r,e⟩:=I.hok l _ hH;exact ⟨z,its,n,r,r.length,e⟩
theorem vj (h:n<=sizeLine):Builtin.List.listTooLong n=false:=by
 unfold Builtin.List.listTooLong;exact aa9 (by omega)
end
variable {α:Type}
section
variable {X:Cx}
inductive pW (x:V) (vs:List V) (H:Hp) (Q:VK):Prop
 | mk:∀ l xs y,x=.ref l->vs=[y]->H l=some (.lst xs)->xs.length < sizeLine->Q .non (upd H l (.lst (xs++[y])))->pW x vs H Q
theorem bc:MtM X "list.append" pW:=by
 intro B s σ H x vs v us Q I rx rv h;obtain ⟨l,xs,y,rfl,rfl,hH,hz,q⟩:=h
 cases rx;obtain ⟨u,rfl,ru⟩:=rv.one;obtain ⟨z,g,n,r,hl,e⟩:=I.lstM hH;refine call_meets F.slot_list_append ⟨_,e,rfl⟩ F.entry_list_append (F.args_list_append_2 _ _) (PySem.list_append l g.toArray n u (by rw [zW];omega)) ⟨e,?_⟩
 refine ⟨.non,_,I.lset (its':=g++[u]) hH e (by simp) (r.append (.cons ru .nil)) ?_,rfl,q⟩
 rw [ab6,List.length_singleton];omega
inductive nj (x:V) (vs:List V) (H:Hp) (Q:VK):Prop
 | mk:∀ l xs,x=.ref l->vs=[]->H l=some (.lst xs)->Q .non (upd H l (.lst xs.reverse))->nj x vs H Q
theorem rG:MtM X "list.reverse" nj:=by
 intro C s σ H x vs v us Q I rx rv h;obtain ⟨l,xs,rfl,rfl,hH,q⟩:=h
 cases rx
 have B:=rv.zero;subst B;obtain ⟨z,g,n,r,hl,e⟩:=I.lstM hH;refine call_meets F.slot_list_reverse ⟨_,e,rfl⟩ F.entry_list_reverse (F.args_list_reverse_1 _) (AutoSeq1.list_reverse_list_0 l g.toArray n (by rw [zW];omega)) ⟨e,?_⟩
 refine ⟨.non,_,I.lset (its':=g.reverse) hH e (by simp) r.reverse ?_,rfl,q⟩
 rw [List.length_reverse];omega
inductive rCat (x y:V) (H:Hp) (Q:VK):Prop
 | mk:∀ l b xs zs,x=.ref l->y=.ref b->H l=some (.lst xs)->H b=some (.lst zs)->xs.length+zs.length<=sizeLine->(∀ p,H p=none->Q (.ref p) (upd H p (.lst (xs++zs))))->rCat x y H Q
theorem sY:OpR X (binaryOp .Add) rCat:=by
 intro C s σ H x y v u Q I rx ry h;obtain ⟨l,b,xs,zs,rfl,rfl,hH,hB,hz,q⟩:=h
 cases rx
 cases ry;obtain ⟨z,B,n,r,hl,e⟩:=I.lstM hH;obtain ⟨z2,g,n2,r2,D,e2⟩:=I.lstM hB;refine PySem.P.add_list e e2 ?_ (by rw [zW,zW];omega)
 have ea:B.toArray++g.toArray=(B++g).toArray:=by simp
 rw [ea];exact ⟨.ref _,_,I.lnew (t':=s.toks) (r.append r2) (by rw [ab6];omega),rfl,q _ I.fresh⟩
inductive rRep (x y:V) (H:Hp) (Q:VK):Prop
 | mk:∀ l k xs,x=.ref l->y=.int k->H l=some (.lst xs)->-(2 ^ 63)<=k->k < 2 ^ 63->xs.length * k.toNat<=sizeLine->(∀ p,H p=none->Q (.ref p) (upd H p (.lst (List.replicate k.toNat xs).flatten)))->rRep x y H Q
theorem xa (xs:List α) (k:Nat):(List.replicate k xs).flatten.length=k * xs.length:=by
 induction k with
 | zero=>simp
 | succ k ih=>rw [ag2,ai7,ab6,ih,Nat.succ_mul,Nat.add_comm]
theorem ip:OpR X (binaryOp .Mult) rRep:=by
 intro J s σ H x y v u Q I rx ry h;obtain ⟨l,k,xs,rfl,rfl,hH,h1,h2,hz,q⟩:=h
 cases rx;obtain ⟨t,rfl⟩:=ry;obtain ⟨z,g,n,r,hl,e⟩:=I.lstM hH
 have C:g.toArray.size * k.toNat<=sizeLine:=by rw [zW,← hl];exact hz
 have G:¬ g.toArray.size * k.toNat > (2 ^ 63 - 1) / 8:=by
  have:(sizeLine:Nat)<=(2 ^ 63 - 1) / 8:=by decide
  omega
 have E:¬ (!Builtin.List.listFitsIndex k)=true:=by
  rw [fitsIndex_both h1 h2];exact aa3
 have B:¬ Builtin.List.listTooLong (g.toArray.size * k.toNat)=true:=by
  rw [vj C];exact aa3
 have D:List.foldl (fun x1 x2=>x1++x2) #[] (List.replicate (if g.toArray.isEmpty=true then 0 else k.toNat) g.toArray)=(List.replicate k.toNat g).flatten.toArray:=by
  have f0:∀ m:Nat,List.foldl (fun x1 x2=>x1++x2) #[] (List.replicate m g.toArray)=(List.replicate m g).flatten.toArray:=fun m=>by
   have:=lJ g m [];rw [List.nil_append] at this;exact this
  rw [f0]
  cases g with
  | nil=>simp
  | cons a r'=>rw [if_neg (by simp)]
 refine wpAny_binaryOp_repeat_ref (T:="list") (U:="int") (by decide) ⟨_,e,rfl⟩ (fun s'=>typeIs_int s' k t) noFill_list_mul F.fills_int_mul F.slot_int_rmul repeat_list F.slot_int_index.lookup
  (call_meets F.slot_int_rmul (typeIs_int s k t) F.entry_int_rmul (F.args_int_rmul_2 _ _) (int___rmul___int_list k t l g.toArray n)
   ⟨e,rfl,⟨_,e,rfl⟩,call_meets F.slot_list_mul ⟨_,e,rfl⟩ F.entry_list_mul (F.args_list_mul_2 _ _) (AutoListH.list___mul___list_int_3 l g.toArray n k t E G B) ⟨e,?_⟩⟩)
 rw [D];exact ⟨.ref _,_,I.lnew (t':=s.toks) (r.rep k.toNat) (by rw [xa,ai3];exact hz),rfl,q _ I.fresh⟩
end
section
variable {prog:Program}{w:World}{A:Around}{E:Value->Shared->Prop}{s:Shared}
end
section
variable {X:Cx}
end
end L2
namespace Att
open PySem PySem.W PySem.Calls PyProof.Rows
theorem j4 {P:Params}{h:Heap}:∀ (ns:List Int) (vs:List Value),WellAll P h vs (ns.map WData.int)->IntsAre vs ns:=by
 intro ns
 induction ns with
 | nil =>
  intro vs w;rw [List.map_nil] at w
  cases w;exact .nil
 | cons n ns ih =>
  intro vs w;rw [ad8] at w
  cases w with
  | cons a b =>
   cases a;exact .cons _ _ (ih _ b)
theorem sZ {l:OpenLaw}{n:Nat} (hn:l.most=some n) {P:Params}{h:Heap}{args:List WData}{vals:List Value}
  (hpre:l.row.toRowW.claim.pre args=true) (hwl:WellAll P h vals args) :
  ∃ a vs ns,vals=[Value.ref a]∧args=[WData.list (ns.map WData.int)]∧h.get? a=some { cls:=.type "list",data:=.seq vs.toArray } ∧ IntsAre vs ns∧ns.length≤n:=by
 have s:WShape.hasAll [] args [.list .int]=true:=(pre_splitW hpre).1
 have hc:l.pre.holds [] { args:=args } = true:=(pre_splitW hpre).2;obtain ⟨d,r,rfl,h1,h2⟩:=hasAllW_cons s;obtain rfl:=hasAllW_nil h2;obtain ⟨xs,rfl,h3⟩:=hasW_list h1;obtain ⟨ns,rfl⟩:=items_int h3
 have g:ns.length<=n:=by
  unfold OpenLaw.pre at hc
  have h4:(WTm.not (.lt (.lit (.int (n:Int))) (.len (.arg 0)))).holds [] { args:=[.list (ns.map .int)] } = true:=by
   have h4:=(holds_andW hc).1;rw [hn] at h4;exact h4
  have h5:=condW_of h4 (w_not (w_lt w_lit (w_len_list (w_arg rfl))));rw [zM] at h5;refine Nat.le_of_not_lt fun q=>?_
  have q':(n:Int) < ((ns.length:Nat):Int):=by omega
  first
   | (rw [zZ q'] at h5;exact absurd h5 (by decide))
   | (simp at h5;omega)
 cases hwl with
 | cons w1 w2 =>
  cases w2
  cases w1 with
  | list ho hall=>exact ⟨_,_,ns,rfl,rfl,ho,j4 ns _ hall,g⟩
theorem tf (l:OpenLaw) (args:List WData):l.row.toRowW.claim.post args (.bool true) args=true :=
 postW_of (r:=l.row.toRowW) (X:=(true == true))
  (show WShape.has [] (.bool true) .bool=true by first | rfl | decide | simp [WShape.has,WShape.arms,WShape.armsAll])
  (show (WTm.eq .res (.lit (.bool true))).value [] { args:=args,res:=some (.bool true),after:=args } = some (.bool (true == true)) from w_eq_bool (w_res rfl) w_lit) rfl
theorem attach_call {l:OpenLaw}{n:Nat}{q:Program}{loose:List Str}{XP:(Str->Option Value)->Heap->Prop}{YP:World->Heap->Prop}{d:DefRec}
  (hn:l.most=some n) (hdf:d.params.defaults=[])
  (call:∀ (w:World) (s₀ s₁:Shared) (mg mb:Str->Option Value) (fa:Addr) (o:Obj) (pm cd doc:Value) (a:Addr) (vs:List Value) (ns:List Int),
   Ground q loose [] XP w s₀ mg mb s₁.heap->YP w s₁.heap →
   s₁.heap.get? fa=some o->o.data=.func (docDef d.name d.params d.body d.scope pm cd doc)->s₁.heap.CodeRec cd d.name->mg d.name=some (.ref fa) →
   s₁.heap.get? a=some { cls:=.type "list",data:=.seq vs.toArray } → IntsAre vs ns→ns.length≤n→s₁.gens = #[] →
   codeAny (model l.prog w) callerA (.call (.ref fa) ⟨[.ref a],[]⟩) (fun r s'=>r=.ok (.ret (.bool true))/\OldK s₁.heap s'.heap/\s'.os=s₁.os/\AllBare s'.gens) s₁) :
  WalkO q loose XP YP l.row.toRowW d [] (fun f vs=>PySem.call f vs):=by
 intro w s₀ s₁ mg mb G Y fa o pm cd doc dV kV ho hd C hD E hg J I as s H O D L;obtain rfl:dV=.none:=Dflts.none hD hdf;obtain rfl:kV=.none:=Dflts.noKw hD;obtain ⟨a,vs,ns,rfl,rfl,B,g,h⟩:=sZ hn s D;refine enter_call (am6 (call w s₀ s₁ mg mb fa o pm cd doc a vs ns G Y ho (fd_plain hd) C E B g h hg) fun r s' hq=>?_);obtain ⟨rfl,h2,h3,h4⟩:=hq;exact ⟨.inl ⟨.bool true,.bool true,[],rfl,fun _=>rfl,.bool true,tf l _,fun _=>⟨List.Pairwise.nil,fun _ hm=>(nomatch hm)⟩⟩,h2,h3,h4⟩
section
variable {prog:Program}{w:World}{A:Around}{E:Value->Shared->Prop}{s:Shared}{K:Frag}
end
end Att
namespace L2
open PySem PySem.Spec PyProof.Rows
theorem lK:∀ {vs:List Value}{ns:List Int},IntsAre vs ns->Vals (ns.map V.int) vs
 | _,_,.nil=>.nil
 | _,_,.cons n t h=>.cons ⟨t,rfl⟩ (lK h)
abbrev KOf {K:PySem.W.Frag}{h:Heap} (_:K.In h):PySem.W.Frag:=K
end L2
namespace L2
open PySem PySem.Spec PyProof.Rows
def aK (s:Stmt) (j:Nat):Stmt:=match s with
 | .ClassDef _ _ _ body _ _ _ _ _ _ _=>body.getD j (.Pass ⟨0,0,0,0⟩)
 | _=>.Pass ⟨0,0,0,0⟩
def bv (s:Stmt):Arguments:=match s with
 | .FunctionDef _ a _ _ _ _ _ _ _ _=>a
 | _=>{ posonlyargs:=[],args:=[],vararg:=none,kwonlyargs:=[],kw_defaults:=[],kwarg:=none,defaults:=[] }
def aY (s:Stmt):List Stmt:=match s with
 | .FunctionDef _ _ b _ _ _ _ _ _ _=>b
 | _=>[]
def ah (s:Stmt):Scope:=match s with
 | .FunctionDef _ _ _ _ _ _ sc _ _ _=>sc
 | _=>{ kind:=.function,names:=[],isGenerator:=false,isCoroutine:=false }
abbrev CX0:CXT:=fun _ _ _ _ _ _=>False
abbrev E0:XK:=fun _ _ _=>False
theorem ao {X:Cx}:ft CX0 X E0:=fun _ _ _ _ _ _ _ h=>h.elim
structure Fun (K:PySem.W.Frag) (x qual:Str) (st:Stmt) (f:Addr) (fd:FuncData):Prop where
 ex:∃ (oc:Value) (od:Option Addr) (kV doc pm:Value) (an:Option Addr) (cdv ct:Value) (osl:Array (Option Value)),
  fd=PySem.W.fnOf x qual (bv st) (aY st) (ah st) .none kV doc pm an cdv ct/\K.lookup f=some ⟨oc,od,.func fd,osl⟩/\PySem.W.codeIn K cdv qual=true
 kp:PySem.W.keepIn K (.ref f)=true
variable {x qual:Str}{st:Stmt}{f:Addr}{N ps:List Str}
section
variable {P:Program}{w:World}{K:PySem.W.Frag}{mg:Str->Option Value}{base:Heap}
theorem Fun.ok {fd:FuncData}{k:Nat}{sp:Sp} (F:Fun K x qual st f fd) (S:ap N ps (ah st)) (len:∀ vs H Q E,sp vs H Q E->vs.length=ps.length)
  (hbody:∀ (cdv:Value) (A:Around) (outer:List Env) (s:Shared) (H:Hp) (vs:List V) (Q:VK) (E:XK),Room k (A.deeper (envOfC qual (ah st) s.heap.objs.size f cdv))->sp vs H Q E →
   ∃ t,PSs (cxOf CX0 P w K mg base N qual (ah st) f cdv A outer s H E).nox (aY st) t/\t { nx:=fun _ H'=>Q .non H',rt:=Q } (start N vs) H):FnOk P w K mg base CX0 (k+1) f fd ps sp:=by
 obtain ⟨oc,od,kV,r,pm,an,cdv,ct,osl,rfl,lk,l⟩:=F.ex;refine wG lk l S len fun A outer s H vs Q E hr g=>?_;obtain ⟨t,h,q⟩:=hbody cdv A outer s H vs Q E hr g;exact ⟨t,h.nox,q⟩
theorem Fun.binds {fd:FuncData} (F:Fun K x qual st f fd)
  (h:∀ (kV doc pm:Value) (an:Option Addr) (cdv ct:Value) (us:List Value),us.length=ps.length->bindArgs (PySem.W.fnOf x qual (bv st) (aY st) (ah st) .none kV doc pm an cdv ct) ⟨us,[]⟩=pure (ps.zip us)):Binds K fd ps []:=by
 obtain ⟨oc,od,kV,doc,pm,an,cdv,ct,osl,rfl,lk,g⟩:=F.ex;exact .all (h kV doc pm an cdv ct)
theorem tj {oc:Value}{od an:Option Addr}{osl:Array (Option Value)}{kV doc pm cdv ct:Value} (l:K.lookup f=some ⟨oc,od,.func (PySem.W.fnOf x qual (bv st) (aY st) (ah st) .none kV doc pm an cdv ct),osl⟩)
  (c:PySem.W.codeIn K cdv qual=true) (k:PySem.W.keepIn K (.ref f)=true):Fun K x qual st f (PySem.W.fnOf x qual (bv st) (aY st) (ah st) .none kV doc pm an cdv ct):=⟨⟨oc,od,kV,doc,pm,an,cdv,ct,osl,rfl,l,c⟩,k⟩
end
theorem cI {A:Around}{k:Nat} (hr:Room k A):A.units+1 < cLine:=ae7 (Nat.add_le_add_left (by decide:1<=64) _) hr.units
theorem tu {n:Nat} (h:n<=1000):n < sizeLine:=ae7 h (by decide)
section
variable {X:Cx}
theorem pv (i:Nat) {x:Str}{pos:Pos} (hN:X.N[i]?=some x:=by rfl) (hv:Vis X.env.scope x:=by first | exact Or.inl rfl | exact Or.inr (Or.inl rfl) | exact Or.inr (Or.inr rfl)) (hd:(x == ("__debug__" : Str))=false:=by decide)
  (hcd:(x == ("__classdict__" : Str))=false:=by decide):PE X (.Name x pos) (tVar i):=yA hN hv hd hcd
end
variable {A B:Prop}
theorem iteF (h:B):if false=true then A else B:=by
 rw [if_neg aa3];exact h
theorem iteT (h:A):if true=true then A else B:=by
 rw [if_pos rfl];exact h
theorem ite2 {c:Prop} [Decidable c] (h1:c->A) (h2:¬ c->B):if c then A else B:=by
 by_cases h:c
 ·rw [if_pos h]
  exact h1 h
 ·rw [if_neg h]
  exact h2 h
def Same (H H':Hp):Prop:=∀ b o,H b=some o->H' b=some o
theorem Same.refl (H:Hp):Same H H:=fun _ _ h=>h
variable {H:Hp}
theorem Same.trans {H1 H2:Hp} (a:Same H H1) (b:Same H1 H2):Same H H2:=fun c o h=>b c o (a c o h)
theorem Same.free {H':Hp} (e:Same H H') {l:Addr} (h:H' l=Option.none):H l=Option.none:=by
 cases q:H l with
 | none=>rfl
 | some o =>
  rw [e l o q] at h
  cases h
theorem Same.seq {K:PySem.W.Frag}{H':Hp}{a:Addr}{xs:List V} (e:Same H H') (h:SqL K H a xs):SqL K H' a xs:=by
 rcases h with (h | ⟨o,h⟩) | h
 ·exact .inl (.inl (e _ _ h))
 ·exact .inl (.inr ⟨o,e _ _ h⟩)
 ·exact .inr h
section
variable {X:Cx}{st:Stmt}{rest:List Stmt}{t:TS}{G:TS->Prop}{pos:Pos}
theorem xx {b:List Stmt} (k:let Y:=X;∃ t,PSs Y b t/\G t):∃ t,PSs X b t/\G t:=k
theorem xc (h:PS X st t) (k:let u:=t;∃ t',PSs X rest t'/\G (tSeq u t')):∃ t',PSs X (st :: rest) t'/\G t' :=
 let ⟨_,h',g⟩:=k
 ⟨_,ju h h',g⟩
theorem xl (h:PS X st t) (k:let u:=t;G u):∃ t',PSs X [st] t'/\G t':=⟨_,iS h,k⟩
theorem xq (k:∃ t,PS X st t/\(let u:=t;∃ t',PSs X rest t'/\G (tSeq u t'))):∃ t',PSs X (st :: rest) t'/\G t' :=
 let ⟨_,h,_,h',g⟩:=k
 ⟨_,ju h h',g⟩
theorem x1 (k:∃ t,PS X st t/\(let u:=t;G u)):∃ t',PSs X [st] t'/\G t' :=
 let ⟨_,h,g⟩:=k
 ⟨_,iS h,g⟩
theorem xi {c:Expr}{a b:List Stmt}{tc:TT} (hc:PT X c tc) (k:∃ t,PSs X a t/\∃ u,PSs X b u/\G (tIfS tc t u)):∃ t,PS X (.If c a b pos) t/\G t :=
 let ⟨_,ha,_,hb,g⟩:=k
 ⟨_,zl hc ha hb,g⟩
theorem xf {tg iter:Expr}{body:List Stmt}{wi:TI}{g:TG} (hp:PassesOwn (model X.prog X.w) X.A X.env X.xe) (hc:X.calm=true) (hi:PI X tg iter wi) (hg:PG X tg g) (k:∃ tb,PSs X body tb/\G (tFor wi g tb))
  (hs:∀ x,foldedSetIterable iter X.env x=pure x:=by intro _;rfl):∃ t,PS X (.For tg iter body [] pos) t/\G t :=
 let ⟨_,hb,q⟩:=k
 ⟨_,sJ hp hc hi hg hb hs,q⟩
theorem xw {c:Expr}{body:List Stmt}{tc:TT} (hp:PassesOwn (model X.prog X.w) X.A X.env X.xe) (hc:PT X c tc) (k:∃ tb,PSs X body tb/\G (sy tc tb)):∃ t,PS X (.While c body [] pos) t/\G t :=
 let ⟨_,hb,q⟩:=k
 ⟨_,ve hp hc hb,q⟩
end
theorem ln1 {f:FuncData} (us:List Value) (hl:us.length=1) (h:∀ x0,bindArgs f ⟨[x0],[]⟩=pure (ps.zip [x0])):bindArgs f ⟨us,[]⟩=pure (ps.zip us):=match us,hl with | [x0],_=>h x0
theorem ln2 {f:FuncData} (us:List Value) (hl:us.length=2) (h:∀ x0 x1,bindArgs f ⟨[x0,x1],[]⟩=pure (ps.zip [x0,x1])):bindArgs f ⟨us,[]⟩=pure (ps.zip us):=match us,hl with | [x0,x1],_=>h x0 x1
theorem ln3 {f:FuncData} (us:List Value) (hl:us.length=3) (h:∀ x0 x1 x2,bindArgs f ⟨[x0,x1,x2],[]⟩=pure (ps.zip [x0,x1,x2])):bindArgs f ⟨us,[]⟩=pure (ps.zip us):=match us,hl with | [x0,x1,x2],_=>h x0 x1 x2
theorem ln4 {f:FuncData} (us:List Value) (hl:us.length=4) (h:∀ x0 x1 x2 x3,bindArgs f ⟨[x0,x1,x2,x3],[]⟩=pure (ps.zip [x0,x1,x2,x3])):bindArgs f ⟨us,[]⟩=pure (ps.zip us):=match us,hl with | [x0,x1,x2,x3],_=>h x0 x1 x2 x3
theorem ln5 {f:FuncData} (us:List Value) (hl:us.length=5) (h:∀ x0 x1 x2 x3 x4,bindArgs f ⟨[x0,x1,x2,x3,x4],[]⟩=pure (ps.zip [x0,x1,x2,x3,x4])):bindArgs f ⟨us,[]⟩=pure (ps.zip us):=match us,hl with | [x0,x1,x2,x3,x4],_=>h x0 x1 x2 x3 x4
inductive E1 {T0:Type} (p:T0->Prop):Prop
 | mk:∀ x0,p x0->E1 p
inductive E2 {T0 T1:Type} (p:T0->T1->Prop):Prop
 | mk:∀ x0 x1,p x0 x1->E2 p
inductive E3 {T0 T1 T2:Type} (p:T0->T1->T2->Prop):Prop
 | mk:∀ x0 x1 x2,p x0 x1 x2->E3 p
inductive E4 {T0 T1 T2 T3:Type} (p:T0->T1->T2->T3->Prop):Prop
 | mk:∀ x0 x1 x2 x3,p x0 x1 x2 x3->E4 p
inductive E6 {T0 T1 T2 T3 T4 T5:Type} (p:T0->T1->T2->T3->T4->T5->Prop):Prop
 | mk:∀ x0 x1 x2 x3 x4 x5,p x0 x1 x2 x3 x4 x5->E6 p
inductive A2 (p0 p1:Prop):Prop
 | mk:p0->p1->A2 p0 p1
inductive A3 (p0 p1 p2:Prop):Prop
 | mk:p0->p1->p2->A3 p0 p1 p2
inductive A4 (p0 p1 p2 p3:Prop):Prop
 | mk:p0->p1->p2->p3->A4 p0 p1 p2 p3
inductive A5 (p0 p1 p2 p3 p4:Prop):Prop
 | mk:p0->p1->p2->p3->p4->A5 p0 p1 p2 p3 p4
inductive A6 (p0 p1 p2 p3 p4 p5:Prop):Prop
 | mk:p0->p1->p2->p3->p4->p5->A6 p0 p1 p2 p3 p4 p5
inductive A8 (p0 p1 p2 p3 p4 p5 p6 p7:Prop):Prop
 | mk:p0->p1->p2->p3->p4->p5->p6->p7->A8 p0 p1 p2 p3 p4 p5 p6 p7
inductive A10 (p0 p1 p2 p3 p4 p5 p6 p7 p8 p9:Prop):Prop
 | mk:p0->p1->p2->p3->p4->p5->p6->p7->p8->p9->A10 p0 p1 p2 p3 p4 p5 p6 p7 p8 p9
def BndP (x q:Str) (st:Stmt) (ps:List Str):Prop:=∀ (kV doc pm:Value) (an:Option Addr) (cdv ct:Value) (us:List Value),us.length=ps.length->bindArgs (PySem.W.fnOf x q (bv st) (aY st) (ah st) .none kV doc pm an cdv ct) ⟨us,[]⟩=pure (ps.zip us)
def fd (K:PySem.W.Frag) (f:Addr):FuncData:=((K.lookup f).bind fun o=>match o.data with | .func d=>some d | _=>none).getD (PySem.W.fnOf "" "" (bv (.Pass ⟨0,0,0,0⟩)) [] (ah (.Pass ⟨0,0,0,0⟩)) .none .none .none .none none .none .none)
theorem mV {K:PySem.W.Frag}{oc:Value}{od:Option Addr}{d:FuncData}{osl:Array (Option Value)} (l:K.lookup f=some ⟨oc,od,.func d,osl⟩):fd K f=d:=by
 unfold fd;rw [l];rfl
structure GD (K:PySem.W.Frag) (mg:Str->Option Value) (x:Str) (st:Stmt) (f:Addr) (ps:List Str):Prop where
 m:mg x=some (.ref f)
 F:Fun K x x st f (fd K f)
 b:Binds K (fd K f) ps []
 k:PySem.W.keepIn K (.ref f)=true
structure MD (K:PySem.W.Frag) (C:Addr) (x q:Str) (st:Stmt) (f:Addr) (ps:List Str):Prop where
 me:Meth K C x f
 F:Fun K x q st f (fd K f)
 b:Binds K (fd K f) ps []
 k:PySem.W.keepIn K (.ref f)=true
section
variable {K:PySem.W.Frag}{h:Heap}{mg:Str->Option Value}{x q:Str}{st:Stmt}{f C:Addr}{ps:List Str}{oc:Value}{od an:Option Addr}{osl:Array (Option Value)}{kV doc pm cdv ct:Value}
theorem gd_mk (X:K.In h) (G:h.Ns mainGlobals mg) (a:PySem.W.nsIn K mainGlobals x=some (some (.ref f))) (l:K.lookup f=some ⟨oc,od,.func (PySem.W.fnOf x x (bv st) (aY st) (ah st) .none kV doc pm an cdv ct),osl⟩) (c:PySem.W.codeIn K cdv x=true) (k:PySem.W.keepIn K (.ref f)=true) (hb:BndP x x st ps):GD K mg x st f ps:=by
 have F:Fun K x x st f (fd K f):=by rw [mV l];exact tj l c k
 exact ⟨PySem.W.mg_of X G a,F,F.binds hb,k⟩
theorem md_mk (a:PySem.W.findIn K (.ref C) x=some (some (.ref f))) (i:PySem.W.isFn K (.ref f)=true) (l:K.lookup f=some ⟨oc,od,.func (PySem.W.fnOf x q (bv st) (aY st) (ah st) .none kV doc pm an cdv ct),osl⟩) (c:PySem.W.codeIn K cdv q=true) (k:PySem.W.keepIn K (.ref f)=true) (hb:BndP x q st ps):MD K C x q st f ps:=by
 have F:Fun K x q st f (fd K f):=by rw [mV l];exact tj l c k
 exact ⟨⟨a,i,k⟩,F,F.binds hb,k⟩
end
abbrev FnO (P:Program) (w:World) (K:PySem.W.Frag) (mg:Str->Option Value) (base:Heap) (k:Nat) (f:Addr) (ps:List Str) (sp:Sp):Prop:=FnOk P w K mg base CX0 k f (fd K f) ps sp
theorem Room.u {j k:Nat}{A:Around} (r:Room k A) (h:j<=k:=by decide):Room j A:=r.mono h
theorem scM {P:List Str}{sc:Scope} (h1:sc.kind=.function:=by rfl) (h2:sc.isCoroutine=false:=by rfl) (h3:sc.isGenerator=false:=by rfl) (h4:N.Nodup:=by decide +kernel) (h5:N.take P.length=P:=by rfl) (h6:∀ x∈P,sc.names.lookup x=some .local\/sc.names.lookup x=some .cell:=by decide +kernel) (h7:∀ y∈sc.names,y.2≠.free:=by decide +kernel):ap N P sc:=⟨h1,h2,h3,h4,h5,h6,h7⟩
section
variable {P:Program}{w:World}{K:PySem.W.Frag}{mg:Str->Option Value}{base:Heap}
theorem Fun.okA {fd:FuncData}{k:Nat}{sp:Sp} (F:Fun K x qual st f fd) (S:ap N ps (ah st))
  (hbody:∀ (cdv:Value) (A:Around) (outer:List Env) (s:Shared) (H:Hp) (vs:List V) (Q:VK) (E:XK),Room k (A.deeper (envOfC qual (ah st) s.heap.objs.size f cdv))->sp vs H Q E →
   ∃ t,PSs (cxOf CX0 P w K mg base N qual (ah st) f cdv A outer s H E).nox (aY st) t/\t { nx:=fun _ H'=>Q .non H',rt:=Q } (start N vs) H)
  (len:∀ vs H Q E,sp vs H Q E->vs.length=ps.length:=by intro vs H Q E h;first | (cases h;subst_vars;rfl) | ((repeat (obtain ⟨_,h⟩:=h));subst_vars;rfl)):FnOk P w K mg base CX0 (k+1) f fd ps sp:=F.ok S len hbody
end
end L2
namespace GF
theorem two_mul_xor (a b:Nat):2 * (a ^^^ b)=(2 * a) ^^^ (2 * b):=by
 apply ah5
 intro i;rw [ae9]
 cases i with
 | zero=>simp [Nat.testBit_zero]
 | succ i=>simp [ah6]
theorem i9 (a b:Nat):(a ^^^ b) / 2=(a / 2) ^^^ (b / 2):=by
 apply ah5
 intro i;rw [ae9,← ah6,← ah6,← ah6,ae9]
theorem ja (a b:Nat):(a ^^^ b) % 2=(a % 2+b % 2) % 2:=by
 have h:=ae9 a b 0;simp only [Nat.testBit_zero] at h
 rcases ad5 a with ha | ha <;> rcases ad5 b with hb | hb <;>
  rcases ad5 (a ^^^ b) with hc | hc <;> simp_all
theorem xor4 (a b c d:Nat):(a ^^^ b) ^^^ (c ^^^ d)=(a ^^^ c) ^^^ (b ^^^ d):=by
 rw [ag1,ag1,← ag1 b c d,Nat.xor_comm b c,ag1 c b d]
def dbl (r w x:Nat):Nat:=if 2 ^ w<=2 * x then (2 * x) ^^^ r else 2 * x
structure Rule (r w:Nat):Prop where
 lo:2 ^ w<=r
 hi:r < 2 ^ (w+1)
theorem gm {w x:Nat} (h:x < 2 ^ (w+1)):(2 ^ w<=x) ↔ x.testBit w=true:=by
 constructor
 ·intro h1
  rw [Nat.testBit_eq_decide_div_mod_eq]
  have:x / 2 ^ w=1:=by
   apply Nat.div_eq_of_lt_le
   ·omega
   ·rw [ag4] at h;omega
  rw [this];rfl
 ·intro h1
  exact Nat.ge_two_pow_of_testBit h1
theorem tw {w x:Nat} (h:x < 2 ^ (w+1)) (hb:x.testBit w=false):x < 2 ^ w:=by
 refine Nat.lt_of_not_le fun q=>?_;rw [(gm h).mp q] at hb
 cases hb
variable {r w:Nat}
theorem dbl_lt (R:Rule r w) {x:Nat} (hx:x < 2 ^ w):dbl r w x < 2 ^ w:=by
 unfold dbl
 have h2:2 * x < 2 ^ (w+1):=by rw [ag4];omega
 split
 ·rename_i h
  refine tw (ag7 h2 R.hi) ?_;rw [ae9,(gm h2).mp h,(gm R.hi).mp R.lo];rfl
 ·omega
theorem nr {x:Nat} (hx:x < 2 ^ w):dbl r w x=(2 * x) ^^^ (bif (2 * x).testBit w then r else 0):=by
 have h2:2 * x < 2 ^ (w+1):=by rw [ag4];omega
 unfold dbl
 split
 ·rename_i h
  rw [(gm h2).mp h];rfl
 ·rename_i h
  cases e:(2 * x).testBit w
  ·simp
  ·exact absurd ((gm h2).mpr e) h
theorem pX (R:Rule r w) {a b:Nat} (ha:a < 2 ^ w) (hb:b < 2 ^ w):dbl r w (a ^^^ b)=dbl r w a ^^^ dbl r w b:=by
 rw [nr (ag7 ha hb),nr ha,nr hb,two_mul_xor,ae9,xor4]
 congr 1
 cases (2 * a).testBit w <;> cases (2 * b).testBit w <;> simp
theorem fu:dbl r w 0=0:=by
 unfold dbl
 have:0 < 2 ^ w:=af0 w;rw [if_neg (by omega)]
def tm (r w a b:Nat):Nat:=if b=0 then 0 else (if b % 2=1 then a else 0) ^^^ tm r w (dbl r w a) (b / 2)
termination_by b
decreasing_by omega
theorem tm_zero (a:Nat):tm r w a 0=0:=by rw [tm];simp
theorem tm_step (a b:Nat):tm r w a b=(if b % 2=1 then a else 0) ^^^ tm r w (dbl r w a) (b / 2):=by
 by_cases h:b=0
 ·subst h
  rw [tm_zero]
  simp [tm_zero]
 ·rw [tm];simp [h]
theorem tm_lt (R:Rule r w):∀ {b a:Nat},a < 2 ^ w->tm r w a b < 2 ^ w:=by
 intro b
 induction b using Nat.strongRecOn with
 | _ b ih =>
  intro a ha
  by_cases h:b=0
  ·subst h;rw [tm_zero];exact af0 w
  ·rw [tm_step]
   refine ag7 ?_ (ih (b / 2) (by omega) (dbl_lt R ha))
   split
   ·exact ha
   ·exact af0 w
theorem dh (R:Rule r w):∀ {b a c:Nat},a < 2 ^ w->c < 2 ^ w->tm r w (a ^^^ c) b=tm r w a b ^^^ tm r w c b:=by
 intro b
 induction b using Nat.strongRecOn with
 | _ b ih =>
  intro a c ha hc
  by_cases h:b=0
  ·subst h;simp [tm_zero]
  ·rw [tm_step,tm_step a,tm_step c,pX R ha hc,ih (b / 2) (by omega) (dbl_lt R ha) (dbl_lt R hc),xor4]
   congr 1
   split <;> simp
theorem d9 (R:Rule r w):∀ {b a:Nat},a < 2 ^ w->tm r w (dbl r w a) b=dbl r w (tm r w a b):=by
 intro b
 induction b using Nat.strongRecOn with
 | _ b ih =>
  intro a ha
  by_cases h:b=0
  ·subst h;simp [tm_zero,fu]
  ·have hz:(if b % 2=1 then a else 0) < 2 ^ w:=by
    split
    ·exact ha
    ·exact af0 w
   rw [tm_step,tm_step a,pX R hz (tm_lt R (dbl_lt R ha)),ih (b / 2) (by omega) (dbl_lt R ha)]
   congr 1
   split <;> simp [fu]
theorem tm_xor_right:∀ {b c a:Nat},tm r w a (b ^^^ c)=tm r w a b ^^^ tm r w a c:=by
 intro b
 induction b using Nat.strongRecOn with
 | _ b ih =>
  intro c a
  by_cases h:b=0
  ·subst h;simp [tm_zero]
  ·rw [tm_step a (b ^^^ c),tm_step a b,tm_step a c,i9,ih (b / 2) (by omega),xor4]
   congr 1
   rw [ja];rcases ad5 b with hb | hb <;> rcases ad5 c with hc | hc <;> simp [hb,hc]
abbrev ev (r w x:Nat):Nat:=tm r w 1 x
theorem xb (hw':1 < w):dbl r w 1=2:=by
 unfold dbl
 have:2 ^ 2<=2 ^ w:=af8 (by decide) hw'
 rw [if_neg (by omega)]
theorem one_lt (hw:1 < w):1 < 2 ^ w:=by
 have:2 ^ 2<=2 ^ w:=af8 (by decide) hw
 omega
theorem fw (a x:Nat) (R:Rule r w) (ha:a < 2 ^ w):tm r w a x=(if x % 2=1 then a else 0) ^^^ dbl r w (tm r w a (x / 2)):=by
 rw [tm_step,d9 R ha]
theorem xg (R:Rule r w) (hw:1 < w):∀ {k x:Nat},k<=w->x < 2 ^ k->ev r w x=x:=by
 intro k
 induction k with
 | zero =>
  intro x _ hx
  have:x=0:=by simpa using hx
  subst this;exact tm_zero 1
 | succ k ih =>
  intro x hk hx
  have g:x / 2 < 2 ^ k:=by rw [ag4] at hx;omega
  have l:2 ^ k<=2 ^ (w - 1):=af8 (by decide) (by omega)
  have s:2 * 2 ^ (w - 1)=2 ^ w:=by rw [ai3,← ag4];congr 1;omega
  have h1:ev r w (x / 2)=x / 2:=ih (by omega) g
  unfold ev at h1 ⊢
  have hd:dbl r w (x / 2)=2 * (x / 2):=by
   unfold dbl;rw [if_neg (by omega)]
  rw [fw 1 x R (one_lt hw),h1,hd];rcases ad5 x with h | h
  ·rw [if_neg (by omega),ae4];omega
  ·rw [if_pos h]
   apply ah5
   intro i;rw [ae9]
   cases i with
   | zero=>simp [Nat.testBit_zero,h]
   | succ i=>simp [ah6]
theorem one_tm (R:Rule r w) (hw:1 < w) {x:Nat} (hx:x < 2 ^ w):tm r w 1 x=x:=xg R hw (zQ w) hx
theorem tm_one (a:Nat):tm r w a 1=a:=by
 rw [tm_step];simp [tm_zero]
theorem yI (a:Nat):tm r w a 2=dbl r w a:=by
 rw [tm_step];simp [tm_one]
theorem tm_comm (R:Rule r w) (hw:1 < w) {a b:Nat} (ha:a < 2 ^ w) (hb:b < 2 ^ w):tm r w a b=tm r w b a:=by
 have g:∀ x y:Nat,tm r w (ev r w x) y=tm r w (ev r w y) x:=by
  intro x
  induction x using Nat.strongRecOn with
  | _ x ih =>
   intro y
   by_cases h:x=0
   ·subst h
    show tm r w (tm r w 1 0) y=tm r w (ev r w y) 0
    rw [tm_zero,tm_zero]
    have:∀ y,tm r w 0 y=0:=by
     intro y
     induction y using Nat.strongRecOn with
     | _ y ihy =>
      by_cases hy:y=0
      ·subst hy;exact tm_zero 0
      ·rw [tm_step,fu,ihy (y / 2) (by omega)];simp
    exact this y
   ·have e1:ev r w x=(if x % 2=1 then 1 else 0) ^^^ dbl r w (ev r w (x / 2)):=fw 1 x R (one_lt hw)
    have l1:ev r w (x / 2) < 2 ^ w:=tm_lt R (one_lt hw)
    have l2:(if x % 2=1 then 1 else 0) < 2 ^ w:=by
     split
     ·exact one_lt hw
     ·exact af0 w
    have ly:ev r w y < 2 ^ w:=tm_lt R (one_lt hw);rw [e1,dh R l2 (dbl_lt R l1),d9 R l1,ih (x / 2) (by omega) y,fw (ev r w y) x R ly]
    congr 1
    split
    ·rfl
    ·have:∀ y,tm r w 0 y=0:=by
      intro y
      induction y using Nat.strongRecOn with
      | _ y ihy =>
       by_cases hy:y=0
       ·subst hy;exact tm_zero 0
       ·rw [tm_step,fu,ihy (y / 2) (by omega)];simp
     exact this y
 have h:=g a b;rw [show ev r w a=a from one_tm R hw ha,show ev r w b=b from one_tm R hw hb] at h;exact h
theorem zero_tm (y:Nat):tm r w 0 y=0:=by
 induction y using Nat.strongRecOn with
 | _ y ihy =>
  by_cases hy:y=0
  ·subst hy;exact tm_zero 0
  ·rw [tm_step,fu,ihy (y / 2) (by omega)];simp
theorem nu (R:Rule r w) (hw:1 < w) {a z:Nat} (ha:a < 2 ^ w) (hz:z < 2 ^ w):tm r w a (dbl r w z)=dbl r w (tm r w a z):=by
 rw [tm_comm R hw ha (dbl_lt R hz),d9 R hz,tm_comm R hw hz ha]
theorem tm_assoc (R:Rule r w) (hw:1 < w) {a b:Nat} (ha:a < 2 ^ w) (hb:b < 2 ^ w):∀ c,tm r w (tm r w a b) c=tm r w a (tm r w b c):=by
 intro c
 induction c using Nat.strongRecOn with
 | _ c ih =>
  by_cases h:c=0
  ·subst h;simp [tm_zero]
  ·rw [fw _ c R (tm_lt R ha),fw b c R hb,tm_xor_right,nu R hw ha (tm_lt R hb),ih (c / 2) (by omega)]
   congr 1
   split
   ·rfl
   ·exact (tm_zero a).symm
end GF
namespace GF
theorem pk (a b:Nat):(a &&& b) / 2=(a / 2) &&& (b / 2):=by
 apply ah5
 intro i;rw [Nat.testBit_and,← ah6,← ah6,← ah6,Nat.testBit_and]
theorem pq (a b:Nat):(a &&& b) % 2=(a % 2) * (b % 2):=by
 have h:=Nat.testBit_and a b 0;simp only [Nat.testBit_zero] at h
 rcases ad5 a with ha | ha <;> rcases ad5 b with hb | hb <;>
  rcases ad5 (a &&& b) with hc | hc <;> simp_all
theorem xor_add_and:∀ (a b:Nat),(a ^^^ b)+2 * (a &&& b)=a+b:=by
 intro a
 induction a using Nat.strongRecOn with
 | _ a ih =>
  intro b
  by_cases h:a=0
  ·subst h;simp
  ·have h1:=ih (a / 2) (by omega) (b / 2)
   have e1:=i9 a b
   have e2:=pk a b
   have m1:=ja a b
   have m2:=pq a b;rcases ad5 a with ha | ha <;> rcases ad5 b with hb | hb <;> rw [ha,hb] at m1 m2 <;> omega
variable {r w:Nat}
end GF
namespace GF
def it (r w:Nat):Nat->Nat
 | 0=>1
 | n+1=>dbl r w (it r w n)
structure Good (r w:Nat):Prop where
 rule:Rule r w
 w4:4<=w
 w8:w<=8
 odd:r % 2=1
 lo16:16<=r
 hi511:r<=511
 back:it r w (2 ^ w - 1)=1
 first:∀ n,1<=n->n < 2 ^ w - 1->it r w n≠1
theorem Good.w1 {r w:Nat} (g:Good r w):1 < w:=aa2 (by decide) g.w4
theorem Good.top16 {r w:Nat} (g:Good r w):16<=2 ^ w:=af8 (n:=2) (by decide) g.w4
theorem Good.top256 {r w:Nat} (g:Good r w):2 ^ w<=256:=af8 (n:=2) (by decide) g.w8
theorem Good.last1 {r w:Nat} (g:Good r w):1<=2 ^ w - 1:=by
 have:=g.top16;omega
theorem it_lt {r w:Nat} (R:Rule r w) (hw:1 < w):∀ n,it r w n < 2 ^ w
 | 0=>one_lt hw
 | n+1=>dbl_lt R (it_lt R hw n)
def eF (r w:Nat):Nat->Nat->Nat->Option Nat
 | 0,_,_=>none
 | fuel+1,x,n=>if x=1 then some n else eF r w fuel (dbl r w x) (n+1)
theorem k4 {r w:Nat}:∀ {fuel n m:Nat},eF r w fuel (it r w n) n=some m->it r w m=1/\∀ k,n<=k->k < m->it r w k≠1:=by
 intro fuel
 induction fuel with
 | zero=>intro n m h;cases h
 | succ fuel ih =>
  intro n m h;unfold eF at h
  split at h
  ·rename_i e
   cases h;exact ⟨e,fun k h1 h2=>absurd h2 (by omega)⟩
  ·rename_i e
   obtain ⟨h1,h2⟩:=ih (n:=n+1) h;refine ⟨h1,fun k a b=>?_⟩
   by_cases q:k=n
   ·subst q;exact e
   ·exact h2 k (by omega) b
def rules:List Nat:=[19,25,37,41,47,55,59,61,67,91,97,103,109,115,131,137,143,145,157,167,171,185,191,193,
 203,211,213,229,239,241,247,253,285,299,301,333,351,355,357,361,369,391,397,425,451,463,487,501]
def chk (r:Nat):Bool:=decide (16<=r) && decide (r<=511) && decide (r % 2=1) && decide (4<=r.log2) && decide (r.log2<=8) && decide (2 ^ r.log2<=r) && decide (r < 2 ^ (r.log2+1)) &&
 decide (eF r r.log2 600 2 1=some (2 ^ r.log2 - 1))
theorem tz:rules.all chk=true:=by decide +kernel
theorem pr {r:Nat} (h:chk r=true):Good r r.log2:=by
 unfold chk at h;simp only [ac8,decide_eq_true_eq] at h;obtain ⟨⟨⟨⟨⟨⟨⟨h1,h2⟩,h3⟩,h4⟩,h5⟩,h6⟩,h7⟩,h8⟩:=h
 have e:it r r.log2 1=2:=xb (by omega)
 have h9:eF r r.log2 600 (it r r.log2 1) 1=some (2 ^ r.log2 - 1):=by rw [e];exact h8
 obtain ⟨b1,b2⟩:=k4 h9;exact ⟨⟨h6,h7⟩,h4,h5,h3,h1,h2,b1,b2⟩
def ruleOf (c:Int):Nat:=rules.getD (c % 48).toNat 19
theorem px (c:Int):Good (ruleOf c) (ruleOf c).log2:=by
 apply pr
 have h:=ab4.mp tz
 apply h
 unfold ruleOf
 have hl:rules.length=48:=rfl
 have h1:(c % 48).toNat < rules.length:=by rw [hl];omega
 rw [zK,zL h1];exact ae1 h1
end GF
namespace GF
def mask (r w:Nat):Nat->Nat->Nat->Nat
 | 0,_,acc=>acc
 | fuel+1,x,acc=>mask r w fuel (dbl r w x) (acc ||| 2 ^ x)
theorem vk {r w:Nat}:∀ {fuel n acc b:Nat},(mask r w fuel (it r w n) acc).testBit b=true->acc.testBit b=true\/∃ k,it r w k=b:=by
 intro fuel
 induction fuel with
 | zero=>intro n acc b h;exact .inl h
 | succ fuel ih =>
  intro n acc b h;rcases ih (n:=n+1) h with q | q
  ·rw [Nat.testBit_or,Nat.testBit_two_pow,ai9] at q
   rcases q with q | q
   ·exact .inl q
   ·exact .inr ⟨n,zN q⟩
  ·exact .inr q
theorem rH:rules.all (fun r=>decide (mask r r.log2 (2 ^ r.log2 - 1) 1 0=2 ^ 2 ^ r.log2 - 2))=true:=by decide +kernel
theorem xj {N b:Nat} (h0:0 < b) (h:b < N):(2 ^ N - 2).testBit b=true:=by
 obtain ⟨M,rfl⟩:∃ M,N=M+1:=⟨N - 1,by omega⟩
 obtain ⟨c,rfl⟩:∃ c,b=c+1:=⟨b - 1,by omega⟩
 have e:(2 ^ (M+1) - 2) / 2=2 ^ M - 1:=by rw [ag4];omega
 rw [ah6,e,Nat.testBit_two_pow_sub_one];exact zZ (by omega)
structure Full (r w:Nat):Prop extends Good r w where
 all:∀ x,0 < x->x < 2 ^ w->∃ n,it r w n=x
theorem ruleOf_full (c:Int):Full (ruleOf c) (ruleOf c).log2:=by
 refine ⟨px c,fun x h0 h=>?_⟩
 have hm:ruleOf c∈rules:=by
  unfold ruleOf
  have hl:rules.length=48:=rfl
  have h1:(c % 48).toNat < rules.length:=by rw [hl];omega
  rw [zK,zL h1];exact ae1 h1
 have q:=zN (ab4.mp rH _ hm)
 have b:=xj h0 h;rw [<- q] at b;rcases vk (n:=0) b with z | z
 ·rw [Nat.zero_testBit] at z;cases z
 ·exact z
variable {r w:Nat}
theorem py (g:Good r w) {x:Nat} (hx:x < 2 ^ w) (h:dbl r w x=0):x=0:=by
 unfold dbl at h
 split at h
 ·have e:2 * x=r:=by
   have:=congrArg (· ^^^ r) h;simp only [ae4,ag1,ai4,ae5] at this;exact this
  have:=g.odd;omega
 ·omega
theorem j5 (g:Good r w) {y:Nat} (hy:y < 2 ^ w):∀ n,tm r w (it r w n) y=0->y=0
 | 0,h=>by rw [show it r w 0=1 from rfl,one_tm g.rule g.w1 hy] at h;exact h
 | n+1,h=>by
  rw [show it r w (n+1)=dbl r w (it r w n) from rfl,d9 g.rule (it_lt g.rule g.w1 n)] at h;exact j5 g hy n (py g (tm_lt g.rule (it_lt g.rule g.w1 n)) h)
theorem tm_eq_zero (g:Full r w) {x y:Nat} (hx:x < 2 ^ w) (hy:y < 2 ^ w):tm r w x y=0 ↔ (x=0\/y=0):=by
 constructor
 ·intro h
  by_cases h0:x=0
  ·exact .inl h0
  ·obtain ⟨n,rfl⟩:=g.all x (by omega) hx
   exact .inr (j5 g.toGood hy n h)
 ·rintro (rfl | rfl)
  ·exact zero_tm y
  ·exact tm_zero x
def pw (r w x:Nat):Nat->Nat
 | 0=>1
 | n+1=>tm r w (pw r w x n) x
theorem pw_lt (g:Good r w) {x:Nat} (hx:x < 2 ^ w):∀ n,pw r w x n < 2 ^ w
 | 0=>one_lt g.w1
 | n+1=>tm_lt g.rule (pw_lt g hx n)
theorem pw_add (g:Good r w) {x:Nat} (hx:x < 2 ^ w) (m:Nat):∀ n,pw r w x (m+n)=tm r w (pw r w x m) (pw r w x n)
 | 0=>by rw [Nat.add_zero,show pw r w x 0=1 from rfl,tm_one]
 | n+1=>by
  rw [<- Nat.add_assoc]
  show tm r w (pw r w x (m+n)) x=tm r w (pw r w x m) (tm r w (pw r w x n) x)
  rw [pw_add g hx m n,tm_assoc g.rule g.w1 (pw_lt g hx m) (pw_lt g hx n)]
theorem pw_one (x:Nat) (g:Good r w) (hx:x < 2 ^ w):pw r w x 1=x:=by
 show tm r w 1 x=x
 exact one_tm g.rule g.w1 hx
theorem j6 (g:Good r w) {x:Nat} (hx:x < 2 ^ w) (m:Nat):∀ n,pw r w (pw r w x m) n=pw r w x (m * n)
 | 0=>by rw [Nat.mul_zero];rfl
 | n+1=>by
  rw [Nat.mul_succ,pw_add g hx]
  show tm r w (pw r w (pw r w x m) n) (pw r w x m)=_
  rw [j6 g hx m n]
theorem rJ (g:Good r w):∀ n,it r w n=pw r w 2 n
 | 0=>rfl
 | n+1=>by
  show dbl r w (it r w n)=tm r w (pw r w 2 n) 2
  rw [rJ g n,yI]
theorem two_lt (g:Good r w):2 < 2 ^ w:=by have:=g.top16;omega
theorem tD (g:Good r w):∀ n,pw r w 1 n=1
 | 0=>rfl
 | n+1=>by
  show tm r w (pw r w 1 n) 1=1
  rw [tD g n,tm_one]
theorem xk (g:Full r w) {x:Nat} (h0:0 < x) (hx:x < 2 ^ w):pw r w x (2 ^ w - 1)=1:=by
 obtain ⟨n,rfl⟩:=g.all x h0 hx;rw [rJ g.toGood,j6 g.toGood (two_lt g.toGood),ai3,← j6 g.toGood (two_lt g.toGood),← rJ g.toGood,g.back,tD g.toGood]
theorem pw_back (g:Full r w) {x:Nat} (h0:0 < x) (hx:x < 2 ^ w):tm r w x (pw r w x (2 ^ w - 1 - 1))=1:=by
 have h:=xk g h0 hx
 have e:2 ^ w - 1=1+(2 ^ w - 1 - 1):=by have:=g.top16;omega
 rw [e,pw_add g.toGood hx,pw_one x g.toGood hx] at h;exact h
theorem pw_half (g:Good r w) {x:Nat} (hx:x < 2 ^ w) (n:Nat):pw r w (tm r w x x) n=pw r w x (2 * n):=by
 have e:tm r w x x=pw r w x 2:=by
  show _=tm r w (tm r w 1 x) x
  rw [one_tm g.rule g.w1 hx]
 rw [e,j6 g hx]
end GF
namespace GF
variable {r w:Nat}
theorem pz {i j:Nat} (h:i ^^^ j=0):i=j:=by
 have:=congrArg (· ^^^ j) h;simp only [ag1,ai4,ae5,ae4] at this;exact this
theorem tm_inj (g:Full r w) {x i j:Nat} (h0:x≠0) (hx:x < 2 ^ w) (hi:i < 2 ^ w) (hj:j < 2 ^ w) (h:tm r w x i=tm r w x j):i=j:=by
 have e:tm r w x (i ^^^ j)=0:=by rw [tm_xor_right,h,ai4]
 rcases (tm_eq_zero g hx (ag7 hi hj)).mp e with z | z
 ·exact absurd z h0
 ·exact pz z
end GF
namespace GF
def join (w:Nat):List Nat->Nat
 | []=>0
 | x :: xs=>join w xs * 2 ^ w+x
def syms (w:Nat):Nat->Nat->List Nat
 | 0,_=>[]
 | n+1,b=>b % 2 ^ w :: syms w n (b / 2 ^ w)
theorem syms_length (w:Nat):∀ (n b:Nat),(syms w n b).length=n
 | 0,_=>rfl
 | n+1,b=>by rw [syms,ac7,syms_length w n]
theorem pY {w:Nat}:∀ {n b x:Nat},x∈syms w n b->x < 2 ^ w
 | 0,b,x,h=>by simp [syms] at h
 | n+1,b,x,h=>by
  rw [syms] at h;rcases aa5.mp h with e | h
  ·rw [e];exact Nat.mod_lt _ (af0 w)
  ·exact pY h
theorem lL {w:Nat}:∀ {row:List Nat},(∀ x∈row,x < 2 ^ w)->syms w row.length (join w row)=row
 | [],_=>rfl
 | x :: row,h=>by
  have hx:x < 2 ^ w:=h x ac9;rw [ac7,syms,join]
  have e1:(join w row * 2 ^ w+x) % 2 ^ w=x:=by rw [ai3,Nat.mul_add_mod,Nat.mod_eq_of_lt hx]
  have e2:(join w row * 2 ^ w+x) / 2 ^ w=join w row:=by
   rw [ai3,Nat.mul_add_div (af0 w),Nat.div_eq_of_lt hx,Nat.add_zero]
  rw [e1,e2,lL fun y hy=>h y (ac3 _ hy)]
theorem pZ {w:Nat}:∀ {row:List Nat},(∀ x∈row,x < 2 ^ w)->join w row < (2 ^ w) ^ row.length
 | [],_=>by simp [join]
 | x :: row,h=>by
  have hx:x < 2 ^ w:=h x ac9
  have ih:=pZ (row:=row) fun y hy=>h y (ac3 _ hy);rw [join,ac7,ag4]
  have:(join w row+1) * 2 ^ w<=(2 ^ w) ^ row.length * 2 ^ w:=Nat.mul_le_mul_right _ ih;rw [Nat.add_mul,Nat.one_mul] at this;omega
theorem lM {w:Nat}:∀ {n b:Nat},b < (2 ^ w) ^ n->join w (syms w n b)=b
 | 0,b,h=>by
  have:b=0:=by simpa using h
  rw [this];rfl
 | n+1,b,h=>by
  rw [syms,join,lM (n:=n) (b:=b / 2 ^ w)]
  ·rw [ai3];exact Nat.div_add_mod b (2 ^ w)
  ·rw [ag4] at h
   exact Nat.div_lt_of_lt_mul (by rw [ai3];exact h)
theorem j7 (w:Nat):∀ (n:Nat) (f:Nat->Nat),f 0=0->join w ((syms w n 0).map f)=0
 | 0,_,_=>rfl
 | n+1,f,h=>by
  rw [syms,Nat.zero_mod,Nat.zero_div,ad8,join,j7 w n f h,h]
  simp
theorem j8 {w x y a b:Nat} (hx:x < 2 ^ w) (hy:y < 2 ^ w):(a * 2 ^ w+x) ^^^ (b * 2 ^ w+y)=(a ^^^ b) * 2 ^ w+(x ^^^ y):=by
 apply ah5
 intro i;rw [ae9,ai3 a,ai3 b,ai3 (a ^^^ b),Nat.testBit_two_pow_mul_add _ hx,Nat.testBit_two_pow_mul_add _ hy,Nat.testBit_two_pow_mul_add _ (ag7 hx hy)]
 split
 ·rw [ae9]
 ·rw [ae9]
theorem nw {w:Nat}:∀ {n:Nat}{f g:Nat->Nat}{b c:Nat},(∀ x,f x < 2 ^ w)->(∀ x,g x < 2 ^ w) →
  join w ((syms w n b).map f) ^^^ join w ((syms w n c).map g)=join w (List.zipWith (fun x y=>f x ^^^ g y) (syms w n b) (syms w n c))
 | 0,_,_,_,_,_,_=>by simp [syms,join]
 | n+1,f,g,b,c,hf,hg=>by
  rw [syms,syms,ad8,ad8,List.zipWith_cons_cons,join,join,join,j8 (hf _) (hg _),nw hf hg]
theorem nA {w:Nat}:∀ {n b k:Nat},k < n->(syms w n b)[k]?=some (b / (2 ^ w) ^ k % 2 ^ w)
 | 0,_,_,h=>absurd h (af5 _)
 | n+1,b,0,_=>by rw [syms,Nat.pow_zero,Nat.div_one];rfl
 | n+1,b,k+1,h=>by
  rw [syms,List.getElem?_cons_succ,nA (by omega),Nat.div_div_eq_div_mul,ag4,ai3 ((2 ^ w) ^ k)]
theorem nB {w:Nat}:∀ {n b c:Nat},syms w n (b ^^^ c)=List.zipWith (fun x y=>x ^^^ y) (syms w n b) (syms w n c)
 | 0,_,_=>rfl
 | n+1,b,c=>by
  rw [syms,syms,syms,List.zipWith_cons_cons]
  congr 1
  ·apply ah5
   intro i;rw [ae9,Nat.testBit_mod_two_pow,Nat.testBit_mod_two_pow,Nat.testBit_mod_two_pow,ae9]
   by_cases h:i < w <;> simp [h]
  ·have e:(b ^^^ c) / 2 ^ w=b / 2 ^ w ^^^ c / 2 ^ w:=by
    apply ah5
    intro i;rw [ae9,Nat.testBit_div_two_pow,Nat.testBit_div_two_pow,Nat.testBit_div_two_pow,ae9]
   rw [e,nB]
end GF
namespace GF
def sumB (r w n:Nat) (ps:List (Nat × Nat)):Nat:=ps.foldl (fun t p=>t ^^^ join w ((syms w n p.2).map (tm r w p.1))) 0
def dg (r w:Nat) (ps:List (Nat × Nat)) (k:Nat):Nat:=ps.foldl (fun t p=>t ^^^ tm r w (p.2 / (2 ^ w) ^ k % 2 ^ w) p.1) 0
theorem iq {α:Type} (F:α->Nat):∀ (ps:List α) (t:Nat),ps.foldl (fun t p=>t ^^^ F p) t=t ^^^ ps.foldl (fun t p=>t ^^^ F p) 0
 | [],t=>by simp
 | p :: ps,t=>by
  rw [List.foldl_cons,List.foldl_cons,iq F ps (t ^^^ F p),iq F ps (0 ^^^ F p),ae4,ag1]
theorem sumB_append (r w n:Nat) (ps qs:List (Nat × Nat)):sumB r w n (ps++qs)=sumB r w n ps ^^^ sumB r w n qs:=by
 unfold sumB;rw [List.foldl_append,iq (fun p:Nat × Nat=>join w ((syms w n p.2).map (tm r w p.1))) qs]
theorem syms_range (w n b:Nat):syms w n b=(List.range n).map fun k=>b / (2 ^ w) ^ k % 2 ^ w:=by
 apply ad9
 intro k
 by_cases h:k < n
 ·rw [nA h,zO,ab0 h]
  rfl
 ·rw [zY (by rw [syms_length];omega),zY (by simp;omega)]
theorem lN {w:Nat}{f g:Nat->Nat}:∀ (ks:List Nat),(∀ k,f k < 2 ^ w)->(∀ k,g k < 2 ^ w)->join w (ks.map f) ^^^ join w (ks.map g)=join w (ks.map fun k=>f k ^^^ g k)
 | [],_,_=>by simp [join]
 | k :: ks,hf,hg=>by
  rw [ad8,ad8,ad8,join,join,join,j8 (hf k) (hg k),lN ks hf hg]
theorem lO (w:Nat):∀ (ks:List Nat),join w (ks.map fun _=>0)=0
 | []=>rfl
 | k :: ks=>by rw [ad8,join,lO w ks];simp
theorem join_snoc (w:Nat):∀ (xs:List Nat) (x:Nat),join w (xs++[x])=join w xs+x * (2 ^ w) ^ xs.length
 | [],x=>by simp [join]
 | y :: xs,x=>by
  rw [List.cons_append,join,join_snoc w xs,join,ac7,ag4,Nat.add_mul,Nat.mul_assoc];omega
theorem sumB_snoc (r w n:Nat) (ps:List (Nat × Nat)) (p:Nat × Nat):sumB r w n (ps++[p])=sumB r w n ps ^^^ join w ((syms w n p.2).map (tm r w p.1)):=by
 unfold sumB;rw [List.foldl_append];rfl
end GF
namespace GF
variable {r w:Nat}
def dot (r w:Nat):Nat->(Nat->Nat)->(Nat->Nat)->Nat
 | 0,_,_=>0
 | n+1,a,x=>dot r w n a x ^^^ tm r w (a n) (x n)
theorem dot_lt (R:Rule r w) {a x:Nat->Nat}:∀ n,(∀ k,k < n->a k < 2 ^ w)->dot r w n a x < 2 ^ w
 | 0,_=>af0 w
 | n+1,h=>ag7 (dot_lt R n fun k hk=>h k (ad0 hk)) (tm_lt R (h n (ab3 n)))
theorem dot_congr {a b x y:Nat->Nat}:∀ n,(∀ k,k < n->a k=b k/\x k=y k)->dot r w n a x=dot r w n b y
 | 0,_=>rfl
 | n+1,h=>by
  rw [dot,dot,dot_congr n fun k hk=>h k (ad0 hk),(h n (ab3 n)).1,(h n (ab3 n)).2]
theorem jx (a:Nat->Nat):∀ n,dot r w n a (fun _=>0)=0
 | 0=>rfl
 | n+1=>by rw [dot,jx a n,tm_zero];rfl
theorem iU {a x:Nat->Nat}{p v:Nat} (hx:x p=0):∀ n,dot r w n a (fun k=>if k=p then v else x k)=dot r w n a x ^^^ (if p < n then tm r w (a p) v else 0)
 | 0=>by
  rw [if_neg (af5 p),dot,dot];rfl
 | n+1=>by
  rw [dot,dot,iU hx n]
  by_cases e:n=p
  ·subst e
   rw [if_neg (ad4 n),if_pos rfl,if_pos (ab3 n),hx,tm_zero,ae5]
  ·rw [if_neg e]
   by_cases h:p < n
   ·rw [if_pos h,if_pos (ad0 h),ag1,ag1,Nat.xor_comm (tm r w (a p) v)]
   ·rw [if_neg h,if_neg (by omega),ae5,ae5]
theorem dot_add (R:Rule r w) {a b x:Nat->Nat}:∀ n,(∀ k,k < n->a k < 2 ^ w/\b k < 2 ^ w)->dot r w n (fun k=>a k ^^^ b k) x=dot r w n a x ^^^ dot r w n b x
 | 0,_=>by rw [dot,dot,dot];rfl
 | n+1,h=>by
  rw [dot,dot,dot,dot_add R n fun k hk=>h k (ad0 hk),dh R (h n (ab3 n)).1 (h n (ab3 n)).2];exact xor4 _ _ _ _
theorem dot_scale (R:Rule r w) (hw:1 < w) {a x:Nat->Nat}{c:Nat} (hc:c < 2 ^ w):∀ n,(∀ k,k < n->a k < 2 ^ w/\x k < 2 ^ w)->dot r w n (fun k=>tm r w (a k) c) x=tm r w (dot r w n a x) c
 | 0,_=>(zero_tm c).symm
 | n+1,h=>by
  have hn:=h n (ab3 n)
  have ih:=dot_scale R hw hc n fun k hk=>h k (ad0 hk);rw [dot,dot,ih,dh R (dot_lt R n fun k hk=>(h k (ad0 hk)).1) (tm_lt R hn.1)]
  congr 1
  rw [tm_assoc R hw hn.1 hc,tm_comm R hw hc hn.2,← tm_assoc R hw hn.1 hn.2]
theorem dG (R:Rule r w) (hw:1 < w) {a x:Nat->Nat}{c:Nat}:∀ n,(∀ k,k < n->a k < 2 ^ w/\x k < 2 ^ w)->dot r w n a (fun k=>tm r w (x k) c)=tm r w (dot r w n a x) c
 | 0,_=>(zero_tm c).symm
 | n+1,h=>by
  have hn:=h n (ab3 n)
  have ih:=dG R hw (c:=c) n fun k hk=>h k (ad0 hk);rw [dot,dot,ih,dh R (dot_lt R n fun k hk=>(h k (ad0 hk)).1) (tm_lt R hn.1),tm_assoc R hw hn.1 hn.2]
theorem nC {a x y:Nat->Nat}:∀ n,dot r w n a (fun k=>x k ^^^ y k)=dot r w n a x ^^^ dot r w n a y
 | 0=>by rw [dot,dot,dot];rfl
 | n+1=>by
  rw [dot,dot,dot,nC n,tm_xor_right];exact xor4 _ _ _ _
structure Tab (r w N M:Nat) (L:Nat->Nat->Nat) (T:Nat->Nat->Nat):Prop where
 lt:∀ i k,i < M->k < N+M->T i k < 2 ^ w
 of:∀ i k,i < M->k < N->T i k=dot r w M (fun j=>L j k) (fun j=>T i (N+j))
 keep:∀ x:Nat->Nat,(∀ k,k < N->x k < 2 ^ w)->(∀ i,i < M->dot r w N (T i) x=0)->∀ j,j < M->dot r w N (L j) x=0
def swapT (T:Nat->Nat->Nat) (h f:Nat):Nat->Nat->Nat:=fun i=>if i=h then T f else if i=f then T h else T i
def clearT (r w:Nat) (T:Nat->Nat->Nat) (h p c:Nat):Nat->Nat->Nat:=fun i k=>if i=h then tm r w (T h k) c else T i k ^^^ tm r w (tm r w (T h k) c) (T i p)
theorem jy {T:Nat->Nat->Nat}{h f M i:Nat} (hh:h < M) (hf:f < M) (hi:i < M):∃ j,j < M/\swapT T h f i=T j:=by
 unfold swapT
 by_cases e:i=h
 ·exact ⟨f,hf,by rw [if_pos e]⟩
 ·by_cases e2:i=f
  ·exact ⟨h,hh,by rw [if_neg e,if_pos e2]⟩
  ·exact ⟨i,hi,by rw [if_neg e,if_neg e2]⟩
theorem Tab.swap {N M:Nat}{L T:Nat->Nat->Nat} (t:Tab r w N M L T) {h f:Nat} (hh:h < M) (hf:f < M):Tab r w N M L (swapT T h f):=by
 refine ⟨fun i k hi hk=>?_,fun i k hi hk=>?_,fun x hx hz=>t.keep x hx fun i hi=>?_⟩
 ·obtain ⟨j,hj,e⟩:=jy (T:=T) hh hf hi
  rw [e];exact t.lt j k hj hk
 ·obtain ⟨j,hj,e⟩:=jy (T:=T) hh hf hi
  rw [e];exact t.of j k hj hk
 ·by_cases e:i=h
  ·have:=hz f hf
   unfold swapT at this
   by_cases e2:f=h
   ·rw [if_pos e2,e2] at this
    rw [e];exact this
   ·rw [if_neg e2,if_pos rfl] at this
    rw [e];exact this
  ·by_cases e2:i=f
   ·have:=hz h hh
    unfold swapT at this;rw [if_pos rfl] at this;rw [e2];exact this
   ·have:=hz i hi
    unfold swapT at this;rw [if_neg e,if_neg e2] at this;exact this
theorem Tab.clear {N M:Nat}{L T:Nat->Nat->Nat} (g:Full r w) (t:Tab r w N M L T) (hL:∀ j k,j < M->k < N->L j k < 2 ^ w) {h p c:Nat} (hh:h < M) (hp:p < N) (hc:c < 2 ^ w) (hc0:c≠0):Tab r w N M L (clearT r w T h p c):=by
 have R:=g.rule
 have hw:=g.w1;refine ⟨fun i k hi hk=>?_,fun i k hi hk=>?_,fun x hx hz=>t.keep x hx ?_⟩
 ·unfold clearT
  by_cases e:i=h
  ·rw [if_pos e]
   exact tm_lt R (t.lt h k hh hk)
  ·rw [if_neg e]
   exact ag7 (t.lt i k hi hk) (tm_lt R (tm_lt R (t.lt h k hh hk)))
 ·unfold clearT
  by_cases e:i=h
  ·simp only [if_pos e]
   rw [t.of h k hh hk,← dG R hw M fun j hj=>⟨hL j k hj hk,t.lt h (N+j) hh (by omega)⟩]
  ·simp only [if_neg e]
   rw [nC,dG R hw M fun j hj=>⟨hL j k hj hk,tm_lt R (t.lt h (N+j) hh (by omega))⟩,dG R hw M fun j hj=>⟨hL j k hj hk,t.lt h (N+j) hh (by omega)⟩,← t.of i k hi hk,← t.of h k hh hk]
 ·have l:∀ i k,i < M->k < N->T i k < 2 ^ w:=fun i k hi hk=>t.lt i k hi (by omega)
  have hd:∀ i,i < M->dot r w N (T i) x < 2 ^ w:=fun i hi=>dot_lt R N fun k hk=>l i k hi hk
  have h1:dot r w N (T h) x=0:=by
   have z:=hz h hh
   have e:dot r w N (clearT r w T h p c h) x=tm r w (dot r w N (T h) x) c:=by
    rw [<- dot_scale R hw hc N fun k hk=>⟨l h k hh hk,hx k hk⟩];exact dot_congr N fun k _=>⟨by unfold clearT;rw [if_pos rfl],rfl⟩
   rw [e] at z;rcases (tm_eq_zero g (hd h hh) hc).mp z with y | y
   ·exact y
   ·exact absurd y hc0
  intro i hi
  by_cases e:i=h
  ·rw [e]
   exact h1
  ·have z:=hz i hi
   have e2:dot r w N (clearT r w T h p c i) x=dot r w N (T i) x ^^^ tm r w (tm r w (dot r w N (T h) x) c) (T i p):=by
    rw [<- dot_scale R hw hc N fun k hk=>⟨l h k hh hk,hx k hk⟩,← dot_scale R hw (l i p hi hp) N fun k hk=>⟨tm_lt R (l h k hh hk),hx k hk⟩,← dot_add R N fun k hk=>⟨l i k hi hk,tm_lt R (tm_lt R (l h k hh hk))⟩];exact dot_congr N fun k _=>⟨by unfold clearT;rw [if_neg e],rfl⟩
   rw [e2,h1,zero_tm,zero_tm,ae5] at z;exact z
structure Piv (N M:Nat) (T:Nat->Nat->Nat) (hs:List Nat) (Z:Nat->Prop):Prop where
 hl:hs.length<=M
 lt:∀ t p:Nat,hs[t]?=some p->p < N
 one:∀ t p:Nat,hs[t]?=some p->∀ i,i < M->T i p=if i=t then 1 else 0
 zero:∀ k,Z k->∀ i,hs.length<=i->i < M->T i k=0
section
variable {N M:Nat}{L T:Nat->Nat->Nat}{hs:List Nat}{Z:Nat->Prop}{p c f:Nat}
theorem Piv.start:Piv N M T [] (fun _=>False):=⟨ab1 _,fun t p h=>by simp at h,fun t p h=>by simp at h,fun k z=>z.elim⟩
theorem Piv.weaken {Z':Nat->Prop} (h:Piv N M T hs Z) (e:∀ k,Z' k->Z k):Piv N M T hs Z':=⟨h.hl,h.lt,h.one,fun k z=>h.zero k (e k z)⟩
theorem Piv.skip (h:Piv N M T hs Z) (hz:∀ i,hs.length<=i->i < M->T i p=0):Piv N M T hs (fun k=>Z k\/k=p) :=
 ⟨h.hl,h.lt,h.one,fun k z=>z.elim (h.zero k) fun e=>by rw [e];exact hz⟩
theorem Piv.step (g:Full r w) (h:Piv N M T hs Z) (t:Tab r w N M L T) (hp:p < N) (hf:hs.length<=f) (hfM:f < M) (hc:c < 2 ^ w) (hinv:tm r w (T f p) c=1) :
  Piv N M (clearT r w (swapT T hs.length f) hs.length p c) (hs++[p]) (fun k=>Z k\/k=p):=by
 have R:=g.rule
 have hw:=g.w1
 have B:hs.length < M:=by omega
 have s:swapT T hs.length f hs.length=T f:=by unfold swapT;rw [if_pos rfl]
 have ge:∀ i,hs.length<=i->i < M->∃ j,hs.length<=j/\j < M/\swapT T hs.length f i=T j:=fun i h1 h2=>by
  unfold swapT
  by_cases e:i=hs.length
  ·exact ⟨f,hf,hfM,by rw [if_pos e]⟩
  ·by_cases e2:i=f
   ·exact ⟨hs.length,zQ _,B,by rw [if_neg e,if_pos e2]⟩
   ·exact ⟨i,h1,h2,by rw [if_neg e,if_neg e2]⟩
 have lo:∀ i,i < hs.length->swapT T hs.length f i=T i:=fun i h1=>by
  unfold swapT;rw [if_neg (by omega),if_neg (by omega)]
 have col:∀ k,(∀ i,hs.length<=i->i < M->T i k=0)->∀ i,i < M->clearT r w (swapT T hs.length f) hs.length p c i k=if i < hs.length then T i k else 0:=fun k hz i hi=>by
  unfold clearT;rw [s,hz f hf hfM,zero_tm,zero_tm]
  by_cases e:i=hs.length
  ·rw [if_pos e,if_neg (by omega)]
  ·rw [if_neg e,ae5]
   by_cases e2:i < hs.length
   ·rw [if_pos e2,lo i e2]
   ·obtain ⟨j,j1,j2,ej⟩:=ge i (by omega) hi
    rw [if_neg e2,ej,hz j j1 j2]
 have l:∀ i,i < M->clearT r w (swapT T hs.length f) hs.length p c i p=if i=hs.length then 1 else 0:=fun i hi=>by
  unfold clearT;rw [s,hinv]
  by_cases e:i=hs.length
  ·rw [if_pos e,if_pos e]
  ·obtain ⟨j,j2,ej⟩:=jy (T:=T) (h:=hs.length) (f:=f) B hfM hi
   rw [if_neg e,if_neg e,ej,one_tm R hw (t.lt j p j2 (by omega)),ai4]
 refine ⟨by rw [ab6];simp;omega,fun t' q e=>?_,fun t' q e i hi=>?_,fun k z i h1 h2=>?_⟩
 ·rw [List.getElem?_append] at e
  split at e
  ·exact h.lt t' q e
  ·have:q=p:=by
    cases ht:t' - hs.length with
    | zero=>rw [ht] at e;simpa using e.symm
    | succ m=>rw [ht] at e;simp at e
   rw [this];exact hp
 ·rw [List.getElem?_append] at e
  split at e
  ·rename_i hlt
   have hz:∀ i,hs.length<=i->i < M->T i q=0:=fun i h1 h2=>by
    rw [h.one t' q e i h2,if_neg (by omega)]
   rw [col q hz i hi]
   by_cases e2:i < hs.length
   ·rw [if_pos e2]
    exact h.one t' q e i hi
   ·rw [if_neg e2,if_neg (by omega)]
  ·rename_i hge
   have ht:t'=hs.length/\q=p:=by
    cases ht:t' - hs.length with
    | zero=>rw [ht] at e;exact ⟨by omega,by simpa using e.symm⟩
    | succ m=>rw [ht] at e;simp at e
   rw [ht.2,ht.1];exact l i hi
 ·rw [ab6] at h1
  have C:hs.length < i:=by simp at h1;omega
  rcases z with z | z
  ·rw [col k (h.zero k z) i h2,if_neg (by omega)]
  ·rw [z,l i h2,if_neg (by omega)]
theorem reckoned_ok (g:Full r w) (t:Tab r w N M L T) (hL:∀ j k,j < M->k < N->L j k < 2 ^ w) (h:Piv N M T hs Z) (hf:hs.length<=f) (hfM:f < M) (hp:p < N) (hinv:tm r w (T f p) c=1) :
  (dot r w M (fun j=>L j p) (fun j=>tm r w (T f (N+j)) c)=1)/\∀ k,k < N->Z k->dot r w M (fun j=>L j k) (fun j=>tm r w (T f (N+j)) c)=0:=by
 have R:=g.rule
 have e:∀ k,k < N->dot r w M (fun j=>L j k) (fun j=>tm r w (T f (N+j)) c)=tm r w (T f k) c:=fun k hk=>by
  rw [dG R g.w1 M fun j hj=>⟨hL j k hj hk,t.lt f (N+j) hfM (by omega)⟩,← t.of f k hfM hk]
 refine ⟨by rw [e p hp];exact hinv,fun k hk z=>?_⟩
 rw [e k hk,h.zero k z f hf hfM,zero_tm]
def makeX (T:Nat->Nat->Nat) (hs:List Nat) (p:Nat):Nat->Nat->Nat
 | 0=>fun k=>if k=p then 1 else 0
 | t+1=>fun k=>if k=hs.getD t 0 then T t p else makeX T hs p t k
theorem makeX_none {k:Nat} (hkp:k≠p):∀ t,t<=hs.length->(∀ s,s < t->hs.getD s 0≠k)->makeX T hs p t k=0
 | 0,_,_=>by unfold makeX;rw [if_neg hkp]
 | t+1,ht,h=>by
  unfold makeX;rw [if_neg (fun z=>h t (ab3 t) z.symm)];exact makeX_none hkp t (by omega) fun s hs'=>h s (by omega)
theorem makeX_place:∀ t,t<=hs.length->(∀ s,s < t->hs.getD s 0≠p)->makeX T hs p t p=1
 | 0,_,_=>by unfold makeX;rw [if_pos rfl]
 | t+1,ht,h=>by
  unfold makeX;rw [if_neg (fun z=>h t (ab3 t) z.symm)];exact makeX_place t (by omega) fun s hs'=>h s (by omega)
theorem getD_at {t:Nat} (h:t < hs.length):hs[t]?=some (hs.getD t 0):=by
 rw [zK,zL h];rfl
theorem nE (g:Full r w) (t:Tab r w N M L T) (h:Piv N M T hs Z) (hp:p < N) (hnp:∀ s,s < hs.length->hs.getD s 0≠p) {i:Nat} (hi:i < M):∀ q,q<=hs.length->dot r w N (T i) (makeX T hs p q)=T i p ^^^ (if i < q then T i p else 0)
 | 0,_=>by
  rw [if_neg (af5 i),ae5]
  have e:dot r w N (T i) (fun k=>if k=p then 1 else (fun _=>0) k)=_:=iU (x:=fun _=>0) (p:=p) (v:=1) rfl N
  rw [jx,ae4,if_pos hp,tm_one] at e;exact e
 | q+1,hq=>by
  have R:=g.rule
  have hq':q < hs.length:=hq
  have dup:∀ s,s < q->hs.getD s 0≠hs.getD q 0:=fun s hs' z=>by
   have a1:=h.one s _ (getD_at (by omega)) s (by have:=h.hl;omega)
   have a2:=h.one q _ (getD_at hq') s (by have:=h.hl;omega)
   rw [z,a2,if_pos rfl,if_neg (by omega)] at a1
   exact absurd a1 (by decide)
  have e:dot r w N (T i) (makeX T hs p (q+1))=_:=iU (x:=makeX T hs p q) (p:=hs.getD q 0) (v:=T q p) (makeX_none (hnp q hq') q (by omega) dup) N
  rw [if_pos (h.lt q _ (getD_at hq')),nE g t h hp hnp hi q (by omega),h.one q _ (getD_at hq') i hi] at e
  rw [e]
  by_cases z:i=q
  ·subst z
   rw [if_pos rfl,if_neg (ad4 i),if_pos (ab3 i),one_tm R g.w1 (t.lt i p hi (by omega)),ae5]
  ·rw [if_neg z,zero_tm,ae5]
   by_cases z2:i < q
   ·rw [if_pos z2,if_pos (by omega)]
   ·rw [if_neg z2,if_neg (by omega)]
theorem makeX_lt (g:Full r w) (t:Tab r w N M L T) (h:Piv N M T hs Z) (hp:p < N) (k:Nat):∀ q,q<=hs.length->makeX T hs p q k < 2 ^ w
 | 0,_=>by
  have:=g.top16;unfold makeX
  split <;> omega
 | q+1,hq=>by
  unfold makeX
  split
  ·exact t.lt q p (by have:=h.hl;omega) (by omega)
  ·exact makeX_lt g t h hp k q (by omega)
theorem free_ok (g:Full r w) (t:Tab r w N M L T) (h:Piv N M T hs Z) (hp:p < N) (hnp:∀ s,s < hs.length->hs.getD s 0≠p) (hz:∀ i,hs.length<=i->i < M->T i p=0):∀ j,j < M->dot r w N (L j) (makeX T hs p hs.length)=0:=by
 refine t.keep _ (fun k _=>makeX_lt g t h hp k _ (zQ _)) fun i hi=>?_;rw [nE g t h hp hnp hi _ (zQ _)]
 by_cases z:i < hs.length
 ·rw [if_pos z,ai4]
 ·rw [if_neg z,hz i (by omega) hi]
  rfl
theorem Tab.start (g:Full r w) (hL:∀ j k,j < M->k < N->L j k < 2 ^ w) (h1:∀ i k,i < M->k < N->T i k=L i k) (h2:∀ i j,i < M->j < M->T i (N+j)=if j=i then 1 else 0):Tab r w N M L T:=by
 have h:=g.top16;refine ⟨fun i k hi hk=>?_,fun i k hi hk=>?_,fun x hx hz j hj=>?_⟩
 ·by_cases e:k < N
  ·rw [h1 i k hi e]
   exact hL i k hi e
  ·obtain ⟨j,rfl⟩:∃ j,k=N+j:=⟨k - N,by omega⟩
   rw [h2 i j hi (by omega)]
   split <;> omega
 ·have e:dot r w M (fun j=>L j k) (fun j=>if j=i then 1 else (fun _=>0) j)=_:=iU (x:=fun _=>0) (p:=i) (v:=1) rfl M
  rw [jx,ae4,if_pos hi,tm_one] at e;rw [h1 i k hi hk,← e];exact (dot_congr M fun j hj=>⟨rfl,(h2 i j hi hj).symm⟩)
 ·rw [<- hz j hj]
  exact dot_congr N fun k hk=>⟨(h1 j k hj hk).symm,rfl⟩
end
end GF
namespace GF
end GF
namespace GF
variable {r w:Nat}
def sc (r w n f b:Nat):Nat:=join w ((syms w n b).map (tm r w f))
theorem zx (R:Rule r w) {n f b:Nat} (hf:f < 2 ^ w):sc r w n f b < (2 ^ w) ^ n:=by
 unfold sc
 have:=pZ (w:=w) (row:=(syms w n b).map (tm r w f)) fun x hx=>by
  obtain ⟨y,_,rfl⟩:=ae2.mp hx;exact tm_lt R hf
 rw [zM,syms_length] at this;exact this
theorem sc_xor (R:Rule r w) {n f b c:Nat} (hf:f < 2 ^ w):sc r w n f (b ^^^ c)=sc r w n f b ^^^ sc r w n f c:=by
 unfold sc;rw [nw (fun x=>tm_lt R hf) (fun x=>tm_lt R hf),nB,List.map_zipWith]
 congr 2
 funext x y
 exact tm_xor_right
theorem sc_zero {n b:Nat}:sc r w n 0 b=0:=by
 unfold sc
 have:(syms w n b).map (tm r w 0)=(List.range n).map fun _=>0:=by
  rw [syms_range,ac4];exact af4 fun k _=>zero_tm _
 rw [this,lO]
theorem j9 {n f:Nat}:sc r w n f 0=0:=j7 w n _ (tm_zero f)
theorem sc_one (R:Rule r w) (hw:1 < w) {n b:Nat} (hb:b < (2 ^ w) ^ n):sc r w n 1 b=b:=by
 unfold sc
 have:(syms w n b).map (tm r w 1)=syms w n b:=by
  conv=>rhs;rw [<- List.map_id (syms w n b)]
  exact af4 fun x hx=>one_tm R hw (pY hx)
 rw [this,lM hb]
theorem lP {n:Nat} (p:Nat × Nat) (ps:List (Nat × Nat)):sumB r w n (p :: ps)=sc r w n p.1 p.2 ^^^ sumB r w n ps:=by
 rw [show p :: ps=[p]++ps from rfl,sumB_append]
 congr 1
 exact ae4 _
theorem nF {n:Nat}:sumB r w n []=0:=rfl
theorem sumB_lt (R:Rule r w) {n:Nat}:∀ {fs bs:List Nat},(∀ f∈fs,f < 2 ^ w)->sumB r w n (fs.zip bs) < (2 ^ w) ^ n
 | [],bs,_=>by
  rw [List.zip_nil_left,nF];exact Nat.pow_pos (af0 w)
 | _ :: _,[],_=>by
  rw [List.zip_nil_right,nF];exact Nat.pow_pos (af0 w)
 | f :: fs,b :: bs,h=>by
  rw [List.zip_cons_cons,lP,← Nat.pow_mul];refine ag7 ?_ ?_
  ·rw [Nat.pow_mul];exact zx R (h f ac9)
  ·rw [Nat.pow_mul];exact sumB_lt R fun x hx=>h x (ac3 _ hx)
theorem sumB_unit (R:Rule r w) (hw:1 < w) {n t:Nat}:∀ (M s:Nat) (bs:List Nat),bs.length=M->(∀ b∈bs,b < (2 ^ w) ^ n)->sumB r w n (((List.range M).map fun j=>if j+s=t then 1 else 0).zip bs)=if s<=t/\t < s+M then bs.getD (t - s) 0 else 0
 | 0,s,bs,_,_=>by
  rw [if_neg (by omega)]
  rfl
 | M+1,s,[],hl,_=>by simp at hl
 | M+1,s,b :: bs,hl,h=>by
  have ih:=sumB_unit R hw (n:=n) (t:=t) M (s+1) bs (by simpa using hl) fun x hx=>h x (ac3 _ hx)
  rw [List.range_succ_eq_map,ad8,ac4,List.zip_cons_cons,lP]
  have e:((fun j=>if j+s=t then 1 else 0) ∘ Nat.succ)=fun j=>if j+(s+1)=t then 1 else 0:=by
   funext j
   show (if j+1+s=t then 1 else 0)=_
   rw [show j+1+s=j+(s+1) by omega]
  rw [e,ih];dsimp only
  by_cases z:s=t
  ·subst z
   rw [if_pos (by omega),if_neg (by omega),if_pos (by omega),ae5,am7,sc_one R hw (h b ac9)]
   rfl
  ·rw [if_neg (by omega),sc_zero,ae4]
   by_cases y:s+1<=t/\t < s+1+M
   ·rw [if_pos y,if_pos (by omega)]
    rw [show t - s=(t - (s+1))+1 by omega]
    rfl
   ·rw [if_neg y,if_neg (by omega)]
end GF
namespace GF
variable {r w:Nat}
def xsum:Nat->(Nat->Nat)->Nat
 | 0,_=>0
 | n+1,F=>xsum n F ^^^ F n
theorem xsum_congr {F G:Nat->Nat}:∀ n,(∀ k,k < n->F k=G k)->xsum n F=xsum n G
 | 0,_=>rfl
 | n+1,h=>by rw [xsum,xsum,xsum_congr n fun k hk=>h k (ad0 hk),h n (ab3 n)]
theorem xsum_xor (F G:Nat->Nat):∀ n,xsum n (fun k=>F k ^^^ G k)=xsum n F ^^^ xsum n G
 | 0=>(ai4 0).symm
 | n+1=>by rw [xsum,xsum,xsum,xsum_xor F G n];exact xor4 _ _ _ _
theorem lQ:∀ n,xsum n (fun _=>0)=0
 | 0=>rfl
 | n+1=>by rw [xsum,lQ n];rfl
theorem xsum_single {n p:Nat}{F:Nat->Nat} (hp:p < n) (h:∀ k,k < n->k≠p->F k=0):xsum n F=F p:=by
 have g:∀ m,m<=n->xsum m F=if p < m then F p else 0:=by
  intro m
  induction m with
  | zero=>intro _;rw [if_neg (af5 _)];rfl
  | succ m ih =>
   intro hm;rw [xsum,ih (by omega)]
   by_cases z:m=p
   ·subst z
    rw [if_neg (ad4 _),if_pos (ab3 _),ae4]
   ·rw [h m (by omega) z,ae5]
    by_cases y:p < m
    ·rw [if_pos y,if_pos (by omega)]
    ·rw [if_neg y,if_neg (by omega)]
 rw [g n (zQ _),if_pos hp]
theorem yJ (R:Rule r w) {n f g b:Nat} (hf:f < 2 ^ w) (hg:g < 2 ^ w):sc r w n (f ^^^ g) b=sc r w n f b ^^^ sc r w n g b:=by
 unfold sc;rw [syms_range,ac4,ac4,ac4];refine Eq.trans ?_ (lN (f:=tm r w f ∘ fun k=>b / (2 ^ w) ^ k % 2 ^ w) (g:=tm r w g ∘ fun k=>b / (2 ^ w) ^ k % 2 ^ w) _ (fun k=>tm_lt R hf) (fun k=>tm_lt R hg)).symm
 congr 1
 exact af4 fun k _=>dh R hf hg
theorem zy (R:Rule r w) (hw:1 < w) {n f g b:Nat} (hf:f < 2 ^ w) (hg:g < 2 ^ w):sc r w n f (sc r w n g b)=sc r w n (tm r w f g) b:=by
 unfold sc
 have h:=lL (w:=w) (row:=(syms w n b).map (tm r w g)) fun x hx=>by
  obtain ⟨y,_,rfl⟩:=ae2.mp hx;exact tm_lt R hg
 rw [zM,syms_length] at h;rw [h,ac4]
 congr 1
 exact af4 fun d _=>(tm_assoc R hw hf hg d).symm
theorem qc (R:Rule r w) {n f:Nat} (hf:f < 2 ^ w) (F:Nat->Nat):∀ m,sc r w n f (xsum m F)=xsum m (fun k=>sc r w n f (F k))
 | 0=>j9
 | m+1=>by rw [xsum,xsum,sc_xor R hf,qc R hf F m]
theorem sumB_range {n:Nat} (f x:Nat->Nat):∀ (m:Nat),sumB r w n (((List.range m).map f).zip ((List.range m).map x))=xsum m (fun k=>sc r w n (f k) (x k))
 | 0=>rfl
 | m+1=>by
  rw [af9,ad6,ad6,List.zip_append (by rw [zM,zM]),sumB_append,sumB_range f x m,xsum]
  congr 1
  exact ae4 _
theorem list_range (X:List Nat):X=(List.range X.length).map fun k=>X.getD k 0:=by
 apply ad9
 intro k;rw [zO]
 by_cases h:k < X.length
 ·rw [ab0 h,zL h]
  show some _=some (X.getD k 0)
  rw [zK,zL h];rfl
 ·rw [zY (by omega),zY (by rw [zS];omega)]
  rfl
theorem sumB_filter {n:Nat} (b:Nat->Bool) (f x:Nat->Nat):∀ m,sumB r w n (((List.range m).filter b).map fun k=>(f k,x k))=xsum m (fun k=>if b k=true then sc r w n (f k) (x k) else 0)
 | 0=>rfl
 | m+1=>by
  rw [af9,aj5,ad6,sumB_append,sumB_filter b f x m,xsum]
  congr 1
  by_cases z:b m=true
  ·rw [ak4 z,aj0,if_pos z]
   exact ae4 _
  ·rw [ak5 z,aj0,if_neg z]
   rfl
theorem lines_zero (R:Rule r w) (hw:1 < w) {n m:Nat}{e:Nat->Nat->Nat}{x y:Nat->Nat}:∀ (M:Nat),(∀ t j,t < M->j < m->e t j < 2 ^ w)->(∀ t,t < M->y t < 2 ^ w)->(∀ t,t < M->xsum m (fun j=>sc r w n (e t j) (x j))=0)->xsum m (fun j=>sc r w n (dot r w M (fun t=>e t j) y) (x j))=0
 | 0,_,_,_=>by
  have:xsum m (fun j=>sc r w n (dot r w 0 (fun t=>e t j) y) (x j))=xsum m (fun _=>0):=xsum_congr m fun j _=>sc_zero;rw [this,lQ]
 | M+1,he,hy,h0=>by
  have ih:=lines_zero R hw M (fun t j ht hj=>he t j (ad0 ht) hj) (fun t ht=>hy t (ad0 ht)) fun t ht=>h0 t (ad0 ht)
  have e1:xsum m (fun j=>sc r w n (dot r w (M+1) (fun t=>e t j) y) (x j))=xsum m (fun j=>sc r w n (dot r w M (fun t=>e t j) y) (x j) ^^^ sc r w n (y M) (sc r w n (e M j) (x j))):=xsum_congr m fun j hj=>by
   have hm:=he M j (ab3 M) hj
   have hyM:=hy M (ab3 M);rw [dot,yJ R (dot_lt R M fun t ht=>he t j (ad0 ht) hj) (tm_lt R hm),zy R hw hyM hm,tm_comm R hw hyM hm]
  rw [e1,xsum_xor,ih,ae4,← qc R (hy M (ab3 M)),h0 M (ab3 M),j9]
end GF
namespace L2
open PySem PySem.Spec PyProof.Rows
section
variable {X:Cx}
inductive jb (x:V) (xs:List V) (H:Hp) (Q:VK):Prop
 | mk:∀ i,x=.int i->xs=[]->Q (.int ((Builtin.Int.intBits i:Nat):Int)) H->jb x xs H Q
theorem eG:MtR X "int.bit_length" (jb):=by
 intro g s σ H x xs v us Q I rx rs h;obtain ⟨i,rfl,rfl,q⟩:=h;obtain ⟨t,rfl⟩:=rx
 cases rs;exact call_int_bit_length ⟨.int _,H,I.tok _,⟨_,rfl⟩,q⟩
inductive ke (K:PySem.W.Frag) (xs:List V) (H:Hp) (Q:VK):Prop
 | mk:∀ x c t b,xs=[x,.ty c]->TyOf K H x t->PySem.W.kitOne K t (.type c)=some b->Q (.bl b) H->ke K xs H Q
theorem fz:cG X (.builtin "isinstance") (ke X.K):=by
 intro l s σ H xs us Q I r h;obtain ⟨x,c,t,b,rfl,ty,e,q⟩:=h;obtain ⟨u,w',rfl,ru,g⟩:=jZ r
 cases (show w'=Value.type c from g);exact sU I ru ty e fun tk=>⟨.bl b,H,I.tok tk,rfl,q⟩
end
theorem gC (K:PySem.W.Frag) (c:String):PySem.W.kitOne K (.type c) (.type c)=some true:=by
 unfold PySem.W.kitOne;rw [if_pos (by exact af1 _)]
variable {K:PySem.W.Frag}
theorem yK {t c:String}{b:Bool} (h0:(Value.type t == Value.type c)=false) (h1:PySem.W.kitMeta c=true) (h2:(PySem.fastBuiltinMro t).map (fun l=>l.contains (Value.type c))=some b):PySem.W.kitOne K (.type t) (.type c)=some b:=by
 unfold PySem.W.kitOne;rw [if_neg (by rw [h0];exact aa3)]
 show (if PySem.W.kitMeta c=true then PySem.W.subIn K (.type t) (.type c) else none)=some b
 rw [if_pos h1];exact h2
theorem nG (K:PySem.W.Frag):PySem.W.kitOne K (.type "int") (.type "bool")=some false:=yK (by decide +kernel) (by decide +kernel) (by decide +kernel)
theorem rK (a b:Nat):Builtin.bitAnd (a:Int) (b:Int)=((a &&& b:Nat):Int):=by
 unfold Builtin.bitAnd;rw [zZ (Int.natCast_nonneg a),zZ (Int.natCast_nonneg b)]
 simp
theorem bK (a b:Nat):Builtin.bitXor (a:Int) (b:Int)=((a ^^^ b:Nat):Int):=by
 have h:=PyProof.Rows.bitXor_and (a:Int) (b:Int);rw [h,rK]
 have:=GF.xor_add_and a b;omega
theorem cD {r w:Nat} (h1:2 ^ w<=r) (h2:r < 2 ^ (w+1)):Builtin.Int.intBits (r:Int)=w+1:=by
 unfold Builtin.Int.intBits
 have hr:0 < r:=aa2 (af0 w) h1
 have:((r:Int) == 0)=false:=ad7.mpr (by omega)
 rw [this]
 have e:(r:Int).natAbs=r:=Int.natAbs_natCast r;rw [e]
 have:r.log2=w:=(Nat.log2_eq_iff (by omega)).mpr ⟨h1,h2⟩
 simp [this]
def Itv (K:PySem.W.Frag) (a:Addr) (xs:List V):It :=
 ⟨fun i H=>SqL K H a xs/\i < xs.length,fun i H x H'=>H'=H/\xs[xs.length - 1 - i]?=some x,fun i _=>i=xs.length⟩
variable {P:Program}{w:World}
theorem vm {tg:Expr} (a it:Addr) (xs:List V):Turn P w K tg (Itv K a xs) [it] it (fun i h=>h.IsRevIter it a ((xs.length:Int) - 1 - (i:Int))) where
 mem:=by simp
 obj:=fun i h st b hb=>by
  have e:b=it:=by simpa using hb
  subst e;obtain ⟨o,e,c,d⟩:=st;exact ⟨o,e,fun v z=>by rw [d] at z;cases z⟩
 keep:=fun i h h' st k=>st.at fun o e=>k it (by simp) o e
 item:=by
  intro X hP hw hK hc i l s σ H E I hf st hg;subst hP hw hK;obtain ⟨hq,hi⟩:=hg;obtain ⟨r,rv,p,hz⟩:=I.list hq
  have hx:xs[xs.length - 1 - i]?=some (xs[xs.length - 1 - i]'(by omega)):=zL (by omega)
  obtain ⟨u,hu,ru⟩:=rv.get hx;obtain ⟨f0,f1,f2,f3,f4,f5⟩:=hf it (by simp)
  have e:(xs.length:Int) - 1 - (i:Int)=((xs.length - 1 - i:Nat):Int):=by omega
  rw [e] at st;refine wpAny_pyNext_rev_item st p.isList (x:=u) (by simpa using hu) fun h' g sb=>?_
  have e2:((xs.length - 1 - i:Nat):Int) - 1=(xs.length:Int) - 1 - ((i+1:Nat):Int):=by omega
  rw [e2] at g
  have I1:Inv X l σ H { s with heap:=h' }:=I.turned (t':=s.toks) (fun b o hb e=>(sb.2 b hb).trans e) f0 f1 f3 f4 f5;obtain ⟨o,e,c,d⟩:=id g;exact ⟨u,rfl,jW (s:={ s with heap:=h' }) e c d (by decide) ⟨_,H,I1,ru,⟨rfl,hx⟩,g,fun b hb=>(hf b hb).1⟩⟩
 done:=by
  intro X hP hw hK hc i l s σ H E I hf st hg;subst hP hw hK
  have hg:i=xs.length:=hg;obtain ⟨f0,f1,f2,f3,f4,f5⟩:=hf it (by simp)
  have e:(xs.length:Int) - 1 - (i:Int) = -1:=by omega
  rw [e] at st;exact wpAny_pyNext_rev_end (I.ok.hd hc) st fun h' eb=>⟨rfl,I.turned (t':=s.toks) (fun b o hb e=>eb b o hb e) f0 f1 f3 f4 f5⟩
 self:=fun _ _ _ _ _ st h=>wpAny_pyIter_revIter st h
variable {pos:Pos}
section
variable {X:Cx}{tg:Expr}
inductive tE (K:PySem.W.Frag) (R:It->Hp->Prop) (vs:List V) (H1:Hp):Prop
 | mk:∀ l xs,vs=[.ref l]->SqL K H1 l xs->R (Itv K l xs) H1->tE K R vs H1
def iRev (K:PySem.W.Frag) (ta:TA):TI:=fun σ H R=>ta σ H fun vs H1=>tE K R vs H1
theorem mK:bootBuiltins "reversed" = some (.type "reversed"):=by decide +kernel
theorem yL {a:Expr}{ta:TA}{p:Pos} (hg:Gl X "reversed") (hm:X.mg "reversed" = none) (ha:PA X [a] ta) (hs:starEach [a] X.env=[(false,eval a X.env)]:=by rfl):PI X tg (.Call (.Name "reversed" p) [a] [] pos) (iRev X.K ta):=by
 intro r s σ H R I h;refine Call_ (cA I hg hm mK (ag3 (thn (ha pos r s σ H _ I h) fun us s1 ⟨vs,H1,I1,r1,q1⟩=>?_) hs rfl));obtain ⟨l,xs,e,hq,q⟩:=q1;subst e;obtain ⟨u,rfl,ru⟩:=cH r1
 cases ru;obtain ⟨g,rv,pl,hz⟩:=I1.list hq;refine call_reversed_list pl.isList ?_
 have B:((g.toArray.size:Nat):Int) - 1=(xs.length:Int) - 1 - ((0:Nat):Int):=by rw [zW,← rv.length];omega
 have st:(s1.heap.push (revObj l ((g.toArray.size:Int) - 1))).IsRevIter s1.heap.objs.size l ((xs.length:Int) - 1 - ((0:Nat):Int)):=by
  rw [<- B];exact ⟨_,aa8 _ rfl,rfl,rfl⟩
 refine wpAny_pyIter_revIter st ?_;refine ⟨s1.heap.objs.size,[s1.heap.objs.size],_,_,H1,rfl,I1.kept (t':=s1.toks) fun b o e=>zP _ e,vm l _ xs,st,fun b hb=>?_,q⟩
 have e:b=s1.heap.objs.size:=by simpa using hb
 subst e;exact I1.fpOk (zQ _) (I1.hok.fresh (zQ _))
end
variable {a:Addr}{xs:List V}{g:TG}{tb:TS}{σ:St}{H:Hp}
theorem xm {D:Ends} (Pv:Nat->St->Hp->Prop) (h0:Pv 0 σ H) (hl:∀ i σ H,i<=xs.length->Pv i σ H->SqL K H a xs)
  (hs:∀ i x σ H,i < xs.length->xs[xs.length - 1 - i]?=some x->Pv i σ H->g x σ H fun σ2 H2=>tb { D with nx:=Pv (i+1),ct:=Pv (i+1),bk:=D.nx } σ2 H2) (hd:∀ σ H,Pv xs.length σ H->D.nx σ H) :
  ∃ W:Nat->Nat->St->Hp->Prop,(∃ m,W 0 m σ H)/\∀ i m σ H,W i m σ H →
   ((Itv K a xs).stop i H/\D.nx σ H)\/((Itv K a xs).go i H/\∃ N:St->Hp->Prop,(∀ σ' H',N σ' H'->∃ m',m' < m/\W (i+1) m' σ' H')/\∀ x H',(Itv K a xs).yld i H x H'->g x σ H' fun σ2 H2=>tb { D with nx:=N,ct:=N,bk:=D.nx } σ2 H2):=by
 refine ⟨fun i m σ H=>m=xs.length - i/\i<=xs.length/\Pv i σ H,⟨xs.length,by simp,ab1 _,h0⟩,?_⟩
 rintro i m σ H ⟨rfl,hi,p⟩
 have q:=hl i σ H hi p
 by_cases hlt:i < xs.length
 ·refine .inr ⟨⟨q,hlt⟩,Pv (i+1),fun σ' H' p'=>⟨xs.length - (i+1),by omega,rfl,hlt,p'⟩,fun x H' y=>?_⟩
  obtain ⟨e,y⟩:=y;subst e;exact hs i x σ _ hlt y p
 ·have e:i=xs.length:=by omega
  exact .inl ⟨e,hd σ H (e ▸ p)⟩
theorem gD {env:Env}:∀ (names:List (Str × NameKind)) (acc:List (Str × Addr)),(∀ n,(n,NameKind.free)∈names->∃ c,env.cells.lookup n=some c)->(∀ n c,acc.lookup n=some c->env.cells.lookup n=some c) →
  ∃ cl:List (Str × Addr),(forIn names acc (fun x r=>match x with
    | (name,kind)=>if (kind == NameKind.free)=true then do
      let c ← cellOf env name
      pure (ForInStep.yield ((name,c) :: r))
     else pure (ForInStep.yield r)):Sem (List (Str × Addr)))=pure cl/\(∀ n c,cl.lookup n=some c->env.cells.lookup n=some c) ∧
   ∀ n,((n,NameKind.free)∈names\/(acc.lookup n).isSome=true)->(cl.lookup n).isSome=true
 | [],acc,_,h=>⟨acc,rfl,h,fun n q=>q.elim (fun z=>by simp at z) id⟩
 | (n,k) :: r,acc,hf,h=>by
  rw [List.forIn_cons]
  by_cases hk:k=.free
  ·subst hk
   obtain ⟨c,hc⟩:=hf n ac9
   have e:cellOf env n=pure c:=by unfold cellOf;rw [hc]
   obtain ⟨cl,h1,h2,h3⟩:=gD r ((n,c) :: acc) (fun m hm=>hf m (ac3 _ hm)) (fun m d hm=>by
    rw [ac1] at hm
    cases q:(m == n) with
    | true=>rw [q] at hm;cases hm;rw [eq_of_beq q];exact hc
    | false=>rw [q] at hm;exact h m d hm)
   refine ⟨cl,?_,h2,fun m hm=>h3 m ?_⟩
   ·show ((if (NameKind.free == NameKind.free)=true then _ else _) >>= _)=_
    rw [if_pos (by decide),e]
    exact h1
   ·rcases hm with hm | hm
    ·rcases aa5.mp hm with z | z
     ·cases z
      exact .inr (by rw [ac1,af1];rfl)
     ·exact .inl z
    ·refine .inr ?_
     rw [ac1]
     cases q:(m == n) with
     | true=>rfl
     | false=>exact hm
  ·have hb:(k == NameKind.free)=false:=by simpa using hk
   obtain ⟨cl,h1,h2,h3⟩:=gD r acc (fun m hm=>hf m (ac3 _ hm)) h;refine ⟨cl,?_,h2,fun m hm=>h3 m ?_⟩
   ·show ((if (k == NameKind.free)=true then _ else _) >>= _)=_
    rw [if_neg (by rw [hb];exact aa3)]
    exact h1
   ·rcases hm with hm | hm
    ·rcases aa5.mp hm with z | z
     ·cases z
      exact absurd rfl hk
     ·exact .inl z
    ·exact .inr hm
theorem kh {env:Env}{scope:Scope} (hf:∀ n,(n,NameKind.free)∈scope.names->∃ c,env.cells.lookup n=some c) :
  ∃ cl:List (Str × Addr),closureFor scope env=pure cl/\(∀ n c,cl.lookup n=some c->env.cells.lookup n=some c)/\∀ n,(n,NameKind.free)∈scope.names->(cl.lookup n).isSome=true:=by
 obtain ⟨cl,h1,h2,h3⟩:=gD scope.names [] hf (fun n c h=>by simp at h)
 refine ⟨cl,?_,h2,fun n h=>h3 n (.inl h)⟩;unfold closureFor
 have:(forIn scope.names ([]:List (Str × Addr)) (fun x r=>match x with
    | (name,kind)=>if (kind == NameKind.free)=true then do
      let c ← cellOf env name
      pure (ForInStep.yield ((name,c) :: r))
     else pure (ForInStep.yield r)):Sem (List (Str × Addr)))=pure cl:=h1
 first
  | exact this
  | (rw [show ∀ x:Sem (List (Str × Addr)),(x >>= fun cs=>pure cs)=x from fun x=>by simp];exact this)
  | (simp only [bind_pure];exact this)
theorem b8 {env:Env}:∀ (names:List (Str × NameKind)) (x:Str),
  (names.map fun (n,k)=>if (k == NameKind.free && env.scope.kind == .function && env.kindOf n == some .cell)=true then (n,NameKind.cell) else (n,k)).lookup x =
   (names.lookup x).map fun k=>if (k == NameKind.free && env.scope.kind == .function && env.kindOf x == some .cell)=true then NameKind.cell else k
 | [],x=>rfl
 | (n,k) :: r,x=>by
  have ih:=b8 (env:=env) r x
  show List.lookup x ((if (k == NameKind.free && env.scope.kind == .function && env.kindOf n == some .cell)=true then (n,NameKind.cell) else (n,k)) :: _)=_
  cases q:(x == n) with
  | true =>
   have e:=eq_of_beq q;subst e
   by_cases hc:(k == NameKind.free && env.scope.kind == .function && env.kindOf x == some .cell)=true
   ·rw [if_pos hc]
    simp only [ac1,q,ae3,if_pos hc]
   ·rw [if_neg hc]
    simp only [ac1,q,ae3,if_neg hc]
  | false =>
   by_cases hc:(k == NameKind.free && env.scope.kind == .function && env.kindOf n == some .cell)=true
   ·rw [if_pos hc]
    simp only [ac1,q];exact ih
   ·rw [if_neg hc]
    simp only [ac1,q];exact ih
def tF (N:List Str) (osc sc:Scope) (cap:List Nat) (own:List Str):Bool :=
 (sc.kind == .function) && sc.names.all (fun y=>(y.2 != .cell) && ((y.2 != .local) || (sc.names.lookup y.1 == some .local)) && ((y.2 != .free) || ((sc.names.lookup y.1 == some .free) && ((osc.names.lookup y.1 == some .cell) || (osc.names.lookup y.1 == some .free))))) &&
  cap.all (fun i=>match N[i]? with | some x=>sc.names.lookup x == some .free | none=>false) && own.all (fun x=>sc.names.lookup x == some .local) && decide ((cap.map (fun i=>N.getD i Str.empty)++own).Nodup)
structure CompOk (N:List Str) (osc sc:Scope) (cap:List Nat) (own:List Str):Prop where
 kind:sc.kind=.function
 nocell:∀ y∈sc.names,y.2≠.cell
 locs:∀ y∈sc.names,y.2=.local->sc.names.lookup y.1=some .local
 free1:∀ y∈sc.names,y.2=.free->sc.names.lookup y.1=some .free
 frees:∀ y∈sc.names,y.2=.free->osc.names.lookup y.1=some .cell\/osc.names.lookup y.1=some .free
 capf:∀ i∈cap,∃ x,N[i]?=some x/\sc.names.lookup x=some .free
 owns:∀ x∈own,sc.names.lookup x=some .local
 nd:(cap.map (fun i=>N.getD i Str.empty)++own).Nodup
theorem CompOk.of {N:List Str}{osc sc:Scope}{cap:List Nat}{own:List Str} (h:tF N osc sc cap own=true):CompOk N osc sc cap own:=by
 unfold tF at h;simp only [ac8] at h;obtain ⟨⟨⟨⟨h1,h2⟩,h3⟩,h4⟩,h5⟩:=h
 have all:=ab4.mp h2;refine ⟨eq_of_beq h1,fun y hy=>?_,fun y hy e=>?_,fun y hy e=>?_,fun y hy e=>?_,fun i hi=>?_,fun x hx=>?_,zN h5⟩
 ·have q:=all y hy
  simp only [ac8] at q;intro e;rw [e] at q;exact absurd q.1.1 (by decide)
 ·have q:=all y hy
  simp only [ac8,ai9] at q;rcases q.1.2 with z | z
  ·rw [e] at z;exact absurd z (by decide)
  ·exact eq_of_beq z
 ·have q:=all y hy
  simp only [ac8,ai9] at q;rcases q.2 with z | z
  ·rw [e] at z;exact absurd z (by decide)
  ·exact eq_of_beq z.1
 ·have q:=all y hy
  simp only [ac8,ai9] at q;rcases q.2 with z | z
  ·rw [e] at z;exact absurd z (by decide)
  ·exact z.2.imp eq_of_beq eq_of_beq
 ·have q:=ab4.mp h3 i hi
  cases e:N[i]? with
  | none=>rw [e] at q;cases q
  | some x=>rw [e] at q;exact ⟨x,rfl,eq_of_beq q⟩
 ·exact eq_of_beq (ab4.mp h4 x hx)
abbrev ee (N:List Str) (cap:List Nat) (own:List Str):List Str:=cap.map (fun i=>N.getD i Str.empty)++own
abbrev bS (σ:St) (cap:List Nat) (own:List Str):St:=cap.map (fun i=>(σ[i]?).join)++own.map fun _=>none
def cO (X:Cx) (sc:Scope) (cl:List (Str × Addr)) (C:Addr) (cap:List Nat) (own:List Str) (s₀:Shared) (H₀:Hp) (ex:List Addr):Cx :=
 { X with N:=ee X.N cap own,s₀:=s₀,H₀:=H₀,env:=compEnvC sc cl C X.env,outer:=X.stack,stack:=X.stack,ex:=ex,fn:=fun _=>false,pn:=[],xe:=fun _ _=>False }
variable {fp:List Addr}{t':Nat}
section
variable {X:Cx}{pins:List (Addr × Obj)}{σ:St}{H:Hp}{s:Shared}{sc:Scope}{cl:List (Str × Addr)}{cap:List Nat}{own:List Str}
theorem nJ (S:CompOk X.N X.env.scope sc cap own) {x:Str}{C:Addr} (h:(compEnvC sc cl C X.env).kindOf x=some .cell\/(compEnvC sc cl C X.env).kindOf x=some .free):(x,NameKind.free)∈sc.names:=by
 have e:(compEnvC sc cl C X.env).kindOf x=(sc.names.lookup x).map fun k=>if (k == NameKind.free && X.env.scope.kind == .function && X.env.kindOf x == some .cell)=true then NameKind.cell else k:=b8 sc.names x
 rw [e] at h
 cases q:sc.names.lookup x with
 | none=>rw [q] at h;rcases h with z | z <;> cases z
 | some k =>
  have hm:=ae0 q
  have hk:k=.free:=by
   rw [q] at h;simp only [ae3,ak0] at h
   by_cases c:(k == NameKind.free && X.env.scope.kind == .function && X.env.kindOf x == some .cell)=true
   ·simp only [ac8] at c
    exact eq_of_beq c.1.1
   ·rw [if_neg c] at h
    rcases h with z | z
    ·exact absurd z (S.nocell _ hm)
    ·exact z
  rw [hk] at hm;exact hm
theorem tG (S:CompOk X.N X.env.scope sc cap own) {x:Str}{C:Addr} (h:sc.names.lookup x=some .free):(compEnvC sc cl C X.env).kindOf x=some .cell\/(compEnvC sc cl C X.env).kindOf x=some .free:=by
 have e:(compEnvC sc cl C X.env).kindOf x=(sc.names.lookup x).map fun k=>if (k == NameKind.free && X.env.scope.kind == .function && X.env.kindOf x == some .cell)=true then NameKind.cell else k:=b8 sc.names x
 rw [e,h];simp only [ae3,ak0]
 split
 ·exact .inl rfl
 ·exact .inr rfl
theorem Inv.block {h':Heap} (I:Inv X pins σ H s) (S:CompOk X.N X.env.scope sc cap own) (hc1:∀ n c,cl.lookup n=some c->X.env.cells.lookup n=some c) (hc2:∀ n,(n,NameKind.free)∈sc.names->(cl.lookup n).isSome=true)
  (hf:∀ b∈fp,FpOk X pins H b) (hlt:∀ b∈fp,b < s.heap.objs.size) {m:Str->Option Value} (hn:h'.Ns s.heap.objs.size m) (k:∀ b u,s.heap.get? b=some u->h'.get? b=some u) :
  Inv (cO X sc cl s.heap.objs.size cap own s H fp) [] (bS σ cap own) H { s with heap:=h',toks:=t' }:=by
 refine ⟨⟨I.mod,S.kind,I.ok.glob,I.ok.blt,zQ _,fun x y c a b=>I.ok.inj x y c (hc1 x c a) (hc1 y c b),fun x hx=>?_,fun x c z=>absurd z (by show ¬ (false=true);decide),I.ok.hd,I.ok.frames,.inl rfl,fun b hb=>⟨aa4 (hlt b hb),fun x c e=>(hf b hb).2.2.2.2.1 x c (hc1 x c e)⟩,I.bs,zR I.ok.bsz I.sz,fun b o e hb=>?_,fun b hb z=>?_,I.stack,I.stkFree⟩,
  rfl,I.bare,Un.kept k,⟨m,hn,fun i x v e1 e2 e3=>?_⟩,fun x c e=>?_,I.hok.fresh (zQ _),fun x c e=>I.freeC x c (hc1 x c e),fun p hp=>absurd hp (by show p∉([]++[]:List (Addr × Obj));simp),I.hok.kept k,?_⟩
 ·have hm:=nJ S hx
  exact ai2.mp (hc2 x hm)
 ·rcases (hf b hb).2.2.2.1 with z | z
  ·exact I.ok.noex b o e z
  ·exact absurd (aa2 (zU (I.ok.bs b o e).1) z) (ad4 _)
 ·rcases aa5.mp (I.stkSub b z) with q | q
  ·exact (hf b hb).2.1 q
  ·exact (hf b hb).2.2.1 q
 ·by_cases hi:i < cap.length
  ·have h:(ee X.N cap own)[i]?=some x:=e1
   have g:(bS σ cap own)[i]?=some (some v):=e2;rw [ee,ae8 (by simpa using hi),zO,zL hi] at h
   rw [bS,ae8 (by simpa using hi),zO,zL hi] at g
   simp only [ae3,ak0] at h g;obtain ⟨y,hy,hl⟩:=S.capf _ (ae1 hi)
   have r:x=y:=by
    rw [<- h,zK,hy];rfl
   subst r
   have ev:σ[cap[i]]?=some (some v):=by
    cases q:σ[cap[i]]? with
    | none=>rw [q] at g;cases g
    | some o=>rw [q] at g;exact congrArg some g
   obtain ⟨m0,D,C⟩:=I.loc
   have hm:=ae0 hl
   have l:=S.frees _ hm rfl;obtain ⟨u,ru,lk⟩:=C _ x v hy ev (l.elim (fun z=>.inr (.inl z)) fun z=>.inr (.inr z));refine ⟨u,ru,.inr ⟨tG S hl,?_⟩⟩;obtain ⟨c,hc⟩:=ai2.mp (hc2 x hm);refine ⟨c,hc,?_⟩;rcases lk with ⟨z,_⟩ | ⟨_,c',B,q⟩
   ·have z':X.env.scope.names.lookup x=some .local:=z
    rcases l with w | w <;> (rw [z'] at w;cases w)
   ·have:=hc1 x c hc
    rw [B] at this
    cases this;obtain ⟨o,ho,hd⟩:=q;exact ⟨o,k _ o ho,hd⟩
  ·have g:(bS σ cap own)[i]?=some (some v):=e2
   rw [bS,af6 (by simpa using hi),zO] at g
   cases q:own[i - (cap.map fun i=>(σ[i]?).join).length]? with
   | none=>rw [q] at g;cases g
   | some o=>rw [q] at g;cases g
 ·obtain ⟨v,o,ho,hd⟩:=I.cell x c (hc1 x c e)
  exact ⟨v,o,k c o ho,hd⟩
 ·show (bS σ cap own).length=(ee X.N cap own).length
  simp [bS,ee]
def PTs (X:Cx) (ifs:List Expr) (t:TT):Prop :=
 ∀ (pins:List (Addr × Obj)) (s:Shared) (σ:St) (H:Hp) (Q:Bool->Hp->Prop),Inv X pins σ H s->t σ H Q →
  wpAny (model X.prog X.w) X.A (forIn ifs true fun c r=>if r=true then do let ok ← isTrue c X.env (eval c X.env);pure (ForInStep.yield ok) else pure (ForInStep.yield r)) (TP X pins σ Q) X.xe s
def bL:TT:=fun _ H Q=>Q true H
theorem aV:PTs X [] bL:=fun _ _ _ H _ I h=>wpAny_tests_nil ⟨H,I,h⟩
theorem cE {c:Expr}{t:TT} (h:PT X c t):PTs X [c] t:=fun pins s σ H Q I q=>wpAny_tests_one (h pins s σ H Q I q)
end
theorem lR {prog:Program}{A:Around}{R:Result->Shared->Prop}{s:Shared}{elt target iter:Expr}{ifs:List Expr}{scope:Scope}{it acc:Value}{env:Env} (I:Nat->Shared->Prop)
  (turn:∀ n s,I n s->wpAny (model prog w) A (pyNext it) (fun r s₁=>match r with
   | none=>R (.ok .next) s₁
   | some v=>wpAny (model prog w) A (letOwnedTupleGo target it v) (fun _ s₁=>wpAny (model prog w) A (assign target env v) (fun _ s₂ =>
     wpAny (model prog w) A (forIn ifs true fun c r=>if r=true then do let ok ← isTrue c env (eval c env);pure (ForInStep.yield ok) else pure (ForInStep.yield r)) (fun ok s₃ =>
      if ok=true then wpAny (model prog w) A (eval elt env) (fun x s₄ =>
       wpAny (model prog w) A (call (.builtin "list.append") [acc,x]) (fun _ s₅=>∃ m,m < n∧I m s₅) (fun _ _=>False) s₄) (fun _ _=>False) s₃
      else ∃ m,m < n/\I m s₃) (fun _ _=>False) s₂) (fun _ _=>False) s₁) (fun _ _=>False) s₁) (fun _ _=>False) s)
  (n:Nat) (h:I n s) :
  codeAny (model prog w) A (.compLoop (.ListComp elt [⟨target,iter,ifs,0⟩] scope pos) 0 it acc env) R s:=by
 refine codeAny_loop rfl I (fun n s hI=>?_) n h
 show wpAny _ A ((compTurn (.ListComp elt [⟨target,iter,ifs,0⟩] scope pos) 0 it acc env).onRaise (fun x=>do noteFrame x env;theTreesLotGoes x)) _ _ s
 refine wpAny_noted ?_;rw [compTurn_list];refine wpAny_noRaise ?_;refine zT (wpAny_standAt (zT (af3 (turn n s hI) (fun r s₁ h₁=>?_) fun _ _ h'=>h')))
 cases r with
 | none=>exact ab2 h₁
 | some v =>
  refine zT (af3 h₁ (fun _ s₁ h₁=>?_) fun _ _ h'=>h');refine zT (af3 h₁ (fun _ s₂ h₂=>zT (af3 h₂ (fun ok s₃ h₃=>?_) fun _ _ h'=>h')) fun _ _ h'=>h')
  cases ok with
  | false=>exact ab2 ⟨rfl,h₃⟩
  | true =>
   exact zT (zT (af3 h₃ (fun x s₄ h₄=>zT (af3 h₄ (fun _ s₅ h₅=>ab2 (ab2 ⟨rfl,h₅⟩)) fun _ _ h'=>h')) fun _ _ h'=>h'))
def bt (J:It) (g:TG) (tt:TT) (te:TE) (σ0:St) (H1:Hp) (D:Addr) (Q:Hp->Prop):Prop :=
 ∃ W:Nat->Nat->List V->St->Hp->Prop,(∃ m,W 0 m [] σ0 (upd H1 D (.lst [])))/\∀ i m ys σ H,W i m ys σ H->H D=some (.lst ys) ∧
  ((J.stop i H/\Q H)\/(J.go i H/\∀ x H',J.yld i H x H'->g x σ H' fun σ2 H2=>tt σ2 H2 fun b H3 =>
   if b=true then te σ2 H3 fun v H4=>H4 D=some (.lst ys)/\ys.length < sizeLine/\∃ m',m' < m/\W (i+1) m' (ys++[v]) σ2 (upd H4 D (.lst (ys++[v])))
   else ∃ m',m' < m/\W (i+1) m' ys σ2 H3))
def ki (cap:List Nat) (own:List Str) (wi:TI) (g:TG) (tt:TT) (te:TE):TE:=fun σ H Q=>wi σ H fun J H1=>∀ D,H1 D=none->bt J g tt te (bS σ cap own) H1 D (fun H'=>Q (.ref D) H')
section
variable {X:Cx}{sc:Scope}{cap:List Nat}{own:List Str}{tg iter elt:Expr}{ifs:List Expr}{pos:Pos}{wi:TI}{g:TG}{tt:TT}{te:TE}
theorem lS {use:Option (Value->Sem Unit)}{ppos:Pos}{pins:List (Addr × Obj)}{s:Shared}{Q:V->Hp->Prop}{R:Value->Shared->Prop} (hc:X.calm=true) (S:CompOk X.N X.env.scope sc cap own) (hi:PI X tg iter wi)
  (hg:∀ cl C s₀ H₀ ex,PG (cO X sc cl C cap own s₀ H₀ ex) tg g) (ht:∀ cl C s₀ H₀ ex,PTs (cO X sc cl C cap own s₀ H₀ ex) ifs tt) (he:∀ cl C s₀ H₀ ex,PE (cO X sc cl C cap own s₀ H₀ ex) elt te)
  (hs:∀ x,foldedSetIterable iter X.env x=pure x) (I:Inv X pins σ H s) (h:ki cap own wi g tt te σ H Q)
  (fin:∀ (D C:Addr) (H':Hp) (s':Shared) (m:Str->Option Value),Inv X pins σ H' s'->s'.heap.Ns C m->FpOk X pins H' C->Q (.ref D) H'->compPost (model X.prog X.w) X.A X.xe use R (.ref D) C (.ok .next) s') :
  wpAny (model X.prog X.w) X.A (comprehension (.ListComp elt [⟨tg,iter,ifs,0⟩] sc pos) sc X.env ppos (newList []) false (eval iter X.env) use) R X.xe s:=by
 obtain ⟨cl,U,ak,cr⟩:=kh (env:=X.env) (scope:=sc) fun n hn=>X.env.cells.lookup n |> fun _=>I.ok.has n (S.frees _ hn rfl);refine wpAny_comprehension_free (use:=use) rfl hs U S.kind S.locs (thn (hi pins s σ H _ I h) fun v s1 h1=>thn h1 fun cv s2 h2=>?_);obtain ⟨it,fp,tn,J,H2,rfl,I2,T,an,f2,q⟩:=h2;refine wpAny_newObj_type ?_;obtain ⟨D,hD⟩:∃ D,D=s2.heap.objs.size:=⟨_,rfl⟩
 have b4:H2 D=none:=by rw [hD];exact I2.hok.fresh (zQ _)
 have I3:Inv X pins σ (upd H2 D (.lst [])) { s2 with heap:=s2.heap.push { cls:=.type "list",dict:=none,data:=.seq ([]:List Value).toArray } }:=by
  rw [hD];exact I2.laid (t':=s2.toks) (fun b u e=>zP _ e) (zQ _) ⟨ab1 _,[],_,.nil,aa8 _ rfl⟩
 have a5:∀ b∈fp,b≠D:=fun b hb z=>by
  obtain ⟨o,ho,_⟩:=T.obj _ _ an b hb;exact absurd (zU ho) (by rw [z,hD];exact ad4 _)
 have f3:∀ b∈fp,FpOk X pins (upd H2 D (.lst [])) b:=fun b hb=>⟨by rw [ae (a5 b hb)];exact (f2 b hb).1,(f2 b hb).2⟩
 have b5:tn 0 (s2.heap.push { cls:=.type "list",dict:=none,data:=.seq ([]:List Value).toArray }):=T.keep _ _ _ an fun b _ o e=>zP _ e
 rw [<- hD];obtain ⟨W,⟨m0,w0⟩,turn⟩:=q D b4
 generalize b3:({ s2 with heap:=s2.heap.push { cls:=.type "list",dict:=none,data:=.seq ([]:List Value).toArray } }:Shared)=s3 at I3 ⊢
 have E:tn 0 s3.heap:=by rw [<- b3];exact b5
 refine wpAny_newFunctionEnv S.nocell (by intro y hy;simp at hy) (fun h1 ce ck=>?_) S.kind
 have hk:∀ b u,s3.heap.get? b=some u->h1.get? b=some u:=fun b u e=>ck.extBut b u (aa4 (zU e)) (zP _ e)
 have G:∀ b∈fp,b < s3.heap.objs.size:=fun b hb=>by
  obtain ⟨o,ho,_⟩:=T.obj _ _ E b hb;exact zU ho
 have I4:=I3.block (t':=s3.toks+([]:List (Str × Value)).length) S ak cr f3 G ce hk
 have fC:∀ H',H' s3.heap.objs.size=none->FpOk X pins H' s3.heap.objs.size:=fun H' hn=>I3.fpOk (zQ _) hn;obtain ⟨C,hC⟩:∃ C,C=s3.heap.objs.size:=⟨_,rfl⟩;rw [<- hC] at I4 fC;rw [<- hC];obtain ⟨Xc,l⟩:∃ Xc,Xc=cO X sc cl C cap own s3 (upd H2 D (.lst [])) fp:=⟨_,rfl⟩;rw [<- l] at I4
 have gX:PG Xc tg g:=l ▸ hg cl C s3 _ fp
 have tX:PTs Xc ifs tt:=l ▸ ht cl C s3 _ fp
 have eX:PE Xc elt te:=l ▸ he cl C s3 _ fp
 have x1:Xc.prog=X.prog:=by rw [l];rfl
 have x2:Xc.w=X.w:=by rw [l];rfl
 have x3:Xc.K=X.K:=by rw [l];rfl
 have x4:Xc.calm=true:=by rw [l];exact hc
 have x5:Xc.A=X.A:=by rw [l];rfl
 have x6:Xc.env=compEnvC sc cl C X.env:=by rw [l];rfl
 have x7:Xc.xe=fun _ _=>False:=by rw [l];rfl
 have B:∀ {H':Hp},(∀ b∈fp,H' b=none)->∀ b∈fp,FpOk Xc [] H' b:=fun hn b hb=>by
  rw [l];refine ⟨hn b hb,?_,?_,.inl hb,fun x c e=>(f3 b hb).2.2.2.2.1 x c (ak x c e),fun p hp=>absurd hp (by show p∉([]++[]:List (Addr × Obj));simp)⟩
  ·show b≠C
   rw [hC];exact aa4 (G b hb)
  ·intro z
   rcases aa5.mp (I3.stkSub b z) with q | q
   ·exact (f3 b hb).2.1 q
   ·exact (f3 b hb).2.2.1 q
 have a1:tn 0 h1:=T.keep _ _ _ E fun b _ o e=>hk b o e
 have P:∀ s4:Shared,s4 = { s3 with heap:=h1,toks:=s3.toks+([]:List (Str × Value)).length } →
   codeAny (model X.prog X.w) X.A (.compLoop (.ListComp elt [⟨tg,iter,ifs,0⟩] sc pos) 0 (.ref it) (.ref D) (compEnvC sc cl C X.env)) (compPost (model X.prog X.w) X.A X.xe use R (.ref D) C) s4:=by
  rintro s4 rfl;refine lR (fun n s'=>∃ i σ' H' ys,Inv Xc [] σ' H' s'/\tn i s'.heap/\(∀ b∈fp,H' b=none)/\H' D=some (.lst ys)/\W i n ys σ' H') ?_ m0 ⟨0,_,_,[],I4,a1,fun b hb=>(f3 b hb).1,ab,w0⟩;rintro n s5 ⟨i,σ5,H5,ys,I5,a2,ad,cy,w5⟩;obtain ⟨_,L⟩:=turn i n ys σ5 H5 w5;rcases L with ⟨stop,qq⟩ | ⟨go,step⟩
  ·have td:=T.done Xc x1 x2 x3 x4 i [] s5 σ5 H5 (fun _ _=>False) I5 (B ad) a2 stop
   rw [x5] at td;refine thn td fun r s6 ⟨hr,I6⟩=>?_;subst hr
   show compPost _ _ _ _ _ _ _ (.ok .next) s6
   obtain ⟨m6,a0,_⟩:=id I6.loc;rw [x6] at a0
   have u6:=I6.base
   have Y:=I6.hok
   have ch:H5 C=none:=by have:=I6.free;rw [x6] at this;exact this
   have bm:s6.os=s3.os:=by have:=I6.os;rw [l] at this;exact this
   rw [l] at u6 Y
   have IX:Inv X pins σ H5 s6:=I3.call' (s':=s6) bm u6 Y I6.bare fun b hb=>⟨(f3 b hb).2.2.2.1,(f3 b hb).2.1,(f3 b hb).2.2.2.2.1,(f3 b hb).2.2.2.2.2⟩;exact fin D C H5 s6 m6 IX a0 (fC H5 ch) qq
  ·have ti:=T.item Xc x1 x2 x3 x4 i [] s5 σ5 H5 (fun _ _=>False) I5 (B ad) a2 go
   rw [x5] at ti;refine thn ti fun r s6 ⟨u,hr,h6⟩=>?_;subst hr;refine thn h6 fun _ s7 ⟨x,H7,I7,r7,y7,O,cp⟩=>?_
   have cc:=I7.pinned (B cp) (T.obj _ _ O)
   have a7:=gX _ s7 σ5 H7 x u _ cc r7 (step x H7 y7);rw [x1,x2,x5,x6,x7] at a7;refine thn a7 fun _ s8 ⟨σ8,H8,I8,q8⟩=>?_
   have a8:=tX _ s8 σ8 H8 _ I8 q8;rw [x1,x2,x5,x6,x7] at a8
   have again:∀ {σ9:St}{H9:Hp}{s9:Shared}{zs:List V}{m':Nat},Inv Xc ([]++eB fp s7.heap) σ9 H9 s9->H9 D=some (.lst zs)->m' < n->W (i+1) m' zs σ9 H9 →
     ∃ m,m < n/\∃ i σ' H' ys,Inv Xc [] σ' H' s9/\tn i s9.heap/\(∀ b∈fp,H' b=none)/\H' D=some (.lst ys)/\W i m ys σ' H':=fun {σ9 H9 s9 zs m'} I9 hz hm w9=>by
    refine ⟨m',hm,i+1,σ9,H9,zs,I9.unpinned,T.keep _ _ _ O fun b hb o e=>(I9.pin (b,o) (ac6 _ (ac6 _ (cW hb e)))).1,fun b hb=>?_,hz,w9⟩;obtain ⟨o,e,d⟩:=T.obj _ _ O b hb;exact (I9.pin (b,o) (ac6 _ (ac6 _ (cW hb e)))).2.1
   refine thn a8 fun ok s9 ⟨H9,I9,q9⟩=>?_
   cases ok with
   | false =>
    rw [if_neg aa3] at q9 ⊢;obtain ⟨m',hm,w9⟩:=q9;exact again I9 (turn _ _ _ _ _ w9).1 hm w9
   | true =>
    rw [if_pos rfl] at q9 ⊢
    have a9:=eX _ s9 σ8 H9 _ I9 q9;rw [x1,x2,x5,x6,x7] at a9;refine thn a9 fun v cs ⟨y,aT,a6,b1,a4,a3,m',hm,b0⟩=>?_
    have Z:=bc (X:=Xc) ([]++eB fp s7.heap) cs σ8 aT (.ref D) [y] (.ref D) [v] (fun _ aw=>aw=upd aT D (.lst (ys++[y]))) a6 rfl (.cons b1 .nil) ⟨D,ys,y,rfl,rfl,a4,a3,rfl⟩;rw [x1,x2,x5,x7] at Z;refine thn Z fun _ cw ⟨_,aw,b6,_,b2⟩=>?_;subst b2;exact again b6 ab hm b0
 exact codeAny_compStart_list (P _ rfl) (T.self _ 0 _ _ _ a1 (P _ rfl))
theorem bb (S:CompOk X.N X.env.scope sc cap own) (hc:X.calm=true) (hi:PI X tg iter wi)
  (hg:∀ cl C s₀ H₀ ex,PG (cO X sc cl C cap own s₀ H₀ ex) tg g) (ht:∀ cl C s₀ H₀ ex,PTs (cO X sc cl C cap own s₀ H₀ ex) ifs tt) (he:∀ cl C s₀ H₀ ex,PE (cO X sc cl C cap own s₀ H₀ ex) elt te)
  (hs:∀ x,foldedSetIterable iter X.env x=pure x:=by intro _;rfl):PE X (.ListComp elt [⟨tg,iter,ifs,0⟩] sc pos) (ki cap own wi g tt te):=by
 intro l s σ H Q I h;rw [eval_ListComp];refine lS (use:=none) hc S hi hg ht he hs I h fun D C H' s' m I' hn hf q=>?_;refine ⟨m,hn,fun h' sb=>?_⟩;obtain ⟨f0,f1,f2,f3,f4,f5⟩:=hf;exact ⟨.ref D,H',I'.turned (t':=s'.toks) (fun b o hb e=>(sb.2 b hb).trans e) f0 f1 f3 f4 f5,rfl,q⟩
theorem b9 {i:Nat}{x:Str}{pos' spos:Pos} (hN:X.N.Nodup) (hi':X.N[i]?=some x) (hx:Loc X.env.scope x) (S:CompOk X.N X.env.scope sc cap own) (hc:X.calm=true) (hi:PI X tg iter wi)
  (hg:∀ cl C s₀ H₀ ex,PG (cO X sc cl C cap own s₀ H₀ ex) tg g) (ht:∀ cl C s₀ H₀ ex,PTs (cO X sc cl C cap own s₀ H₀ ex) ifs tt) (he:∀ cl C s₀ H₀ ex,PE (cO X sc cl C cap own s₀ H₀ ex) elt te)
  (hsw:swapsWith (.ListComp elt [⟨tg,iter,ifs,0⟩] sc pos) (some (.Name x pos')) spos.line X.env=pure true:=by rfl) (hs:∀ x,foldedSetIterable iter X.env x=pure x:=by intro _;rfl)
  (hf:X.fn x=true\/X.env.scope.names.lookup x=some .local:=by first | exact .inl rfl | exact .inr rfl | assumption) :
  PS X (.Assign [.Name x pos'] (.ListComp elt [⟨tg,iter,ifs,0⟩] sc pos) spos) (fun D σ H=>ki cap own wi g tt te σ H fun v H1=>D.nx (σ.set i (some v)) H1):=by
 intro l s σ H D I h;rw [exec_Assign_Name_used _ _ _ _ hsw];refine zT (wpAny_standAt (zT ?_))
 show wpAny _ X.A (do let _ ← comprehension (.ListComp elt [⟨tg,iter,ifs,0⟩] sc pos) sc X.env _ (newList []) false (eval iter X.env) (some (assign (.Name x pos') X.env))) _ _ s
 refine zT (thn (lS (use:=some (assign (.Name x pos') X.env)) (R:=fun _ s'=>SP X l D .next s') hc S hi hg ht he hs I h fun A C H' s' m I' hn E q=>?_) (fun _ s' hq=>ab2 (ab2 hq)));obtain ⟨f0,f1,f2,f3,f4,f5⟩:=E;refine wpAny_assign_Name (lA I' hN hi' hx (v:=.ref A) rfl (fun G r ⟨a,sa,ha⟩=>?_) hf)
 have B:C≠a:=by
  rcases ha with z | z
  ·rw [z];exact f1
  ·exact fun w=>f4 x a z w.symm
 refine ⟨m,hn.sameBut sa B,fun h' sb=>?_⟩;exact ⟨_,H',r.turned (t':=G.toks) (fun b o hb e=>(sb.2 b hb).trans e) f0 f1 f3 f4 f5,q⟩
end
section
variable {X:Cx}{pins:List (Addr × Obj)}{σ:St}{H:Hp}{s:Shared}{h':Heap}
theorem Inv.turnedUp {o:HO} (I:Inv X pins σ H s) (hf:∀ b∈fp,FpOk X pins H b) (k:∀ b u,b∉fp->s.heap.get? b=some u->h'.get? b=some u) (ha:s.heap.objs.size<=a)
  (new:ObjOk X.prog X.w (upd H a o) h' a o):Inv X pins σ (upd H a o) { s with heap:=h',toks:=t' }:=by
 have ne:∀ b u,s.heap.get? b=some u->b≠a:=fun b u e=>aa4 (aa2 (zU e) ha)
 have nH:H a=none:=I.hok.fresh ha
 have nb:∀ b u,H b=some u->b≠a:=fun b u e z=>by rw [z,nH] at e;cases e
 have nf:∀ b u,H b=some u->b∉fp:=fun b u e z=>by rw [(hf b z).1] at e;cases e
 refine I.step (g':=s.gens) (d':=s.drawn) (ch:=fp) (fun b hb=>⟨(hf b hb).2.2.2.1,(hf b hb).2.1,(hf b hb).2.2.2.2.1,(hf b hb).2.2.2.2.2⟩) (fun b o _ _ hc e _=>k b o hc e) (fun b o _ _ hc e _=>⟨o.slots,k b o hc e⟩)
  (fun b o _ e n=>by rw [ae (ne b o e)];exact n) (fun b o hc e=>?_) (fun b xs e=>by rw [ae (nb b _ e)];exact e) (fun b o u e=>by rw [ae (nb b _ e)];exact e) (fun b ps e=>⟨#[],by rw [ae (nb b _ e),e];simp⟩)
  (fun m hm=>by
   obtain ⟨oL,es,ep,ho,r⟩:=hm
   exact ⟨oL,es,ep,k _ oL (fun z=>(hf _ z).2.1 rfl) ho,r⟩) (fun b u e=>?_) I.bare
 ·exact ⟨o,k b o hc e⟩
 ·by_cases hb:b=a
  ·subst hb;rw [ab] at e;cases e;exact new
  ·rw [ae hb] at e
   refine (I.hok b u e).stay (fun c v hc q=>k c v ?_ q) (fun c q=>by rw [ae (nb c _ q)];exact q) fun c xs q=>by rw [ae (nb c _ q)];exact q
   rcases hc with z | z
   ·rw [z];exact nf b u e
   ·exact nf c _ z
theorem Inv.turnedL (I:Inv X pins σ H s) (hf:∀ b∈fp,FpOk X pins H b) (k:∀ b u,b∉fp->s.heap.get? b=some u->h'.get? b=some u):Inv X pins σ H { s with heap:=h',toks:=t' }:=by
 have nf:∀ b u,H b=some u->b∉fp:=fun b u e z=>by rw [(hf b z).1] at e;cases e
 refine I.step (g':=s.gens) (d':=s.drawn) (ch:=fp) (fun b hb=>⟨(hf b hb).2.2.2.1,(hf b hb).2.1,(hf b hb).2.2.2.2.1,(hf b hb).2.2.2.2.2⟩) (fun b o _ _ hc e _=>k b o hc e) (fun b o _ _ hc e _=>⟨o.slots,k b o hc e⟩)
  (fun b o _ e n=>n) (fun b o hc e=>⟨o,k b o hc e⟩) (fun b xs e=>e) (fun b o u e=>e) (fun b ps e=>⟨#[],by rw [e];simp⟩)
  (fun m hm=>by
   obtain ⟨oL,es,ep,ho,r⟩:=hm
   exact ⟨oL,es,ep,k _ oL (fun z=>(hf _ z).2.1 rfl) ho,r⟩) (fun b u e=>?_) I.bare
 refine (I.hok b u e).stay (fun c v hc q=>k c v ?_ q) (fun _ q=>q) fun _ _ q=>q;rcases hc with z | z
 ·rw [z];exact nf b u e
 ·exact nf c _ z
end
def Itz (K:PySem.W.Frag) (l1 l2:Addr) (xs ys:List V):It :=
 ⟨fun i H=>SqL K H l1 xs/\SqL K H l2 ys/\i < xs.length/\i < ys.length,fun i H x H'=>∃ T u v,H T=none/\x=.ref T/\xs[i]?=some u/\ys[i]?=some v/\H'=upd H T (.tup [u,v]),
  fun i H=>SqL K H l1 xs/\SqL K H l2 ys/\(xs.length<=i\/ys.length<=i)⟩
structure Five (z TI TO i1 i2:Addr):Prop where
 TIz:TI≠z
 TOz:TO≠z
 i1z:i1≠z
 i2z:i2≠z
 TITO:TI≠TO
 TIi1:TI≠i1
 TIi2:TI≠i2
 TOi1:TO≠i1
 TOi2:TO≠i2
 i12:i1≠i2
theorem xn (n:Nat):Five (n+4) (n+2) (n+3) n (n+1) :=
 ⟨(by omega:(n+2:Nat)≠n+4),(by omega:(n+3:Nat)≠n+4),(by omega:(n:Nat)≠n+4),(by omega:(n+1:Nat)≠n+4),(by omega:(n+2:Nat)≠n+3),(by omega:(n+2:Nat)≠n),
  (by omega:(n+2:Nat)≠n+1),(by omega:(n+3:Nat)≠n),(by omega:(n+3:Nat)≠n+1),(by omega:(n:Nat)≠n+1)⟩
theorem cg {h:Heap}{b:Addr}{x y:Array Value}{o:Obj}{T:String} (hl:h.IsList a x) (ho:h.get? b=some o) (hc:o.cls=.type T) (hT:T ≠ "list"):a≠b:=by
 rintro rfl;obtain ⟨o',l,g,_⟩:=hl;rw [ho] at l
 cases l;rw [hc] at g
 cases g;exact hT rfl
variable {l1 l2:Addr}
theorem Five.apart {h:Heap}{z TI TO i1 i2:Addr}{a b c d:Value}{k1 k2:Nat}{xs ys:Array Value} (F:Five z TI TO i1 i2) (hz:PySem.IsZip h z TI TO a) (hTO:PySem.IsPair h TO b c) (h1:h.IsListIter i1 l1 k1) (h2:h.IsListIter i2 l2 k2)
  (hl1:h.IsList l1 xs) (hl2:h.IsList l2 ys):PySem.ZipApart z TI TO i1 i2 l1 l2:=by
 obtain ⟨o1,e1,c1,_⟩:=id h1;obtain ⟨o2,e2,c2,_⟩:=id h2
 exact ⟨F.TIz,F.TOz,F.i1z,F.i2z,F.TITO,F.TIi1,F.TIi2,F.TOi1,F.TOi2,F.i12,
  cg (y:=xs) hl1 hz rfl (by decide),cg (y:=xs) hl1 hTO rfl (by decide),cg (y:=xs) hl1 e1 c1 (by decide),cg (y:=xs) hl1 e2 c2 (by decide),
  cg (y:=xs) hl2 hz rfl (by decide),cg (y:=xs) hl2 hTO rfl (by decide),cg (y:=xs) hl2 e1 c1 (by decide),cg (y:=xs) hl2 e2 c2 (by decide)⟩
variable {elts:List Expr}
theorem vn {x1}{tp:Pos}{z TI TO i1 i2 l1 l2:Addr} (F:Five z TI TO i1 i2) (xs ys:List V) :
  Turn P w K (.Tuple elts x1 tp) (Itz K l1 l2 xs ys) [z,TI,TO,i1,i2] z (fun i h=>PySem.IsZip h z TI TO .none/\PySem.IsPair h TI (.ref i1) (.ref i2)/\(∃ a b,PySem.IsPair h TO a b)/\h.IsListIter i1 l1 i/\h.IsListIter i2 l2 i) where
 mem:=by simp
 obj:=fun i h st b hb=>by
  obtain ⟨hz,l,⟨a,c,g⟩,⟨o1,e1,c1,d1⟩,o2,e2,c2,d2⟩:=st;simp only [aa5,ab9,or_false] at hb;rcases hb with rfl | rfl | rfl | rfl | rfl
  ·exact ⟨_,hz,fun v q=>by have q':Data.fields _=Data.cell v:=q;cases q'⟩
  ·exact ⟨_,l,fun v q=>by have q':Data.seq _ _=Data.cell v:=q;cases q'⟩
  ·exact ⟨_,g,fun v q=>by have q':Data.seq _ _=Data.cell v:=q;cases q'⟩
  ·exact ⟨o1,e1,fun v q=>by rw [d1] at q;cases q⟩
  ·exact ⟨o2,e2,fun v q=>by rw [d2] at q;cases q⟩
 keep:=fun i h h' st k=>by
  obtain ⟨hz,l,⟨a,b,g⟩,h1,h2⟩:=st;exact ⟨k z (by simp) _ hz,k TI (by simp) _ l,⟨a,b,k TO (by simp) _ g⟩,h1.at fun o e=>k i1 (by simp) o e,h2.at fun o e=>k i2 (by simp) o e⟩
 item:=by
  intro X hP hw hK hc i L s σ H E I hf st hg;subst hP hw hK;obtain ⟨hz,l,⟨a,b,g⟩,h1,h2⟩:=st;obtain ⟨q1,q2,b1,b2⟩:=hg;obtain ⟨J,B,p1,_⟩:=I.list q1;obtain ⟨G,r,p2,_⟩:=I.list q2
  have hx:xs[i]?=some xs[i]:=zL b1
  have hy:ys[i]?=some ys[i]:=zL b2;obtain ⟨u,hu,ru⟩:=B.get hx;obtain ⟨v,hv,rv⟩:=r.get hy
  have lt:∀ {c o},s.heap.get? c=some o->c≠s.heap.objs.size:=fun e=>aa4 (zU e);refine PySem.wpAny_pyNext_zip_item (F.apart (d:=.none) hz g h1 h2 p1.isList p2.isList) hz l g h1 h2 p1.isList p2.isList (x:=u) (y:=v) (by simpa using hu) (by simpa using hv) fun h' a1 a2 a3 a4 a5 a6 hk=>?_
  refine ⟨_,rfl,PySem.wpAny_letOwnedTupleGo_zip a1 fun Q C sb=>?_⟩
  have O:s.heap.objs.size≠z:=(lt hz).symm
  have kk:∀ b u,b∉[z,TI,TO,i1,i2]->s.heap.get? b=some u->Q.get? b=some u:=fun b u hb e=>by
   simp only [aa5,ab9,or_false,not_or] at hb;exact sb.extBut _ _ hb.1 (hk b u hb.1 hb.2.2.1 hb.2.2.2.1 hb.2.2.2.2 e)
  refine ⟨.ref s.heap.objs.size,upd H s.heap.objs.size (.tup [xs[i],ys[i]]),I.turnedUp (t':=s.toks) hf kk (zQ _) ⟨by show 2<=sizeLine;decide,[u,v],.cons ru (.cons rv .nil),⟨_,sb.extBut _ _ O a5,rfl,_,rfl⟩⟩,rfl,
   ⟨_,_,_,I.hok.fresh (zQ _),rfl,hx,hy,rfl⟩,⟨C,sb.extBut _ _ F.TIz (hk _ _ F.TIz F.TITO F.TIi1 F.TIi2 l),⟨_,_,sb.extBut _ _ F.TOz a2⟩,a3.at fun o e=>sb.extBut _ _ F.i1z e,a4.at fun o e=>sb.extBut _ _ F.i2z e⟩,fun b hb=>?_⟩
  have:b≠s.heap.objs.size:=by
   obtain ⟨o1,e1,_⟩:=id h1;obtain ⟨o2,e2,_⟩:=id h2;simp only [aa5,ab9,or_false] at hb;rcases hb with rfl | rfl | rfl | rfl | rfl
   ·exact lt hz
   ·exact lt l
   ·exact lt g
   ·exact lt e1
   ·exact lt e2
  rw [ae this];exact (hf b hb).1
 done:=by
  intro X hP hw hK hc i L s σ H E I hf st hg;subst hP hw hK;obtain ⟨hz,l,⟨a,b,g⟩,h1,h2⟩:=st;obtain ⟨q1,q2,D⟩:=hg;obtain ⟨J,B,p1,_⟩:=I.list q1;obtain ⟨G,r,p2,_⟩:=I.list q2
  have l1:=B.length
  have l2:=r.length;refine PySem.wpAny_pyNext_zip_end (I.ok.hd hc) (F.apart (d:=.none) hz g h1 h2 p1.isList p2.isList) hz l g h1 h2 p1.isList p2.isList ?_ fun h' hk=>⟨rfl,I.turnedL (t':=s.toks) hf fun b u hb e=>?_⟩
  ·rcases D with q | q
   ·exact .inl (by rw [Array.getElem?_eq_none];simp;omega)
   ·exact .inr (by rw [Array.getElem?_eq_none];simp;omega)
  ·simp only [aa5,ab9,or_false,not_or] at hb
   exact hk b u hb.1 hb.2.2.1 hb.2.2.2.1 hb.2.2.2.2 e
 self:=fun _ _ _ _ _ st h=>PySem.wpAny_pyIter_zip st.1 h
section
variable {X:Cx}
inductive tH (K:PySem.W.Frag) (R:It->Hp->Prop) (vs:List V) (H1:Hp):Prop
 | mk:∀ l1 l2 xs ys,vs=[.ref l1,.ref l2]->SqL K H1 l1 xs->SqL K H1 l2 ys->R (Itz K l1 l2 xs ys) H1->tH K R vs H1
def iZip (K:PySem.W.Frag) (ta:TA):TI:=fun σ H R=>ta σ H fun vs H1=>tH K R vs H1
theorem vo:bootBuiltins "zip" = some (.type "zip"):=by decide +kernel
theorem ir {x1}{tp:Pos}{a b:Expr}{ta:TA}{p pos:Pos} (hg:Gl X "zip") (hm:X.mg "zip" = none) (ha:PA X [a,b] ta) (hs:starEach [a,b] X.env=[(false,eval a X.env),(false,eval b X.env)]:=by rfl) (hs2:starEach [b] X.env=[(false,eval b X.env)]:=by rfl) :
  PI X (.Tuple elts x1 tp) (.Call (.Name "zip" p) [a,b] [] pos) (iZip X.K ta):=by
 intro g s σ H R I h;refine Call_ (cA I hg hm vo (ag3 (thn (ha pos g s σ H _ I h) fun us s1 ⟨vs,H1,I1,r1,q1⟩=>?_) (by rw [hs,hs2]) (by rw [hs2];rfl)))
 obtain ⟨l1,l2,xs,ys,e,h1,h2,q⟩:=q1;subst e;obtain ⟨u,v,rfl,ru,rv⟩:=jZ r1
 cases ru
 cases rv;obtain ⟨r,C,p1,_⟩:=I1.list h1;obtain ⟨l,B,p2,_⟩:=I1.list h2;refine PySem.call_zip_2 p1.isList p2.isList fun h' a1 a2 a3 a4 a5 a6 a7=>?_;refine PySem.wpAny_pyIter_zip a1 ?_
 refine ⟨s1.heap.objs.size+4,[s1.heap.objs.size+4,s1.heap.objs.size+2,s1.heap.objs.size+3,s1.heap.objs.size,s1.heap.objs.size+1],_,_,H1,rfl,I1.kept (t':=s1.toks) fun b o e=>a7 b o e,vn (xn _) xs ys,
  ⟨a1,a2,⟨_,_,a3⟩,a4,a5⟩,fun b hb=>?_,q⟩
 have:s1.heap.objs.size<=b:=by
  simp only [aa5,ab9,or_false] at hb;rcases hb with rfl | rfl | rfl | rfl | rfl
  ·exact aj4 _ 4
  ·exact aj4 _ 2
  ·exact aj4 _ 3
  ·exact zQ _
  ·exact aj4 _ 1
 exact I1.fpOk this (I1.hok.fresh this)
end
variable {ys:List V}
theorem k6 {D:Ends} (Pv:Nat->St->Hp->Prop) (h0:Pv 0 σ H) (hl:∀ i σ H,i<=xs.length->Pv i σ H->SqL K H l1 xs/\SqL K H l2 ys) (he:xs.length=ys.length)
  (hs:∀ i u v T σ H,i < xs.length->xs[i]?=some u->ys[i]?=some v->H T=none->Pv i σ H->g (.ref T) σ (upd H T (.tup [u,v])) fun σ2 H2=>tb { D with nx:=Pv (i+1),ct:=Pv (i+1),bk:=D.nx } σ2 H2) (hd:∀ σ H,Pv xs.length σ H->D.nx σ H) :
  ∃ W:Nat->Nat->St->Hp->Prop,(∃ m,W 0 m σ H)/\∀ i m σ H,W i m σ H →
   ((Itz K l1 l2 xs ys).stop i H/\D.nx σ H)\/((Itz K l1 l2 xs ys).go i H/\∃ N:St->Hp->Prop,(∀ σ' H',N σ' H'->∃ m',m' < m/\W (i+1) m' σ' H')/\∀ x H',(Itz K l1 l2 xs ys).yld i H x H'->g x σ H' fun σ2 H2=>tb { D with nx:=N,ct:=N,bk:=D.nx } σ2 H2):=by
 refine ⟨fun i m σ H=>m=xs.length - i/\i<=xs.length/\Pv i σ H,⟨xs.length,by simp,ab1 _,h0⟩,?_⟩
 rintro i m σ H ⟨rfl,hi,p⟩;obtain ⟨q1,q2⟩:=hl i σ H hi p
 by_cases hlt:i < xs.length
 ·refine .inr ⟨⟨q1,q2,hlt,by omega⟩,Pv (i+1),fun σ' H' p'=>⟨xs.length - (i+1),by omega,rfl,hlt,p'⟩,fun x H' y=>?_⟩
  obtain ⟨T,u,v,hT,rfl,hu,hv,rfl⟩:=y;exact hs i u v T σ H hlt hu hv hT p
 ·have e:i=xs.length:=by omega
  exact .inl ⟨⟨q1,q2,.inl (by omega)⟩,hd σ H (e ▸ p)⟩
inductive Dt where
 | non | bl (b:Bool) | int (i:Int) | str (x:Str) | lst (l:List Dt) | tup (l:List Dt)
mutual
def eqD:Dt->Dt->Bool
 | .non,.non=>true
 | .bl a,.bl b=>a == b
 | .bl a,.int b=>(if a then 1 else 0) == b
 | .int a,.bl b=>a == (if b then 1 else 0)
 | .int a,.int b=>a == b
 | .str a,.str b=>a == b
 | .lst a,.lst b=>eqDs a b
 | .tup a,.tup b=>eqDs a b
 | _,_=>false
def eqDs:List Dt->List Dt->Bool
 | [],[]=>true
 | a :: as,b :: bs=>eqD a b && eqDs as bs
 | [],_ :: _=>false
 | _ :: _,[]=>false
end
mutual
def depD:Dt->Nat
 | .lst a=>dH a+1
 | .tup a=>dH a+1
 | _=>0
def dH:List Dt->Nat
 | []=>0
 | a :: as=>max (depD a) (dH as)
end
mutual
def Sees (K:PySem.W.Frag) (H:Hp):V->Dt->Prop
 | v,.non=>v=.non
 | v,.bl b=>v=.bl b
 | v,.int i=>v=.int i
 | v,.str x=>v=.str x
 | v,.lst ds=>∃ a xs,v=.ref a/\SqL K H a xs/\SeesL K H xs ds
 | v,.tup ds=>∃ a xs,v=.ref a/\SqT K H a xs/\SeesL K H xs ds
def SeesL (K:PySem.W.Frag) (H:Hp):List V->List Dt->Prop
 | xs,[]=>xs=[]
 | xs,d :: ds=>∃ v vs,xs=v :: vs/\Sees K H v d/\SeesL K H vs ds
end
theorem jc:∀ {a b:List Dt},eqDs a b=true->a.length=b.length
 | [],[],_=>rfl
 | x :: a,y :: b,h=>by
  rw [eqDs,ac8] at h;rw [ac7,ac7,jc h.2]
 | [],_ :: _,h=>by rw [eqDs] at h;cases h
 | _ :: _,[],h=>by rw [eqDs] at h;cases h
theorem SeesL.length {K:PySem.W.Frag}{H:Hp}:∀ {ds:List Dt}{xs:List V},SeesL K H xs ds->xs.length=ds.length
 | [],xs,h=>by rw [SeesL] at h;rw [h];rfl
 | d :: ds,xs,h=>by
  rw [SeesL] at h;obtain ⟨v,vs,rfl,_,t⟩:=h;rw [ac7,ac7,SeesL.length t]
theorem SeesL.get {K:PySem.W.Frag}{H:Hp}:∀ {ds:List Dt}{xs:List V} (j:Nat) (h1:j < xs.length) (h2:j < ds.length),SeesL K H xs ds->Sees K H xs[j] ds[j]
 | d :: ds,xs,j,h1,h2,h=>by
  rw [SeesL] at h;obtain ⟨v,vs,rfl,s,t⟩:=h
  cases j with
  | zero=>exact s
  | succ j=>exact SeesL.get j (by simpa using h1) (by simpa using h2) t
theorem fA:∀ {a b:List Dt},a.length=b.length->eqDs a b=(List.range a.length).all fun j=>eqD (a.getD j .non) (b.getD j .non)
 | [],[],_=>by rw [eqDs];rfl
 | x :: a,y :: b,h=>by
  have ih:=fA (a:=a) (b:=b) (by simpa using h)
  rw [eqDs,ih,ac7,List.range_succ_eq_map,aj3,List.all_map];rfl
theorem qd:∀ {ds:List Dt}{j:Nat} (h:j < ds.length),depD ds[j]<=dH ds
 | d :: ds,j,h=>by
  rw [dH]
  cases j with
  | zero=>exact Nat.le_max_left _ _
  | succ j =>
   have h':j < ds.length:=by simpa using h
   exact zR (qd (ds:=ds) (j:=j) h') (Nat.le_max_right _ _)
mutual
theorem cP:∀ d:Dt,eqD d d=true
 | .non=>by rw [eqD]
 | .bl b=>by rw [eqD];exact af1 _
 | .int b=>by rw [eqD];exact af1 _
 | .str b=>by rw [eqD];exact af1 _
 | .lst l=>by rw [eqD];exact iu l
 | .tup l=>by rw [eqD];exact iu l
theorem iu:∀ l:List Dt,eqDs l l=true
 | []=>by rw [eqDs]
 | d :: l=>by rw [eqDs,cP d,iu l];rfl
end
section
variable {X:Cx}{pins:List (Addr × Obj)}{σ:St}{H:Hp}{s:Shared}
mutual
theorem vp (I:Inv X pins σ H s):∀ {d d':Dt}{v:V},Sees X.K H v d->Sees X.K H v d'->d=d'
 | .non,d',v,h,h'=>by
  rw [Sees] at h;subst h
  cases d' <;> rw [Sees] at h' <;> first | (obtain ⟨a,xs,z,_⟩:=h';cases z) | rfl | cases h'
 | .bl b,d',v,h,h'=>by
  rw [Sees] at h;subst h
  cases d' <;> rw [Sees] at h' <;> first | (obtain ⟨a,xs,z,_⟩:=h';cases z) | (cases h';rfl) | cases h'
 | .int b,d',v,h,h'=>by
  rw [Sees] at h;subst h
  cases d' <;> rw [Sees] at h' <;> first | (obtain ⟨a,xs,z,_⟩:=h';cases z) | (cases h';rfl) | cases h'
 | .str b,d',v,h,h'=>by
  rw [Sees] at h;subst h
  cases d' <;> rw [Sees] at h' <;> first | (obtain ⟨a,xs,z,_⟩:=h';cases z) | (cases h';rfl) | cases h'
 | .lst ds,d',v,h,h'=>by
  rw [Sees] at h;obtain ⟨a,xs,rfl,q,t⟩:=h
  cases d' with
  | lst ds' =>
   rw [Sees] at h';obtain ⟨a',xs',z,q',t'⟩:=h'
   cases z
   have:=I.list_inj q q';subst this;rw [eI I t t']
  | tup ds' =>
   rw [Sees] at h';obtain ⟨a',xs',z,q',t'⟩:=h'
   cases z;obtain ⟨its,_,p,_⟩:=I.list q;obtain ⟨its',_,p',_⟩:=I.tuple q';exact absurd rfl (SeqAt.ne_of_list_tuple p.isList p')
  | _=>rw [Sees] at h';cases h'
 | .tup ds,d',v,h,h'=>by
  rw [Sees] at h;obtain ⟨a,xs,rfl,q,t⟩:=h
  cases d' with
  | tup ds' =>
   rw [Sees] at h';obtain ⟨a',xs',z,q',t'⟩:=h'
   cases z
   have:=I.tuple_inj q q';subst this;rw [eI I t t']
  | lst ds' =>
   rw [Sees] at h';obtain ⟨a',xs',z,q',t'⟩:=h'
   cases z;obtain ⟨its,_,p,_⟩:=I.tuple q;obtain ⟨its',_,p',_⟩:=I.list q';exact absurd rfl (SeqAt.ne_of_list_tuple p'.isList p)
  | _=>rw [Sees] at h';cases h'
theorem eI (I:Inv X pins σ H s):∀ {ds ds':List Dt}{xs:List V},SeesL X.K H xs ds->SeesL X.K H xs ds'->ds=ds'
 | [],ds',xs,h,h'=>by
  rw [SeesL] at h;subst h
  cases ds' with
  | nil=>rfl
  | cons d' ds'=>rw [SeesL] at h';obtain ⟨_,_,z,_⟩:=h';cases z
 | d :: ds,ds',xs,h,h'=>by
  rw [SeesL] at h;obtain ⟨v,vs,rfl,q,t⟩:=h
  cases ds' with
  | nil=>rw [SeesL] at h';cases h'
  | cons d' ds' =>
   rw [SeesL] at h';obtain ⟨v',vs',z,q',t'⟩:=h'
   cases z;rw [vp I q q',eI I t t']
end
def rL:Dt->Bool
 | .lst _=>false
 | .tup _=>false
 | _=>true
theorem qe (I:Inv X pins σ H s) {A:Around}{d d':Dt}{v v':V}{u u':Value} (h:Sees X.K H v d) (h':Sees X.K H v' d') (r:RelV v u) (r':RelV v' u') (f:rL d=true) (hu:A.units < cLine):SeqAt.EqAt A s u u' (eqD d d'):=by
 have B:∀ (T:SeqAt.EqAt A s u u' (eqD d d')),SeqAt.EqAt A s u u' (eqD d d'):=fun T=>T
 cases d with
 | lst l=>exact absurd (show false=true from f) aa3
 | tup l=>exact absurd (show false=true from f) aa3
 | non =>
  simp only [Sees] at h;subst h;cases r
  cases d' with
  | lst l=>simp only [Sees] at h';obtain ⟨a,xs,rfl,q,t⟩:=h';cases r';obtain ⟨g,rv,p,_⟩:=I.list q;simp only [eqD];exact SeqAt.EqAt.none_list p.isList hu
  | tup l=>simp only [Sees] at h';obtain ⟨a,xs,rfl,q,t⟩:=h';cases r';obtain ⟨g,rv,p,_⟩:=I.tuple q;simp only [eqD];exact SeqAt.EqAt.none_tuple p hu
  | non=>simp only [Sees] at h';subst h';simp only [eqD];exact br (y:=.non) (x:=.non) rfl r' rfl rfl
  | bl b=>simp only [Sees] at h';subst h';simp only [eqD];exact br (y:=.non) (x:=.bl b) rfl r' rfl rfl
  | int b=>simp only [Sees] at h';subst h';simp only [eqD];exact br (y:=.non) (x:=.int b) rfl r' rfl rfl
  | str b=>simp only [Sees] at h';subst h';simp only [eqD];exact br (y:=.non) (x:=.str b) rfl r' rfl rfl
 | bl c =>
  simp only [Sees] at h;subst h
  cases d' with
  | lst l=>cases r;simp only [Sees] at h';obtain ⟨a,xs,rfl,q,t⟩:=h';cases r';obtain ⟨g,rv,p,_⟩:=I.list q;simp only [eqD];exact SeqAt.EqAt.bool_list c p.isList hu
  | tup l=>cases r;simp only [Sees] at h';obtain ⟨a,xs,rfl,q,t⟩:=h';cases r';obtain ⟨g,rv,p,_⟩:=I.tuple q;simp only [eqD];exact SeqAt.EqAt.bool_tuple c p hu
  | non=>simp only [Sees] at h';subst h';simp only [eqD];exact br (y:=.bl c) (x:=.non) r r' rfl rfl
  | bl b=>simp only [Sees] at h';subst h';simp only [eqD];exact br (y:=.bl c) (x:=.bl b) r r' rfl rfl
  | int b=>simp only [Sees] at h';subst h';simp only [eqD];exact br (y:=.bl c) (x:=.int b) r r' rfl rfl
  | str b=>simp only [Sees] at h';subst h';simp only [eqD];exact br (y:=.bl c) (x:=.str b) r r' rfl rfl
 | int c =>
  simp only [Sees] at h;subst h
  cases d' with
  | lst l=>obtain ⟨t,rfl⟩:=r;simp only [Sees] at h';obtain ⟨a,xs,rfl,q,t⟩:=h';cases r';obtain ⟨g,rv,p,_⟩:=I.list q;simp only [eqD];exact SeqAt.EqAt.int_list c _ p.isList hu
  | tup l=>obtain ⟨t,rfl⟩:=r;simp only [Sees] at h';obtain ⟨a,xs,rfl,q,t⟩:=h';cases r';obtain ⟨g,rv,p,_⟩:=I.tuple q;simp only [eqD];exact SeqAt.EqAt.int_tuple c _ p hu
  | non=>simp only [Sees] at h';subst h';simp only [eqD];exact br (y:=.int c) (x:=.non) r r' rfl rfl
  | bl b=>simp only [Sees] at h';subst h';simp only [eqD];exact br (y:=.int c) (x:=.bl b) r r' rfl rfl
  | int b=>simp only [Sees] at h';subst h';simp only [eqD];exact br (y:=.int c) (x:=.int b) r r' rfl rfl
  | str b=>simp only [Sees] at h';subst h';simp only [eqD];exact br (y:=.int c) (x:=.str b) r r' rfl rfl
 | str c =>
  simp only [Sees] at h;subst h
  cases d' with
  | lst l=>obtain ⟨t,rfl⟩:=r;simp only [Sees] at h';obtain ⟨a,xs,rfl,q,t⟩:=h';cases r';obtain ⟨g,rv,p,_⟩:=I.list q;simp only [eqD];exact SeqAt.EqAt.str_list c _ p.isList hu
  | tup l=>obtain ⟨t,rfl⟩:=r;simp only [Sees] at h';obtain ⟨a,xs,rfl,q,t⟩:=h';cases r';obtain ⟨g,rv,p,_⟩:=I.tuple q;simp only [eqD];exact SeqAt.EqAt.str_tuple c _ p hu
  | non=>simp only [Sees] at h';subst h';simp only [eqD];exact br (y:=.str c) (x:=.non) r r' rfl rfl
  | bl b=>simp only [Sees] at h';subst h';simp only [eqD];exact br (y:=.str c) (x:=.bl b) r r' rfl rfl
  | int b=>simp only [Sees] at h';subst h';simp only [eqD];exact br (y:=.str c) (x:=.int b) r r' rfl rfl
  | str b=>simp only [Sees] at h';subst h';simp only [eqD];exact br (y:=.str c) (x:=.str b) r r' rfl rfl
def eJ (ds ds':List Dt) (j:Nat):Bool:=eqD (ds.getD j .non) (ds'.getD j .non)
variable {ds ds':List Dt}{its:List Value}
theorem dS {A:Around}{xs':List V}{its':List Value} (t:SeesL X.K H xs ds) (t':SeesL X.K H xs' ds') (rv:Vals xs its) (rv':Vals xs' its')
  (ih:∀ (d d':Dt) (v v':V) (u u':Value),depD d<=dH ds->Sees X.K H v d->Sees X.K H v' d'->RelV v u->RelV v' u'->SeqAt.EqAt A s u u' (eqD d d')) :
  ∀ j (h1:j < its.toArray.size) (h2:j < its'.toArray.size),SeqAt.EqAt A s its.toArray[j] its'.toArray[j] (eJ ds ds' j):=by
 intro j h1 h2
 have l1:=rv.length
 have l2:=rv'.length
 have k1:=t.length
 have k2:=t'.length;simp only [zW] at h1 h2
 have b1:j < xs.length:=by omega
 have b2:j < xs'.length:=by omega
 have c1:j < ds.length:=by omega
 have c2:j < ds'.length:=by omega
 obtain ⟨u,hu,ru⟩:=rv.get (zL b1);obtain ⟨u',g,h⟩:=rv'.get (zL b2)
 have e1:its.toArray[j]=u:=by
  have:=(zV.mp hu).2
  simpa using this
 have e2:its'.toArray[j]=u':=by
  have:=(zV.mp g).2
  simpa using this
 rw [e1,e2]
 have g1:ds.getD j .non=ds[j]:=by rw [zK,zL c1];rfl
 have g2:ds'.getD j .non=ds'[j]:=by rw [zK,zL c2];rfl
 unfold eJ;rw [g1,g2];exact ih _ _ _ _ _ _ (qd c1) (SeesL.get j b1 c1 t) (SeesL.get j b2 c2 t') ru h
theorem gE (h:ds.length≠ds'.length):eqDs ds ds'=false:=by
 cases q:eqDs ds ds' with
 | false=>rfl
 | true=>exact absurd (jc q) h
theorem k7:((List.range (min ds.length ds'.length)).all (eJ ds ds') && ds.length == ds'.length)=eqDs ds ds':=by
 by_cases h:ds.length=ds'.length
 ·rw [h,Nat.min_self,af1,ai5,fA h,h]
  rfl
 ·rw [gE h,ad7.mpr h,Bool.and_false]
theorem iV (I:Inv X pins σ H s):∀ (n:Nat) (A:Around) (d d':Dt) (v v':V) (u u':Value),depD d<=n->Sees X.K H v d->Sees X.K H v' d'->RelV v u->RelV v' u'->A.units+n < cLine->SeqAt.EqAt A s u u' (eqD d d'):=by
 intro n
 induction n with
 | zero =>
  intro A d d' v v' u u' hn h h' r r' hu;refine qe I h h' r r' ?_ hu
  cases d with
  | lst l=>simp only [depD] at hn;omega
  | tup l=>simp only [depD] at hn;omega
  | _=>rfl
 | succ n ih =>
  intro A d d' v v' u u' hn h h' r r' hu
  have g:A.units < cLine:=by omega
  have G:A.in1.units+n < cLine:=by
   have:A.in1.units=A.units+1:=rfl;omega
  cases fd:rL d with
  | true=>exact qe I h h' r r' fd g
  | false =>
   cases d with
   | lst l =>
    simp only [depD] at hn;simp only [Sees] at h;obtain ⟨a,xs,rfl,q,t⟩:=h
    cases r;obtain ⟨E,rv,p,_⟩:=I.list q
    cases d' with
    | non=>simp only [Sees] at h';subst h';cases r';simp only [eqD];exact SeqAt.EqAt.list_none p.isList g
    | bl b=>simp only [Sees] at h';subst h';cases r';simp only [eqD];exact SeqAt.EqAt.list_bool b p.isList g
    | int b=>simp only [Sees] at h';subst h';obtain ⟨t',rfl⟩:=r';simp only [eqD];exact SeqAt.EqAt.list_int b _ p.isList g
    | str b=>simp only [Sees] at h';subst h';obtain ⟨t',rfl⟩:=r';simp only [eqD];exact SeqAt.EqAt.list_str b _ p.isList g
    | tup l' =>
     simp only [Sees] at h';obtain ⟨a',D,rfl,q',t'⟩:=h'
     cases r';obtain ⟨C,B,p',_⟩:=I.tuple q';simp only [eqD];exact SeqAt.EqAt.list_tuple p.isList p' g
    | lst l' =>
     have h2:=h';simp only [Sees] at h';obtain ⟨a',D,rfl,q',t'⟩:=h'
     cases r';obtain ⟨C,B,p',_⟩:=I.list q'
     by_cases e:a=a'
     ·subst e
      have:xs=D:=I.list_inj q q';subst this
      have:=eI I t t';subst this;rw [cP];exact SeqAt.EqAt.same _
     ·refine SeqAt.EqAt.of_refs e ?_
      have L:=rv.length
      have J:=B.length
      have k1:=t.length
      have k2:=t'.length;simp only [eqD]
      by_cases hl:l.length=l'.length
      ·have:=SeqAt.RcAt.lists (A:=A) (e:=eJ l l') p.isList p'.isList (by simp only [zW];omega) g (dS t t' rv B fun d d' v v' u u' hd b1 b2 b3 b4=>ih A.in1 d d' v v' u u' (by omega) b1 b2 b3 b4 G)
       have hs:E.toArray.size=l.length:=by simp only [zW];omega
       rw [hs] at this;rw [fA hl];exact this
      ·rw [gE hl]
       exact SeqAt.RcAt.lists_lengths p.isList p'.isList (by simp only [zW,bne_iff_ne,ne_eq];omega) g
   | tup l =>
    simp only [depD] at hn;simp only [Sees] at h;obtain ⟨a,xs,rfl,q,t⟩:=h
    cases r;obtain ⟨E,rv,p,_⟩:=I.tuple q
    cases d' with
    | non=>simp only [Sees] at h';subst h';cases r';simp only [eqD];exact SeqAt.EqAt.tuple_none p g
    | bl b=>simp only [Sees] at h';subst h';cases r';simp only [eqD];exact SeqAt.EqAt.tuple_bool b p g
    | int b=>simp only [Sees] at h';subst h';obtain ⟨t',rfl⟩:=r';simp only [eqD];exact SeqAt.EqAt.tuple_int b _ p g
    | str b=>simp only [Sees] at h';subst h';obtain ⟨t',rfl⟩:=r';simp only [eqD];exact SeqAt.EqAt.tuple_str b _ p g
    | lst l' =>
     simp only [Sees] at h';obtain ⟨a',D,rfl,q',t'⟩:=h'
     cases r';obtain ⟨C,B,p',_⟩:=I.list q';simp only [eqD];exact SeqAt.EqAt.tuple_list p p'.isList g
    | tup l' =>
     simp only [Sees] at h';obtain ⟨a',D,rfl,q',t'⟩:=h'
     cases r';obtain ⟨C,B,p',_⟩:=I.tuple q'
     by_cases e:a=a'
     ·subst e
      have:xs=D:=I.tuple_inj q q';subst this
      have:=eI I t t';subst this;rw [cP];exact SeqAt.EqAt.same _
     ·refine SeqAt.EqAt.of_refs e ?_
      have L:=rv.length
      have J:=B.length
      have k1:=t.length
      have k2:=t'.length;simp only [eqD]
      have:=SeqAt.RcAt.tuples (A:=A) (e:=eJ l l') p p' g (dS t t' rv B fun d d' v v' u u' hd b1 b2 b3 b4=>ih A.in1 d d' v v' u u' (by omega) b1 b2 b3 b4 G)
      have hs:E.toArray.size=l.length:=by simp only [zW];omega
      have O:C.toArray.size=l'.length:=by simp only [zW];omega
      rw [hs,O,k7] at this;exact this
   | _=>cases fd
end
section
variable {X:Cx}
def zz:Dt->Dt->Bool
 | .lst _,.tup _=>false
 | .tup _,.lst _=>false
 | _,_=>true
inductive rEqD (K:PySem.W.Frag) (neg:Bool) (x y:V) (H:Hp) (Q:VK):Prop
 | mk:∀ d d',Sees K H x d->Sees K H y d'->rL d=false->zz d d'=true->((∃ p,y=.ref p))->depD d<=60->(Q (.bl (if neg then !eqD d d' else eqD d d')) H)->rEqD K neg x y H Q
theorem yM (hu:X.A.units+64 < cLine):OpR X (compareOp .Eq) (rEqD X.K false):=by
 intro G s σ H x y v u Q I rx ry h;obtain ⟨d,d',h1,h2,fd,sk,⟨p',rfl⟩,hd,q⟩:=h
 cases ry
 have B:X.A.units < cLine:=by omega
 have E:X.A.in1.units+60 < cLine:=by
  have:X.A.in1.units=X.A.units+1:=rfl;omega
 have fin:∀ b,b=eqD d d'->EP X G σ Q (.bool b) s:=fun b e=>⟨.bl b,H,I,rfl,by rw [e];exact q⟩
 cases d with
 | lst l =>
  simp only [depD] at hd;simp only [Sees] at h1;obtain ⟨a,xs,rfl,q1,t⟩:=h1
  cases rx;obtain ⟨D,rv,p,_⟩:=I.list q1
  cases d' with
  | tup l' =>
   simp only [Sees] at h2;obtain ⟨a',C,z,q',t'⟩:=h2
   cases z;obtain ⟨r,g,p2,_⟩:=I.tuple q';exact SeqAt.RcAt.list_tuple p.isList p2 B _ _ _ _ (fin _ (by simp only [eqD]))
  | lst l' =>
   simp only [Sees] at h2;obtain ⟨a',C,z,q',t'⟩:=h2
   cases z;obtain ⟨r,g,p2,_⟩:=I.list q'
   have L:=rv.length
   have J:=g.length
   have k1:=t.length
   have k2:=t'.length
   by_cases hl:l.length=l'.length
   ·have hs:D.toArray.size=l.length:=by simp only [zW];omega
    refine SeqAt.RcAt.lists (A:=X.A) (e:=eJ l l') p.isList p2.isList (by simp only [zW];omega) B (dS t t' rv g fun d d' v v' u u' P b1 b2 b3 b4=>iV I 60 X.A.in1 d d' v v' u u' (by omega) b1 b2 b3 b4 E) _ _ _ _ (fin _ ?_)
    simp only [eqD];rw [hs,fA hl];rfl
   ·refine SeqAt.RcAt.lists_lengths p.isList p2.isList (by simp only [zW,bne_iff_ne,ne_eq];omega) B _ _ _ _ (fin _ ?_)
    simp only [eqD];rw [gE hl]
  | _=>simp only [Sees] at h2;cases h2
 | tup l =>
  simp only [depD] at hd;simp only [Sees] at h1;obtain ⟨a,xs,rfl,q1,t⟩:=h1
  cases rx;obtain ⟨D,rv,p,_⟩:=I.tuple q1
  cases d' with
  | lst l' =>
   simp only [Sees] at h2;obtain ⟨a',C,z,q',t'⟩:=h2
   cases z;obtain ⟨r,g,p2,_⟩:=I.list q';exact SeqAt.RcAt.tuple_list p p2.isList B _ _ _ _ (fin _ (by simp only [eqD]))
  | tup l' =>
   simp only [Sees] at h2;obtain ⟨a',C,z,q',t'⟩:=h2
   cases z;obtain ⟨r,g,p2,_⟩:=I.tuple q'
   have L:=rv.length
   have J:=g.length
   have k1:=t.length
   have k2:=t'.length
   have hs:D.toArray.size=l.length:=by simp only [zW];omega
   have O:r.toArray.size=l'.length:=by simp only [zW];omega
   refine SeqAt.RcAt.tuples (A:=X.A) (e:=eJ l l') p p2 B (dS t t' rv g fun d d' v v' u u' P b1 b2 b3 b4=>iV I 60 X.A.in1 d d' v v' u u' (by omega) b1 b2 b3 b4 E) _ _ _ _ (fin _ ?_)
   simp only [eqD];rw [hs,O,k7]
  | _=>simp only [Sees] at h2;cases h2
 | _=>cases fd
theorem kj (hu:X.A.units+64 < cLine):OpR X (compareOp .NotEq) (rEqD X.K true):=by
 intro E s σ H x y v u Q I rx ry h;obtain ⟨d,d',h1,h2,fd,sk,⟨p',rfl⟩,hd,q⟩:=h
 cases ry
 have B:X.A.units < cLine:=by omega
 have D:X.A.in1.units+60 < cLine:=by
  have:X.A.in1.units=X.A.units+1:=rfl;omega
 have fin:∀ b,b=(!eqD d d')->EP X E σ Q (.bool b) s:=fun b e=>⟨.bl b,H,I,rfl,by rw [e];exact q⟩
 cases d with
 | lst l =>
  simp only [depD] at hd;simp only [Sees] at h1;obtain ⟨a,xs,rfl,q1,t⟩:=h1
  cases rx;obtain ⟨C,rv,p,_⟩:=I.list q1
  cases d' with
  | lst l' =>
   simp only [Sees] at h2;obtain ⟨a',L,z,q',t'⟩:=h2
   cases z;obtain ⟨r,g,p2,_⟩:=I.list q'
   have J:=rv.length
   have G:=g.length
   have k1:=t.length
   have k2:=t'.length
   by_cases hl:l.length=l'.length
   ·have hs:C.toArray.size=l.length:=by simp only [zW];omega
    refine SeqAt.RcNeAt.lists (A:=X.A) (e:=eJ l l') p.isList p2.isList (by simp only [zW];omega) B (dS t t' rv g fun d d' v v' u u' P b1 b2 b3 b4=>iV I 60 X.A.in1 d d' v v' u u' (by omega) b1 b2 b3 b4 D) _ _ _ _ (fin _ ?_)
    simp only [eqD];rw [hs,fA hl];rfl
   ·refine SeqAt.RcNeAt.lists_lengths p.isList p2.isList (by simp only [zW,bne_iff_ne,ne_eq];omega) B _ _ _ _ (fin _ ?_)
    simp only [eqD];rw [gE hl];rfl
  | tup l'=>cases sk
  | _=>simp only [Sees] at h2;cases h2
 | tup l =>
  simp only [depD] at hd;simp only [Sees] at h1;obtain ⟨a,xs,rfl,q1,t⟩:=h1
  cases rx;obtain ⟨C,rv,p,_⟩:=I.tuple q1
  cases d' with
  | tup l' =>
   simp only [Sees] at h2;obtain ⟨a',L,z,q',t'⟩:=h2
   cases z;obtain ⟨r,g,p2,_⟩:=I.tuple q'
   have J:=rv.length
   have G:=g.length
   have k1:=t.length
   have k2:=t'.length
   have hs:C.toArray.size=l.length:=by simp only [zW];omega
   have O:r.toArray.size=l'.length:=by simp only [zW];omega
   refine SeqAt.RcNeAt.tuples (A:=X.A) (e:=eJ l l') p p2 B (dS t t' rv g fun d d' v v' u u' P b1 b2 b3 b4=>iV I 60 X.A.in1 d d' v v' u u' (by omega) b1 b2 b3 b4 D) _ _ _ _ (fin _ ?_)
   simp only [eqD];rw [hs,O,k7]
  | lst l'=>cases sk
  | _=>simp only [Sees] at h2;cases h2
 | _=>cases fd
end
variable {D:Addr}
theorem Same.up {H':Hp}{o:HO} (s:Same H H') (n:H D=none):Same H (upd H' D o):=fun b u e=>by rw [ae (am e n)];exact s b u e
variable {J:It}{n:Nat}{src f:Nat->V}{te:TE}{cs:St}{H1:Hp}{Q:Hp->Prop}
theorem iw {k:Nat} (hD:H1 D=none) (hk:k=cs.length) (hn:n<=sizeLine)
  (stop:∀ H,Same H1 H->J.stop n H) (go:∀ i H,i < n->Same H1 H->J.go i H) (yld:∀ i H x H',i < n->Same H1 H->J.yld i H x H'->x=src i/\H'=H)
  (he:∀ i H (R:V->Hp->Prop),i < n->Same H1 H->(∀ H4,Same H H4->R (f i) H4)->te (cs++[some (src i)]) H R)
  (hQ:∀ H,Same H1 H->H D=some (.lst ((List.range n).map f))->Q H):bt J (be k) bL te (cs++[none]) H1 D Q:=by
 refine ⟨fun i m ys σ H=>m=n - i/\i<=n/\Same H1 H/\ys=(List.range i).map f/\H D=some (.lst ys)/\∃ o,σ=cs++[o],⟨n,rfl,ab1 _,(Same.refl _).up hD,rfl,ab,none,rfl⟩,?_⟩;rintro i m ys σ H ⟨rfl,hi,sm,rfl,hd,o,rfl⟩;refine ⟨hd,?_⟩
 by_cases hlt:i < n
 ·refine .inr ⟨go i H hlt sm,fun x H' y=>?_⟩
  obtain ⟨rfl,rfl⟩:=yld i H x H' hlt sm y
  have e:(cs++[o]).set k (some (src i))=cs++[some (src i)]:=by
   rw [hk,aj6 _ _ (zQ _),am7];rfl
  unfold be;rw [e];unfold bL;refine iteT ?_;refine he i H' _ hlt sm fun H4 s4=>⟨s4 _ _ hd,?_,n - (i+1),by omega,rfl,hlt,(sm.trans s4).up hD,?_,ab,_,rfl⟩
  ·rw [zM,zS]
   omega
  ·rw [af9,ad6]
   rfl
 ·have e:i=n:=by omega
  subst e;exact .inl ⟨stop H sm,hQ H sm hd⟩
theorem km {f:V->V}{k:Nat} (hs:SqL K H1 a xs) (hD:H1 D=none) (hk:k=cs.length) (hn:xs.length<=sizeLine)
  (he:∀ x H (R:V->Hp->Prop),x∈xs->Same H1 H->(∀ H4,Same H H4->R (f x) H4)->te (cs++[some x]) H R)
  (hQ:∀ H,Same H1 H->H D=some (.lst (xs.map f))->Q H):bt (Itl K a) (be k) bL te (cs++[none]) H1 D Q:=by
 refine iw (src:=fun i=>xs.getD i .non) (f:=fun i=>f (xs.getD i .non)) (n:=xs.length) hD hk hn (fun H sm=>⟨xs,sm.seq hs,zQ _⟩) (fun i H hi sm=>⟨xs,xs[i],sm.seq hs,zL hi⟩) (fun i H x H' hi sm y=>?_) (fun i H R hi sm r=>?_) (fun H sm hd=>hQ H sm ?_)
 ·obtain ⟨e,y⟩:=y
  refine ⟨?_,e⟩
  have:=y xs (sm.seq hs);rw [zK,this];rfl
 ·refine he _ H R ?_ sm r
  rw [zK,zL hi];exact ae1 hi
 ·rw [hd]
  congr 2
  apply ak6
  ·simp
  ·intro i h1 h2
   simp at h1 h2
   simp [h1]
theorem pA {lo:Int}{k:Nat} (hD:H1 D=none) (hk:k=cs.length) (hn:n<=sizeLine)
  (he:∀ i H (R:V->Hp->Prop),i < n->Same H1 H->(∀ H4,Same H H4->R (f i) H4)->te (cs++[some (.int (lo+i))]) H R)
  (hQ:∀ H,Same H1 H->H D=some (.lst ((List.range n).map f))->Q H):bt (Itr lo n) (be k) bL te (cs++[none]) H1 D Q :=
 iw (src:=fun i=>.int (lo+(i:Nat))) hD hk hn (fun H _=>zQ _) (fun i H hi _=>hi) (fun i H x H' _ _ y=>⟨y.2,y.1⟩) he hQ
theorem je {k:Nat} (hD:H1 D=none) (hk:k=cs.length) (hn:n<=sizeLine)
  (he:∀ i H (R:V->Hp->Prop),i < n->Same H1 H->(∀ H4,Same H H4->R (f i) H4)->te (cs++[some (.int (i:Nat))]) H R)
  (hQ:∀ H,Same H1 H->H D=some (.lst ((List.range n).map f))->Q H):bt (Itr 0 n) (be k) bL te (cs++[none]) H1 D Q :=
 pA hD hk hn (fun i H R hi sm r=>by
  have e:(0:Int)+(i:Nat)=(i:Nat):=by omega
  rw [e]
  exact he i H R hi sm r) hQ
section
variable {X:Cx}{K:PySem.W.Frag}
theorem dU {e:Expr}{f:Str}{ta:TE} (hK:X.K=K) (he:PE X e ta) (hb:attributeBase e f X.env (eval e X.env)=eval e X.env):PE X (.Attribute e f pos) (tFld K ta f):=by
 subst hK;exact az he hb
theorem bI (hK:X.K=K):IxR X (rIxL K):=by subst hK;exact aH
theorem xo (hK:X.K=K):IxR X (rIxT K):=by subst hK;exact io
theorem mL (hK:X.K=K):cG X (.builtin "len") (dQ K):=by subst hK;exact aB
end
def kq:List Expr->Option (List Int)
 | []=>some []
 | .Constant (.int i) _ _ :: r=>(kq r).map (i :: ·)
 | _=>none
theorem qf {X:Cx}:∀ {es:List Expr}{is:List Int},kq es=some is->PA X es (fun _ H Q=>Q (is.map V.int) H)
 | [],is,h=>by
  cases h;exact ac
 | e :: es,is,h=>by
  unfold kq at h
  split at h
  ·rename_i z
   cases z
  ·rename_i i j pos r heq
   cases heq
   cases q:kq es with
   | none=>rw [q] at h;cases h
   | some js =>
    rw [q] at h
    cases h;intro pos pins s σ H Q I hq;exact aa ai (qf q) (by rfl) pos pins s σ H Q I hq
  ·cases h
theorem p0 {j:Int} (h:(0:Int) < j):(0:Int) < j:=h
def XObj (h:Heap) (x C:Addr) (od tb:Option Addr) (fl:Value):Prop :=
 ∃ oe vs,h.get? x=some oe/\oe.cls=.ref C/\oe.dict=od/\oe.data=.fields vs ∧
  match tb with
  | none=>vs[1]?=some Value.none
  | some T=>vs[1]?=some (.ref T)/\T≠x/\∃ oT ts,h.get? T=some oT/\oT.data=.fields ts/\ts[3]?=some fl
section
variable {P:Program}{w:World}{K:PySem.W.Frag}{mg:Str->Option Value}{base:Heap}{N:List Str}{qual:Str}{scope:Scope}{f:Addr}{cd:Value}{A:Around}{outer:List Env}{s:Shared}{H:Hp}{E E':XK}
end
section
variable {P:Program}{w:World}{K:PySem.W.Frag}{mg:Str->Option Value}{base:Heap}
end
section
variable {X:Cx}{E:XK}{c:Str}{C Pk:Addr}{p cpos pos:Pos}{e:Expr}{es:List Expr}{t:TA}
end
section
variable {X:Cx}{pins:List (Addr × Obj)}{σ:St}{H:Hp}{s:Shared}{h':Heap}
def XP (X:Cx) (pins:List (Addr × Obj)) (EX:St->XK) (e:Value) (s':Shared):Prop :=
 ∃ (x C T:Addr) (od:Option Addr) (σ:St) (H':Hp),e=.ref x/\Inv X pins σ H' s'/\XObj s'.heap x C od (some T) .none/\X.s₀.heap.get? x=none/\X.s₀.heap.get? T=none/\H' x=none/\H' T=none ∧
  (∀ p∈X.pn++pins,p.1≠x/\p.1≠T)/\EX σ (.ref C) od H'
end
abbrev TEX:=St->Hp->VK->XK->Prop
section
variable {X:Cx}{k:Nat}{f C:Addr}{fd:FuncData}{ps:List Str}{sp:Sp}{dvs:List V}{ds:List Value}{x m:Str}{p pos apos:Pos}{e o:Expr}{es:List Expr}{te:TE}{ta:TE}{t:TA}
end
abbrev TSX:=Ends->(St->XK)->St->Hp->Prop
section
variable {X:Cx}{e:Expr}{te:TEX}{t:TS}{u:TSX}{st:Stmt}{rest:List Stmt}{pos:Pos}
end
section
variable {X:Cx}{pins:List (Addr × Obj)}{σ:St}{H:Hp}{s:Shared}{x C T:Addr}{od:Option Addr}{fl:Value}
end
abbrev TH:=Ends->Addr->Option Addr->St->Hp->Prop
section
variable {X:Cx}{c n:Str}{C':Addr}{i:Nat}{p pos:Pos}{b₀:Stmt}{suite:List Stmt}{hs:List ExceptHandler}{ts:TS}{th:TH}
end
section
variable {prog:Program}{w:World}{A:Around}{E:Value->Shared->Prop}{s:Shared}{K:PySem.W.Frag}{x C Pk:Addr}{ox:Obj}{od:Option Obj}{name:Str}{tk:Tok}{fill expr:Bool}{r:Builtin.ObjectAttr.Found}{Q:Value->Shared->Prop}
end
section
variable {X:Cx}
end
abbrev TJ:=St->Hp->(Hp->Prop)->Prop
section
variable {X:Cx}{e v₁ v₂:Expr}{es:List Expr}{n:Nat}{te:TE}{t:TJ}{pos:Pos}
end
section
variable {prog:Program}{w:World}{A:Around}{E:Value->Shared->Prop}{s:Shared}{K:PySem.W.Frag}{C Pk f:Addr}{rest:List Value}
end
section
variable {prog:Program}{w:World}{A:Around}{E:Value->Shared->Prop}{s:Shared}{K:PySem.W.Frag}{x C Pk:Addr}{ox:Obj}{od:Option Obj}{name:Str}{v:Value}{Q:Unit->Shared->Prop}
end
section
variable {fl:Bool}{X:Cx}{pins:List (Addr × Obj)}{σ:St}{H:Hp}{s:Shared}{x C Pk:Addr}{f:Str}{A:Around}{E:Value->Shared->Prop}
end
section
variable {X:Cx}{o e value:Expr}{f:Str}{pos pos':Pos}{ta tv:TE}
end
section
variable {prog:Program}{w:World}{A:Around}{E:Value->Shared->Prop}{s:Shared}{K:PySem.W.Frag}{x C Pk:Addr}{oe:Obj}{vs:Array Value}{us:List Value}{Q:Value->Shared->Prop}
end
section
variable {X:Cx}{P c:Str}{p pos apos:Pos}{e:Expr}{es:List Expr}{t:TA}{Pk:Addr}
end
def drop (H:Hp) (x:Addr):Hp:=fun b=>if b=x then none else H b
section
variable {X:Cx}{pins:List (Addr × Obj)}{σ:St}{H:Hp}{s:Shared}{x:Addr}{φ:Heap->Prop}
end
section
variable {X:Cx}{E:XK}{c:Str}{C Pk f:Addr}{fd:FuncData}{ps:List Str}{sp:Sp}{k:Nat}{p cpos pos:Pos}{e:Expr}{es:List Expr}{t:TA}
end
structure RowsAt (H:Hp) (ps:List Addr) (n:Nat) (row:Nat->List V):Prop where
 len:ps.length=n
 nd:ps.Nodup
 on:∀ j p,ps[j]?=some p->H p=some (.lst (row j))
section
variable {H H':Hp}{ps:List Addr}{n:Nat}{row:Nat->List V}{p:Addr}
theorem RowsAt.same (h:RowsAt H ps n row) (s:Same H H'):RowsAt H' ps n row:=⟨h.len,h.nd,fun j p e=>s _ _ (h.on j p e)⟩
theorem RowsAt.none:RowsAt H [] 0 row:=⟨rfl,List.nodup_nil,fun j p e=>by simp at e⟩
theorem RowsAt.ne (h:RowsAt H ps n row) (hp:H p=Option.none):p∉ps:=fun m=>by
 obtain ⟨j,hj,e⟩:=List.getElem_of_mem m
 have:=h.on j p (by rw [zL hj,e])
 rw [hp] at this
 cases this
theorem RowsAt.snoc (h:RowsAt H ps n row) (np:p∉ps) (hp:H p=some (.lst (row n))):RowsAt H (ps++[p]) (n+1) row:=by
 refine ⟨by rw [ab6,h.len];rfl,List.nodup_append.mpr ⟨h.nd,by simp,fun a ha b hb e=>?_⟩,fun j q e=>?_⟩
 ·rw [aa6.mp hb] at e
  exact np (e ▸ ha)
 ·rw [List.getElem?_append] at e
  split at e
  ·exact h.on j q e
  ·rename_i hj
   have g:j - ps.length=0:=by
    by_cases z:j - ps.length=0
    ·exact z
    ·rw [zY (by simp;omega)] at e;cases e
   have l:j=n:=by have:=h.len;omega
   rw [g] at e
   cases e;rw [l];exact hp
theorem RowsAt.upd (h:RowsAt H ps n row) (hp:p∉ps) {o:HO}:RowsAt (upd H p o) ps n row:=by
 refine ⟨h.len,h.nd,fun j q e=>?_⟩
 have:q≠p:=fun z=>hp (by rw [<- z];exact aa0 e)
 rw [ae this];exact h.on j q e
end
variable {row:Nat->List V}
theorem lT {k:Nat} (hD:H1 D=none) (hk:k=cs.length) (hn:n<=sizeLine)
  (stop:∀ H,Same H1 H->J.stop n H) (go:∀ i H,i < n->Same H1 H->J.go i H) (yld:∀ i H x H',i < n->Same H1 H->J.yld i H x H'->x=src i/\H'=H)
  (he:∀ i H (R:V->Hp->Prop),i < n->Same H1 H->(∀ p H4,H p=none->Same H H4->H4 p=some (.lst (row i))->R (.ref p) H4)->te (cs++[some (src i)]) H R)
  (hQ:∀ ps H,Same H1 H->H D=some (.lst (ps.map V.ref))->RowsAt H ps n row->(∀ p∈ps,H1 p=none)->D∉ps->Q H):bt J (be k) bL te (cs++[none]) H1 D Q:=by
 refine ⟨fun i m ys σ H=>m=n - i/\i<=n/\Same H1 H/\(∃ ps:List Addr,ys=ps.map V.ref/\RowsAt H ps i row/\(∀ p∈ps,H1 p=none)/\D∉ps)/\H D=some (.lst ys)/\∃ o,σ=cs++[o],
  ⟨n,rfl,ab1 _,(Same.refl _).up hD,⟨[],rfl,RowsAt.none,by simp,by simp⟩,ab,none,rfl⟩,?_⟩
 rintro i m ys σ H ⟨rfl,hi,sm,⟨ps,rfl,hr,hf,g⟩,hd,o,rfl⟩;refine ⟨hd,?_⟩
 by_cases hlt:i < n
 ·refine .inr ⟨go i H hlt sm,fun x H' y=>?_⟩
  obtain ⟨rfl,rfl⟩:=yld i H x H' hlt sm y
  have e:(cs++[o]).set k (some (src i))=cs++[some (src i)]:=by
   rw [hk,aj6 _ _ (zQ _),am7];rfl
  unfold be;rw [e];unfold bL;refine iteT ?_;refine he i H' _ hlt sm fun p H4 hp s4 h4=>⟨s4 _ _ hd,?_,n - (i+1),by omega,rfl,hlt,(sm.trans s4).up hD,⟨ps++[p],by rw [ad6];rfl,?_,?_,?_⟩,ab,_,rfl⟩
  ·rw [zM,hr.len]
   omega
  ·have np:p≠D:=fun z=>by rw [z,hd] at hp;cases hp
   have h:=hr.ne hp;refine ((hr.same s4).snoc h h4).upd ?_;intro z;rcases ab5.mp z with z | z
   ·exact g z
   ·exact np (aa6.mp z).symm
  ·intro q hq
   rcases ab5.mp hq with z | z
   ·exact hf q z
   ·rw [aa6.mp z]
    exact sm.free hp
  ·intro z
   rcases ab5.mp z with z | z
   ·exact g z
   ·rw [aa6.mp z] at hd
    rw [hd] at hp;cases hp
 ·have e:i=n:=by omega
  subst e;exact .inl ⟨stop H sm,hQ ps H sm hd hr hf g⟩
theorem rM {k:Nat} (hD:H1 D=none) (hk:k=cs.length) (hn:n<=sizeLine)
  (he:∀ i H (R:V->Hp->Prop),i < n->Same H1 H->(∀ p H4,H p=none->Same H H4->H4 p=some (.lst (row i))->R (.ref p) H4)->te (cs++[some (.int (i:Nat))]) H R)
  (hQ:∀ ps H,Same H1 H->H D=some (.lst (ps.map V.ref))->RowsAt H ps n row->(∀ p∈ps,H1 p=none)->D∉ps->Q H):bt (Itr 0 n) (be k) bL te (cs++[none]) H1 D Q :=
 lT (src:=fun i=>.int (0+(i:Nat))) hD hk hn (fun H _=>zQ _) (fun i H hi _=>hi) (fun i H x H' _ _ y=>⟨y.2,y.1⟩) (fun i H R hi sm r=>by
  have e:(0:Int)+(i:Nat)=(i:Nat):=by omega
  rw [e]
  exact he i H R hi sm r) hQ
theorem rN {k:Nat} (hs:SqL K H1 a xs) (hD:H1 D=none) (hk:k=cs.length) (hn:xs.length<=sizeLine)
  (he:∀ i x H (R:V->Hp->Prop),xs[i]?=some x->Same H1 H->(∀ p H4,H p=none->Same H H4->H4 p=some (.lst (row i))->R (.ref p) H4)->te (cs++[some x]) H R)
  (hQ:∀ ps H,Same H1 H->H D=some (.lst (ps.map V.ref))->RowsAt H ps xs.length row->(∀ p∈ps,H1 p=none)->D∉ps->Q H):bt (Itl K a) (be k) bL te (cs++[none]) H1 D Q:=by
 refine lT (src:=fun i=>xs.getD i .non) hD hk hn (fun H sm=>⟨xs,sm.seq hs,zQ _⟩) (fun i H hi sm=>⟨xs,xs[i],sm.seq hs,zL hi⟩) (fun i H x H' hi sm y=>?_) (fun i H R hi sm r=>?_) hQ
 ·obtain ⟨e,y⟩:=y
  refine ⟨?_,e⟩
  have:=y xs (sm.seq hs);rw [zK,this];rfl
 ·refine he i _ H R ?_ sm r
  rw [zK,zL hi];rfl
variable {X:Cx}
theorem jz:∀ {ns:List Int}{its:List Value},IntsAre its ns->Vals (ns.map V.int) its
 | _,_,.nil=>.nil
 | _,_,.cons n t rs=>.cons ⟨t,rfl⟩ (jz rs)
section
variable {K:PySem.W.Frag}
theorem mM (hK:X.K=K):cG X (.type "list") (dR K):=by
 subst hK;exact b7
end
def Ite (K:PySem.W.Frag) (l:Addr) (xs:List V):It :=
 ⟨fun i H=>SqL K H l xs/\i < xs.length,fun i H x H'=>∃ T u,H T=none/\x=.ref T/\xs[i]?=some u/\H'=upd H T (.tup [.int (i:Nat),u]),fun i H=>SqL K H l xs/\xs.length<=i⟩
theorem tI {x1}{tp:Pos}{z it l:Addr} (zi:z≠it) (xs:List V) :
  Turn P w K (.Tuple elts x1 tp) (Ite K l xs) [z,it] z (fun i h=>(∃ old,PySem.IsEnum h z it (i:Nat) old)/\h.IsListIter it l i) where
 mem:=by simp
 obj:=fun i h st b hb=>by
  obtain ⟨⟨old,hz⟩,o1,e1,c1,d1⟩:=st;simp only [aa5,ab9,or_false] at hb;rcases hb with rfl | rfl
  ·exact ⟨_,hz,fun v q=>by have q':Data.fields _=Data.cell v:=q;cases q'⟩
  ·exact ⟨o1,e1,fun v q=>by rw [d1] at q;cases q⟩
 keep:=fun i h h' st k=>by
  obtain ⟨⟨old,hz⟩,h1⟩:=st;exact ⟨⟨old,k z (by simp) _ hz⟩,h1.at fun o e=>k it (by simp) o e⟩
 item:=by
  intro X hP hw hK hc i C s σ H E I hf st hg;subst hP hw hK;obtain ⟨⟨old,hz⟩,h1⟩:=st;obtain ⟨q1,b1⟩:=hg;obtain ⟨B,g,p1,_⟩:=I.list q1
  have hx:xs[i]?=some xs[i]:=zL b1;obtain ⟨u,hu,ru⟩:=g.get hx
  have lt:∀ {c o},s.heap.get? c=some o->c≠s.heap.objs.size:=fun e=>aa4 (zU e);refine PySem.wpAny_pyNext_enum_item hz h1 p1.isList (x:=u) (by simpa using hu) zi fun h' a1 a2 a3 a4 hk=>?_
  refine ⟨_,rfl,PySem.wpAny_letOwnedTupleGo_enum a1 fun G r sb=>?_⟩
  have D:s.heap.objs.size≠z:=(lt hz).symm
  have kk:∀ b u,b∉[z,it]->s.heap.get? b=some u->G.get? b=some u:=fun b u hb e=>by
   simp only [aa5,ab9,or_false,not_or] at hb;exact sb.extBut _ _ hb.1 (hk b u hb.1 hb.2 e)
  refine ⟨.ref s.heap.objs.size,upd H s.heap.objs.size (.tup [.int (i:Nat),xs[i]]),I.turnedUp (t':=s.toks+1) hf kk (zQ _) ⟨by show 2<=sizeLine;decide,[.int (i:Nat) s.toks,u],.cons ⟨_,rfl⟩ (.cons ru .nil),⟨_,sb.extBut _ _ D a3,rfl,_,rfl⟩⟩,rfl,
   ⟨_,_,I.hok.fresh (zQ _),rfl,hx,rfl⟩,⟨⟨_,r⟩,a2.at fun o e=>sb.extBut _ _ zi.symm e⟩,fun b hb=>?_⟩
  have:b≠s.heap.objs.size:=by
   obtain ⟨o1,e1,_⟩:=id h1;simp only [aa5,ab9,or_false] at hb;rcases hb with rfl | rfl
   ·exact lt hz
   ·exact lt e1
  rw [ae this];exact (hf b hb).1
 done:=by
  intro X hP hw hK hc i C s σ H E I hf st hg;subst hP hw hK;obtain ⟨⟨old,hz⟩,h1⟩:=st;obtain ⟨q1,J⟩:=hg;obtain ⟨B,g,p1,_⟩:=I.list q1
  have l1:=g.length;refine PySem.wpAny_pyNext_enum_end (I.ok.hd hc) hz h1 p1.isList (by rw [Array.getElem?_eq_none];simp;omega) fun h' hk=>⟨rfl,I.turnedL (t':=s.toks) hf fun b u hb e=>?_⟩
  simp only [aa5,ab9,or_false,not_or] at hb;exact hk b u hb.2 e
 self:=fun _ _ _ _ _ ⟨⟨_,hz⟩,_⟩ h=>PySem.wpAny_pyIter_enum hz h
section
variable {X:Cx}
inductive qg (K:PySem.W.Frag) (R:It->Hp->Prop) (vs:List V) (H1:Hp):Prop
 | mk:∀ l xs,vs=[.ref l]->SqL K H1 l xs->R (Ite K l xs) H1->qg K R vs H1
def zA (K:PySem.W.Frag) (ta:TA):TI:=fun σ H R=>ta σ H fun vs H1=>qg K R vs H1
theorem k8:bootBuiltins "enumerate" = some (.type "enumerate"):=by decide +kernel
theorem iW {x1}{tp:Pos}{a:Expr}{ta:TA}{p pos:Pos} (hg:Gl X "enumerate") (hm:X.mg "enumerate" = none) (ha:PA X [a] ta) (hs:starEach [a] X.env=[(false,eval a X.env)]:=by rfl) :
  PI X (.Tuple elts x1 tp) (.Call (.Name "enumerate" p) [a] [] pos) (zA X.K ta):=by
 intro g s σ H R I h;refine Call_ (cA I hg hm k8 (ag3 (thn (ha pos g s σ H _ I h) fun us s1 ⟨vs,H1,I1,r1,q1⟩=>?_) hs rfl));obtain ⟨l,xs,e,h1,q⟩:=q1;subst e;obtain ⟨u,rfl,ru⟩:=cH r1
 cases ru;obtain ⟨r,B,p1,_⟩:=I1.list h1;refine PySem.call_enumerate_list p1.isList fun h' a1 a2 a3 a4=>?_;refine PySem.wpAny_pyIter_enum a1 ?_;refine ⟨s1.heap.objs.size+1,[s1.heap.objs.size+1,s1.heap.objs.size],_,_,H1,rfl,I1.kept (t':=s1.toks) fun b o e=>a4 b o e,tI (Nat.succ_ne_self _) xs,⟨⟨_,a1⟩,a2⟩,fun b hb=>?_,q⟩
 have:s1.heap.objs.size<=b:=by
  simp only [aa5,ab9,or_false] at hb;rcases hb with rfl | rfl
  ·exact aj4 _ 1
  ·exact zQ _
 exact I1.fpOk this (I1.hok.fresh this)
end
variable {l:Addr}
theorem nK {D:Ends} (Pv:Nat->St->Hp->Prop) (h0:Pv 0 σ H) (hl:∀ i σ H,i<=xs.length->Pv i σ H->SqL K H l xs)
  (hs:∀ i u T σ H,i < xs.length->xs[i]?=some u->H T=none->Pv i σ H->g (.ref T) σ (upd H T (.tup [.int (i:Nat),u])) fun σ2 H2=>tb { D with nx:=Pv (i+1),ct:=Pv (i+1),bk:=D.nx } σ2 H2) (hd:∀ σ H,Pv xs.length σ H->D.nx σ H) :
  ∃ W:Nat->Nat->St->Hp->Prop,(∃ m,W 0 m σ H)/\∀ i m σ H,W i m σ H →
   ((Ite K l xs).stop i H/\D.nx σ H)\/((Ite K l xs).go i H/\∃ N:St->Hp->Prop,(∀ σ' H',N σ' H'->∃ m',m' < m/\W (i+1) m' σ' H')/\∀ x H',(Ite K l xs).yld i H x H'->g x σ H' fun σ2 H2=>tb { D with nx:=N,ct:=N,bk:=D.nx } σ2 H2):=by
 refine ⟨fun i m σ H=>m=xs.length - i/\i<=xs.length/\Pv i σ H,⟨xs.length,by simp,ab1 _,h0⟩,?_⟩
 rintro i m σ H ⟨rfl,hi,p⟩
 have q1:=hl i σ H hi p
 by_cases hlt:i < xs.length
 ·refine .inr ⟨⟨q1,hlt⟩,Pv (i+1),fun σ' H' p'=>⟨xs.length - (i+1),by omega,rfl,hlt,p'⟩,fun x H' y=>?_⟩
  obtain ⟨T,u,hT,rfl,hu,rfl⟩:=y;exact hs i u T σ H hlt hu hT p
 ·have e:i=xs.length:=by omega
  exact .inl ⟨⟨q1,by omega⟩,hd σ H (e ▸ p)⟩
theorem k9 {es:List Expr}{k:Nat}{t:TGs} (hK:X.K=K) (hc:X.calm=true) (h:PGs X es t) (hn:(assignEach es X.env).length=n:=by rfl) (hst:(assignEach es X.env).findIdx? (·.1)=none:=by rfl):PG X (.Tuple es k pos) (gTup K n t):=by
 subst hK;exact eA hc h hn hst
theorem lU {stt:Nat->St}{Ok:St->Prop}{σ0:St} (hD:H1 D=none) (hn:n<=sizeLine) (h0:Ok σ0) (hok:∀ i,i < n->Ok (stt i))
  (stop:∀ H,Same H1 H->J.stop n H) (go:∀ i H,i < n->Same H1 H->J.go i H)
  (tg:∀ i σ H x H' (R:St->Hp->Prop),i < n->Same H1 H->Ok σ->J.yld i H x H'->(∀ H'',Same H H''->R (stt i) H'')->g x σ H' R)
  (he:∀ i H (R:V->Hp->Prop),i < n->Same H1 H->(∀ H4,Same H H4->R (f i) H4)->te (stt i) H R)
  (hQ:∀ H,Same H1 H->H D=some (.lst ((List.range n).map f))->Q H):bt J g bL te σ0 H1 D Q:=by
 refine ⟨fun i m ys σ H=>m=n - i/\i<=n/\Same H1 H/\ys=(List.range i).map f/\H D=some (.lst ys)/\Ok σ,⟨n,rfl,ab1 _,(Same.refl _).up hD,rfl,ab,h0⟩,?_⟩;rintro i m ys σ H ⟨rfl,hi,sm,rfl,hd,ho⟩;refine ⟨hd,?_⟩
 by_cases hlt:i < n
 ·refine .inr ⟨go i H hlt sm,fun x H' y=>?_⟩
  refine tg i σ H x H' _ hlt sm ho y fun H'' s2=>?_;unfold bL;refine iteT ?_;refine he i H'' _ hlt (sm.trans s2) fun H4 s4=>⟨(s2.trans s4) _ _ hd,?_,n - (i+1),by omega,rfl,hlt,(sm.trans (s2.trans s4)).up hD,?_,ab,hok i hlt⟩
  ·rw [zM,zS]
   omega
  ·rw [af9,ad6]
   rfl
 ·have e:i=n:=by omega
  subst e;exact .inl ⟨stop H sm,hQ H sm hd⟩
theorem rO {stt:Nat->St}{Ok:St->Prop}{σ0:St} (hD:H1 D=none) (hn:n<=sizeLine) (h0:Ok σ0) (hok:∀ i,i < n->Ok (stt i))
  (stop:∀ H,Same H1 H->J.stop n H) (go:∀ i H,i < n->Same H1 H->J.go i H)
  (tg:∀ i σ H x H' (R:St->Hp->Prop),i < n->Same H1 H->Ok σ->J.yld i H x H'->(∀ H'',Same H H''->R (stt i) H'')->g x σ H' R)
  (he:∀ i H (R:V->Hp->Prop),i < n->Same H1 H->(∀ p H4,H p=none->Same H H4->H4 p=some (.lst (row i))->R (.ref p) H4)->te (stt i) H R)
  (hQ:∀ ps H,Same H1 H->H D=some (.lst (ps.map V.ref))->RowsAt H ps n row->(∀ p∈ps,H1 p=none)->D∉ps->Q H):bt J g bL te σ0 H1 D Q:=by
 refine ⟨fun i m ys σ H=>m=n - i/\i<=n/\Same H1 H/\(∃ ps:List Addr,ys=ps.map V.ref/\RowsAt H ps i row/\(∀ p∈ps,H1 p=none)/\D∉ps)/\H D=some (.lst ys)/\Ok σ,
  ⟨n,rfl,ab1 _,(Same.refl _).up hD,⟨[],rfl,RowsAt.none,by simp,by simp⟩,ab,h0⟩,?_⟩
 rintro i m ys σ H ⟨rfl,hi,sm,⟨ps,rfl,hr,hf,h⟩,hd,ho⟩;refine ⟨hd,?_⟩
 by_cases hlt:i < n
 ·refine .inr ⟨go i H hlt sm,fun x H' y=>?_⟩
  refine tg i σ H x H' _ hlt sm ho y fun H'' s2=>?_;unfold bL;refine iteT ?_;refine he i H'' _ hlt (sm.trans s2) fun p H4 hp s4 h4=>⟨(s2.trans s4) _ _ hd,?_,n - (i+1),by omega,rfl,hlt,(sm.trans (s2.trans s4)).up hD,⟨ps++[p],by rw [ad6];rfl,?_,?_,?_⟩,ab,hok i hlt⟩
  ·rw [zM,hr.len]
   omega
  ·have np:p≠D:=fun z=>by rw [z,s2 _ _ hd] at hp;cases hp
   have l:=(hr.same s2).ne hp;refine ((hr.same (s2.trans s4)).snoc l h4).upd ?_;intro z;rcases ab5.mp z with z | z
   ·exact h z
   ·exact np (aa6.mp z).symm
  ·intro q hq
   rcases ab5.mp hq with z | z
   ·exact hf q z
   ·rw [aa6.mp z]
    exact (sm.trans s2).free hp
  ·intro z
   rcases ab5.mp z with z | z
   ·exact h z
   ·rw [aa6.mp z] at hd
    rw [s2 _ _ hd] at hp;cases hp
 ·have e:i=n:=by omega
  subst e;exact .inl ⟨stop H sm,hQ ps H sm hd hr hf h⟩
theorem la {k:Nat} (hk:k=cs.length) {T:Addr}{u v:V}{o1 o2:Option V}{H:Hp}{R:St->Hp->Prop} (hT:H T=none) (q:∀ H'',Same H H''->R (cs++[some u,some v]) H'') :
  gTup K 2 (d7 (be k) (d7 (be (k+1)) gNil)) (.ref T) (cs++[o1,o2]) (upd H T (.tup [u,v])) R:=by
 refine ⟨T,_,rfl,SqT.of ab,rfl,_,_,rfl,_,_,rfl,rfl,?_⟩
 have e:((cs++[o1,o2]).set k (some u)).set (k+1) (some v)=cs++[some u,some v]:=by
  subst hk
  have e1:(List.length cs).succ - List.length cs=1:=by omega
  rw [aj6 _ _ (zQ _),aj6 _ _ (am5 _),am7,e1];rfl
 rw [e];exact q _ fun b o e=>by rw [ae (am e hT)];exact e
theorem tJ {k:Nat} (h1:SqL K H1 l1 xs) (h2:SqL K H1 l2 ys) (hl:xs.length=ys.length) (hD:H1 D=none) (hk:k=cs.length) (hn:xs.length<=sizeLine)
  (he:∀ i u v H (R:V->Hp->Prop),xs[i]?=some u->ys[i]?=some v->Same H1 H->(∀ H4,Same H H4->R (f i) H4)->te (cs++[some u,some v]) H R)
  (hQ:∀ H,Same H1 H->H D=some (.lst ((List.range xs.length).map f))->Q H):bt (Itz K l1 l2 xs ys) (gTup K 2 (d7 (be k) (d7 (be (k+1)) gNil))) bL te (cs++[none,none]) H1 D Q:=by
 refine lU (n:=xs.length) (stt:=fun i=>cs++[xs[i]?,ys[i]?]) (Ok:=fun σ=>∃ o1 o2,σ=cs++[o1,o2]) hD hn ⟨none,none,rfl⟩ (fun i _=>⟨_,_,rfl⟩) (fun H sm=>⟨sm.seq h1,sm.seq h2,.inl (zQ _)⟩) (fun i H hi sm=>⟨sm.seq h1,sm.seq h2,hi,by omega⟩) (fun i σ H x H' R hi sm ho y q=>?_) (fun i H R hi sm r=>?_) hQ
 ·obtain ⟨o1,o2,rfl⟩:=ho
  obtain ⟨T,u,v,hT,rfl,hu,hv,rfl⟩:=y;exact la hk hT fun g s=>by rw [<- hu,← hv];exact q g s
 ·rw [zL hi,zL (by omega)]
  exact he i _ _ H R (zL hi) (zL (by omega)) sm r
theorem rP {k:Nat} (h1:SqL K H1 l xs) (hD:H1 D=none) (hk:k=cs.length) (hn:xs.length<=sizeLine)
  (he:∀ i u H (R:V->Hp->Prop),xs[i]?=some u->Same H1 H->(∀ p H4,H p=none->Same H H4->H4 p=some (.lst (row i))->R (.ref p) H4)->te (cs++[some (.int (i:Nat)),some u]) H R)
  (hQ:∀ ps H,Same H1 H->H D=some (.lst (ps.map V.ref))->RowsAt H ps xs.length row->(∀ p∈ps,H1 p=none)->D∉ps->Q H):bt (Ite K l xs) (gTup K 2 (d7 (be k) (d7 (be (k+1)) gNil))) bL te (cs++[none,none]) H1 D Q:=by
 refine rO (n:=xs.length) (stt:=fun i=>cs++[some (.int (i:Nat)),xs[i]?]) (Ok:=fun σ=>∃ o1 o2,σ=cs++[o1,o2]) hD hn ⟨none,none,rfl⟩ (fun i _=>⟨_,_,rfl⟩) (fun H sm=>⟨sm.seq h1,zQ _⟩) (fun i H hi sm=>⟨sm.seq h1,hi⟩) (fun i σ H x H' R hi sm ho y q=>?_) (fun i H R hi sm r=>?_) hQ
 ·obtain ⟨o1,o2,rfl⟩:=ho
  obtain ⟨T,u,hT,rfl,hu,rfl⟩:=y;exact la hk hT fun g s=>by rw [<- hu];exact q g s
 ·rw [zL hi]
  exact he i _ H R (zL hi) sm r
theorem vq {D:Ends} (Pv:Nat->St->Hp->Prop) (h0:Pv 0 σ H) (hl:∀ i σ H,i<=xs.length->Pv i σ H->SqL K H l1 xs/\SqL K H l2 ys) (he:xs.length<=ys.length)
  (hs:∀ i u v T σ H,i < xs.length->xs[i]?=some u->ys[i]?=some v->H T=none->Pv i σ H->g (.ref T) σ (upd H T (.tup [u,v])) fun σ2 H2=>tb { D with nx:=Pv (i+1),ct:=Pv (i+1),bk:=D.nx } σ2 H2) (hd:∀ σ H,Pv xs.length σ H->D.nx σ H) :
  ∃ W:Nat->Nat->St->Hp->Prop,(∃ m,W 0 m σ H)/\∀ i m σ H,W i m σ H →
   ((Itz K l1 l2 xs ys).stop i H/\D.nx σ H)\/((Itz K l1 l2 xs ys).go i H/\∃ N:St->Hp->Prop,(∀ σ' H',N σ' H'->∃ m',m' < m/\W (i+1) m' σ' H')/\∀ x H',(Itz K l1 l2 xs ys).yld i H x H'->g x σ H' fun σ2 H2=>tb { D with nx:=N,ct:=N,bk:=D.nx } σ2 H2):=by
 refine ⟨fun i m σ H=>m=xs.length - i/\i<=xs.length/\Pv i σ H,⟨xs.length,by simp,ab1 _,h0⟩,?_⟩
 rintro i m σ H ⟨rfl,hi,p⟩;obtain ⟨q1,q2⟩:=hl i σ H hi p
 by_cases hlt:i < xs.length
 ·refine .inr ⟨⟨q1,q2,hlt,by omega⟩,Pv (i+1),fun σ' H' p'=>⟨xs.length - (i+1),by omega,rfl,hlt,p'⟩,fun x H' y=>?_⟩
  obtain ⟨T,u,v,hT,rfl,hu,hv,rfl⟩:=y;exact hs i u v T σ H hlt hu hv hT p
 ·have e:i=xs.length:=by omega
  exact .inl ⟨⟨q1,q2,.inl (by omega)⟩,hd σ H (e ▸ p)⟩
section
variable {X:Cx}{pos:Pos}
end
section
variable {X:Cx}{e:Expr}{es:List Expr}{n:Nat}{te:TE}{t:TJ}{pos:Pos}
end
theorem lV {α:Type} (f:α->Bool) (d:α):∀ (l:List α),(List.range l.length).any (fun i=>f (l.getD i d))=l.any f:=fun l=>by
 rw [al2,ak7,ak7]
 constructor
 ·rintro ⟨i,hi,e⟩
  have hi:=aa1.mp hi;rw [zK,zL hi] at e;exact ⟨_,ae1 hi,e⟩
 ·rintro ⟨x,hx,e⟩
  obtain ⟨i,hi,rfl⟩:=List.getElem_of_mem hx;refine ⟨i,aa1.mpr hi,?_⟩;rw [zK,zL hi];exact e
theorem tK {α:Type} (f:α->Bool) (d:α):∀ (l:List α),(List.range l.length).all (fun i=>f (l.getD i d))=l.all f:=fun l=>by
 rw [al2,ab4,ab4]
 constructor
 ·intro h x hx
  obtain ⟨i,hi,rfl⟩:=List.getElem_of_mem hx
  have:=h i (aa1.mpr hi);rw [zK,zL hi] at this;exact this
 ·intro h i hi
  have hi:=aa1.mp hi;rw [zK,zL hi];exact h _ (ae1 hi)
section
variable {X:Cx}
theorem nM {ns:List Int} (rv:Vals (ns.map V.int) its) {i:Nat}{v:Value} (h:its.toArray[i]?=some v):∃ t,v=Value.int (ns.getD i 0) t:=by
 have h':its[i]?=some v:=by simpa using h
 have hi:i < ns.length:=by
  have:=rv.length;rw [zM] at this;rw [this];exact (zV.mp h').1
 obtain ⟨u,hu,ru⟩:=rv.get (i:=i) (x:=V.int ns[i]) (by rw [zO,zL hi];rfl)
 rw [h'] at hu
 cases hu;obtain ⟨t,rfl⟩:=ru;exact ⟨t,by rw [zK,zL hi];rfl⟩
theorem qh {bs:List Bool} (rv:Vals (bs.map V.bl) its) {i:Nat}{v:Value} (h:its.toArray[i]?=some v):v=Value.bool (bs.getD i false):=by
 have h':its[i]?=some v:=by simpa using h
 have hi:i < bs.length:=by
  have:=rv.length;rw [zM] at this;rw [this];exact (zV.mp h').1
 obtain ⟨u,hu,ru⟩:=rv.get (i:=i) (x:=V.bl bs[i]) (by rw [zO,zL hi];rfl)
 rw [h'] at hu
 cases hu;rw [zK,zL hi];exact ru
inductive jf (K:PySem.W.Frag) (xs:List V) (H:Hp) (Q:VK):Prop
 | mk:∀ (p:Addr) (ns:List Int),xs=[.ref p]->SqL K H p (ns.map V.int)->(Q (.bl (ns.any fun i=>i != 0)) H)->jf K xs H Q
theorem lW (hc:X.calm=true):cG X (.builtin "any") (jf X.K):=by
 intro B s σ H xs us Q I r h;obtain ⟨p,ns,rfl,hq,q⟩:=h;obtain ⟨u,rfl,rx⟩:=cH r
 cases rx;obtain ⟨g,rv,⟨o,nn,e1,e2,e3,e4⟩,hz⟩:=I.list hq
 have l:p≠s.heap.objs.size:=aa4 (zU e1);refine call_any_walk (aj9 ⟨o,e1,e2,nn,e4⟩ ?_);refine ⟨_,_,_,_,_,_,fun i=>ns.getD i 0 != 0,rfl,Walks.list (A:=X.A.in1) (show X.A.in1.handled=none from I.ok.hd hc) s.heap.objs.size p l g.toArray,⟨⟨_,aa8 _ rfl,rfl,rfl⟩,⟨o,zP _ e1,e2,nn,e4⟩⟩,fun i v s' Q' E' hv q'=>?_,fun h' tk kp=>?_⟩
 ·obtain ⟨t,rfl⟩:=nM rv hv
  exact P.truthy_int q'
 ·have hl:g.toArray.size=ns.length:=by
   have:=rv.length;rw [zM] at this
   simp [this]
  rw [hl,lV (fun i:Int=>i != 0) 0 ns];exact ⟨.bl _,H,I.kept (t':=tk) fun b o e=>kp b o (fun z=>by rw [aa6.mp z] at e;exact absurd (zU e) (ad4 _)) (zP _ e),rfl,q⟩
inductive jg (K:PySem.W.Frag) (xs:List V) (H:Hp) (Q:VK):Prop
 | mk:∀ (p:Addr) (bs:List Bool),xs=[.ref p]->SqL K H p (bs.map V.bl)->(Q (.bl (bs.all fun b=>b)) H)->jg K xs H Q
theorem tL (hc:X.calm=true):cG X (.builtin "all") (jg X.K):=by
 intro B s σ H xs us Q I r h;obtain ⟨p,bs,rfl,hq,q⟩:=h;obtain ⟨u,rfl,rx⟩:=cH r
 cases rx;obtain ⟨g,rv,⟨o,nn,e1,e2,e3,e4⟩,hz⟩:=I.list hq
 have l:p≠s.heap.objs.size:=aa4 (zU e1);refine call_all_walk (aj9 ⟨o,e1,e2,nn,e4⟩ ?_);refine ⟨_,_,_,_,_,_,fun i=>bs.getD i false,rfl,Walks.list (A:=X.A.in1) (show X.A.in1.handled=none from I.ok.hd hc) s.heap.objs.size p l g.toArray,⟨⟨_,aa8 _ rfl,rfl,rfl⟩,⟨o,zP _ e1,e2,nn,e4⟩⟩,fun i v s' Q' E' hv q'=>?_,fun h' tk kp=>?_⟩
 ·rw [qh rv hv]
  exact ah2 q'
 ·have hl:g.toArray.size=bs.length:=by
   have:=rv.length;rw [zM] at this
   simp [this]
  rw [hl,tK (fun b:Bool=>b) false bs];exact ⟨.bl _,H,I.kept (t':=tk) fun b o e=>kp b o (fun z=>by rw [aa6.mp z] at e;exact absurd (zU e) (ad4 _)) (zP _ e),rfl,q⟩
end
theorem bV {k:Nat} (hs:SqL K H1 a xs) (hD:H1 D=none) (hk:k=cs.length) (hn:xs.length<=sizeLine)
  (he:∀ i x H (R:V->Hp->Prop),xs[i]?=some x->Same H1 H->(∀ H4,Same H H4->R (f i) H4)->te (cs++[some x]) H R)
  (hQ:∀ H,Same H1 H->H D=some (.lst ((List.range xs.length).map f))->Q H):bt (Itl K a) (be k) bL te (cs++[none]) H1 D Q:=by
 refine iw (src:=fun i=>xs.getD i .non) (f:=f) (n:=xs.length) hD hk hn (fun H sm=>⟨xs,sm.seq hs,zQ _⟩) (fun i H hi sm=>⟨xs,xs[i],sm.seq hs,zL hi⟩) (fun i H x H' hi sm y=>?_) (fun i H R hi sm r=>?_) hQ
 ·obtain ⟨e,y⟩:=y
  refine ⟨?_,e⟩
  have:=y xs (sm.seq hs);rw [zK,this];rfl
 ·refine he i _ H R ?_ sm r
  rw [zK,zL hi];rfl
theorem ga {k:Nat}{b:Nat->Bool}{tt:TT} (hD:H1 D=none) (hk:k=cs.length) (hn:n<=sizeLine)
  (stop:∀ H,Same H1 H->J.stop n H) (go:∀ i H,i < n->Same H1 H->J.go i H) (yld:∀ i H x H',i < n->Same H1 H->J.yld i H x H'->x=src i/\H'=H)
  (ht:∀ i H (R:Bool->Hp->Prop),i < n->Same H1 H->(∀ H4,Same H H4->R (b i) H4)->tt (cs++[some (src i)]) H R)
  (he:∀ i H (R:V->Hp->Prop),i < n->b i=true->Same H1 H->(∀ H4,Same H H4->R (f i) H4)->te (cs++[some (src i)]) H R)
  (hQ:∀ H,Same H1 H->H D=some (.lst (((List.range n).filter b).map f))->Q H):bt J (be k) tt te (cs++[none]) H1 D Q:=by
 refine ⟨fun i m ys σ H=>m=n - i/\i<=n/\Same H1 H/\ys=((List.range i).filter b).map f/\H D=some (.lst ys)/\∃ o,σ=cs++[o],⟨n,rfl,ab1 _,(Same.refl _).up hD,rfl,ab,none,rfl⟩,?_⟩;rintro i m ys σ H ⟨rfl,hi,sm,rfl,hd,o,rfl⟩;refine ⟨hd,?_⟩
 by_cases hlt:i < n
 ·refine .inr ⟨go i H hlt sm,fun x H' y=>?_⟩
  obtain ⟨rfl,rfl⟩:=yld i H x H' hlt sm y
  have e:(cs++[o]).set k (some (src i))=cs++[some (src i)]:=by
   rw [hk,aj6 _ _ (zQ _),am7];rfl
  unfold be;rw [e];refine ht i H' _ hlt sm fun H4 s4=>?_
  have er:(List.range (i+1)).filter b=(List.range i).filter b++(if b i=true then [i] else []):=by
   rw [af9,aj5]
   congr 1
   by_cases z:b i=true
   ·rw [if_pos z,ak4 z,aj0]
   ·rw [if_neg z,ak5 z,aj0]
  by_cases z:b i=true
  ·rw [if_pos z]
   refine he i H4 _ hlt z (sm.trans s4) fun H5 s5=>⟨s5 _ _ (s4 _ _ hd),?_,n - (i+1),by omega,rfl,hlt,((sm.trans s4).trans s5).up hD,?_,ab,_,rfl⟩
   ·rw [zM]
    have:=ac0 b (List.range i);rw [zS] at this;omega
   ·rw [er,if_pos z,ad6]
    rfl
  ·rw [if_neg z]
   refine ⟨n - (i+1),by omega,rfl,hlt,sm.trans s4,?_,s4 _ _ hd,_,rfl⟩
   rw [er,if_neg z,ai8]
 ·have e:i=n:=by omega
  subst e;exact .inl ⟨stop H sm,hQ H sm hd⟩
theorem di {b:Nat->Bool}{k:Nat}{tt:TT} (hD:H1 D=none) (hk:k=cs.length) (hn:n<=sizeLine)
  (ht:∀ i H (R:Bool->Hp->Prop),i < n->Same H1 H->(∀ H4,Same H H4->R (b i) H4)->tt (cs++[some (.int (i:Nat))]) H R)
  (he:∀ i H (R:V->Hp->Prop),i < n->b i=true->Same H1 H->(∀ H4,Same H H4->R (f i) H4)->te (cs++[some (.int (i:Nat))]) H R)
  (hQ:∀ H,Same H1 H->H D=some (.lst (((List.range n).filter b).map f))->Q H):bt (Itr 0 n) (be k) tt te (cs++[none]) H1 D Q :=
 ga (src:=fun i=>.int (0+(i:Nat))) hD hk hn (fun H _=>zQ _) (fun i H hi _=>hi) (fun i H x H' _ _ y=>⟨y.2,y.1⟩) (fun i H R hi sm r=>by
  have e:(0:Int)+(i:Nat)=(i:Nat):=by omega
  rw [e];exact ht i H R hi sm r) (fun i H R hi hb sm r=>by
  have e:(0:Int)+(i:Nat)=(i:Nat):=by omega
  rw [e]
  exact he i H R hi hb sm r) hQ
variable {X:Cx}
def mW:Value->V
 | .bool b=>.bl b
 | .int i _=>.int i
 | .str x _=>.str x
 | .bytes b _=>.byt b
 | .float b _=>.flt b
 | .ref a=>.ref a
 | .type n=>.ty n
 | _=>.non
theorem nN {z:V}{u:Value} (h:RelV z u):mW u=z:=by
 cases z with
 | non=>cases h;rfl
 | bl b=>cases h;rfl
 | int i=>obtain ⟨t,rfl⟩:=h;rfl
 | str i=>obtain ⟨t,rfl⟩:=h;rfl
 | byt i=>obtain ⟨t,rfl⟩:=h;rfl
 | flt i=>obtain ⟨t,rfl⟩:=h;rfl
 | ref a=>cases h;rfl
 | ty n=>cases h;rfl
theorem pB {f:V->Bool} (r:Vals xs its):its.countP (fun u=>f (mW u))=xs.countP f:=by
 induction r with
 | nil=>rfl
 | cons h _ ih=>rw [List.countP_cons,List.countP_cons,ih,nN h]
theorem vt (r:Vals xs its):∀ u∈its,∃ z∈xs,RelV z u:=by
 induction r with
 | nil=>intro u h;cases h
 | cons h _ ih =>
  intro u hu;rcases aa5.mp hu with e | e
  ·subst e
   exact ⟨_,ac9,h⟩
  ·obtain ⟨z,hz,rz⟩:=ih u e
   exact ⟨z,ac3 _ hz,rz⟩
inductive tM (x:V) (vs:List V) (H:Hp) (Q:VK):Prop
 | mk:∀ (l:Addr) (xs:List V) (y:V),x=.ref l->vs=[y]->H l=some (.lst xs)->cY y=true->((∀ z∈xs,cY z=true))->(Q (.int ((xs.countP fun z=>eqV z y:Nat):Int)) H)->tM x vs H Q
theorem vv:MtM X "list.count" tM:=by
 intro C s σ H x vs v us Q I rx rv h;obtain ⟨l,xs,y,rfl,rfl,hH,hy,hx,q⟩:=h
 cases rx;obtain ⟨u,rfl,ru⟩:=rv.one;obtain ⟨z,g,n,r,hl,e⟩:=I.lstM hH;refine call_meets F.slot_list_count ⟨_,e,rfl⟩ F.entry_list_count (F.args_list_count_2 _ _) (SeqAt.list_countAt l g.toArray n none #[] u (fun v=>eqV (mW v) y)) ⟨e,?_,?_⟩
 ·intro v hv
  have B:v∈g:=by simpa using hv
  obtain ⟨z,hz,rz⟩:=vt r v B
  have eb:=nN rz
  show SeqAt.EqAt _ _ v u (eqV (mW v) y)
  rw [eb];exact br rz ru (hx z hz) hy
 ·refine ⟨.int ((xs.countP fun z=>eqV z y:Nat):Int),H,I.tok _,⟨s.toks,?_⟩,q⟩
  rw [<- pB r]
def SameBut (D:Addr) (H H':Hp):Prop:=∀ y o,y≠D->H y=some o->H' y=some o
theorem rQ {k:Nat} (h1:SqL K H1 l xs) (hD:H1 D=none) (hk:k=cs.length) (hn:xs.length<=sizeLine)
  (he:∀ i u H (R:V->Hp->Prop),xs[i]?=some u->Same H1 H->(∀ H4,Same H H4->R (f i) H4)->te (cs++[some (.int (i:Nat)),some u]) H R)
  (hQ:∀ H,Same H1 H->H D=some (.lst ((List.range xs.length).map f))->Q H):bt (Ite K l xs) (gTup K 2 (d7 (be k) (d7 (be (k+1)) gNil))) bL te (cs++[none,none]) H1 D Q:=by
 refine lU (n:=xs.length) (stt:=fun i=>cs++[some (.int (i:Nat)),xs[i]?]) (Ok:=fun σ=>∃ o1 o2,σ=cs++[o1,o2]) hD hn ⟨none,none,rfl⟩ (fun i _=>⟨_,_,rfl⟩) (fun H sm=>⟨sm.seq h1,zQ _⟩) (fun i H hi sm=>⟨sm.seq h1,hi⟩) (fun i σ H x H' R hi sm ho y q=>?_) (fun i H R hi sm r=>?_) hQ
 ·obtain ⟨o1,o2,rfl⟩:=ho
  obtain ⟨T,u,hT,rfl,hu,rfl⟩:=y;exact la hk hT fun g s=>by rw [<- hu];exact q g s
 ·rw [zL hi]
  exact he i _ H R (zL hi) sm r
variable {X:Cx}
end L2
namespace GF
end GF
namespace L2
open PySem PySem.Spec PyProof.Rows
theorem kr {M:Model}{A:Around}{E:Value->Shared->Prop}:∀ (names:List (Str × NameKind)) (acc:List (Str × Addr)) (s:Shared) (Q:List (Str × Addr)->Shared->Prop),names.filter (fun p=>p.2 == NameKind.cell)=[]->Q acc s →
  wpAny M A (forIn names acc (fun x r=>match x with
    | (name,kind)=>if (kind == NameKind.cell)=true then do
      let c ← alloc { cls:=.type "cell",data:=.cell none }
      pure (ForInStep.yield ((name,c) :: r))
     else pure (ForInStep.yield r)):Sem (List (Str × Addr))) Q E s
 | [],acc,s,Q,_,h=>ab2 h
 | (n,k) :: r,acc,s,Q,hf,h=>by
  rw [List.forIn_cons]
  have hb:(k == NameKind.cell)=false:=by
   cases q:(k == NameKind.cell) with
   | false=>rfl
   | true=>rw [List.filter_cons,if_pos q] at hf;cases hf
  rw [List.filter_cons,if_neg (by rw [hb];exact aa3)] at hf
  refine zT ?_
  show wpAny M A (if (k == NameKind.cell)=true then _ else _) _ E s
  rw [if_neg (by rw [hb];exact aa3)]
  exact ab2 (kr r acc s Q hf h)
theorem lX {M:Model}{A:Around}{E:Value->Shared->Prop}{y:Str}:∀ (names:List (Str × NameKind)) (acc:List (Str × Addr)) (s:Shared) (Q:List (Str × Addr)->Shared->Prop),names.filter (fun p=>p.2 == NameKind.cell)=[(y,NameKind.cell)] →
  Q ((y,s.heap.objs.size) :: acc) { s with heap:=s.heap.push { cls:=.type "cell",data:=.cell none } } →
  wpAny M A (forIn names acc (fun x r=>match x with
    | (name,kind)=>if (kind == NameKind.cell)=true then do
      let c ← alloc { cls:=.type "cell",data:=.cell none }
      pure (ForInStep.yield ((name,c) :: r))
     else pure (ForInStep.yield r)):Sem (List (Str × Addr))) Q E s
 | [],acc,s,Q,hf,h=>by cases hf
 | (n,k) :: r,acc,s,Q,hf,h=>by
  rw [List.forIn_cons];refine zT ?_
  show wpAny M A (if (k == NameKind.cell)=true then _ else _) _ E s
  cases hb:(k == NameKind.cell) with
  | false =>
   rw [List.filter_cons,if_neg (by rw [hb];exact aa3)] at hf
   rw [if_neg aa3];exact ab2 (lX r acc s Q hf h)
  | true =>
   rw [List.filter_cons,if_pos hb] at hf;obtain ⟨e1,e2⟩:=List.cons.inj hf
   cases e1;rw [if_pos rfl];exact zT (wpAny_alloc (ab2 (kr r _ _ Q e2 h)))
variable {s:Shared}{scope:Scope}
theorem rR {M:Model}{A:Around}{E:Value->Shared->Prop}{globals:Addr}{closure:List (Str × Addr)}{qual:Str}{func:Option Addr}{code:Value}{around:Option Env}{builtins:Addr}{Q:Env->Shared->Prop}{y:Str}
  (hc:scope.names.filter (fun p=>p.2 == NameKind.cell)=[(y,NameKind.cell)])
  (h:∀ h':Heap,h'.Ns s.heap.objs.size (fun _=>none)->(∀ b u,s.heap.get? b=some u->h'.get? b=some u)->h'.IsCell (s.heap.objs.size+1) none →
   Q (newEnv scope s.heap.objs.size globals ((y,s.heap.objs.size+1) :: closure) qual func code around builtins) { s with heap:=h' }) :
  wpAny M A (newFunctionEnv scope globals closure [] qual func code around builtins) Q E s:=by
 unfold newFunctionEnv;refine zT (wpAny_alloc (zT (lX _ _ _ _ hc ?_)))
 have hs:(s.heap.push { cls:=.type (if around.isSome=true then "dict" else "frame"),data:=.dict #[] }).objs.size=s.heap.objs.size+1:=by simp [Heap.push]
 have:=h ((s.heap.push { cls:=.type (if around.isSome=true then "dict" else "frame"),data:=.dict #[] }).push { cls:=.type "cell",data:=.cell none }) ?_ ?_ ?_
 ·rw [<- hs] at this
  exact zT (ab2 (ab2 this))
 ·exact (Heap.Ns.new _ _).push _
 ·exact fun b u e=>zP _ (zP _ e)
 ·rw [<- hs]
  exact ⟨_,aa8 _ rfl,rfl⟩
def qi (N:List Str) (osc sc:Scope) (cap:List Nat) (y:Str):Bool :=
 (sc.kind == .function) && (sc.names.filter (fun p=>p.2 == NameKind.cell) == [(y,NameKind.cell)]) && (sc.names.lookup y == some .cell) && sc.names.all (fun y=>((y.2 != .local) || (sc.names.lookup y.1 == some .local)) && ((y.2 != .free) || ((sc.names.lookup y.1 == some .free) && ((osc.names.lookup y.1 == some .cell) || (osc.names.lookup y.1 == some .free))))) &&
  cap.all (fun i=>match N[i]? with | some x=>sc.names.lookup x == some .free | none=>false)
structure CompOkC (N:List Str) (osc sc:Scope) (cap:List Nat) (y:Str):Prop where
 kind:sc.kind=.function
 one:sc.names.filter (fun p=>p.2 == NameKind.cell)=[(y,NameKind.cell)]
 mine:sc.names.lookup y=some .cell
 locs:∀ y∈sc.names,y.2=.local->sc.names.lookup y.1=some .local
 free1:∀ y∈sc.names,y.2=.free->sc.names.lookup y.1=some .free
 frees:∀ y∈sc.names,y.2=.free->osc.names.lookup y.1=some .cell\/osc.names.lookup y.1=some .free
 capf:∀ i∈cap,∃ x,N[i]?=some x/\sc.names.lookup x=some .free
theorem CompOkC.of {N:List Str}{osc sc:Scope}{cap:List Nat}{y:Str} (h:qi N osc sc cap y=true):CompOkC N osc sc cap y:=by
 unfold qi at h;simp only [ac8] at h;obtain ⟨⟨⟨⟨h1,h2⟩,h3⟩,h4⟩,h5⟩:=h
 have all:=ab4.mp h4;refine ⟨eq_of_beq h1,eq_of_beq h2,eq_of_beq h3,fun y hy e=>?_,fun y hy e=>?_,fun y hy e=>?_,fun i hi=>?_⟩
 ·have q:=all y hy
  simp only [ac8,ai9] at q;rcases q.1 with z | z
  ·rw [e] at z;exact absurd z (by decide)
  ·exact eq_of_beq z
 ·have q:=all y hy
  simp only [ac8,ai9] at q;rcases q.2 with z | z
  ·rw [e] at z;exact absurd z (by decide)
  ·exact eq_of_beq z.1
 ·have q:=all y hy
  simp only [ac8,ai9] at q;rcases q.2 with z | z
  ·rw [e] at z;exact absurd z (by decide)
  ·exact z.2.imp eq_of_beq eq_of_beq
 ·have q:=ab4.mp h5 i hi
  cases e:N[i]? with
  | none=>rw [e] at q;cases q
  | some x=>rw [e] at q;exact ⟨x,rfl,eq_of_beq q⟩
def dw (X:Cx) (sc:Scope) (cl:List (Str × Addr)) (C:Addr) (cap:List Nat) (y:Str) (s₀:Shared) (H₀:Hp) (ex:List Addr):Cx :=
 { X with N:=ee X.N cap [y],s₀:=s₀,H₀:=H₀,env:=compEnvC sc ((y,C+1) :: cl) C X.env,outer:=X.stack,stack:=X.stack,ex:=ex,fn:=fun x=>x == y,pn:=[],xe:=fun _ _=>False }
variable {x:Str}{C c:Addr}{h':Heap}
section
variable {X:Cx}{pins:List (Addr × Obj)}{σ:St}{H:Hp}{s:Shared}{sc:Scope}{cl:List (Str × Addr)}{cap:List Nat}{y:Str}
theorem mN (S:CompOkC X.N X.env.scope sc cap y) {x:Str}{C:Addr} (h:(compEnvC sc cl C X.env).kindOf x=some .cell\/(compEnvC sc cl C X.env).kindOf x=some .free):x=y\/(x,NameKind.free)∈sc.names:=by
 have e:(compEnvC sc cl C X.env).kindOf x=(sc.names.lookup x).map fun k=>if (k == NameKind.free && X.env.scope.kind == .function && X.env.kindOf x == some .cell)=true then NameKind.cell else k:=b8 sc.names x
 rw [e] at h
 cases q:sc.names.lookup x with
 | none=>rw [q] at h;rcases h with z | z <;> cases z
 | some k =>
  have hm:=ae0 q
  by_cases hk:k=.free
  ·rw [hk] at hm
   exact .inr hm
  ·rw [q] at h
   simp only [ae3,ak0] at h
   have g:(k == NameKind.free)=false:=by simpa using hk
   rw [g] at h;simp only [Bool.false_and,ak9,if_false] at h;rcases h with z | z
   ·have:(x,NameKind.cell)∈sc.names.filter (fun p=>p.2 == NameKind.cell):=aa7.mpr ⟨by rw [z] at hm;exact hm,rfl⟩
    rw [S.one] at this
    simp at this
    exact .inl this
   ·exact absurd z hk
theorem rS (h:sc.names.lookup x=some .free):(compEnvC sc cl C X.env).kindOf x=some .cell\/(compEnvC sc cl C X.env).kindOf x=some .free:=by
 have e:(compEnvC sc cl C X.env).kindOf x=(sc.names.lookup x).map fun k=>if (k == NameKind.free && X.env.scope.kind == .function && X.env.kindOf x == some .cell)=true then NameKind.cell else k:=b8 sc.names x
 rw [e,h];simp only [ae3,ak0]
 split
 ·exact .inl rfl
 ·exact .inr rfl
theorem ci {n:Str} (h:((y,C) :: cl).lookup n=some c):(n=y/\c=C)\/cl.lookup n=some c:=by
 rw [ac1] at h
 cases q:(n == y) with
 | true =>
  rw [q] at h
  cases h;exact .inl ⟨eq_of_beq q,rfl⟩
 | false =>
  rw [q] at h;exact .inr h
theorem kt {n:Str} (h:n≠y):((y,C) :: cl).lookup n=cl.lookup n:=by
 rw [ac1]
 have:(n == y)=false:=by simpa using h
 rw [this]
theorem Inv.blockC {fp:List Addr}{t':Nat} (I:Inv X pins σ H s) (S:CompOkC X.N X.env.scope sc cap y) (hc1:∀ n c,cl.lookup n=some c->X.env.cells.lookup n=some c) (hc2:∀ n,(n,NameKind.free)∈sc.names->(cl.lookup n).isSome=true)
  (hf:∀ b∈fp,FpOk X pins H b) (hlt:∀ b∈fp,b < s.heap.objs.size) {m:Str->Option Value} (hn:h'.Ns s.heap.objs.size m) (k:∀ b u,s.heap.get? b=some u->h'.get? b=some u) (hcell:h'.IsCell (s.heap.objs.size+1) none) :
  Inv (dw X sc cl s.heap.objs.size cap y s H fp) [] (bS σ cap [y]) H { s with heap:=h',toks:=t' }:=by
 have r:∀ n c,cl.lookup n=some c->c < s.heap.objs.size:=fun n c e=>by
  obtain ⟨v,q⟩:=I.cell n c (hc1 n c e);exact q.lt
 refine ⟨⟨I.mod,S.kind,I.ok.glob,I.ok.blt,zQ _,fun x z c a b=>?_,fun x hx=>?_,fun x c e1 e2=>?_,I.ok.hd,I.ok.frames,.inl rfl,fun b hb=>⟨aa4 (hlt b hb),fun x c e=>?_⟩,I.bs,zR I.ok.bsz I.sz,fun b o e hb=>?_,fun b hb z=>?_,I.stack,I.stkFree⟩,
  rfl,I.bare,Un.kept k,⟨m,hn,fun i x v e1 e2 e3=>?_⟩,fun x c e=>?_,I.hok.fresh (zQ _),fun x c e=>?_,fun p hp=>absurd hp (by show p∉([]++[]:List (Addr × Obj));simp),I.hok.kept k,?_⟩
 ·rcases ci a with ⟨ex,ec⟩ | a2
  ·rcases ci b with ⟨ez,_⟩ | b2
   ·exact ex.trans ez.symm
   ·exact absurd (Nat.lt_of_succ_lt (ec ▸ r _ _ b2)) (ad4 _)
  ·rcases ci b with ⟨ez,ec⟩ | b2
   ·exact absurd (Nat.lt_of_succ_lt (ec ▸ r _ _ a2)) (ad4 _)
   ·exact I.ok.inj x z c (hc1 x c a2) (hc1 z c b2)
 ·by_cases hy:x=y
  ·subst hy
   exact ⟨_,by show List.lookup x ((x,_) :: cl)=_;rw [ac1,af1]⟩
  ·rcases mN S hx with hm | hm
   ·exact absurd hm hy
   ·obtain ⟨c,hc⟩:=ai2.mp (hc2 x hm)
    exact ⟨c,(kt hy).trans hc⟩
 ·have ey:x=y:=eq_of_beq e1
  rcases ci e2 with ⟨_,rfl⟩ | e2
  ·exact am5 _
  ·subst ey
   have g:List.lookup x ((x,s.heap.objs.size+1) :: cl)=some c:=by assumption
   rw [ac1,af1] at g
   cases g;exact am5 _
 ·rcases ci e with ⟨_,rfl⟩ | e
  ·exact aj8 (ad0 (hlt b hb))
  ·exact (hf b hb).2.2.2.2.1 x c (hc1 x c e)
 ·rcases (hf b hb).2.2.2.1 with z | z
  ·exact I.ok.noex b o e z
  ·exact absurd (aa2 (zU (I.ok.bs b o e).1) z) (ad4 _)
 ·rcases aa5.mp (I.stkSub b z) with q | q
  ·exact (hf b hb).2.1 q
  ·exact (hf b hb).2.2.1 q
 ·by_cases hi:i < cap.length
  ·have h:(ee X.N cap [y])[i]?=some x:=e1
   have g:(bS σ cap [y])[i]?=some (some v):=e2;rw [ee,ae8 (by simpa using hi),zO,zL hi] at h
   rw [bS,ae8 (by simpa using hi),zO,zL hi] at g
   simp only [ae3,ak0] at h g;obtain ⟨z,hy,hl⟩:=S.capf _ (ae1 hi)
   have C:x=z:=by
    rw [<- h,zK,hy];rfl
   subst C
   have ev:σ[cap[i]]?=some (some v):=by
    cases q:σ[cap[i]]? with
    | none=>rw [q] at g;cases g
    | some o=>rw [q] at g;exact congrArg some g
   obtain ⟨m0,G,E⟩:=I.loc
   have hm:=ae0 hl
   have l:=S.frees _ hm rfl
   have B:x≠y:=fun z=>by rw [z,S.mine] at hl;cases hl
   obtain ⟨u,ru,lk⟩:=E _ x v hy ev (l.elim (fun z=>.inr (.inl z)) fun z=>.inr (.inr z));refine ⟨u,ru,.inr ⟨rS hl,?_⟩⟩;obtain ⟨c,hc⟩:=ai2.mp (hc2 x hm);refine ⟨c,(kt B).trans hc,?_⟩;rcases lk with ⟨z,_⟩ | ⟨_,c',D,q⟩
   ·have z':X.env.scope.names.lookup x=some .local:=z
    rcases l with w | w <;> (rw [z'] at w;cases w)
   ·have:=hc1 x c hc
    rw [D] at this
    cases this;obtain ⟨o,ho,hd⟩:=q;exact ⟨o,k _ o ho,hd⟩
  ·have g:(bS σ cap [y])[i]?=some (some v):=e2
   rw [bS,af6 (by simpa using hi),zO] at g
   cases q:[y][i - (cap.map fun i=>(σ[i]?).join).length]? with
   | none=>rw [q] at g;cases g
   | some o=>rw [q] at g;cases g
 ·rcases ci e with ⟨_,rfl⟩ | e
  ·exact ⟨none,hcell⟩
  ·obtain ⟨v,o,ho,hd⟩:=I.cell x c (hc1 x c e)
   exact ⟨v,o,k c o ho,hd⟩
 ·rcases ci e with ⟨_,rfl⟩ | e
  ·exact I.hok.fresh (am5 _)
  ·exact I.freeC x c (hc1 x c e)
 ·show (bS σ cap [y]).length=(ee X.N cap [y]).length
  simp [bS,ee]
end
section
variable {X:Cx}{sc:Scope}{cap:List Nat}{y:Str}{tg iter elt:Expr}{ifs:List Expr}{pos:Pos}{wi:TI}{g:TG}{tt:TT}{te:TE}
theorem rT {use:Option (Value->Sem Unit)}{ppos:Pos}{pins:List (Addr × Obj)}{σ:St}{H:Hp}{Q:V->Hp->Prop}{R:Value->Shared->Prop} (hc:X.calm=true) (S:CompOkC X.N X.env.scope sc cap y) (hi:PI X tg iter wi)
  (hg:∀ cl C s₀ H₀ ex,PG (dw X sc cl C cap y s₀ H₀ ex) tg g) (ht:∀ cl C s₀ H₀ ex,PTs (dw X sc cl C cap y s₀ H₀ ex) ifs tt) (he:∀ cl C s₀ H₀ ex,PE (dw X sc cl C cap y s₀ H₀ ex) elt te)
  (hs:∀ x,foldedSetIterable iter X.env x=pure x) (I:Inv X pins σ H s) (h:ki cap [y] wi g tt te σ H Q)
  (fin:∀ (D C:Addr) (H':Hp) (s':Shared) (m:Str->Option Value),Inv X pins σ H' s'->s'.heap.Ns C m->FpOk X pins H' C->Q (.ref D) H'->compPost (model X.prog X.w) X.A X.xe use R (.ref D) C (.ok .next) s') :
  wpAny (model X.prog X.w) X.A (comprehension (.ListComp elt [⟨tg,iter,ifs,0⟩] sc pos) sc X.env ppos (newList []) false (eval iter X.env) use) R X.xe s:=by
 obtain ⟨cl,Y,an,cr⟩:=kh (env:=X.env) (scope:=sc) fun n hn=>X.env.cells.lookup n |> fun _=>I.ok.has n (S.frees _ hn rfl);refine wpAny_comprehension_free (use:=use) rfl hs Y S.kind S.locs (thn (hi pins s σ H _ I h) fun v s1 h1=>thn h1 fun cv s2 h2=>?_);obtain ⟨it,fp,tn,J,H2,rfl,I2,T,aw,f2,q⟩:=h2;refine wpAny_newObj_type ?_;obtain ⟨D,hD⟩:∃ D,D=s2.heap.objs.size:=⟨_,rfl⟩
 have b5:H2 D=none:=by rw [hD];exact I2.hok.fresh (zQ _)
 have I3:Inv X pins σ (upd H2 D (.lst [])) { s2 with heap:=s2.heap.push { cls:=.type "list",dict:=none,data:=.seq ([]:List Value).toArray } }:=by
  rw [hD];exact I2.laid (t':=s2.toks) (fun b u e=>zP _ e) (zQ _) ⟨ab1 _,[],_,.nil,aa8 _ rfl⟩
 have a6:∀ b∈fp,b≠D:=fun b hb z=>by
  obtain ⟨o,ho,_⟩:=T.obj _ _ aw b hb;exact absurd (zU ho) (by rw [z,hD];exact ad4 _)
 have f3:∀ b∈fp,FpOk X pins (upd H2 D (.lst [])) b:=fun b hb=>⟨by rw [ae (a6 b hb)];exact (f2 b hb).1,(f2 b hb).2⟩
 have b6:tn 0 (s2.heap.push { cls:=.type "list",dict:=none,data:=.seq ([]:List Value).toArray }):=T.keep _ _ _ aw fun b _ o e=>zP _ e
 rw [<- hD];obtain ⟨W,⟨m0,w0⟩,turn⟩:=q D b5
 generalize b4:({ s2 with heap:=s2.heap.push { cls:=.type "list",dict:=none,data:=.seq ([]:List Value).toArray } }:Shared)=s3 at I3 ⊢
 have G:tn 0 s3.heap:=by rw [<- b4];exact b6
 refine rR S.one fun h1 ch hk U=>?_
 have B:∀ b∈fp,b < s3.heap.objs.size:=fun b hb=>by
  obtain ⟨o,ho,_⟩:=T.obj _ _ G b hb;exact zU ho
 have I4:=I3.blockC (t':=s3.toks) S an cr f3 B ch hk U
 have fC:∀ H',H' s3.heap.objs.size=none->FpOk X pins H' s3.heap.objs.size:=fun H' hn=>I3.fpOk (zQ _) hn;obtain ⟨C,hC⟩:∃ C,C=s3.heap.objs.size:=⟨_,rfl⟩;rw [<- hC] at I4 fC;rw [<- hC];obtain ⟨Xc,l⟩:∃ Xc,Xc=dw X sc cl C cap y s3 (upd H2 D (.lst [])) fp:=⟨_,rfl⟩;rw [<- l] at I4
 have gX:PG Xc tg g:=l ▸ hg cl C s3 _ fp
 have tX:PTs Xc ifs tt:=l ▸ ht cl C s3 _ fp
 have eX:PE Xc elt te:=l ▸ he cl C s3 _ fp
 have x1:Xc.prog=X.prog:=by rw [l];rfl
 have x2:Xc.w=X.w:=by rw [l];rfl
 have x3:Xc.K=X.K:=by rw [l];rfl
 have x4:Xc.calm=true:=by rw [l];exact hc
 have x5:Xc.A=X.A:=by rw [l];rfl
 have x6:Xc.env=compEnvC sc ((y,C+1) :: cl) C X.env:=by rw [l];rfl
 have x7:Xc.xe=fun _ _=>False:=by rw [l];rfl
 have E:∀ {H':Hp},(∀ b∈fp,H' b=none)->∀ b∈fp,FpOk Xc [] H' b:=fun hn b hb=>by
  rw [l];refine ⟨hn b hb,?_,?_,.inl hb,fun x c e=>?_,fun p hp=>absurd hp (by show p∉([]++[]:List (Addr × Obj));simp)⟩
  ·show b≠C
   rw [hC];exact aa4 (B b hb)
  ·intro z
   rcases aa5.mp (I3.stkSub b z) with q | q
   ·exact (f3 b hb).2.1 q
   ·exact (f3 b hb).2.2.1 q
  ·rcases ci e with ⟨_,rfl⟩ | e
   ·rw [hC]
    exact aj8 (ad0 (B b hb))
   ·exact (f3 b hb).2.2.2.2.1 x c (an x c e)
 have a2:tn 0 h1:=T.keep _ _ _ G fun b _ o e=>hk b o e
 have P:∀ s4:Shared,s4 = { s3 with heap:=h1,toks:=s3.toks } →
   codeAny (model X.prog X.w) X.A (.compLoop (.ListComp elt [⟨tg,iter,ifs,0⟩] sc pos) 0 (.ref it) (.ref D) (compEnvC sc ((y,C+1) :: cl) C X.env)) (compPost (model X.prog X.w) X.A X.xe use R (.ref D) C) s4:=by
  rintro s4 rfl;refine lR (fun n s'=>∃ i σ' H' ys,Inv Xc [] σ' H' s'/\tn i s'.heap/\(∀ b∈fp,H' b=none)/\H' D=some (.lst ys)/\W i n ys σ' H') ?_ m0 ⟨0,_,_,[],I4,a2,fun b hb=>(f3 b hb).1,ab,w0⟩;rintro n s5 ⟨i,σ5,H5,ys,I5,a3,ak,cy,w5⟩;obtain ⟨_,L⟩:=turn i n ys σ5 H5 w5;rcases L with ⟨stop,qq⟩ | ⟨go,step⟩
  ·have td:=T.done Xc x1 x2 x3 x4 i [] s5 σ5 H5 (fun _ _=>False) I5 (E ak) a3 stop
   rw [x5] at td;refine thn td fun r s6 ⟨hr,I6⟩=>?_;subst hr
   show compPost _ _ _ _ _ _ _ (.ok .next) s6
   obtain ⟨m6,a1,_⟩:=id I6.loc;rw [x6] at a1
   have u6:=I6.base
   have Z:=I6.hok
   have ck:H5 C=none:=by have:=I6.free;rw [x6] at this;exact this
   have b0:s6.os=s3.os:=by have:=I6.os;rw [l] at this;exact this
   rw [l] at u6 Z
   have IX:Inv X pins σ H5 s6:=I3.call' (s':=s6) b0 u6 Z I6.bare fun b hb=>⟨(f3 b hb).2.2.2.1,(f3 b hb).2.1,(f3 b hb).2.2.2.2.1,(f3 b hb).2.2.2.2.2⟩;exact fin D C H5 s6 m6 IX a1 (fC H5 ck) qq
  ·have ti:=T.item Xc x1 x2 x3 x4 i [] s5 σ5 H5 (fun _ _=>False) I5 (E ak) a3 go
   rw [x5] at ti;refine thn ti fun r s6 ⟨u,hr,h6⟩=>?_;subst hr;refine thn h6 fun _ s7 ⟨x,H7,I7,r7,y7,O,cp⟩=>?_
   have ce:=I7.pinned (E cp) (T.obj _ _ O)
   have a7:=gX _ s7 σ5 H7 x u _ ce r7 (step x H7 y7);rw [x1,x2,x5,x6,x7] at a7;refine thn a7 fun _ s8 ⟨σ8,H8,I8,q8⟩=>?_
   have a8:=tX _ s8 σ8 H8 _ I8 q8;rw [x1,x2,x5,x6,x7] at a8
   have again:∀ {σ9:St}{H9:Hp}{s9:Shared}{zs:List V}{m':Nat},Inv Xc ([]++eB fp s7.heap) σ9 H9 s9->H9 D=some (.lst zs)->m' < n->W (i+1) m' zs σ9 H9 →
     ∃ m,m < n/\∃ i σ' H' ys,Inv Xc [] σ' H' s9/\tn i s9.heap/\(∀ b∈fp,H' b=none)/\H' D=some (.lst ys)/\W i m ys σ' H':=fun {σ9 H9 s9 zs m'} I9 hz hm w9=>by
    refine ⟨m',hm,i+1,σ9,H9,zs,I9.unpinned,T.keep _ _ _ O fun b hb o e=>(I9.pin (b,o) (ac6 _ (ac6 _ (cW hb e)))).1,fun b hb=>?_,hz,w9⟩;obtain ⟨o,e,d⟩:=T.obj _ _ O b hb;exact (I9.pin (b,o) (ac6 _ (ac6 _ (cW hb e)))).2.1
   refine thn a8 fun ok s9 ⟨H9,I9,q9⟩=>?_
   cases ok with
   | false =>
    rw [if_neg aa3] at q9 ⊢;obtain ⟨m',hm,w9⟩:=q9;exact again I9 (turn _ _ _ _ _ w9).1 hm w9
   | true =>
    rw [if_pos rfl] at q9 ⊢
    have a9:=eX _ s9 σ8 H9 _ I9 q9;rw [x1,x2,x5,x6,x7] at a9;refine thn a9 fun v cs ⟨y,a0,bm,b2,a5,a4,m',hm,b1⟩=>?_
    have ad:=bc (X:=Xc) ([]++eB fp s7.heap) cs σ8 a0 (.ref D) [y] (.ref D) [v] (fun _ aT=>aT=upd a0 D (.lst (ys++[y]))) bm rfl (.cons b2 .nil) ⟨D,ys,y,rfl,rfl,a5,a4,rfl⟩;rw [x1,x2,x5,x7] at ad;refine thn ad fun _ cw ⟨_,aT,cc,_,b3⟩=>?_;subst b3;exact again cc ab hm b1
 exact codeAny_compStart_list (P _ rfl) (T.self _ 0 _ _ _ a2 (P _ rfl))
theorem vw (S:CompOkC X.N X.env.scope sc cap y) (hc:X.calm=true) (hi:PI X tg iter wi)
  (hg:∀ cl C s₀ H₀ ex,PG (dw X sc cl C cap y s₀ H₀ ex) tg g) (ht:∀ cl C s₀ H₀ ex,PTs (dw X sc cl C cap y s₀ H₀ ex) ifs tt) (he:∀ cl C s₀ H₀ ex,PE (dw X sc cl C cap y s₀ H₀ ex) elt te)
  (hs:∀ x,foldedSetIterable iter X.env x=pure x:=by intro _;rfl):PE X (.ListComp elt [⟨tg,iter,ifs,0⟩] sc pos) (ki cap [y] wi g tt te):=by
 intro l s σ H Q I h;rw [eval_ListComp];refine rT (use:=none) hc S hi hg ht he hs I h fun D C H' s' m I' hn hf q=>?_;refine ⟨m,hn,fun h' sb=>?_⟩;obtain ⟨f0,f1,f2,f3,f4,f5⟩:=hf;exact ⟨.ref D,H',I'.turned (t':=s'.toks) (fun b o hb e=>(sb.2 b hb).trans e) f0 f1 f3 f4 f5,rfl,q⟩
end
section
variable {X:Cx}
end
variable {name:Str}{body:List Stmt}{pos:Pos}
theorem vx {M:Model}{A:Around}{E:Value->Shared->Prop}{env:Env}{args:Arguments}{Q:Flow->Shared->Prop}
  (h1:defaultsOf args env=([],[])) (h2:annotationsOf (args.args++args.posonlyargs++args.vararg.toList++args.kwonlyargs++args.kwarg.toList) env=[])
  (h:wpAny M A (makeFunction name (qualnameIn env name name) args (.stmts body) scope env [] [] [] pos pos.line) (fun f s1=>wpAny M A (storeName env name f) (fun _ s2=>Q .next s2) E s1) E s) :
  wpAny M A (exec (.FunctionDef name args body [] none [] scope none name pos) env) Q E s:=by
 rw [arm_exec_FunctionDef];obtain ⟨po,a,va,ko,kd,g,df⟩:=args;unfold defStmt;simp only [h1,h2,evalEach,evalOpt,List.isEmpty_nil,Bool.not_true,Bool.false_and,List.map_nil,Option.map_none,Option.toList_none,ai8];rw [if_neg aa3];refine zT (wpAny_evalAll_nil ?_);refine zT (wpAny_standAt ?_);refine zT (ag8 ?_);refine zT (wpAny_evalAll_nil ?_);refine zT (ag8 (ab2 (α:=List (Option Value)) (a:=[]) ?_));refine ag8 ?_;refine zT (ab2 (α:=List (Str × Value)) (a:=[]) ?_);refine af3 h (fun f s1 q=>?_) fun _ _ z=>z;refine zT (ab2 (α:=Value) (a:=f) ?_);refine zT (wpAny_standAt ?_);refine zT (wpAny_bindName ?_);exact af3 q (fun _ s2 z=>ab2 z) fun _ _ z=>z
def dm (q:Str) (c:Addr):HO:=.ext fun h=>h.CodeRec (.ref c) q
def FunO (fa:Addr) (fd:FuncData):HO:=.ext fun h=>h.get? fa=some { cls:=.type "function",data:=.func fd }
structure TabK (X:Cx) (c P:Addr):Prop where
 cd:X.env.code=.ref c
 hd:PySem.W.codeHdIn X.K c P=true
 blt:X.base.BuiltinsAt X.mg P
 ne:mainGlobals≠P
variable {P:Program}{w:World}{h:Heap}{q:Str}{params:Arguments}{clos:List (Str × Addr)}{Q:VK}
section
variable {X:Cx}{pins:List (Addr × Obj)}{σ:St}{H:Hp}{s:Shared}
theorem vz (e:h.CodeRec (.ref c) q):ObjOk P w H h c (dm q c):=by
 refine ⟨e,?_,fun h1 h2 e1 k=>?_⟩
 ·obtain ⟨c',o,vs,t,e1,e2,_⟩:=e
  cases e1;exact ⟨o,e2⟩
 ·obtain ⟨c',o,vs,t,e1,e2,e3⟩:=e1
  cases e1;exact ⟨c,o,vs,t,rfl,k o e2,e3⟩
theorem qj {fa:Addr}{fd:FuncData} (e:h.get? fa=some { cls:=.type "function",data:=.func fd }):ObjOk P w H h fa (FunO fa fd):=⟨e,⟨_,e⟩,fun h1 h2 e1 k=>k _ e1⟩
theorem Inv.fnew {P c':Addr}{ps more:Array Value}{fd:FuncData}{tk:Nat} (I:Inv X pins σ H s) (hP:H P=some (.tbl ps)) (x:Heap.ExtBut P s.heap h') (h1:s.heap.objs.size<=c') (h2:c' < h'.objs.size) (cr:h'.CodeRec (.ref c') q) (ht:h'.get? P=some (PySem.W.tabObj (ps++more))) :
  Inv X pins σ (upd (upd (upd H P (.tbl (ps++more))) c' (dm q c')) h'.objs.size (FunO h'.objs.size fd)) { s with heap:=h'.push { cls:=.type "function",data:=.func fd },toks:=tk }:=by
 have G:P < s.heap.objs.size:=(I.hok P _ hP).lt
 have l:s.heap.objs.size<=h'.objs.size:=zR h1 (ah4 h2)
 have nP:∀ b,H b=none->b≠P:=fun b e z=>by rw [z,hP] at e;cases e
 have B:∀ b o,s.heap.get? b=some o->b≠c'/\b≠h'.objs.size:=fun b o e=>⟨aa4 (aa2 (zU e) h1),aa4 (aa2 (zU e) l)⟩
 have h:∀ b u,H b=some u->b≠c'/\b≠h'.objs.size:=fun b u e=>⟨aa4 (aa2 (I.hok b u e).lt h1),aa4 (aa2 (I.hok b u e).lt l)⟩
 have g:∀ b o,b≠P→s.heap.get? b=some o→(h'.push { cls:=.type "function",data:=.func fd }).get? b=some o:=fun b o hb e=>zP _ (x b o hb e)
 have at_:∀ b u,b≠P->H b=some u->upd (upd (upd H P (.tbl (ps++more))) c' (dm q c')) h'.objs.size (FunO h'.objs.size fd) b=some u:=fun b u hb e=>by
  rw [ae (h b u e).2,ae (h b u e).1,ae hb];exact e
 have D:upd (upd (upd H P (.tbl (ps++more))) c' (dm q c')) h'.objs.size (FunO h'.objs.size fd) P=some (.tbl (ps++more)):=by
  rw [ae (h P _ hP).2,ae (h P _ hP).1];exact ab
 refine I.step (g':=s.gens) (d':=s.drawn) (ch:=[]) (fun _ z=>nomatch z) (fun b o _ _ _ e n=>g b o (nP b n) e) (fun b o _ _ _ e n=>⟨o.slots,g b o (nP b n) e⟩) (fun b o _ e n=>?_) (fun b o _ e=>?_) (fun b xs e=>at_ b _ (fun z=>by rw [z,hP] at e;cases e) e) (fun b o u e=>at_ b _ (fun z=>by rw [z,hP] at e;cases e) e) (fun b E e=>?_) (fun m hm=>?_) (fun b u e=>?_) I.bare
 ·rw [ae (B b o e).2,ae (B b o e).1,ae (nP b n)]
  exact n
 ·by_cases z:b=P
  ·rw [z]
   exact ⟨_,zP _ ht⟩
  ·exact ⟨o,g b o z e⟩
 ·by_cases z:b=P
  ·subst z
   rw [hP] at e
   cases e;exact ⟨more,D⟩
  ·exact ⟨#[],by rw [at_ b _ z e];simp⟩
 ·obtain ⟨o,es,ep,ho,r⟩:=hm
  exact ⟨o,es,ep,g _ o (nP _ I.free) ho,r⟩
 ·by_cases z1:b=h'.objs.size
  ·rw [z1,ab] at e
   cases e;rw [z1];exact qj (aa8 _ rfl)
  rw [ae z1] at e
  by_cases z2:b=c'
  ·rw [z2,ab] at e
   cases e;rw [z2];refine vz ?_;obtain ⟨C,o,vs,t,e1,e2,e3⟩:=cr;exact ⟨C,o,vs,t,e1,zP _ e2,e3⟩
  rw [ae z2] at e
  by_cases z3:b=P
  ·rw [z3,ab] at e
   cases e;rw [z3];exact zP _ ht
  rw [ae z3] at e;refine (I.hok b u e).stay (fun c v hc q=>g c v ?_ q) (fun c q=>at_ c _ (fun z=>by rw [z,hP] at q;cases q) q) fun c xs q=>at_ c _ (fun z=>by rw [z,hP] at q;cases q) q
  rcases hc with z | z
  ·rw [z];exact z3
  ·exact fun y=>by rw [y,hP] at z;cases z
theorem Inv.fhit {fd:FuncData}{tk:Nat} (I:Inv X pins σ H s) (x:∀ b o,s.heap.get? b=some o->h'.get? b=some o) (le':s.heap.objs.size<=h'.objs.size) :
  Inv X pins σ (upd H h'.objs.size (FunO h'.objs.size fd)) { s with heap:=h'.push { cls:=.type "function",data:=.func fd },toks:=tk } :=
 I.laid (t':=tk) (fun b u e=>zP _ (x b u e)) le' (qj (aa8 _ rfl))
inductive tFn (P:Addr) (pos:Pos) (q:Str) (mk:Value->Value->Value->Value->FuncData) (σ:St) (H:Hp) (Q:VK):Prop
 | mk:∀ ps,H P=some (.tbl ps)->TriplesOk ps.toList->(((codeAmong pos ps.toList=none/\∀ (c' fa:Addr) (doc pm ctv:Value),H c'=none->H fa=none->fa≠c'->Q (.ref fa) (upd (upd (upd H P (.tbl (ps ++ #[rawInt pos.line,rawInt pos.col,.ref c']))) c' (dm q c')) fa (FunO fa (mk doc pm (.ref c') ctv))))\/∃ c',codeAmong pos ps.toList=some (.ref c')/\H c'=some (dm q c')/\∀ (fa:Addr) (doc pm ctv:Value),H fa=none->Q (.ref fa) (upd H fa (FunO fa (mk doc pm (.ref c') ctv)))))->tFn P pos q mk σ H Q
theorem Inv.blt {P:Addr} (I:Inv X pins σ H s) (b:X.base.BuiltinsAt X.mg P):s.heap.BuiltinsAt X.mg P:=by
 obtain ⟨bm,o,e1,e2,e3,e4,e5,e6,e7,e8⟩:=b;exact ⟨bm,o,e1,e2,e3,e4,I.bk _ _ e5,e6,e7,e8⟩
theorem Inv.nsg (I:Inv X pins σ H s):s.heap.Ns mainGlobals X.mg:=by
 obtain ⟨o,es,ep,ho,r⟩:=I.mod.glob;exact ⟨o,es,ep,I.bk _ _ ho,r⟩
theorem vA {P:Addr}{ln:Nat} (T:TabK X c P) (hcl:closureFor scope X.env=pure clos) (I:Inv X pins σ H s)
  (h:tFn P pos q (fun doc pm cdv ctv=>PySem.W.fnX name q params body scope clos .none .none doc pm none cdv ctv) σ H Q) :
  wpAny (model X.prog X.w) X.A (makeFunction name q params (.stmts body) scope X.env [] [] [] pos ln) (EP X pins σ Q) X.xe s:=by
 obtain ⟨ps,hP,tr,h⟩:=h
 have hd:=PySem.W.codeHd_of_K I.kIn T.hd
 have tb:s.heap.get? P=some (PySem.W.tabObj ps):=I.hok P _ hP;rcases h with ⟨hn,h⟩ | ⟨c',hs,hc,h⟩
 ·refine PySem.W.makeFunction_K hcl I.ok.glob I.nsg T.cd hd tb tr hn T.ne (I.blt T.blt) fun c' ctv doc h' tk x h1 h2 cr ht=>?_
  refine ⟨.ref h'.objs.size,_,I.fnew (more:=#[rawInt pos.line,rawInt pos.col,.ref c']) hP x h1 h2 cr ht,rfl,h c' h'.objs.size doc _ ctv (I.hok.fresh h1) (I.hok.fresh (zR h1 (ah4 h2))) (aj8 h2)⟩
 ·refine PySem.W.makeFunction_hit hcl I.ok.glob I.nsg T.cd hd tb tr hs (I.blt T.blt) fun ctv doc h' tk x g=>?_
  exact ⟨.ref h'.objs.size,_,I.fhit x g,rfl,h h'.objs.size doc _ ctv (I.hok.fresh g)⟩
theorem nO {P:Addr}{body:Expr}{ln:Nat} (T:TabK X c P) (hcl:closureFor scope X.env=pure clos) (I:Inv X pins σ H s)
  (h:tFn P pos q (fun _ pm cdv ctv=>PySem.W.kla_fn name q params body scope clos pm cdv ctv) σ H Q) :
  wpAny (model X.prog X.w) X.A (makeFunction name q params (.expr body) scope X.env [] [] [] pos ln) (EP X pins σ Q) X.xe s:=by
 obtain ⟨ps,hP,tr,h⟩:=h
 have hd:=PySem.W.codeHd_of_K I.kIn T.hd
 have tb:s.heap.get? P=some (PySem.W.tabObj ps):=I.hok P _ hP;rcases h with ⟨hn,h⟩ | ⟨c',hs,hc,h⟩
 ·refine PySem.W.kla_makeFunction hcl I.ok.glob I.nsg T.cd hd tb tr hn T.ne (I.blt T.blt) fun c' ctv h' tk x h1 h2 cr ht=>?_
  refine ⟨.ref h'.objs.size,_,I.fnew (more:=#[rawInt pos.line,rawInt pos.col,.ref c']) hP x h1 h2 cr ht,rfl,h c' h'.objs.size .none _ ctv (I.hok.fresh h1) (I.hok.fresh (zR h1 (ah4 h2))) (aj8 h2)⟩
 ·refine PySem.W.kla_makeFunctionHit hcl I.ok.glob I.nsg T.cd hd tb tr hs (I.blt T.blt) fun ctv h' tk x g=>?_
  exact ⟨.ref h'.objs.size,_,I.fhit x g,rfl,h h'.objs.size .none _ ctv (I.hok.fresh g)⟩
theorem yN {P:Addr}{i:Nat} (T:TabK X c P) (hcl:closureFor scope X.env=pure clos) (hN:X.N.Nodup) (hi:X.N[i]?=some name) (hx:Loc X.env.scope name)
  (h1:defaultsOf params X.env=([],[]):=by rfl) (h2:annotationsOf (params.args++params.posonlyargs++params.vararg.toList++params.kwonlyargs++params.kwarg.toList) X.env=[]:=by rfl) (hf:X.fn name=true\/X.env.scope.names.lookup name=some .local:=by first | exact .inl rfl | exact .inr rfl) :
  PS X (.FunctionDef name params body [] none [] scope none name pos) (tAsg (tFn P pos (qualnameIn X.env name name) (fun g pm l r=>PySem.W.fnX name (qualnameIn X.env name name) params body scope clos .none .none g pm none l r)) (be i)):=by
 intro B s σ H D I h;refine vx h1 h2 (thn (vA T hcl I h) fun v s1 ⟨y,H1,I1,r1,q1⟩=>?_);exact gB I1 hN hi hx r1 (fun s2 I2=>⟨_,H1,I2,q1⟩) hf
end
def CelO (c:Addr) (v:V):HO:=.ext fun h=>∃ u,RelV v u/\h.IsCell c (some u)
def trC (cvs:List (Addr × V)) (H:Hp):Hp:=fun b=>match cvs.lookup b with
 | some v=>some (CelO b v)
 | none=>H b
def untr (cvs:List (Addr × V)) (H:Hp):Hp:=fun b=>match cvs.lookup b with
 | some _=>none
 | none=>H b
section
variable {cvs:List (Addr × V)}{H:Hp}{b:Addr}{v:V}
theorem ix (e:cvs.lookup b=some v):trC cvs H b=some (CelO b v):=by unfold trC;rw [e]
theorem bG (e:cvs.lookup b=none):trC cvs H b=H b:=by unfold trC;rw [e]
theorem dX (e:cvs.lookup b=some v):untr cvs H b=none:=by unfold untr;rw [e]
theorem bn (e:cvs.lookup b=none):untr cvs H b=H b:=by unfold untr;rw [e]
theorem xp {u:Value} (r:RelV v u) (e:h.IsCell c (some u)):ObjOk P w H h c (CelO c v):=by
 obtain ⟨o,e1,e2⟩:=e;refine ⟨⟨u,r,o,e1,e2⟩,⟨o,e1⟩,fun h1 h2 ⟨u',r',o',l,g⟩ k=>⟨u',r',o',k _ l,g⟩⟩
theorem qk (x:HOk P w H h) (free:∀ c v,cvs.lookup c=some v->H c=none) (cel:∀ c v,cvs.lookup c=some v->∃ u,RelV v u/\h.IsCell c (some u)):HOk P w (trC cvs H) h:=fun b o e=>by
 have out:∀ c u,H c=some u->cvs.lookup c=none:=fun c u e=>by
  cases q:cvs.lookup c with
  | none=>rfl
  | some v=>rw [free c v q] at e;cases e
 cases q:cvs.lookup b with
 | some v =>
  rw [ix q] at e
  cases e;obtain ⟨u,r,z⟩:=cel b v q;exact xp r z
 | none =>
  rw [bG q] at e;exact (x b o e).stay (fun _ _ _ z=>z) (fun c z=>by rw [bG (out c _ z)];exact z) fun c xs z=>by rw [bG (out c _ z)];exact z
theorem vB (x:HOk P w H h) (cel:∀ c v,cvs.lookup c=some v->H c=some (CelO c v)):HOk P w (untr cvs H) h:=fun b o e=>by
 cases q:cvs.lookup b with
 | some v=>rw [dX q] at e;cases e
 | none =>
  rw [bn q] at e;refine (x b o e).stay (fun _ _ _ z=>z) (fun c z=>?_) fun c xs z=>?_
  ·cases q2:cvs.lookup c with
   | none=>rw [bn q2];exact z
   | some v=>rw [cel c v q2] at z;cases z
  ·cases q2:cvs.lookup c with
   | none=>rw [bn q2];exact z
   | some v=>rw [cel c v q2] at z;cases z
end
structure dY (N P:List Str) (sc:Scope):Prop where
 kind:sc.kind=.function
 co:sc.isCoroutine=false
 gen:sc.isGenerator=false
 nd:N.Nodup
 pre:N.take P.length=P
 par:∀ x∈P,sc.names.lookup x=some .local
 nocell:∀ y∈sc.names,y.2≠.cell
def envC (q:Str) (scope:Scope) (L fa:Addr) (cd:Value) (clos:List (Str × Addr)):Env:=newEnv scope L mainGlobals clos (q++Str.ofString ".<locals>.") (some fa) cd none builtinsNs
def cxC (P:Program) (w:World) (K:PySem.W.Frag) (mg:Str->Option Value) (base:Heap) (N:List Str) (env:Env) (A:Around) (outer:List Env) (s:Shared) (H:Hp):Cx where
 prog:=P
 w:=w
 K:=K
 mg:=mg
 base:=base
 A:=A.deeper env
 N:=N
 s₀:=s
 H₀:=H
 env:=env
 outer:=outer
 stack:=env :: outer
 ex:=[]
 calm:=true
 fn:=fun _=>false
 pn:=[]
 xe:=fun _ _=>False
def wI (ps:List Str) (vs:List V) (scope:Scope) (clos:List (Str × Addr)) (cvs:List (Addr × V)) (N:List Str) (σ:St):Prop :=
 σ.length=N.length/\∀ (i:Nat) (x:Str) (v:V),N[i]?=some x->σ[i]?=some (some v)->(ps[i]?=some x/\vs[i]?=some v)\/(scope.names.lookup x=some .free/\∃ c,clos.lookup x=some c/\cvs.lookup c=some v)
structure Clos (scope:Scope) (clos:List (Str × Addr)) (cvs:List (Addr × V)) (H:Hp):Prop where
 inj:∀ x y c,clos.lookup x=some c->clos.lookup y=some c->x=y
 has:∀ x,scope.names.lookup x=some .free->∃ c,clos.lookup x=some c
 val:∀ x c,clos.lookup x=some c->∃ v,cvs.lookup c=some v
 at_:∀ c v,cvs.lookup c=some v->H c=some (CelO c v)
section
variable {P:Program}{w:World}{K:PySem.W.Frag}{mg:Str->Option Value}{base:Heap}{A:Around}{outer:List Env}{s:Shared}{H:Hp}{N ps:List Str}{scope:Scope}{fa:Addr}{q:Str}{cd:Value}{clos:List (Str × Addr)}{cvs:List (Addr × V)}{vs:List V}{us:List Value}{σ0:St}{h':Heap}{tk:Nat}
theorem ql:∀ {ps:List Str}{us:List Value}{i:Nat}{x:Str}{u:Value},ps.Nodup->ps[i]?=some x->us[i]?=some u->(ps.zip us).reverse.lookup x=some u
 | ps,us,i,x,u,nd,e1,e2=>by
  have hm:(x,u)∈(ps.zip us).reverse:=List.mem_reverse.mpr (aa0 (i:=i) (List.getElem?_zip_eq_some (z:=(x,u)).mpr ⟨e1,e2⟩))
  have uq:∀ v,(x,v)∈(ps.zip us).reverse->v=u:=fun v hv=>by
   obtain ⟨j,hj⟩:=List.getElem?_of_mem (List.mem_reverse.mp hv);obtain ⟨j1,j2⟩:=List.getElem?_zip_eq_some.mp hj
   have:i=j:=jr nd e1 j1;subst this;rw [e2] at j2;exact (zX j2).symm
  generalize (ps.zip us).reverse=l at hm uq
  induction l with
  | nil=>exact absurd hm ab9
  | cons p l ih =>
   obtain ⟨y,v⟩:=p;rw [ac1]
   by_cases e:x=y
   ·subst e
    simp only [af1];rw [uq v ac9]
   ·have:(x == y)=false:=ad7.mpr e
    rw [this];refine ih ?_ fun v hv=>uq v (ac3 _ hv);rcases aa5.mp hm with z | z
    ·exact absurd (Prod.mk.inj z).1 e
    ·exact z
theorem xr (S:dY N ps scope) (hd:A.handled=none) (e0:Env0 P w K mg base A outer s H) (r:Vals vs us) (C:Clos scope clos cvs H) (h0:wI ps vs scope clos cvs N σ0)
  (hn:h'.Ns s.heap.objs.size fun x=>(ps.zip us).reverse.lookup x) (hs:Heap.SameBut s.heap.objs.size (s.heap.push { cls:=.type "frame",data:=.dict #[] }) h') :
  Inv (cxC P w K mg base N (envC q scope s.heap.objs.size fa cd clos) A outer s (untr cvs H)) [] σ0 (untr cvs H) { s with heap:=h',toks:=tk }:=by
 have hk:∀ b o,s.heap.get? b=some o->h'.get? b=some o:=fun b o e=>by
  rw [hs.2 b (aa4 (zU e))];exact zP _ e
 have h:∀ b:Addr,b∉([]:List Addr):=fun b=>ab9
 have l:∀ x c,clos.lookup x=some c->∃ v u,cvs.lookup c=some v/\RelV v u/\s.heap.IsCell c (some u):=fun x c e=>by
  obtain ⟨v,hv⟩:=C.val x c e;obtain ⟨⟨u,r,z⟩,_⟩:=(show ObjOk P w H s.heap c (CelO c v) from e0.hok c _ (C.at_ c v hv));exact ⟨v,u,hv,r,z⟩
 have ik:∀ {c u},s.heap.IsCell c (some u)->h'.IsCell c (some u):=fun ⟨o,e1,e2⟩=>⟨o,hk _ _ e1,e2⟩
 refine ⟨⟨e0.mod,S.kind,rfl,rfl,zQ _,C.inj,fun x hx=>?_,(fun x c z=>Bool.noConfusion z),fun _=>hd,Around.frames_deeper e0.frames,.inr ⟨rfl,rfl⟩,fun b z=>absurd z (h b),fun b o e=>⟨(e0.bs b o e).1,?_⟩,e0.bsz,fun b _ _=>h b,fun b z=>absurd z (h b),e0.funs,fun b hb=>?_⟩,
  rfl,e0.bare,Un.kept hk,⟨_,hn,fun i x v h1 h2 h3=>?_⟩,fun x c e=>?_,?_,fun x c e=>?_,fun p hp=>absurd (show p∈([]:List (Addr × Obj)) from hp) (by simp),(vB e0.hok C.at_).kept hk,h0.1⟩
 ·rcases hx with hx | hx
  ·exact absurd rfl (S.nocell _ (ae0 (show scope.names.lookup x=some .cell from hx)))
  ·exact C.has x hx
 ·have:=(e0.bs b o e).2
  cases z:cvs.lookup b with
  | none=>exact (bn z).trans this
  | some v=>exact dX z
 ·have:=e0.frf b hb
  cases z:cvs.lookup b with
  | none=>exact (bn z).trans this
  | some v=>exact dX z
 ·rcases h0.2 i x v h1 h2 with ⟨hp,hv⟩ | ⟨hf,c,hc,hv⟩
  ·obtain ⟨u,hu,rv⟩:=r.get hv
   have B:ps.Nodup:=by rw [<- S.pre];exact S.nd.sublist (List.take_sublist _ _)
   exact ⟨u,rv,.inl ⟨S.par x (aa0 hp),ql B hp hu⟩⟩
  ·obtain ⟨v',u,g,ru,z⟩:=l x c hc
   rw [hv] at g
   cases g;exact ⟨u,ru,.inr ⟨.inr hf,c,hc,ik z⟩⟩
 ·obtain ⟨v',u,g,ru,z⟩:=l x c e
  exact ⟨_,ik z⟩
 ·have:=e0.hok.fresh (zQ _)
  show untr cvs H s.heap.objs.size=none
  cases z:cvs.lookup s.heap.objs.size with
  | none=>exact (bn z).trans this
  | some v=>exact dX z
 ·obtain ⟨v',u,g,_⟩:=l x c e
  exact dX g
theorem qm {s':Shared}{H':Hp}{σ':St}{env:Env}{v:V}{u:Value} (C:Clos scope clos cvs H) (e0:Env0 P w K mg base A outer s H) (J:Inv (cxC P w K mg base N env A outer s (untr cvs H)) [] σ' H' s') (rv:RelV v u) (hq:Q v (trC cvs H')):CE outer P w H s Q u s':=by
 have B:Un (frs outer) [] (untr cvs H) H' s.heap s'.heap:=J.base
 have h:∀ b,(∀ v,H b≠some (CelO b v))->cvs.lookup b=none:=fun b hb=>by
  cases z:cvs.lookup b with
  | none=>rfl
  | some v=>exact absurd (C.at_ b v z) (hb v)
 have g:∀ b,H b=none->cvs.lookup b=none:=fun b hb=>h b fun v z=>by rw [hb] at z;cases z
 have l:∀ b:Addr,b∉([]:List Addr):=fun b=>ab9
 have D:∀ c v,cvs.lookup c=some v->c∉frs outer:=fun c v e z=>by
  have:=e0.frf c z;rw [C.at_ c v e] at this
  cases this
 have cell:∀ c v,cvs.lookup c=some v->H' c=none/\∃ u,RelV v u/\s'.heap.IsCell c (some u):=fun c v e=>by
  obtain ⟨⟨u,r,o,e1,e2⟩,_⟩:=(show ObjOk P w H s.heap c (CelO c v) from e0.hok c _ (C.at_ c v e));exact ⟨B.free c o e1 (dX e) (l c),u,r,o,B.keep c o e1 (dX e) (D c v e) (l c),e2⟩
 refine ⟨v,trC cvs H',J.os,J.bare,⟨fun b o e n hb hx=>?_,fun b o e n hb hx=>?_,fun b o e n hx=>?_,fun b o e hx=>B.there b o e hx,fun b xs e=>?_,fun b o x e=>?_,fun b ps e=>?_⟩,qk J.hok (fun c v e=>(cell c v e).1) (fun c v e=>(cell c v e).2),rv,hq⟩
 ·exact B.keep b o e ((bn (g b n)).trans n) hb hx
 ·exact B.slot b o e ((bn (g b n)).trans n) hb hx
 ·exact (bG (g b n)).trans (B.free b o e ((bn (g b n)).trans n) hx)
 ·have z:=h b fun v y=>by rw [e] at y;cases y
  exact (bG z).trans (B.tups b xs ((bn z).trans e))
 ·have z:=h b fun v y=>by rw [e] at y;cases y
  exact (bG z).trans (B.frzs b o x ((bn z).trans e))
 ·have z:=h b fun v y=>by rw [e] at y;cases y
  obtain ⟨more,y⟩:=B.tbls b ps ((bn z).trans e);exact ⟨more,(bG z).trans y⟩
theorem xt {k:Nat}{doc pm ctv:Value}{c':Addr}{E:XK}{t:TS} (S:dY N ps scope) (hr:Room (k+1) A) (e0:Env0 P w K mg base A outer s H) (r:Vals vs us)
  (hf:H fa=some (FunO fa (PySem.W.fnX name q params body scope clos .none .none doc pm none (.ref c') ctv))) (hc:H c'=some (dm q c')) (hb:bindArgs (PySem.W.fnX name q params body scope clos .none .none doc pm none (.ref c') ctv) ⟨us,[]⟩=pure (ps.zip us))
  (C:Clos scope clos cvs H) (h0:wI ps vs scope clos cvs N σ0)
  (ht:PSs (cxC P w K mg base N (envC q scope s.heap.objs.size fa (.ref c') clos) A outer s (untr cvs H)) body t) (hq:t { nx:=fun _ H'=>Q .non (trC cvs H'),rt:=fun v H'=>Q v (trC cvs H') } σ0 (untr cvs H)) :
  codeAny (model P w) A (.call (.ref fa) ⟨us,[]⟩) (CR CX0 outer P w H s Q E) s:=by
 have l:s.heap.NoLimit:=e0.mod.nolimit.keeps fun b o e=>(e0.bs b o e).1
 have ho:s.heap.get? fa=some { cls:=.type "function",data:=.func (PySem.W.fnX name q params body scope clos .none .none doc pm none (.ref c') ctv) }:=(e0.hok fa _ hf).1
 have h:s.heap.CodeRec (.ref c') q:=(e0.hok c' _ hc).1;refine codeAny_call_function hr.depth ho rfl S.co S.gen rfl h ?_;rw [hb];refine ab2 ?_;refine wpAny_newFunctionEnv S.nocell (fun x hx=>S.par x.1 (al4 hx).1) (fun h' hn hs=>?_) S.kind
 have hk:∀ b o,s.heap.get? b=some o->h'.get? b=some o:=fun b o e=>by
  rw [hs.2 b (aa4 (zU e))];exact zP _ e
 refine ⟨l.keeps hk,codeAny_func ?_⟩
 have I:=xr (q:=q) (fa:=fa) (cd:=.ref c') (tk:=s.toks+(ps.zip us).length) S hr.hd e0 r C h0 hn hs;refine af3 (ht [] _ σ0 _ _ I hq) (fun fl s' g=>?_) fun e s' g=>False.elim g
 cases fl with
 | ret u =>
  obtain ⟨v,σ',H',J,rv,q⟩:=g;exact qm C e0 J rv q
 | next =>
  obtain ⟨σ',H',J,q⟩:=g;exact qm (v:=V.non) (u:=Value.none) C e0 J rfl q
 | brk =>
  obtain ⟨_,_,_,q⟩:=g;exact False.elim q
 | cont =>
  obtain ⟨_,_,_,q⟩:=g;exact False.elim q
end
abbrev TR:=(V->St->Hp->Prop)->St->Hp->Prop
def PSR (X:Cx) (body:List Stmt) (t:TR):Prop:=∀ (pins:List (Addr × Obj)) (s:Shared) (σ:St) (H:Hp) (R:V->St->Hp->Prop),Inv X pins σ H s->t R σ H →
 wpAny (model X.prog X.w) X.A (execs body X.env) (fun f s'=>∃ v σ' H' u,f=.ret u/\Inv X pins σ' H' s'/\RelV v u/\R v σ' H') X.xe s
def tRC (t:TS) (u:TR):TR:=fun R σ H=>t { nx:=u R,rt:=fun _ _=>False } σ H
def tRR (te:TE):TR:=fun R σ H=>te σ H fun v H'=>R v σ H'
section
variable {X:Cx}{st:Stmt}{rest:List Stmt}{t:TS}{u:TR}{e:Expr}{te:TE}{pos:Pos}
theorem vC (h1:PS X st t) (h2:PSR X rest u):PSR X (st :: rest) (tRC t u):=by
 intro g s σ H R I h;refine wpAny_execs_cons (thn (h1 g s σ H { nx:=u R,rt:=fun _ _=>False } I h) fun f s1 q=>?_)
 cases f with
 | next =>
  obtain ⟨σ',H',I',q⟩:=q;exact h2 g s1 σ' H' R I' q
 | ret v=>obtain ⟨_,_,_,_,_,q⟩:=q;exact False.elim q
 | brk=>obtain ⟨_,_,_,q⟩:=q;exact False.elim q
 | cont=>obtain ⟨_,_,_,q⟩:=q;exact False.elim q
theorem xu (he:PE X e te):PSR X [.Return (some e) pos] (tRR te):=by
 intro g s σ H R I h;refine wpAny_execs_cons (wpAny_Return_some (thn (he g s σ H _ I h) fun v s1 ⟨x,H1,I1,r1,q1⟩=>?_));exact ⟨x,σ,H1,v,rfl,I1,r1,q1⟩
end
def tN (N:List Str) (scope:Scope) (cs:List (Str × Addr)) (σ:St) (cvs:List (Addr × V)):Prop:=∀ c v,cvs.lookup c=some v->∃ (i:Nat) (y:Str),N[i]?=some y/\σ[i]?=some (some v)/\cs.lookup y=some c/\scope.names.lookup y=some .cell
section
variable {P:Program}{w:World}{K:PySem.W.Frag}{mg:Str->Option Value}{base:Heap}
end
abbrev SpV:=V->List V->Hp->VK->Prop
def ku (P:Program) (w:World) (K:PySem.W.Frag) (mg:Str->Option Value) (base:Heap) (k:Nat) (sp:SpV):Prop :=
 ∀ (A:Around) (outer:List Env) (s:Shared) (H:Hp) (f:V) (us:List Value) (vs:List V) (Q:VK),Room k A->Env0 P w K mg base A outer s H->Vals vs us->sp f vs H Q →
  ∃ fa fd,f=.ref fa/\H fa=some (FunO fa fd)/\codeAny (model P w) A (.call (.ref fa) ⟨us,[]⟩) (CR CX0 outer P w H s Q E0) s
section
variable {X:Cx}{k:Nat}{sp:SpV}{x m:Str}{p pos apos:Pos}{e o:Expr}{es:List Expr}{ta:TE}{t:TA}{i:Nat}{pins:List (Addr × Obj)}{σ:St}{H:Hp}{s:Shared}{Q:VK}{us:List Value}{vs:List V}{f:V}
theorem xy {u:Value} (F:ku X.prog X.w X.K X.mg X.base k sp) (hr:Room k X.A) (I:Inv X pins σ H s) (rf:RelV f u) (r:Vals vs us) (h:sp f vs H Q) :
  ∃ fa ob fd,u=.ref fa/\s.heap.get? fa=some ob/\ob.data=.func fd/\wpAny (model X.prog X.w) X.A (call (.ref fa) us) (EP X pins σ Q) X.xe s:=by
 obtain ⟨fa,fd,rfl,hf,hc⟩:=F X.A X.stack s H f us vs Q hr I.env0 r h;obtain rfl:u=.ref fa:=rf;refine ⟨fa,_,fd,rfl,(I.hok fa _ hf).1,rfl,?_⟩;refine wpAny_call (am6 hc fun r s' hq=>?_)
 cases r with
 | error e=>exact False.elim hq
 | ok fl =>
  cases fl with
  | ret u=>exact I.after hq
  | next=>exact False.elim hq
  | brk=>exact False.elim hq
  | cont=>exact False.elim hq
inductive nQ (K:PySem.W.Frag) (m:Str) (sp:SpV) (t:TA) (σ:St) (Q:VK) (x:V) (H1:Hp):Prop
 | mk:∀ a C dx fs fa fd,x=.ref a->H1 a=some (.ins C dx fs)->Cls K C->NoAttr K C m->fs.lookup m=some (.ref fa)->H1 fa=some (FunO fa fd)->(t σ H1 fun vs H2=>H2 fa=some (FunO fa fd)/\sp (.ref fa) vs H2 Q)->nQ K m sp t σ Q x H1
def yO (K:PySem.W.Frag) (m:Str) (sp:SpV) (ta:TE) (t:TA):TE:=fun σ H Q=>ta σ H fun x H1=>nQ K m sp t σ Q x H1
theorem vD {pl:Sem Bool} (F:ku X.prog X.w X.K X.mg X.base k sp) (hr:Room k X.A) (ho:PE X o ta) (ha:PA X (e :: es) t) (he:starEach (e :: es) X.env=(false,eval e X.env) :: starEach es X.env:=by rfl)
  (ht:eval (.Call (.Attribute o m apos) (e :: es) [] pos) X.env=(do
   let ov ← eval o X.env
   standAt apos.atName
   let (f,first) ← holding [ov] (getMethod ov m pl)
   callWith pos f first (backTo pos (starEach (e :: es) X.env)) (backToKw pos (keywordEach [] X.env))):=by rfl) :
  PE X (.Call (.Attribute o m apos) (e :: es) [] pos) (yO X.K m sp ta t):=by
 intro g s σ H Q I h;refine PySem.W.methodCall_KW (pl:=pl) (thn (ho g s σ H _ I h) fun u s1 ⟨x,H1,I1,rx,a,C,dx,fs,fa,fd,ex,ea,cl,na,l,hf,q⟩=>?_) ht;subst ex;obtain rfl:u=Value.ref a:=rx;obtain ⟨mA,O,_⟩:=gl I1.hok ea;obtain ⟨od,J,_⟩:=O.look;refine PySem.W.method_usual I1.kIn J (ak3 (cl.get m)).1 (ak3 (cl.get m)).2 na rfl ?_;refine j0 I1 ea cl na l fun u2 s2 I2 ru=>?_;obtain rfl:u2=Value.ref fa:=ru
 refine callWith_def (fd:=fd) (o:={ cls:=.type "function",data:=.func fd }) rfl (thn (ha pos g s2 σ H1 _ I2 q) fun us s3 ⟨vs,H2,I3,r,B,q2⟩=>?_) he
 obtain ⟨D,ob,E,e1,e2,e3,e4⟩:=xy (f:=.ref fa) (u:=.ref fa) F hr I3 rfl r q2
 cases e1;exact ⟨(I3.hok fa _ B).1,e4⟩
end
theorem tO {K:PySem.W.Frag}{mg mb:Str->Option Value}{CX:CXT}{k:Nat}{fa a:Addr}{fd:FuncData}{sp:Sp}{s₁:Shared}{vs:List Value}{ns:List Int}{ts:List Addr}
  (KX:K.In s₁.heap) (hns:s₁.heap.Ns mainGlobals mg) (hb:s₁.heap.Ns builtinsNs mb) (hbb:∀ x:Str,x ≠ "__name__" → mb x=bootBuiltins x) (hlim:s₁.heap.NoLimit) (hg:s₁.gens = #[])
  (ha:s₁.heap.get? a=some { cls:=.type "list",data:=.seq vs.toArray }) (hi:IntsAre vs ns) (hl:ns.length≤sizeLine) (hr:Room k callerA)
  (hT:∀ p∈ts,s₁.heap.get? p=some (PySem.W.tabObj #[])) (hTK:∀ p∈ts,K.lookup p=none) (hTc:∀ p∈ts,∃ c,PySem.W.codeHdIn K c p=true)
  (hbm:∃ bm ob,mg "__builtins__" = some (.ref bm)∧bm≠builtinsNs∧s₁.heap.get? bm=some ob∧ob.cls=.type "module" ∧ ob.dict=some builtinsNs∧ob.data=.plain)
  (F:∀ base:Heap,K.In base->base.Ns mainGlobals mg->(∀ p∈ts,mainGlobals≠p/\base.BuiltinsAt mg p)->FnOk P w K mg base CX k fa fd [x] sp) (hbind:∀ (s:Shared) (u:Value),BindsTo s fd ⟨[u],[]⟩ [(x,u)])
  (hsp:∀ H:Hp,SqL K H a (ns.map V.int)->(∀ p∈ts,H p=some (.tbl #[]))->sp [.ref a] H (fun v _=>v=.bl true) fun _ _ _=>False)
  (hCX:∀ H e s',CX [] H s₁ (fun _ _ _=>False) e s'->False) :
  codeAny (model P w) callerA (.call (.ref fa) ⟨[.ref a],[]⟩) (fun r s'=>r=.ok (.ret (.bool true))/\OldK s₁.heap s'.heap/\s'.os=s₁.os/\AllBare s'.gens) s₁:=by
 have rv:=lK hi
 have I:=hi.length
 have aT:a∉ts:=fun z=>by
  have:=hT a z;rw [ha] at this
  cases this
 have B:∀ H:Hp,(∀ b,b∉ts->H b=none\/∃ o xs,H b=some (.frz o (.lst xs)))->(∀ p∈ts,H p=some (.tbl #[]))->SqL K H a (ns.map V.int)->HOk P w H s₁.heap->(∀ b,H b≠none->b=a\/b∈ts)->(H a≠none->K.lookup a=none) →
   codeAny (model P w) callerA (.call (.ref fa) ⟨[.ref a],[]⟩) (fun r s'=>r=.ok (.ret (.bool true))/\OldK s₁.heap s'.heap/\s'.os=s₁.os/\AllBare s'.gens) s₁:=by
  intro H hO G hS hok hA hK
  have g:∀ {b:Addr}{o:Obj},s₁.heap.get? b=some o->H b=none->(hidT s₁.heap H).get? b=some o:=fun e n=>vc e n
  have L:∀ {b:Addr}{o:Obj}{es:Array DictEntry}{ep:Nat},s₁.heap.get? b=some o->o.data=.dict es ep->H b=none:=fun {b o es ep} e d=>by
   cases q:H b with
   | none=>rfl
   | some u =>
    rcases hA b (by rw [q];simp) with e' | e'
    ·subst e'
     rw [ha] at e;cases e
     have d':Data.seq vs.toArray _=Data.dict es ep:=d
     cases d'
    ·rw [hT b e'] at e;cases e
     cases d
  have l:∀ {b:Addr}{m:Str->Option Value},s₁.heap.Ns b m->(hidT s₁.heap H).Ns b m:=fun {b m} ⟨o,es,ep,e,d,r⟩=>⟨o,es,ep,g e (L e d),d,r⟩
  have E:K.In (hidT s₁.heap H):=fun b o e=>g (KX b o e) (by
   cases q:H b with
   | none=>rfl
   | some u =>
    rcases hA b (by rw [q];simp) with e' | e'
    ·subst e'
     rw [hK (by rw [q];simp)] at e;cases e
    ·rw [hTK b e'] at e;cases e)
  have hM:Mod K mg (hidT s₁.heap H):=⟨E,l hns,⟨mb,l hb,hbb⟩,let ⟨mc,h1,h2⟩:=hlim;⟨mc,l h1,h2⟩⟩
  have e0:Env0 P w K mg (hidT s₁.heap H) callerA [] s₁ H:=⟨rfl,hM,fun b o e=>wS e,Nat.le_of_eq (ss _ _),trivial,fun b hb=>absurd (show b∈([]:List Addr) from hb) (by simp),hok,.of_eq hg⟩
  have O:∀ p∈ts,mainGlobals≠p/\(hidT s₁.heap H).BuiltinsAt mg p:=fun p hp=>by
   refine ⟨fun z=>?_,?_⟩
   ·obtain ⟨o,es,ep,ho,hd,_⟩:=hns
    rw [z,hT p hp] at ho
    cases ho
    cases hd
   obtain ⟨bm,ob,b1,b2,b3,b4,b5,b6⟩:=hbm;refine ⟨bm,ob,b1,b2,fun z=>?_,fun z=>?_,g b3 ?_,b4,b5,b6⟩
   ·obtain ⟨o,es,ep,ho,hd,_⟩:=hns
    rw [z,ho] at b3
    cases b3;rw [b6] at hd
    cases hd
   ·rw [z,hT p hp] at b3
    cases b3
    cases b6
   ·cases q:H bm with
    | none=>rfl
    | some u =>
     rcases hA bm (by rw [q];simp) with e' | e'
     ·rw [e',ha] at b3
      cases b3
      cases b6
     ·rw [hT bm e'] at b3
      cases b3
      cases b6
  refine am6 ((F _ E (l hns) O).run callerA [] s₁ H ⟨[.ref a],[]⟩ [.ref a] [.ref a] _ _ hr e0 (hbind s₁ (.ref a)) (.cons rfl .nil) (hsp H hS G)) fun r s' h=>?_
  cases r with
  | error e=>exact (hCX H e s' h).elim
  | ok fl =>
   cases fl with
   | next=>exact False.elim h
   | brk=>exact False.elim h
   | cont=>exact False.elim h
   | ret u =>
    obtain ⟨v,H',os,bare,un,D,r',q⟩:=h
    have q':v=.bl true:=q;subst q';obtain rfl:u=Value.bool true:=r';refine ⟨rfl,⟨fun b o e=>?_,fun b o e=>un.there b o e (by simp)⟩,os,bare⟩
    by_cases hb:b∈ts
    ·obtain ⟨more,z⟩:=un.tbls b _ (G b hb)
     have z2:s'.heap.get? b=some _:=D b _ z;rw [hT b hb] at e
     cases e;obtain ⟨cc,J⟩:=hTc b hb;exact .inr (.inl ⟨((PySem.W.codeHd_of_K KX J).tab (hT b hb)).isCodeTable,rfl,#[],more,rfl,z2⟩)
    refine .inl ?_
    cases q:H b with
    | none=>exact un.keep b o e q (by intro z;exact absurd (show b∈([]:List Addr) from z) (by simp)) (by simp)
    | some u =>
     rcases hO b hb with z | ⟨ob,xs,z⟩
     ·rw [q] at z;cases z
     ·have z2:=un.frzs b ob _ z
      obtain ⟨e1,_⟩:=hok b _ z;obtain ⟨e2,_⟩:=D b _ z2;rw [e] at e1;cases e1;exact e2
 have tab:∀ (H:Hp) b,b∈ts->ObjOk P w H s₁.heap b (.tbl #[]):=fun H b hb=>hT b hb
 cases hk:K.lookup a with
 | some o =>
  have e:=KX a o hk;rw [ha] at e
  cases e;refine B (fun b=>if b∈ts then some (.tbl #[]) else none) (fun b hb=>.inl (if_neg hb)) (fun p hp=>if_pos hp) (.inr ⟨_,vs.toArray,_,hk,rfl,rfl,rfl,by rw [zW,I];exact hl,by simpa using rv⟩) (fun b u z=>?_) (fun b z=>?_) fun z=>absurd (if_neg aT) z
  ·by_cases hb:b∈ts
   ·have z':=(if_pos hb).symm.trans z
    cases z';exact tab _ b hb
   ·have z':=(if_neg hb).symm.trans z
    cases z'
  ·by_cases hb:b∈ts
   ·exact .inr hb
   ·exact absurd (if_neg hb) z
 | none =>
  refine B (fun b=>if b∈ts then some (.tbl #[]) else if b=a then some (.frz { cls:=.type "list",data:=.seq vs.toArray } (.lst (ns.map V.int))) else none) (fun b hb=>?_) (fun p hp=>if_pos hp) (.inl (.inr ⟨{ cls:=.type "list",data:=.seq vs.toArray },(if_neg aT).trans (if_pos rfl)⟩)) (fun b u z=>?_) (fun b z=>?_) fun _=>hk
  ·by_cases hb2:b=a
   ·exact .inr ⟨_,_,(if_neg hb).trans (if_pos hb2)⟩
   ·exact .inl ((if_neg hb).trans (if_neg hb2))
  ·by_cases hb:b∈ts
   ·have z':=(if_pos hb).symm.trans z
    cases z';exact tab _ b hb
   ·have z':=(if_neg hb).symm.trans z
    by_cases hb2:b=a
    ·have C:=(if_pos hb2).symm.trans z'
     cases C;subst hb2;exact ⟨ha,by rw [zM];exact hl,vs,_,rv,ha⟩
    ·have C:=(if_neg hb2).symm.trans z'
     cases C
  ·by_cases hb:b∈ts
   ·exact .inr hb
   ·by_cases hb2:b=a
    ·exact .inl hb2
    ·exact absurd ((if_neg hb).trans (if_neg hb2)) z
theorem walk_ofT {l:PySem.W.OpenLaw}{n k:Nat}{q:Program}{loose:List Str}{XP:(Str->Option Value)->Heap->Prop}{YP:World->Heap->Prop}{d:DefRec}{K:Params->PySem.W.Frag}{CX:World->CXT}{sp:World->Sp}{ts:List Addr}
  (hn:l.most=some n) (hn2:n<=sizeLine) (hdf:d.params.defaults=[]) (hr:Room k callerA)
  (hY:∀ (w:World) (h:Heap),YP w h->(K w.params).In h/\∀ p∈ts,h.get? p=some (PySem.W.tabObj #[]))
  (F:∀ (w:World) (mg:Str->Option Value) (fa:Addr) (h:Heap),(K w.params).In h->h.Ns mainGlobals mg->mg d.name=some (.ref fa) →
   ∃ fd:FuncData,(∀ (s:Shared) (u:Value),BindsTo s fd ⟨[u],[]⟩ [(x,u)])/\(∀ p∈ts,(K w.params).lookup p=none)/\(∀ p∈ts,∃ c,PySem.W.codeHdIn (K w.params) c p=true) ∧
    ∀ base:Heap,(K w.params).In base->base.Ns mainGlobals mg->(∀ p∈ts,mainGlobals≠p/\base.BuiltinsAt mg p)->FnOk l.prog w (K w.params) mg base (CX w) k fa fd [x] (sp w))
  (hsp:∀ (w:World) (H:Hp) (a:Addr) (ns:List Int),ns.length<=n->SqL (K w.params) H a (ns.map V.int)->(∀ p∈ts,H p=some (.tbl #[]))->sp w [.ref a] H (fun v _=>v=.bl true) fun _ _ _=>False)
  (hCX:∀ (w:World) (H:Hp) (s:Shared) (e:Value) (s':Shared),CX w [] H s (fun _ _ _=>False) e s'->False) :
  PySem.W.WalkO q loose XP YP l.row.toRowW d [] (fun f vs=>PySem.call f vs):=by
 refine Att.attach_call hn hdf fun w s₀ s₁ mg mb fa o pm cd L a vs ns G Y ho hd O J C B r hg=>?_;obtain ⟨KX,hT⟩:=hY w _ Y;obtain ⟨fd,hb,I,E,hF⟩:=F w mg fa _ KX G.T.g J;exact tO KX G.T.g G.T.b G.T.builtins G.T.nolimit hg C B (zR r hn2) hr hT I E G.T.bmain hF hb (fun H hS D=>hsp w H a ns r hS D) fun H e s'=>hCX w H s₁ e s'
end L2
namespace L2
open PySem PySem.W PyProof.Rows
section
variable {α β:Type}{n:Nat}{lt:Nat->Nat->Bool}
def KWl (n:Nat) (lt:Nat->Nat->Bool):KasT α->(α->Prop)->Prop
 | .ret a,Q=>Q a
 | .ask i j k,Q=>i < n/\j < n/\KWl n lt (k (lt i j)) Q
theorem KWl.bind {f:α->KasT β}{Q:β->Prop}:∀ (t:KasT α),KWl n lt t (fun a=>KWl n lt (f a) Q)->KWl n lt (t.bind f) Q
 | .ret _,h=>h
 | .ask _ _ k,h=>⟨h.1,h.2.1,KWl.bind (k _) h.2.2⟩
theorem KWl.mono {Q Q':α->Prop} (hq:∀ a,Q a->Q' a):∀ (t:KasT α),KWl n lt t Q->KWl n lt t Q'
 | .ret a,h=>hq a h
 | .ask _ _ k,h=>⟨h.1,h.2.1,KWl.mono hq (k _) h.2.2⟩
theorem KWl.wp {cmp:Nat->Nat->(Bool->Shared->Prop)->Shared->Prop}{R:α->Shared->Prop}{s:Shared} (hc:∀ i j (C:Bool->Shared->Prop),i < n->j < n->C (lt i j) s->cmp i j C s):∀ (t:KasT α),KWl n lt t (fun a=>R a s)->t.kasWp cmp R s
 | .ret _,h=>h
 | .ask i j k,h=>hc i j _ h.1 h.2.1 (KWl.wp hc (k (lt i j)) h.2.2)
end
structure Pm (n:Nat) (p:Array Nat):Prop where
 pm:p.Perm (List.range n).toArray
section
variable {n:Nat}{p:Array Nat}{z:Nat->Int}
theorem Pm.size (h:Pm n p):p.size=n:=by rw [h.pm.size_eq];simp
theorem Pm.lt (h:Pm n p) (hn:0 < n) (i:Nat):p.getD i 0 < n:=by
 by_cases hi:i < p.size
 ·have e:p.getD i 0=p[i]:=by simp [Array.getD,hi]
  rw [e]
  have:=(Array.perm_iff_toList_perm.mp h.pm).mem_iff.mp (show p[i]∈p.toList by simp)
  simpa using this
 ·have e:p.getD i 0=0:=by simp [Array.getD,hi]
  rw [e];exact hn
theorem Pm.inj (h:Pm n p) {i j:Nat} (hi:i < n) (hj:j < n) (e:p.getD i 0=p.getD j 0):i=j:=by
 have hs:=h.size
 have nd:p.toList.Nodup:=(Array.perm_iff_toList_perm.mp h.pm).nodup_iff.mpr (by simpa using ai0)
 have e1:p.getD i 0=p.toList[i]'(by simpa [hs] using hi):=by simp [Array.getD,hs,hi]
 have e2:p.getD j 0=p.toList[j]'(by simpa [hs] using hj):=by simp [Array.getD,hs,hj]
 rw [e1,e2] at e
 by_cases q:i=j
 ·exact q
 ·exact absurd e (by
   rcases Nat.lt_or_gt_of_ne q with q | q
   ·exact List.pairwise_iff_getElem.mp nd i j _ _ q
   ·exact fun z=>List.pairwise_iff_getElem.mp nd j i _ _ q z.symm)
def Kz (z:Nat->Int) (p:Array Nat) (i:Nat):Int:=z (p.getD i 0)
def Up (z:Nat->Int) (p:Array Nat) (m:Nat):Prop:=∀ i j,i < j->j < m->Kz z p i < Kz z p j
def Dn (z:Nat->Int) (p:Array Nat) (m:Nat):Prop:=∀ i j,i < j->j < m->Kz z p j < Kz z p i
theorem mX {q:Array Nat}{i j:Nat} (h:p[i]?=q[j]?):Kz z p i=Kz z q j:=by
 unfold Kz;rw [Array.getD_eq_getD_getElem?,Array.getD_eq_getD_getElem?,h]
theorem Pm.ne (h:Pm n p) (hn:0 < n) (hz:∀ i j,i < n->j < n->z i=z j->i=j) {i j:Nat} (hi:i < n) (hj:j < n) (ij:i≠j):Kz z p i≠Kz z p j:=fun e=>ij (h.inj hi hj (hz _ _ (h.lt hn _) (h.lt hn _) e))
theorem Pm.rev (h:Pm n p) (i j:Nat):Pm n (kas_rev p i j):=⟨(mirror_perm p i j _).trans h.pm⟩
theorem Pm.bub (h:Pm n p) (i j:Nat):Pm n (bubble p i j):=⟨(bubble_perm p i j).trans h.pm⟩
variable (z) in
abbrev ltz:Nat->Nat->Bool:=fun i j=>decide (z i < z j)
theorem nR (h:Pm n p) (hn:0 < n) (hz:∀ i j,i < n->j < n->z i=z j->i=j):∀ (f m:Nat),1<=m->m+f<=n->Up z p m->KWl n (ltz z) (kas_asc p f m) fun m'=>m<=m'/\m'<=m+f/\Up z p m'/\(m'=m+f\/Kz z p m' < Kz z p (m' - 1))
 | 0,m,_,_,u=>⟨zQ _,zQ _,u,.inl rfl⟩
 | f+1,m,h1,hm,u=>by
  refine ⟨h.lt hn _,h.lt hn _,?_⟩
  by_cases c:Kz z p m < Kz z p (m - 1)
  ·rw [show ltz z (p.getD m 0) (p.getD (m - 1) 0)=true from zZ c]
   dsimp only;rw [if_pos rfl];exact ⟨zQ _,by omega,u,.inr c⟩
  ·rw [show ltz z (p.getD m 0) (p.getD (m - 1) 0)=false from aa9 c]
   dsimp only;rw [if_neg (by decide)]
   have c':Kz z p (m - 1) < Kz z p m:=by
    have:=h.ne hn hz (show m < n by omega) (show m - 1 < n by omega) (by omega)
    omega
   refine KWl.mono (fun m' q=>⟨by omega,by omega,q.2.2.1,?_⟩) _ (nR h hn hz f (m+1) (by omega) (by omega) fun i j g hj=>?_)
   ·rcases q.2.2.2 with q | q
    ·exact .inl (by omega)
    ·exact .inr q
   ·by_cases hjm:j < m
    ·exact u i j g hjm
    ·obtain rfl:j=m:=by omega
     by_cases him:i=j - 1
     ·rw [him];exact c'
     ·exact Int.lt_trans (u i (j - 1) (by omega) (by omega)) c'
theorem qo (h:Pm n p) (hn:0 < n) (hz:∀ i j,i < n->j < n->z i=z j->i=j):∀ (f m:Nat),1<=m->m+f<=n->Dn z p m->KWl n (ltz z) (kas_desc f p m 0) fun r=>r.1=p/\r.2.2=0/\m<=r.2.1/\r.2.1<=m+f/\Dn z p r.2.1
 | 0,m,_,_,u=>⟨rfl,rfl,zQ _,zQ _,u⟩
 | f+1,m,h1,hm,u=>by
  refine ⟨h.lt hn _,h.lt hn _,?_⟩
  by_cases c:Kz z p m < Kz z p (m - 1)
  ·rw [show ltz z (p.getD m 0) (p.getD (m - 1) 0)=true from zZ c]
   dsimp only;rw [if_pos rfl,if_neg (by decide)]
   refine KWl.mono (fun r q=>⟨q.1,q.2.1,by omega,by omega,q.2.2.2.2⟩) _ (qo h hn hz f (m+1) (by omega) (by omega) fun i j hij hj=>?_)
   by_cases hjm:j < m
   ·exact u i j hij hjm
   ·obtain rfl:j=m:=by omega
    by_cases him:i=j - 1
    ·rw [him];exact c
    ·exact Int.lt_trans c (u i (j - 1) (by omega) (by omega))
  ·rw [show ltz z (p.getD m 0) (p.getD (m - 1) 0)=false from aa9 c]
   dsimp only;rw [if_neg (by decide)]
   have c':Kz z p (m - 1) < Kz z p m:=by
    have:=h.ne hn hz (show m < n by omega) (show m - 1 < n by omega) (by omega)
    omega
   refine ⟨h.lt hn _,h.lt hn _,?_⟩;rw [show ltz z (p.getD (m - 1) 0) (p.getD m 0)=true from zZ c'];dsimp only;rw [if_pos rfl];exact ⟨rfl,rfl,zQ _,aj4 _ _,u⟩
theorem yP (h:Pm n p) {m:Nat} (hm:m<=n) (u:Dn z p m):Up z (kas_rev p 0 m) m:=by
 intro i j l hj
 have g:∀ k,k < m->Kz z (kas_rev p 0 m) k=Kz z p (m - 1 - k):=fun k hk=>by
  refine mX ?_;unfold kas_rev;rw [getElem?_mirror_all (by rw [h.size];exact hm),if_pos ⟨ab1 _,hk⟩,Nat.zero_add]
 rw [g i (by omega),g j hj]
 exact u _ _ (by omega) (by omega)
theorem vE (h:Pm n p) (hn:0 < n) (hz:∀ i j,i < n->j < n->z i=z j->i=j) {m:Nat} (h1:1<=m) (hm:m<=n) (u:Dn z p m):KWl n (ltz z) (kas_tail3 m n p) fun r=>Pm n r.2/\1<=r.1/\r.1<=n/\Up z r.2 r.1:=by
 unfold kas_tail3;refine KWl.bind _ (KWl.mono (fun m' q=>?_) _ (nR (h.rev 0 m) hn hz (n - m) m h1 (by omega) (yP h hm u)))
 exact ⟨h.rev 0 m,by omega,by omega,q.2.2.1⟩
theorem vF (h:Pm n p) (h2:2<=n) (hz:∀ i j,i < n->j < n->z i=z j->i=j):KWl n (ltz z) (kas_count n p) fun r=>Pm n r.2/\1<=r.1/\r.1<=n/\Up z r.2 r.1:=by
 have hn:0 < n:=by omega
 unfold kas_count;refine KWl.bind _ (KWl.mono (fun m q=>?_) _ (nR h hn hz (n - 1) 1 (zQ 1) (by omega) fun i j _ _=>by omega))
 by_cases e:m=n
 ·rw [if_pos (by simpa using e)]
  exact ⟨h,by omega,by omega,q.2.2.1⟩
 ·rw [if_neg (by simpa using e)]
  by_cases e1:m > 1
  ·rw [if_pos e1]
   refine ⟨h.lt hn _,h.lt hn _,?_⟩;rw [show ltz z (p.getD 0 0) (p.getD (m - 1) 0)=true from zZ (q.2.2.1 0 (m - 1) (by omega) (by omega))]
   dsimp only;rw [if_pos rfl];exact ⟨h,by omega,by omega,q.2.2.1⟩
  ·rw [if_neg e1]
   obtain rfl:m=1:=by omega
   have c:Kz z p 1 < Kz z p 0:=by
    rcases q.2.2.2 with c | c
    ·omega
    ·exact c
   unfold kas_descPart;refine KWl.bind _ (KWl.mono (fun r q'=>?_) _ (qo h hn hz (n - (1+1)) (1+1) (by omega) (by omega) fun i j g hj=>?_))
   ·obtain ⟨p',m',q0⟩:=r
    obtain ⟨e1,e2,e3,e4,e5⟩:=q';dsimp only at e1 e2 e3 e4 e5 ⊢;subst e1 e2;rw [if_neg (by decide)]
    exact vE h hn hz (by omega) (by omega) e5
   ·obtain rfl:j=1:=by omega
    obtain rfl:i=0:=by omega
    exact c
theorem jA (h:Pm n p) (hn:0 < n) (hz:∀ i j,i < n->j < n->z i=z j->i=j) {k:Nat} (hk:k < n) (u:Up z p k):∀ (f l r:Nat),r<=l+f->l<=r->r<=k->(∀ i,i < l->Kz z p i < Kz z p k)->(∀ i,r<=i->i < k->Kz z p k < Kz z p i) →
  KWl n (ltz z) (kas_place p k f l r) fun l'=>l'<=k/\(∀ i,i < l'->Kz z p i < Kz z p k)/\(∀ i,l'<=i->i < k->Kz z p k < Kz z p i)
 | 0,l,r,hf,hl,hr,h1,h2=>by
  obtain rfl:l=r:=by omega
  exact ⟨hr,h1,h2⟩
 | f+1,l,r,hf,hl,hr,h1,h2=>by
  unfold kas_place
  by_cases e:l ≥ r
  ·rw [if_pos e]
   obtain rfl:l=r:=by omega
   exact ⟨hr,h1,h2⟩
  ·rw [if_neg e]
   refine ⟨h.lt hn _,h.lt hn _,?_⟩
   by_cases c:Kz z p k < Kz z p ((l+r) / 2)
   ·rw [show ltz z (p.getD k 0) (p.getD ((l+r) / 2) 0)=true from zZ c]
    dsimp only;rw [if_pos rfl];refine jA h hn hz hk u f l ((l+r) / 2) (by omega) (by omega) (by omega) h1 fun i hi g=>?_
    by_cases q:i=(l+r) / 2
    ·rw [q];exact c
    ·exact Int.lt_trans c (u _ _ (by omega) g)
   ·rw [show ltz z (p.getD k 0) (p.getD ((l+r) / 2) 0)=false from aa9 c]
    dsimp only;rw [if_neg (by decide)]
    have c':Kz z p ((l+r) / 2) < Kz z p k:=by
     have:=h.ne hn hz (show k < n by omega) (show (l+r) / 2 < n by omega) (by omega)
     omega
    refine jA h hn hz hk u f ((l+r) / 2+1) r (by omega) (by omega) hr (fun i hi=>?_) h2
    by_cases q:i=(l+r) / 2
    ·rw [q];exact c'
    ·exact Int.lt_trans (u _ _ (by omega) (by omega)) c'
theorem tP (hn:0 < n) (hz:∀ i j,i < n->j < n->z i=z j->i=j):∀ (f:Nat) (p:Array Nat) (k:Nat),Pm n p->k+f<=n->Up z p k->KWl n (ltz z) (kas_bin f p k) fun p'=>Pm n p'/\Up z p' (k+f)
 | 0,p,k,h,_,u=>⟨h,u⟩
 | f+1,p,k,h,hk,u=>by
  unfold kas_bin;refine KWl.bind _ (KWl.mono (fun l q=>?_) _ (jA h hn hz (show k < n by omega) u k 0 k (by omega) (by omega) (zQ _) (fun i hi=>absurd hi (af5 i)) fun i h1 h2=>by omega))
  obtain ⟨q1,q2,q3⟩:=q;refine KWl.mono (fun p' q'=>⟨q'.1,by rw [show k+(f+1)=k+1+f by omega];exact q'.2⟩) _ (tP hn hz f _ (k+1) (h.bub k (k - l)) (by omega) fun i j hij hj=>?_)
  have g:∀ i,Kz z (bubble p k (k - l)) i=if i=l then Kz z p k else if l < i/\i<=k then Kz z p (i - 1) else Kz z p i:=fun i=>by
   have e:=getElem?_bubble (xs:=p) (src:=k) (by rw [h.size];omega) (k - l) (by omega) i
   rw [show k - (k - l)=l by omega] at e
   by_cases c1:i=l
   ·rw [if_pos c1] at e ⊢;exact mX e
   ·rw [if_neg c1] at e ⊢
    by_cases c2:l < i/\i<=k
    ·rw [if_pos c2] at e ⊢;exact mX e
    ·rw [if_neg c2] at e ⊢;exact mX e
  rw [g i,g j]
  repeat' split
  all_goals first
   | (exfalso;omega)
   | exact q2 _ (by omega)
   | exact q3 _ (by omega) (by omega)
   | exact u _ _ (by omega) (by omega)
theorem xz (h2:2<=n) (hz:∀ i j,i < n->j < n->z i=z j->i=j):KWl n (ltz z) (kas_sort n) fun p=>Pm n p/\Up z p n:=by
 unfold kas_sort;refine KWl.bind _ (KWl.mono (fun r q=>?_) _ (vF (p:=(List.range n).toArray) ⟨Array.Perm.refl _⟩ h2 hz));obtain ⟨m,p⟩:=r;obtain ⟨q1,q2,q3,q4⟩:=q;dsimp only at q1 q2 q3 q4 ⊢
 by_cases c:m < n
 ·rw [if_pos c]
  have e:max m 1=m:=by omega
  rw [e];refine KWl.mono (fun p' q'=>⟨q'.1,?_⟩) _ (tP (by omega) hz (n - m) p m q1 (by omega) q4)
  have:=q'.2
  rwa [show m+(n - m)=n by omega] at this
 ·rw [if_neg c]
  obtain rfl:m=n:=by omega
  exact ⟨q1,q4⟩
end
end L2
namespace L2
open PySem PySem.Spec PySem.W PyProof.Rows
section
variable {P:Program}{w:World}{K:PySem.W.Frag}{mg:Str->Option Value}{base:Heap}{A A':Around}{outer:List Env}{s s':Shared}{H H':Hp}
theorem Env0.nofr (e0:Env0 P w K mg base A outer s H) {b:Addr}{o:Obj} (e:base.get? b=some o):b∉frs outer:=fun hb=>by
 have:=(e0.funs.mem hb).1;rw [e] at this;cases this
theorem Env0.after (e0:Env0 P w K mg base A outer s H) (hA:A'.frames=A.frames) (un:Un (frs outer) [] H H' s.heap s'.heap) (hok:HOk P w H' s'.heap) (bare:AllBare s'.gens) (hsz:s.heap.objs.size<=s'.heap.objs.size):Env0 P w K mg base A' outer s' H':=by
 have g:∀ b:Addr,b∉([]:List Addr):=fun b=>ab9;refine ⟨hA.trans e0.frames,e0.mod,fun b o e=>?_,zR e0.bsz hsz,?_,fun b hb=>?_,hok,bare⟩
 ·obtain ⟨h1,h2⟩:=e0.bs b o e
  exact ⟨un.keep b o h1 h2 (e0.nofr e) (g b),un.free b o h1 h2 (g b)⟩
 ·have all:∀ (l:List Env),(∀ b∈frs l,b∈frs outer)->s.heap.FunFrames base l->s'.heap.FunFrames base l:=by
   intro l
   induction l with
   | nil=>intro _ _;trivial
   | cons env r ih =>
    intro hs hl;obtain ⟨hk,⟨L,o,hf,hn,ho,hd⟩,hr⟩:=hl
    have hL:L∈frs outer:=hs L (by unfold frs;rw [ak2,hf];exact ac9)
    obtain ⟨sl,e⟩:=un.slot L o ho (e0.frf L hL) hL (g L);exact ⟨hk,⟨L,_,hf,hn,e,hd⟩,ih (fun b hb=>hs b (by unfold frs;rw [ak2,hf];exact ac3 _ hb)) hr⟩
  exact all outer (fun _ hb=>hb) e0.funs
 ·obtain ⟨_,o,ho,_⟩:=e0.funs.mem hb
  exact un.free b o ho (e0.frf b hb) (g b)
theorem Env0.lt (e0:Env0 P w K mg base A outer s H) {b:Addr} (hb:b∈frs outer):b < s.heap.objs.size:=by
 obtain ⟨_,o,ho,_⟩:=e0.funs.mem hb;exact zU ho
end
def keyV (c:Int) (n:Nat):HO:=.tup [.int c,.int (n:Nat)]
section
variable {P:Program}{w:World}{A:Around}{s:Shared}{H:Hp}
theorem xA {t u:Addr}{c d:Int}{m n:Nat}{Q:Bool->Shared->Prop}{E:Value->Shared->Prop} (hok:HOk P w H s.heap) (h1:H t=some (keyV c m)) (h2:H u=some (keyV d n)) (hcalm:A.handled=none) (hu:A.units+64 < cLine) (q:Q (decide (c < d\/c=d/\m < n)) s) :
  wpAny (model P w) A (keyLt' (tuples' true) (.ref t) (.ref u)) Q E s:=by
 obtain ⟨_,C,r,ot,e1,e2,n1,e3⟩:=hok t _ h1;obtain ⟨_,B,r',ou,g,G,D,l⟩:=hok u _ h2;obtain ⟨x,y,rfl,⟨t1,rfl⟩,⟨t2,rfl⟩⟩:=jZ r;obtain ⟨x',y',rfl,⟨t3,rfl⟩,⟨t4,rfl⟩⟩:=jZ r';refine kat_lt e1 e3 g l ?_;refine kat_cons (wpAny_eqBool_int ?_)
 by_cases h:c=d
 ·rw [show (c == d)=true from by simpa using h]
  refine kat_yes (kat_cons (wpAny_eqBool_int ?_))
  by_cases h':m=n
  ·subst h h'
   rw [show (((m:Nat):Int) == ((m:Nat):Int))=true from by simp]
   refine kat_yes (kat_nil ?_)
   have e:decide (c < c\/c=c/\m < m)=false:=aa9 (by omega)
   rw [e] at q;exact q
  ·rw [show (((m:Nat):Int) == ((n:Nat):Int))=false from by
    have:((m:Nat):Int)≠((n:Nat):Int):=by omega
    simpa using this]
   refine kat_no ?_;rw [show (true && (0+1 == 0))=false from rfl];refine kat_one _ _ ?_;refine lt_int ?_
   have e:decide (c < d\/c=d/\m < n)=decide (((m:Nat):Int) < ((n:Nat):Int)):=by
    by_cases z:m < n
    ·rw [zZ (by omega:((m:Nat):Int) < (n:Nat)),zZ (.inr ⟨h,z⟩)]
    ·rw [aa9 (by omega:¬ ((m:Nat):Int) < (n:Nat)),aa9 (by omega)]
   rw [e] at q;exact q
 ·rw [show (c == d)=false from by simpa using h]
  refine kat_no ?_;rw [show (true && (0 == 0))=true from rfl];refine oneLt_int ?_
  have e:decide (c < d\/c=d/\m < n)=decide (c < d):=by
   by_cases z:c < d
   ·rw [zZ z,zZ (.inl z)]
   ·rw [aa9 z,aa9 (by omega)]
  rw [e] at q;exact q
def klt (ck:Nat->Int) (m n:Nat):Prop:=ck m < ck n\/ck m=ck n/\m < n
instance (ck:Nat->Int) (m n:Nat):Decidable (klt ck m n):=inferInstanceAs (Decidable (_\/_/\_))
def Keys (H:Hp) (ck:Nat->Int):List Nat->List Value->Prop
 | [],[]=>True
 | n :: ns,k :: ks=>(∃ t,k=.ref t/\H t=some (keyV (ck n) n))/\Keys H ck ns ks
 | _,_=>False
theorem Keys.snoc {ck:Nat->Int}{n:Nat}{t:Addr} (h:H t=some (keyV (ck n) n)):∀ {ns:List Nat}{ks:List Value},Keys H ck ns ks->Keys H ck (ns++[n]) (ks++[.ref t])
 | [],[],_=>⟨⟨t,rfl,h⟩,trivial⟩
 | [],_ :: _,z=>z.elim
 | _ :: _,[],z=>z.elim
 | _ :: _,_ :: _,z=>⟨z.1,Keys.snoc h z.2⟩
theorem Keys.imp {H':Hp}{ck:Nat->Int} (h:∀ t xs,H t=some (.tup xs)->H' t=some (.tup xs)):∀ {ns:List Nat}{ks:List Value},Keys H ck ns ks->Keys H' ck ns ks
 | [],[],_=>trivial
 | [],_ :: _,z=>z.elim
 | _ :: _,[],z=>z.elim
 | _ :: _,_ :: _,⟨⟨t,e,z⟩,r⟩=>⟨⟨t,e,h t _ z⟩,Keys.imp h r⟩
theorem Keys.length {ck:Nat->Int}:∀ {ns:List Nat}{ks:List Value},Keys H ck ns ks->ks.length=ns.length
 | [],[],_=>rfl
 | [],_ :: _,z=>z.elim
 | _ :: _,[],z=>z.elim
 | _ :: _,_ :: _,z=>by rw [ac7,ac7,Keys.length z.2]
theorem Keys.get {ck:Nat->Int}:∀ {ns:List Nat}{ks:List Value}{i:Nat},Keys H ck ns ks->i < ns.length->∃ t,ks.getD i Value.none=.ref t/\H t=some (keyV (ck (ns.getD i 0)) (ns.getD i 0))
 | [],_,i,_,hi=>absurd hi (af5 i)
 | _ :: _,[],_,z,_=>z.elim
 | _ :: _,_ :: _,0,⟨⟨t,e,z⟩,_⟩,_=>⟨t,e,z⟩
 | _ :: ns,_ :: ks,i+1,z,hi=>Keys.get (ns:=ns) (ks:=ks) (i:=i) z.2 (by simpa using hi)
theorem Keys.tups {ck:Nat->Int} (hok:HOk P w H s.heap):∀ {ns:List Nat}{ks:List Value},Keys H ck ns ks->∃ fs:List Value,KatTups s.heap ks fs/\fs.length=ns.length/\∀ v∈fs,∃ i t,v=Value.int i t
 | [],[],_=>⟨[],KatTups.nil,rfl,fun _ h=>absurd h ab9⟩
 | [],_ :: _,z=>z.elim
 | _ :: _,[],z=>z.elim
 | _ :: ns,_ :: ks,⟨⟨t,e,z⟩,r⟩=>by
  obtain ⟨fs,h1,h2,h3⟩:=Keys.tups hok r;obtain ⟨_,its,rv,ot,e1,e2,n1,e3⟩:=hok t _ z;obtain ⟨x,y,rfl,⟨t1,rfl⟩,⟨t2,rfl⟩⟩:=jZ rv;subst e;refine ⟨_ :: fs,KatTups.cons e1 e2 e3 rfl h1,by rw [ac7,ac7,h2],fun v hv=>?_⟩
  rcases aa5.mp hv with rfl | hv
  ·exact ⟨_,_,rfl⟩
  ·exact h3 v hv
def kzz (ck:Nat->Int) (ns:List Nat) (B:Int) (i:Nat):Int:=ck (ns.getD i 0) * B+(ns.getD i 0:Nat)
theorem kx {ck:Nat->Int}{ns:List Nat}{B:Nat} (hB:∀ n∈ns,n < B) {i j:Nat} (hi:i < ns.length) (hj:j < ns.length):kzz ck ns B i < kzz ck ns B j ↔ klt ck (ns.getD i 0) (ns.getD j 0):=by
 have mem:∀ i,i < ns.length->ns.getD i 0 < B:=fun i h=>hB _ (by rw [zK,zL h];exact ae1 h)
 have a:=mem i hi
 have b:=mem j hj;unfold kzz klt;generalize ns.getD i 0=m at a;generalize ns.getD j 0=n at b;generalize ck m=c;generalize ck n=d
 constructor
 ·intro h
  rcases Int.lt_trichotomy c d with z | z | z
  ·exact .inl z
  ·subst z;exact .inr ⟨rfl,by omega⟩
  ·exfalso
   have:(d+1) * (B:Int)<=c * B:=Int.mul_le_mul_of_nonneg_right (by omega) (by omega)
   rw [Int.add_mul] at this;omega
 ·intro h
  rcases h with z | ⟨rfl,z⟩
  ·have:(c+1) * (B:Int)<=d * B:=Int.mul_le_mul_of_nonneg_right (by omega) (by omega)
   rw [Int.add_mul] at this;omega
  ·omega
end
end L2
namespace L2
open PySem PySem.Spec PySem.W PyProof.Rows
section
variable {fs ex:List Addr}{H H':Hp}{h h' h'':Heap}{x:Addr}{P:Program}{w:World}
theorem Un.turn (u:Un fs ex H H' h h') (hx:h.objs.size<=x) (k:∀ b o,b≠x->h'.get? b=some o->h''.get? b=some o):Un fs ex H H' h h'' where
 keep:=fun b o e n hb he=>k b o (aa4 (aa2 (zU e) hx)) (u.keep b o e n hb he)
 slot:=fun b o e n hb he=>let ⟨sl,z⟩:=u.slot b o e n hb he;⟨sl,k b _ (aa4 (aa2 (zU e) hx)) z⟩
 free:=u.free
 there:=fun b o e he=>let ⟨o',z⟩:=u.there b o e he;⟨o',k b _ (aa4 (aa2 (zU e) hx)) z⟩
 tups:=u.tups
 frzs:=u.frzs
 tbls:=u.tbls
theorem HOk.turn (ok:HOk P w H h) (hx:H x=none) (k:∀ b o,b≠x->h.get? b=some o->h'.get? b=some o):HOk P w H h':=fun b o e=>by
 have ne:∀ c u,H c=some u->c≠x:=fun c u e z=>by rw [z,hx] at e;cases e
 refine (ok b o e).stay (fun c v hc q=>k c v ?_ q) (fun _ q=>q) fun _ _ q=>q;rcases hc with z | z
 ·rw [z];exact ne b o e
 ·exact ne c _ z
theorem Un.trk {o:HO} (u:Un fs ex H H' h h') (hx:h.objs.size<=x) (n:H' x=none):Un fs ex H (upd H' x o) h h' where
 keep:=u.keep
 slot:=u.slot
 free:=fun b q e m he=>by
  rw [ae (aa4 (aa2 (zU e) hx))];exact u.free b q e m he
 there:=u.there
 tups:=fun b xs e=>by
  have z:=u.tups b xs e;rw [ae (am z n)];exact z
 frzs:=fun b q v e=>by
  have z:=u.frzs b q v e;rw [ae (am z n)];exact z
 tbls:=fun b ps e=>by
  obtain ⟨m,z⟩:=u.tbls b ps e;exact ⟨m,by rw [ae (am z n)];exact z⟩
theorem HOk.trk {o:HO} (ok:HOk P w H h) (n:H x=none) (new:ObjOk P w (upd H x o) h x o):HOk P w (upd H x o) h:=fun b u e=>by
 by_cases hb:b=x
 ·subst hb;rw [ab] at e;cases e;exact new
 ·rw [ae hb] at e
  exact (ok b u e).stay (fun _ _ _ q=>q) (fun c q=>by rw [ae (am q n)];exact q) fun c xs q=>by rw [ae (am q n)];exact q
end
def cq (ns:List Nat):List V:=ns.map fun n=>.int ((n:Nat):Int)
theorem gF {ns:List Nat}{vs:List Value} (r:Vals (cq ns) vs):vs.length=ns.length/\∀ i,i < ns.length->∃ t,vs.getD i Value.none=Value.int (ns.getD i 0:Nat) t:=by
 have hl:=r.length;unfold cq at hl;rw [zM] at hl;refine ⟨hl.symm,fun i hi=>?_⟩
 obtain ⟨u,h1,t,rfl⟩:=r.get (i:=i) (x:=.int ((ns.getD i 0:Nat):Int)) (by
  unfold cq;rw [zO,zL hi,zK,zL hi]
  rfl)
 exact ⟨t,by rw [zK,h1];rfl⟩
section
variable {P:Program}{w:World}{K:PySem.W.Frag}{mg:Str->Option Value}{base:Heap}{A:Around}{outer:List Env}{s:Shared}{H:Hp}{k:Nat}{sp:SpV}{l fa:Addr}{vs:List Value}{ns:List Nat}{ck:Nat->Int}{B:Nat}{Q:VK}{E:Value->Shared->Prop}
theorem tQ {s':Shared}{H':Hp}{D kS:Addr}{ks:List Value}{e e1:Nat}{R:PySem.Fin->Shared->Prop} (hA:A.handled=none) (hAu:A.units+64 < cLine) (r:Vals (cq ns) vs) (nd:ns.Nodup) (hB:∀ n∈ns,n < B) (h64:ns.length < 64)
  (hok:HOk P w H' s'.heap) (hD:s'.heap.get? D=some (seqObj "list" #[] e1)) (hk:s'.heap.get? kS=some (seqObj "list" ks.toArray e)) (hDk:D≠kS) (hK:Keys H' ck ns ks)
  (fin:∀ (h':Heap) (ms:List Nat) (out:List Value) (c:Nat),(∀ b o,b≠D→b≠kS→s'.heap.get? b=some o→h'.get? b=some o)→h'.get? D=some (seqObj "list" out.toArray c)→Vals (cq ms) out→ms.Perm ns→ms.Pairwise (klt ck)→R (.done (.ret .none)) { s' with heap:=h' }) :
  wpAny (model P w) A (ksk_end D false vs.toArray e1 (.ref kS) ks.toArray) R E s':=by
 obtain ⟨G,Y⟩:=gF r
 have X:=hK.length
 have tail:∀ (st:SortSt) (p:Array Nat),Pm ns.length p->arrOf st=p.map (kas_item (ks.toArray.zip vs.toArray))->failedOf st=none->(∀ i j,i < j->j < ns.length->klt ck (ns.getD (p.getD i 0) 0) (ns.getD (p.getD j 0) 0))->wpAny (model P w) A (ksk_tail D false e1 (.ref kS) st) R E s':=by
  intro st p hp I hf S
  have L:=kat_snds (ks:=ks) (vs:=vs) (by omega) I
  have O:=hp.size
  have s1:=aj1 s'.heap kS (Obj.mapSeq fun _=>(#[]:Array Value))
  have J:(s'.heap.update kS (Obj.mapSeq fun _=>(#[]:Array Value))).get? D=some (seqObj "list" #[] e1):=(s1.2 D hDk).trans hD
  have s2:=aj1 (s'.heap.update kS (Obj.mapSeq fun _=>(#[]:Array Value))) D (Obj.mapSeq fun _=>(arrOf st).map (·.2))
  obtain ⟨c2,H⟩:∃ c2,((s'.heap.update kS (Obj.mapSeq fun _=>(#[]:Array Value))).update D (Obj.mapSeq fun _=>(arrOf st).map (·.2))).get? D=some (seqObj "list" ((arrOf st).map (·.2)) c2):=⟨_,get?_update_seq J fun _=>(arrOf st).map (·.2)⟩
  unfold ksk_tail;try dsimp only
  refine zT (listUpdate_at hk rfl ?_ (by rw [zW,sizeLine_eq];omega) (ab1 _))
  refine zT (wpAny_letGo ?_);refine zT (seqEpoch_at J rfl ?_);simp only [ak9,if_false]
  refine zT (listUpdate_at J rfl ?_ (ab1 _) (by
   show ((arrOf st).map (·.2)).size<=_
   rw [L,zW,zM,ah7,O,sizeLine_eq];omega))
  rw [hf];simp only [bne_self_eq_false,ak9,if_false]
  have H:=H.trans (congrArg (fun z=>some (seqObj "list" z c2)) L)
  have pl:p.toList.Perm (List.range ns.length):=by simpa using Array.perm_iff_toList_perm.mp hp.pm
  have pin:∀ i∈p.toList,i < ns.length:=fun i hi=>aa1.mp (pl.mem_iff.mp hi);refine ab2 (fin _ (p.toList.map fun i=>ns.getD i 0) _ c2 (fun b o hb U q=>?_) H ?_ ?_ ?_)
  ·rw [s2.2 b hb,s1.2 b U];exact q
  ·unfold cq
   rw [ac4]
   have:∀ (ls:List Nat),(∀ i∈ls,i < ns.length)->Vals (ls.map ((fun n:Nat=>V.int ((n:Nat):Int)) ∘ fun i=>ns.getD i 0)) (ls.map fun i=>vs.getD i Value.none):=by
    intro ls
    induction ls with
    | nil=>intro _;exact .nil
    | cons i ls ih =>
     intro hl;obtain ⟨t,e⟩:=Y i (hl i (.head _));exact .cons ⟨t,e⟩ (ih fun j hj=>hl j (.tail _ hj))
   exact this _ pin
  ·have e0:(List.range ns.length).map (fun i=>ns.getD i 0)=ns:=by
    apply ad9
    intro i;rw [zO]
    by_cases hi:i < ns.length
    ·rw [ab0 hi,zL hi,ae3,zK,zL hi]
     rfl
    ·rw [zY (by rw [zS];omega),zY (by omega)]
     rfl
   have:=pl.map fun i=>ns.getD i 0
   rwa [e0] at this
  ·rw [List.pairwise_map,List.pairwise_iff_getElem]
   intro i j hi hj s
   have:=S i j s (by rw [ah7,O] at hj;exact hj)
   have g:∀ m (hm:m < p.toList.length),p.getD m 0=p.toList[m]:=fun m hm=>by
    have:m < p.size:=by simpa using hm
    simp [Array.getD,this]
   rw [g i hi,g j hj] at this;exact this
 unfold ksk_end;try dsimp only
 simp only [ak9,if_false]
 by_cases h2:vs.toArray.size < 2
 ·rw [if_pos h2,if_pos h2]
  rw [zW,G] at h2;refine zT (ab2 ?_);rw [StateT.run_pure];refine zT (ab2 ?_);try dsimp only
  refine tail _ (List.range ns.length).toArray ⟨Array.Perm.refl _⟩ ?_ rfl (fun i j s hj=>by omega)
  have e:=kas_range (ks.toArray.zip vs.toArray);rw [show (ks.toArray.zip vs.toArray).size=ns.length by simp [X,G]] at e
  rw [e]
 ·rw [if_neg h2,if_neg h2]
  rw [zW,G] at h2;obtain ⟨fs,t1,t2,t3⟩:=hK.tups hok
  refine zT (kat_kind (T:=.type "int") t1 (by omega) (fun v hv=>?_) rfl ?_)
  ·obtain ⟨i,t,rfl⟩:=t3 v hv
   exact Looks.of_pure rfl
  rw [show ((Value.type "int") != Value.type "tuple")=true from rfl]
  have hz:∀ i j,i < ns.length->j < ns.length->kzz ck ns B i=kzz ck ns B j->i=j:=fun i j hi hj e=>by
   have n1:¬ klt ck (ns.getD i 0) (ns.getD j 0):=fun z=>by have:=(kx hB hi hj).mpr z;omega
   have n2:¬ klt ck (ns.getD j 0) (ns.getD i 0):=fun z=>by have:=(kx hB hj hi).mpr z;omega
   have e3:ns.getD i 0=ns.getD j 0:=by
    unfold klt at n1 n2;generalize ck (ns.getD i 0)=c at n1 n2;generalize ck (ns.getD j 0)=d at n1 n2;omega
   rw [zK,zL hi,zK,zL hj] at e3;exact (List.getElem_inj nd).mp e3
  have ask:(kas_sort vs.length).kasWp (kas_ask P w A (tuples' true) ks) (fun p l=>l=s'/\Pm ns.length p/\Up (kzz ck ns B) p ns.length) s':=by
   rw [G];refine KWl.wp (lt:=ltz (kzz ck ns B)) (n:=ns.length) (fun i j C hi hj q=>?_) _ (KWl.mono (fun p q=>⟨rfl,q⟩) _ (xz (by omega) hz))
   obtain ⟨t,e1,e2⟩:=hK.get hi;obtain ⟨u,e3,e4⟩:=hK.get hj;unfold kas_ask;rw [e1,e3];refine xA hok e2 e4 hA hAu ?_
   have e5:decide (ck (ns.getD i 0) < ck (ns.getD j 0)\/ck (ns.getD i 0)=ck (ns.getD j 0)/\ns.getD i 0 < ns.getD j 0)=ltz (kzz ck ns B) i j:=by
    show _=decide _
    rw [decide_eq_decide];exact (kx hB hi hj).symm
   rw [e5];exact q
  refine zT (af3 (kat_run (Q:=fun h l=>∃ p:Array Nat,arrOf h=p.map (kas_item (ks.toArray.zip vs.toArray))/\failedOf h=none/\l=s'/\Pm ns.length p/\Up (kzz ck ns B) p ns.length) (by omega) (by omega) (by omega) (fun p' h l a1 a2 a3 a4=>⟨p',a2,a3,a4⟩) ask) ?_ fun _ _ x=>x)
  rintro ⟨⟨⟩,h⟩ l ⟨p,I,hf,rfl,hp,hu⟩;try dsimp only
  refine tail h p hp I hf fun i j s hj=>?_
  have:=hu i j s hj;exact (kx hB (hp.lt (by omega) i) (hp.lt (by omega) j)).mp this
end
end L2
namespace L2
open PySem PySem.Spec PySem.W PyProof.Rows
section
variable {P:Program}{w:World}{K:PySem.W.Frag}{mg:Str->Option Value}{base:Heap}{A:Around}{outer:List Env}{s:Shared}{H:Hp}{k:Nat}{sp:SpV}{l fa:Addr}{vs:List Value}{ns:List Nat}{ck:Nat->Int}{B:Nat}{Q:VK}{E:Value->Shared->Prop}
structure tR (P:Program) (w:World) (outer:List Env) (s:Shared) (H:Hp) (D kS:Addr) (e1:Nat) (ck:Nat->Int) (ns:List Nat) (s':Shared) (H':Hp) (ks:List Value) (e:Nat):Prop where
 os:s'.os=s.os
 bare:AllBare s'.gens
 un:Un (frs outer) [] H H' s.heap s'.heap
 hok:HOk P w H' s'.heap
 same:Same H H'
 hD:s'.heap.get? D=some (seqObj "list" #[] e1)
 nD:H' D=none
 hk:s'.heap.get? kS=some (seqObj "list" ks.toArray e)
 nk:H' kS=none
 keys:Keys H' ck ns ks
theorem rU {D kS:Addr}{e1:Nat}{s5:Shared}{R:PySem.Fin->Shared->Prop} (hr:Room k A) (e0:Env0 P w K mg base A outer s H) (r:Vals (cq ns) vs) (nd:ns.Nodup) (hB:∀ n∈ns,n < B) (h64:ns.length < 64)
  (hf:∀ (s':Shared) (H':Hp) (n:Nat) (x:Value),n∈ns->Same H H'->Env0 P w K mg base A outer s' H'->Un (frs outer) [] H H' s.heap s'.heap->RelV (.int ((n:Nat):Int)) x->codeAny (model P w) A (.call (.ref fa) ⟨[x],[]⟩) (CR CX0 outer P w H' s' (fun v H''=>∃ t,v=.ref t/\H'' t=some (keyV (ck n) n)/\Same H' H'') E0) s')
  (nDs:s.heap.objs.size<=D) (nks:s.heap.objs.size<=kS) (hDk:D≠kS) (S5:tR P w outer s H D kS e1 ck [] s5 H [] 0)
  (fin:∀ (s':Shared) (H':Hp) (ms:List Nat),s'.os=s.os->AllBare s'.gens->Un (frs outer) [] H (upd H' D (.lst (cq ms))) s.heap s'.heap->HOk P w (upd H' D (.lst (cq ms))) s'.heap->Same H H'->H' D=none->ms.Perm ns->ms.Pairwise (klt ck)->R (.done (.ret .none)) s') :
  wpAny (model P w) A (ksk_rest D (.ref fa) false vs.toArray e1 (.ref kS)) R E s5:=by
 obtain ⟨L,ad⟩:=gF r
 have g:∀ b:Addr,b∉([]:List Addr):=fun b=>ab9
 have ak:∀ {s':Shared},(∃ o,s'.heap.get? D=some o)->s.heap.objs.size<=s'.heap.objs.size:=fun {s'} ⟨o,z⟩=>zR nDs (ah4 (zU z))
 have X:D∉frs outer:=fun z=>absurd (e0.lt z) (Nat.not_lt.mpr nDs)
 have an:kS∉frs outer:=fun z=>absurd (e0.lt z) (Nat.not_lt.mpr nks);unfold ksk_rest;refine zT (wpAny_rule ?_);rw [<- Array.forIn_toList];refine zT (ksk_fold (I:=fun j s'=>∃ H' ks e,tR P w outer s H D kS e1 ck (ns.take j) s' H' ks e) vs 0 s5 ⟨H,[],0,S5⟩ (fun j x s' hx hI=>?_) fun s' hI=>?_)
 ·obtain ⟨H',ks,e,S⟩:=hI
  rw [Nat.zero_add] at S ⊢
  have hj:j < ns.length:=by rw [<- L];exact (zV.mp hx).1
  have hn:ns.getD j 0∈ns:=by rw [zK,zL hj];exact ae1 hj
  obtain ⟨t,ex⟩:=ad j hj;rw [zK,hx] at ex
  have ex:x=_:=ex
  have Q:=e0.after (A':=A) rfl S.un S.hok S.bare (ak ⟨_,S.hD⟩)
  have hc:=hf s' H' _ x hn S.same Q S.un ⟨t,ex⟩;refine zT (wpAny_attempt (wpAny_call (am6 hc fun rs h hq=>?_)))
  cases rs with
  | error _=>exact False.elim hq
  | ok fl =>
   cases fl with
   | next=>exact False.elim hq
   | brk=>exact False.elim hq
   | cont=>exact False.elim hq
   | ret u =>
    obtain ⟨v,H'',os,bare,un,hok,rv,q⟩:=hq;obtain ⟨ta,rfl,G,sm⟩:=q;obtain rfl:u=.ref ta:=rv
    have Z:=un.keep D _ S.hD S.nD X (g D)
    have l:=un.keep kS _ S.hk S.nk an (g kS)
    have Y:=un.free D _ S.hD S.nD (g D)
    have J:=un.free kS _ S.hk S.nk (g kS)
    have s1:=aj1 h.heap kS (Obj.mapSeq (·.push (.ref ta)))
    have k1:∀ b o,b≠kS->h.heap.get? b=some o->(h.heap.update kS (Obj.mapSeq (·.push (.ref ta)))).get? b=some o:=fun b o hb z=>(s1.2 b hb).trans z
    have ea:(List.toArray ks).push (.ref ta)=List.toArray (ks++[.ref ta]):=by simp
    have C:=S.keys.length;rw [ag0,Nat.min_eq_left (by omega)] at C
    obtain ⟨c2,U⟩:∃ c2,(h.heap.update kS (Obj.mapSeq (·.push (.ref ta)))).get? kS=some (seqObj "list" (List.toArray (ks++[.ref ta])) c2):=⟨_,by rw [← ea];exact get?_update_seq l (·.push (.ref ta))⟩
    show wpAny _ _ (do Builtin.List.listUpdate (.ref kS) (·.push (.ref ta));pure (ForInStep.yield PUnit.unit)) _ _ _
    refine zT (listUpdate_at l rfl ?_ (by rw [zW,sizeLine_eq];omega) (zR (Nat.le_of_eq (Array.size_push ..)) (by rw [zW,sizeLine_eq];omega)))
    refine ab2 ⟨rfl,H'',ks++[.ref ta],c2,os.trans S.os,bare,(S.un.trans un).turn nks k1,hok.turn J k1,fun b o z=>sm b o (S.same b o z),(k1 D _ hDk Z),Y,U,J,?_⟩;rw [List.take_succ,zL hj]
    have eg:ns.getD j 0=ns[j]:=by rw [zK,zL hj];rfl
    rw [eg] at G;exact Keys.snoc G (S.keys.imp fun t xs z=>un.tups t xs z)
 ·obtain ⟨H',ks,e,S⟩:=hI
  rw [Nat.zero_add,L,ai1] at S
  have C:=S.keys.length;refine zT (listItems_at S.hk rfl ?_);refine tQ hr.hd hr.units r nd hB h64 S.hok S.hD S.hk hDk S.keys fun h' ms T c kp hD rv pm pw=>?_
  have u1:Un (frs outer) [] H H' s.heap h':=⟨fun b o z n hb he=>?_,fun b o z n hb he=>?_,S.un.free,fun b o z he=>?_,S.un.tups,S.un.frzs,S.un.tbls⟩
  have O:HOk P w H' h':=fun b o z=>by
   have ne:∀ c u x,H' x=none->H' c=some u->c≠x:=fun c u x n z y=>by rw [y,n] at z;cases z
   refine (S.hok b o z).stay (fun c v hc q=>?_) (fun _ q=>q) fun _ _ q=>q;rcases hc with rfl | y
   ·exact kp c v (ne c o _ S.nD z) (ne c o _ S.nk z) q
   ·exact kp c v (ne c _ _ S.nD y) (ne c _ _ S.nk y) q
  refine fin _ H' ms S.os S.bare (u1.trk nDs S.nD) (O.trk S.nD ⟨?_,T,c,rv,hD⟩) S.same S.nD pm pw
  ·unfold cq
   rw [zM,pm.length_eq,sizeLine_eq];omega
  ·exact kp b o (aa4 (aa2 (zU z) nDs)) (aa4 (aa2 (zU z) nks)) (S.un.keep b o z n hb he)
  ·obtain ⟨sl,y⟩:=S.un.slot b o z n hb he
   exact ⟨sl,kp b _ (aa4 (aa2 (zU z) nDs)) (aa4 (aa2 (zU z) nks)) y⟩
  ·obtain ⟨o',y⟩:=S.un.there b o z he
   exact ⟨o',kp b _ (aa4 (aa2 (zU z) nDs)) (aa4 (aa2 (zU z) nks)) y⟩
theorem tS (hr:Room (k+2) A) (e0:Env0 P w K mg base A outer s H) (hl:s.heap.IsList l vs.toArray) (r:Vals (cq ns) vs) (nd:ns.Nodup) (hB:∀ n∈ns,n < B) (h64:ns.length < 64)
  (hf:∀ (s':Shared) (H':Hp) (n:Nat) (x:Value),n∈ns->Same H H'->Env0 P w K mg base A.in1.in1 outer s' H'->Un (frs outer) [] H H' s.heap s'.heap->RelV (.int ((n:Nat):Int)) x->codeAny (model P w) A.in1.in1 (.call (.ref fa) ⟨[x],[]⟩) (CR CX0 outer P w H' s' (fun v H''=>∃ t,v=.ref t/\H'' t=some (keyV (ck n) n)/\Same H' H'') E0) s')
  (hq:∀ (D:Addr) (H':Hp) (ms:List Nat),H D=none->H' D=none->Same H H'->ms.Perm ns->ms.Pairwise (klt ck)->Q (.ref D) (upd H' D (.lst (cq ms)))) :
  wpAny (model P w) A (call (.builtin "sorted") [.ref l] [(Str.ofString "key",.ref fa)]) (fun u s'=>CE outer P w H s Q u s') E s:=by
 obtain ⟨S,O⟩:=gF r;refine call_function_entry_kw kind_sorted plain_sorted entry_sorted (ksk_s1 _ _) ?_;unfold Builtin.«sorted»
 refine zT (m:=checkCount "sorted" 1 1 _) (ab2 ?_)
 refine zT (collect_list hl ?_ (by rw [sizeLine_eq];omega))
 refine zT (wpAny_newList ?_ (by rw [sizeLine_eq];omega))
 have C:((s.heap.push (seqObj "list" #[] 0)).update s.heap.objs.size (Obj.mapSeq (· ++ vs.toArray))).objs.size=s.heap.objs.size+1:=by
  rw [Heap.size_update,size_push']
 have g:(((s.heap.push (seqObj "list" #[] 0)).update s.heap.objs.size (Obj.mapSeq (· ++ vs.toArray))).push (seqObj "list" vs.toArray 0)).get? (s.heap.objs.size+1)=some (seqObj "list" vs.toArray 0):=by
  rw [<- C];exact aa8 _ rfl
 have keep:∀ b o,s.heap.get? b=some o→(((s.heap.push (seqObj "list" #[] 0)).update s.heap.objs.size (Obj.mapSeq (· ++ vs.toArray))).push (seqObj "list" vs.toArray 0)).get? b=some o:=fun b o q=>by
  have G:b < s.heap.objs.size:=zU q;rw [Heap.get?_push_ne _ _ _ (by rw [C];exact aa4 (ad0 G)),Heap.get?_update_ne _ _ _ _ (aa4 G),Heap.get?_push_ne _ _ _ (aa4 G)]
  exact q
 show wpAny _ _ _ _ _ { s with heap:=((s.heap.push (seqObj "list" #[] 0)).update s.heap.objs.size (Obj.mapSeq (· ++ vs.toArray))).push (seqObj "list" vs.toArray 0) }
 rw [C]
 generalize (((s.heap.push (seqObj "list" #[] 0)).update s.heap.objs.size (Obj.mapSeq (· ++ vs.toArray))).push (seqObj "list" vs.toArray 0))=h2 at g keep
 refine zT (ag8 (wpAny_call_entry_kw slot_list_sort ⟨_,g,rfl⟩ entry_list_sort ?body (ksk_l1 _ _)))
 show wpAny (model P w) A.in1.in1 (Builtin.«list.sort» ⟨[.ref (s.heap.objs.size+1)],[(Str.ofString "key",.ref fa)]⟩) _ _ _
 rw [ksk_t1];unfold ksk_tree
 have s1:=aj1 h2 (s.heap.objs.size+1) (Obj.mapSeq fun _=>(#[]:Array Value))
 obtain ⟨e1,I⟩:∃ e1,(h2.update (s.heap.objs.size+1) (Obj.mapSeq fun _=>(#[]:Array Value))).get? (s.heap.objs.size+1)=some (seqObj "list" #[] e1):=⟨_,get?_update_seq g fun _=>#[]⟩
 refine zT (listItems_at g rfl ?_);refine zT (listUpdate_at g rfl ?_ (by rw [zW,sizeLine_eq];omega) (ab1 _))
 refine zT (seqEpoch_at I rfl ?_);refine zT (wpAny_newTuple ?_ (by show vs.length<=_;rw [sizeLine_eq];omega))
 refine zT (wpAny_newList ?_ (ab1 _));refine ag8 ?_
 have J:∀ b o,s.heap.get? b=some o→(((h2.update (s.heap.objs.size+1) (Obj.mapSeq fun _=>(#[]:Array Value))).push (seqObj "tuple" vs.toArray 0)).push (seqObj "list" #[] 0)).get? b=some o:=fun b o q=>by
  refine zP _ (zP _ ?_);rw [s1.2 b (aa4 (ad0 (zU q)))];exact keep b o q
 have L:s.heap.objs.size+1 < h2.objs.size:=zU g
 have h:((h2.update (s.heap.objs.size+1) (Obj.mapSeq fun _=>(#[]:Array Value))).push (seqObj "tuple" vs.toArray 0)).objs.size=h2.objs.size+1:=by rw [size_push',Heap.size_update]
 have fr:∀ a,s.heap.objs.size<=a->H a=none:=fun a z=>e0.hok.fresh z
 refine rU (D:=s.heap.objs.size+1) (A:=A.in1.in1) (outer:=outer) (s:=s) (H:=H) (s5:={ s with heap:=((h2.update (s.heap.objs.size+1) (Obj.mapSeq fun _=>(#[]:Array Value))).push (seqObj "tuple" vs.toArray 0)).push (seqObj "list" #[] 0) }) (kS:=((h2.update (s.heap.objs.size+1) (Obj.mapSeq fun _=>(#[]:Array Value))).push (seqObj "tuple" vs.toArray 0)).objs.size) hr.in1.in1 (e0.after rfl Un.refl e0.hok e0.bare (zQ _)) r nd hB h64 hf (am5 _) (by have:=h;omega) (aa4 (by have:=h;omega))
  ⟨rfl,e0.bare,Un.kept J,e0.hok.kept J,fun _ _ z=>z,zP _ (zP _ I),fr _ (by omega),aa8 _ rfl,fr _ (by rw [h];omega),trivial⟩ ?_
 intro s' H' ms os bare un hok sm nD pm pw;exact ⟨_,rfl,ab2 ⟨_,rfl,.ref (s.heap.objs.size+1),_,os,bare,un,hok,rfl,hq _ H' ms (fr _ (by omega)) nD sm pm pw⟩⟩
end
def tT (ps:List Str) (vs:List V) (scope:Scope) (clos:List (Str × Addr)) (cv:List (Str × V)) (N:List Str) (σ:St):Prop :=
 σ.length=N.length/\∀ (i:Nat) (x:Str) (v:V),N[i]?=some x->σ[i]?=some (some v)->(ps[i]?=some x/\vs[i]?=some v)\/(scope.names.lookup x=some .free/\(∃ c,clos.lookup x=some c)/\cv.lookup x=some v)
structure CloL (scope:Scope) (clos:List (Str × Addr)) (cv:List (Str × V)) (H:Hp) (h:Heap):Prop where
 inj:∀ x y c,clos.lookup x=some c->clos.lookup y=some c->x=y
 has:∀ x,scope.names.lookup x=some .free->∃ c,clos.lookup x=some c
 val:∀ x c,clos.lookup x=some c->∃ v u,cv.lookup x=some v/\RelV v u/\h.IsCell c (some u)/\H c=none
section
variable {P:Program}{w:World}{K:PySem.W.Frag}{mg:Str->Option Value}{base:Heap}{A:Around}{outer:List Env}{s:Shared}{H:Hp}{N ps:List Str}{scope:Scope}{fa:Addr}{q:Str}{cd:Value}{clos:List (Str × Addr)}{cv:List (Str × V)}{vs:List V}{us:List Value}{σ0:St}{h':Heap}{tk:Nat}
theorem vG (S:dY N ps scope) (hd:A.handled=none) (e0:Env0 P w K mg base A outer s H) (r:Vals vs us) (C:CloL scope clos cv H s.heap) (h0:tT ps vs scope clos cv N σ0)
  (hn:h'.Ns s.heap.objs.size fun x=>(ps.zip us).reverse.lookup x) (hs:Heap.SameBut s.heap.objs.size (s.heap.push { cls:=.type "frame",data:=.dict #[] }) h') :
  Inv (cxC P w K mg base N (envC q scope s.heap.objs.size fa cd clos) A outer s H) [] σ0 H { s with heap:=h',toks:=tk }:=by
 have hk:∀ b o,s.heap.get? b=some o->h'.get? b=some o:=fun b o e=>by
  rw [hs.2 b (aa4 (zU e))];exact zP _ e
 have h:∀ b:Addr,b∉([]:List Addr):=fun b=>ab9
 have ik:∀ {c u},s.heap.IsCell c (some u)->h'.IsCell c (some u):=fun ⟨o,e1,e2⟩=>⟨o,hk _ _ e1,e2⟩
 refine ⟨⟨e0.mod,S.kind,rfl,rfl,zQ _,C.inj,fun x hx=>?_,(fun x c z=>Bool.noConfusion z),fun _=>hd,Around.frames_deeper e0.frames,.inr ⟨rfl,rfl⟩,fun b z=>absurd z (h b),e0.bs,e0.bsz,fun b _ _=>h b,fun b z=>absurd z (h b),e0.funs,e0.frf⟩,
  rfl,e0.bare,Un.kept hk,⟨_,hn,fun i x v h1 h2 h3=>?_⟩,fun x c e=>?_,?_,fun x c e=>?_,fun p hp=>absurd (show p∈([]:List (Addr × Obj)) from hp) (by simp),e0.hok.kept hk,h0.1⟩
 ·rcases hx with hx | hx
  ·exact absurd rfl (S.nocell _ (ae0 (show scope.names.lookup x=some .cell from hx)))
  ·exact C.has x hx
 ·rcases h0.2 i x v h1 h2 with ⟨hp,hv⟩ | ⟨hf,⟨c,hc⟩,hv⟩
  ·obtain ⟨u,hu,rv⟩:=r.get hv
   have l:ps.Nodup:=by rw [<- S.pre];exact S.nd.sublist (List.take_sublist _ _)
   exact ⟨u,rv,.inl ⟨S.par x (aa0 hp),ql l hp hu⟩⟩
  ·obtain ⟨v',u,g,ru,z,_⟩:=C.val x c hc
   rw [hv] at g
   cases g;exact ⟨u,ru,.inr ⟨.inr hf,c,hc,ik z⟩⟩
 ·obtain ⟨v',u,g,ru,z,_⟩:=C.val x c e
  exact ⟨_,ik z⟩
 ·exact e0.hok.fresh (zQ _)
 ·obtain ⟨v',u,g,_,_,n⟩:=C.val x c e
  exact n
theorem nU {k:Nat}{name:Str}{params:Arguments}{body:Expr}{pm ctv:Value}{c':Addr}{Q:VK}{E:XK}{t:TE} (S:dY N ps scope) (hr:Room (k+1) A) (e0:Env0 P w K mg base A outer s H) (r:Vals vs us)
  (hf:H fa=some (FunO fa (PySem.W.kla_fn name q params body scope clos pm (.ref c') ctv))) (hc:H c'=some (dm q c')) (hb:bindArgs (PySem.W.kla_fn name q params body scope clos pm (.ref c') ctv) ⟨us,[]⟩=pure (ps.zip us))
  (C:CloL scope clos cv H s.heap) (h0:tT ps vs scope clos cv N σ0)
  (ht:PE (cxC P w K mg base N (envC q scope s.heap.objs.size fa (.ref c') clos) A outer s H) body t) (hq:t σ0 H Q) :
  codeAny (model P w) A (.call (.ref fa) ⟨us,[]⟩) (CR CX0 outer P w H s Q E) s:=by
 have l:s.heap.NoLimit:=e0.mod.nolimit.keeps fun b o e=>(e0.bs b o e).1
 have ho:s.heap.get? fa=some { cls:=.type "function",data:=.func (PySem.W.kla_fn name q params body scope clos pm (.ref c') ctv) }:=(e0.hok fa _ hf).1
 have g:s.heap.CodeRec (.ref c') q:=(e0.hok c' _ hc).1;refine PySem.W.kla_callFunE hr.depth ho rfl S.co S.gen rfl g ?_;rw [hb];refine ab2 ?_;refine wpAny_newFunctionEnv S.nocell (fun x hx=>S.par x.1 (al4 hx).1) (fun h' hn hs=>?_) S.kind
 have hk:∀ b o,s.heap.get? b=some o->h'.get? b=some o:=fun b o e=>by
  rw [hs.2 b (aa4 (zU e))];exact zP _ e
 refine ⟨l.keeps hk,PySem.W.kla_codeExpr ?_⟩
 have I:=vG (q:=q) (fa:=fa) (cd:=.ref c') (tk:=s.toks+(ps.zip us).length) S hr.hd e0 r C h0 hn hs;refine af3 (ht [] _ σ0 _ _ I hq) (fun u s' ⟨v,H',J,rv,q⟩=>?_) fun e s' h=>False.elim h;exact ⟨v,H',J.os,J.bare,J.base,J.hok,rv,q⟩
end
section
variable {X:Cx}{pins:List (Addr × Obj)}{σ:St}{H:Hp}{s:Shared}
theorem nV {P:Addr}{pos:Pos}{q:Str}{mk:Value->Value->Value->Value->FuncData}{Q:VK} (h:tFn P pos q mk σ H Q):tFn P pos q mk σ H fun v H2=>Q v H2/\∃ fa c' doc pm ctv,v=.ref fa/\H2 fa=some (FunO fa (mk doc pm (.ref c') ctv))/\H2 c'=some (dm q c'):=by
 obtain ⟨ps,hP,tr,h⟩:=h;refine ⟨ps,hP,tr,?_⟩;rcases h with ⟨hn,h⟩ | ⟨c',hs,hc,h⟩
 ·refine .inl ⟨hn,fun c' fa doc pm ctv n1 n2 ne=>⟨h c' fa doc pm ctv n1 n2 ne,fa,c',doc,pm,ctv,rfl,ab,?_⟩⟩
  rw [ae ne.symm];exact ab
 ·refine .inr ⟨c',hs,hc,fun fa doc pm ctv n=>⟨h fa doc pm ctv n,fa,c',doc,pm,ctv,rfl,ab,?_⟩⟩
  rw [ae (am hc n)];exact hc
inductive nX (K:PySem.W.Frag) (j:Nat) (tb:TE) (σ:St) (Q:VK) (x:V) (H2:Hp):Prop
 | mk:∀ (l:Addr) (ns:List Nat) (ck:Nat->Int) (B:Nat) (vy:V),x=.ref l->SqL K H2 l (cq ns)->ns.Nodup->((∀ n∈ns,n < B))->ns.length < 64->σ[j]?=some (some vy)->((∀ (n:Nat) (H':Hp),n∈ns->Same H2 H'->tb [some (.int ((n:Nat):Int)),some vy] H' fun v H''=>∃ t,v=.ref t/\H'' t=some (keyV (ck n) n)/\Same H' H''))->(∀ (D:Addr) (H':Hp) (ms:List Nat),H2 D=none->H' D=none->Same H2 H'->ms.Perm ns->ms.Pairwise (klt ck)->Q (.ref D) (upd H' D (.lst (cq ms))))->nX K j tb σ Q x H2
def yQ (K:PySem.W.Frag) (P:Addr) (lpos:Pos) (q:Str) (mk:Value->Value->Value->Value->FuncData) (j:Nat) (te tb:TE):TE:=fun σ H Q=>te σ H fun x H1=>tFn P lpos q mk σ H1 fun _ H2=>nX K j tb σ Q x H2
theorem vH {c P cy:Addr}{p y:Str}{j k:Nat}{e:Expr}{te tb:TE}{params:Arguments}{body:Expr}{scope:Scope}{lpos kp p0 pos:Pos} (T:TabK X c P) (hcl:closureFor scope X.env=pure [(y,cy)]) (hr:Room (k+3) X.A) (hg:Gl X "sorted") (hm:X.mg "sorted" = none) (he:PE X e te)
  (S:dY [p,y] [p] scope) (hyf:scope.names.lookup y=some .free) (hfr:∀ q∈scope.names,q.2=.free->q.1=y) (hcy:X.env.cells.lookup y=some cy) (hky:X.env.kindOf y=some .cell) (hfn:X.fn y=true) (hj:X.N[j]?=some y)
  (hb:∀ (pm cdv ctv u:Value),bindArgs (PySem.W.kla_fn (Str.ofString "<lambda>") (X.env.qual++Str.ofString "<lambda>") params body scope [(y,cy)] pm cdv ctv) ⟨[u],[]⟩=pure [(p,u)])
  (hbody:∀ (A:Around) (outer:List Env) (s:Shared) (H:Hp) (fa c':Addr),Room k (A.deeper (envC (X.env.qual++Str.ofString "<lambda>") scope s.heap.objs.size fa (.ref c') [(y,cy)]))→PE (cxC X.prog X.w X.K X.mg X.base [p,y] (envC (X.env.qual++Str.ofString "<lambda>") scope s.heap.objs.size fa (.ref c') [(y,cy)]) A outer s H) body tb)
  (h1:defaultsOf params X.env=([],[]):=by rfl) (hs:starEach [e] X.env=(false,eval e X.env) :: starEach [] X.env:=by rfl) (hs2:backTo pos (starEach [e] X.env)=(false,eval e X.env) :: backTo pos (starEach [] X.env):=by rfl) (hs3:(backTo pos (starEach [e] X.env)).any (·.1)=false:=by rfl) :
  PE X (.Call (.Name "sorted" p0) [e] [⟨some "key",.Lambda params body scope lpos,kp⟩] pos) (yQ X.K P lpos (X.env.qual++Str.ofString "<lambda>") (fun _ pm cdv ctv=>PySem.W.kla_fn (Str.ofString "<lambda>") (X.env.qual++Str.ofString "<lambda>") params body scope [(y,cy)] pm cdv ctv) j te tb):=by
 intro D s σ H Q I h;refine ah9 (cA I hg hm ah3 ?_ (by decide) (by decide))
 refine callWith_kw ?_ hs2 hs3 rfl rfl
 refine thn ((aa he ac hs) pos D s σ H (fun vs H1=>match vs with
  | [x]=>tFn P lpos (X.env.qual++Str.ofString "<lambda>") (fun _ pm cdv ctv=>PySem.W.kla_fn (Str.ofString "<lambda>") (X.env.qual++Str.ofString "<lambda>") params body scope [(y,cy)] pm cdv ctv) σ H1 (fun _ H2=>nX X.K j tb σ Q x H2)
  | _=>False) I h) ?_
 rintro us s1 ⟨vs,H1,I1,rv,q1⟩
 match vs,rv,q1 with
 | [x],rv,q1 =>
  obtain ⟨u,rfl,rx⟩:=cH rv;refine kws_cons (PySem.W.kla_eval h1 (thn (nO T hcl I1 (nV q1)) fun f s2 ⟨vf,H2,I2,rf,q2,fa,c',_,pm,ctv,U,aw,J⟩=>?_));subst U;obtain rfl:f=Value.ref fa:=rf;obtain ⟨l,ns,ck,B,vy,rfl,ak,nd,hB,L,hσ,an,hq⟩:=q2;obtain rfl:u=Value.ref l:=rx;refine kws_nil ?_;obtain ⟨aT,ri,pl,_⟩:=I2.list ak;refine af3 (tS (K:=X.K) (mg:=X.mg) (base:=X.base) (ck:=ck) (B:=B) (ns:=ns) (Q:=Q) hr I2.env0 pl.isList ri nd hB L (fun s3 H3 n xv hn sm e0 un ad=>?_) hq) (fun u s' ce=>I2.after ce) fun _ _ z=>z;obtain ⟨m,a0,hl⟩:=I2.loc;obtain ⟨uy,Z,lk⟩:=hl j y vy hj hσ (.inr (.inl hky))
  have Y:s2.heap.IsCell cy (some uy):=by
   rcases lk with ⟨z,_⟩ | ⟨_,c2,ec,z⟩
   ·rw [hky] at z;cases z
   ·rw [hcy] at ec;cases ec;exact z
  obtain ⟨oc,ho,hd⟩:=id Y
  have g:=I2.freeC y cy hcy
  have nf:cy∉frs X.stack:=fun z=>by
   rcases aa5.mp (I2.stkSub cy z) with e | G
   ·exact I2.cne y cy hcy e
   ·obtain ⟨_,o2,E,_⟩:=I2.ok.funs.mem G
    exact absurd (zU E) (Nat.not_lt.mpr (I2.ok.cab y cy hfn hcy))
  have O:=un.keep cy oc ho g nf ab9
  have C:=un.free cy oc ho g ab9
  have L1:∀ x c,[(y,cy)].lookup x=some c->x=y/\c=cy:=fun x c e=>by
   rw [ac1] at e
   split at e
   ·rename_i hxy
    cases e;exact ⟨eq_of_beq hxy,rfl⟩
   ·cases e
  have r:[(y,cy)].lookup y=some cy:=by rw [ac1];simp
  have L3:[(y,vy)].lookup y=some vy:=by rw [ac1];simp
  refine nU (cv:=[(y,vy)]) (vs:=[.int ((n:Nat):Int)]) (us:=[xv]) (σ0:=[some (.int ((n:Nat):Int)),some vy]) S (k:=k) hr.in1.in1 e0 (.cons ad .nil) (sm _ _ aw) (sm _ _ J) (hb _ _ _ _) ⟨fun x z c e1 e2=>((L1 x c e1).1).trans ((L1 z c e2).1).symm,fun x hx=>⟨cy,by have e:x=y:=hfr (x,.free) (ae0 hx) rfl;rw [e];exact r⟩,fun x c e=>?_⟩ ⟨rfl,fun i x v e1 e2=>?_⟩ (hbody _ _ _ _ _ _ ((hr.in1.in1).deeper _)) (an n H3 hn sm)
  ·obtain ⟨rfl,rfl⟩:=L1 x c e
   exact ⟨vy,uy,L3,Z,⟨oc,O,hd⟩,C⟩
  ·match i,e1,e2 with
   | 0,e1,e2=>exact .inl ⟨e1,by cases e2;rfl⟩
   | 1,e1,e2 =>
    cases e1
    cases e2;exact .inr ⟨hyf,⟨cy,r⟩,L3⟩
end
structure FunT (K:PySem.W.Frag) (x qual:Str) (st:Stmt) (f:Addr) (fd:FuncData) (c t:Addr):Prop where
 ex:∃ (oc:Value) (od:Option Addr) (kV doc pm:Value) (an:Option Addr) (ct:Value) (osl:Array (Option Value)),
  fd=PySem.W.fnOf x qual (bv st) (aY st) (ah st) .none kV doc pm an (.ref c) ct/\K.lookup f=some ⟨oc,od,.func fd,osl⟩/\PySem.W.codeIn K (.ref c) qual=true
 kp:PySem.W.keepIn K (.ref f)=true
 hd:PySem.W.codeHdIn K c t=true
section
variable {P:Program}{w:World}{K:PySem.W.Frag}{mg:Str->Option Value}{base:Heap}{x qual:Str}{st:Stmt}{f c t:Addr}{fd:FuncData}{N ps:List Str}{k:Nat}{sp:Sp}
theorem FunT.fun (F:FunT K x qual st f fd c t):Fun K x qual st f fd:=by
 obtain ⟨oc,od,kV,h,pm,an,ct,osl,e,lk,g⟩:=F.ex;exact ⟨⟨oc,od,kV,h,pm,an,_,ct,osl,e,lk,g⟩,F.kp⟩
theorem FunT.ok (F:FunT K x qual st f fd c t) (S:ap N ps (ah st)) (len:∀ vs H Q E,sp vs H Q E->vs.length=ps.length)
  (hbody:∀ (A:Around) (outer:List Env) (s:Shared) (H:Hp) (vs:List V) (Q:VK) (E:XK),Room k (A.deeper (envOfC qual (ah st) s.heap.objs.size f (.ref c)))->sp vs H Q E →
   ∃ t,PSs (cxOf CX0 P w K mg base N qual (ah st) f (.ref c) A outer s H E).nox (aY st) t/\t { nx:=fun _ H'=>Q .non H',rt:=Q } (start N vs) H):FnOk P w K mg base CX0 (k+1) f fd ps sp:=by
 obtain ⟨oc,od,kV,r,pm,an,ct,osl,rfl,lk,l⟩:=F.ex;refine wG lk l S len fun A outer s H vs Q E hr g=>?_;obtain ⟨t,h,q⟩:=hbody A outer s H vs Q E hr g;exact ⟨t,h.nox,q⟩
theorem qp {oc:Value}{od an:Option Addr}{osl:Array (Option Value)}{kV doc pm ct:Value} (l:K.lookup f=some ⟨oc,od,.func (PySem.W.fnOf x qual (bv st) (aY st) (ah st) .none kV doc pm an (.ref c) ct),osl⟩)
  (hc:PySem.W.codeIn K (.ref c) qual=true) (hk:PySem.W.keepIn K (.ref f)=true) (hd:PySem.W.codeHdIn K c t=true):FunT K x qual st f (PySem.W.fnOf x qual (bv st) (aY st) (ah st) .none kV doc pm an (.ref c) ct) c t:=⟨⟨oc,od,kV,doc,pm,an,ct,osl,rfl,l,hc⟩,hk,hd⟩
theorem FunT.tab {A:Around}{outer:List Env}{s:Shared}{H:Hp}{E:XK}{sc:Scope} (F:FunT K x qual st f fd c t) (hb:base.BuiltinsAt mg t) (ne:mainGlobals≠t):TabK (cxOf CX0 P w K mg base N qual sc f (.ref c) A outer s H E).nox c t:=⟨rfl,F.hd,hb,ne⟩
end
end L2
namespace L2
open PySem PySem.Spec PySem.W PyProof.Rows
section
variable {X:Cx}
end
variable {X:Cx}
section
variable {κ:Type} [DecidableEq κ]
def valV (kvs:List (κ × V)) (k:κ):Option V:=(kvs.find? fun kv=>decide (kv.1=k)).map (·.2)
def putK (kvs:List (κ × V)) (k:κ) (v:V):List (κ × V) :=
 if (kvs.any fun kv=>decide (kv.1=k))=true then kvs.map (fun kv=>if kv.1=k then (kv.1,v) else kv) else kvs++[(k,v)]
theorem gG {p:κ × V}{r:List (κ × V)}{k:κ} (e:p.1=k):valV (p :: r) k=some p.2:=by simp [valV,al5,e]
theorem gH {p:κ × V}{r:List (κ × V)}{k:κ} (e:¬ p.1=k):valV (p :: r) k=valV r k:=by simp [valV,al5,e]
theorem jB (k:κ):∀ kvs:List (κ × V),(kvs.any fun kv=>decide (kv.1=k))=(valV kvs k).isSome
 | []=>rfl
 | p :: r=>by
  rw [al8]
  by_cases e:p.1=k
  ·simp only [gG e,zZ e,Bool.true_or,Option.isSome_some]
  ·rw [gH e,aa9 e,al9];exact jB k r
theorem jh (kvs:List (κ × V)) (k:κ) (v:V):(putK kvs k v).length<=kvs.length+1:=by
 unfold putK
 split
 ·rw [zM];omega
 ·rw [ab6,ac7,List.length_nil];omega
theorem vI {kvs:List (κ × V)}{k:κ} (v:V) (h:valV kvs k=none):putK kvs k v=kvs++[(k,v)]:=by
 unfold putK;rw [jB,h];exact if_neg (by decide)
theorem RelO.isSome_eq {o:Option V}{u:Option Value} (r:RelO o u):o.isSome=u.isSome:=by
 cases o with
 | none=>cases u with
  | none=>rfl
  | some _=>exact (show False from r).elim
 | some _=>cases u with
  | none=>exact (show False from r).elim
  | some _=>rfl
theorem RelO.getD {o:Option V}{u:Option Value}{d:V}{d':Value} (r:RelO o u) (rd:RelV d d'):RelV (o.getD d) (u.getD d'):=by
 cases o with
 | none=>cases u with
  | none=>exact rd
  | some _=>exact (show False from r).elim
 | some _=>cases u with
  | none=>exact (show False from r).elim
  | some _=>exact r
theorem KV.val {kvs:List (κ × V)}{vs:List (κ × Value)} (r:KV kvs vs) (k:κ):RelO (valV kvs k) (valueAt vs k):=by
 unfold KV at r
 induction r with
 | nil=>exact True.intro
 | @cons p q ps qs h t ih =>
  obtain ⟨h1,h2⟩:=h
  by_cases e:p.1=k
  ·have e':q.1=k:=h1.symm.trans e
   have b:valueAt (q :: qs) k=some q.2:=by simp [valueAt,al5,e']
   rw [gG e,b];exact h2
  ·have e':¬ q.1=k:=fun z=>e (h1.trans z)
   have b:valueAt (q :: qs) k=valueAt qs k:=by simp [valueAt,al5,e']
   rw [gH e,b];exact ih
theorem KV.any {kvs:List (κ × V)}{vs:List (κ × Value)} (r:KV kvs vs) (k:κ):(kvs.any fun kv=>decide (kv.1=k))=vs.any fun kv=>decide (kv.1=k):=by
 unfold KV at r
 induction r with
 | nil=>rfl
 | cons h t ih=>rw [al8,al8,ih,h.1]
theorem KV.repl {kvs:List (κ × V)}{vs:List (κ × Value)} (r:KV kvs vs) (k:κ) {y:V}{u:Value} (ry:RelV y u) :
  KV (kvs.map fun kv=>if kv.1=k then (kv.1,y) else kv) (vs.map fun kv=>if kv.1=k then (kv.1,u) else kv):=by
 unfold KV at r ⊢
 induction r with
 | nil=>exact .nil
 | @cons p q ps qs h t ih =>
  rw [ad8,ad8];refine .cons ?_ ih;obtain ⟨h1,h2⟩:=h
  by_cases e:p.1=k
  ·rw [if_pos e,if_pos (h1.symm.trans e)];exact ⟨h1,ry⟩
  ·rw [if_neg e,if_neg (fun z=>e (h1.trans z))];exact ⟨h1,h2⟩
theorem KV.put {kvs:List (κ × V)}{vs:List (κ × Value)} (r:KV kvs vs) (k:κ) {y:V}{u:Value} (ry:RelV y u):KV (putK kvs k y) (stored vs k u):=by
 unfold putK stored;rw [r.any k]
 by_cases e:(vs.any fun kv=>decide (kv.1=k))=true
 ·rw [if_pos e,if_pos e];exact r.repl k ry
 ·rw [if_neg e,if_neg e];exact Paired.snoc r ⟨rfl,ry⟩
theorem KV.length {kvs:List (κ × V)}{vs:List (κ × Value)} (r:KV kvs vs):kvs.length=vs.length:=Paired.length r
end
variable {P:Program}{w:World}
theorem iX {k:Key}{u:Value} (r:RelV (kV k) u):(ba P w).is k u=true:=by
 cases k with
 | inl i=>obtain ⟨t,e⟩:=(show ∃ t,u=Value.int i t from r);subst e;exact pe P w i t
 | inr x=>obtain ⟨t,e⟩:=(show ∃ t,u=Value.str x t from r);subst e;exact pf P w x t
theorem lY {P:Program}{w:World}:∀ {ks:List Key}{us:List Value},Vals (ks.map kV) us->ItemsAre (ba P w) ks us
 | [],_,r=>by rw [List.map_nil] at r;cases r;exact .nil
 | k :: ks,_,r=>by
  rw [ad8] at r
  cases r with
  | cons h t=>exact .cons (iX h) (lY t)
abbrev KT (H:Hp):List (List Key × V)->List (List Key × Addr × Value)->Prop:=Paired fun p q=>p.1=q.1/\H q.2.1=some (.tup (p.1.map kV))/\RelV p.2 q.2.2
variable {H:Hp}{kvs:List (List Key × V)}{xs:List (List Key × Addr × Value)}
theorem KT.val (r:KT H kvs xs) (k:List Key):RelO (valV kvs k) ((atKey xs k).map (·.2)):=by
 induction r with
 | nil=>exact True.intro
 | @cons p q ps qs h t ih =>
  obtain ⟨h1,_,h2⟩:=h
  by_cases e:p.1=k
  ·have e':q.1=k:=h1.symm.trans e
   have b:atKey (q :: qs) k=some q.2:=by simp [atKey,al5,e']
   rw [gG e,b];exact h2
  ·have e':¬ q.1=k:=fun z=>e (h1.trans z)
   have b:atKey (q :: qs) k=atKey qs k:=by simp [atKey,al5,e']
   rw [gH e,b];exact ih
theorem KT.repl (r:KT H kvs xs) (k:List Key) {y:V}{u:Value} (ry:RelV y u) :
  KT H (kvs.map fun kv=>if kv.1=k then (kv.1,y) else kv) (xs.map (putAt k u)):=by
 induction r with
 | nil=>exact .nil
 | @cons p q ps qs h t ih =>
  rw [ad8,ad8];refine .cons ?_ ih;obtain ⟨h1,h2,h3⟩:=h;unfold putAt
  by_cases e:p.1=k
  ·rw [if_pos e,if_pos (h1.symm.trans e)];exact ⟨h1,h2,ry⟩
  ·rw [if_neg e,if_neg (fun z=>e (h1.trans z))];exact ⟨h1,h2,h3⟩
theorem KT.put (r:KT H kvs xs) (k:List Key) {b:Addr}{y:V}{u:Value} (hb:H b=some (.tup (k.map kV))) (ry:RelV y u) :
  KT H (putK kvs k y) (storedH xs k b u):=by
 have e:(kvs.any fun kv=>decide (kv.1=k))=(atKey xs k).isSome:=by
  rw [jB,(r.val k).isSome_eq,Option.isSome_map]
 unfold putK storedH;rw [e]
 by_cases q:(atKey xs k).isSome=true
 ·rw [if_pos q,if_pos q];exact r.repl k ry
 ·rw [if_neg q,if_neg q];exact Paired.snoc r ⟨rfl,hb,ry⟩
variable {H':Hp}
theorem KT.keeps (r:KT H kvs xs) (ht:∀ b ys,H b=some (.tup ys)->H' b=some (.tup ys)):KT H' kvs xs :=
 Paired.mapP r fun _ _ z=>⟨z.1,ht _ _ z.2.1,z.2.2⟩
section
variable {P:Program}{w:World}{H:Hp}{h:Heap}{a:Addr}
theorem wJ {u:HO} (ok:HOk P w H h) (e:Rd H a u):ObjOk P w H h a u:=e.ok ok
theorem dn {kvs:List (Key × V)} (ok:HOk P w H h) (e:Rd H a (.dK kvs)):kvs.length<=sizeLine/\(a == sysModules)=false/\∃ vs,KV kvs vs/\h.DictOf (ba P w) a vs :=
 show ObjOk P w H h a (.dK kvs) from wJ ok e
theorem ky {kvs:List (Key × V)} (ok:HOk P w H h) (e:H a=some (.dK kvs)):kvs.length<=sizeLine/\(a == sysModules)=false/\∃ vs,KV kvs vs/\h.DictOf (ba P w) a vs:=dn ok (.inl e)
theorem gn {ks:List Key} (ok:HOk P w H h) (e:H a=some (.tup (ks.map kV))):(tupleKind (ba P w)).is h ks a:=by
 obtain ⟨_,g,r,o,h1,h2,n,h3⟩:=(show ObjOk P w H h a (.tup (ks.map kV)) from ok a _ e);exact ⟨o,g.toArray,n,h1,h2,h3,by simpa using lY r⟩
theorem gI (ok:HOk P w H h) (e:Rd H a (.dT kvs)):kvs.length<=sizeLine/\(a == sysModules)=false ∧
  ∃ xs,KT H kvs xs/\h.DictOfH (tupleKind (ba P w)) a xs:=by
 obtain ⟨z,y,xs,r,o,es,ep,h1,h2,h3,h4,h5⟩:=(show ObjOk P w H h a (.dT kvs) from wJ ok e);refine ⟨z,y,xs,r,o,es,ep,h1,h2,h3,h4,fun x hx=>?_,h5⟩
 have all:∀ {l:List (List Key × V)}{m:List (List Key × Addr × Value)},KT H l m->∀ x∈m,(tupleKind (ba P w)).is h x.1 x.2.1:=by
  intro l m q
  induction q with
  | nil=>intro x hx;exact nomatch hx
  | @cons p q ps qs hq t ih =>
   intro x hx;rcases aa5.mp hx with e | hx
   ·subst e
    exact gn ok (by rw [<- hq.1];exact hq.2.1)
   ·exact ih x hx
 exact all r x hx
theorem zB (ok:HOk P w H h) (e:H a=some (.dT kvs)):kvs.length<=sizeLine/\(a == sysModules)=false ∧
  ∃ xs,KT H kvs xs/\h.DictOfH (tupleKind (ba P w)) a xs:=gI ok (.inl e)
end
def DGet (H:Hp) (a:Addr) (y:V) (r:Option V):Prop :=
 (∃ kvs k,Rd H a (.dK kvs)/\y=kV k/\r=valV kvs k)\/∃ kvs k b,Rd H a (.dT kvs)/\y=.ref b/\H b=some (.tup (k.map kV))/\r=valV kvs k
def DPut (H:Hp) (a:Addr) (y v:V) (H':Hp):Prop :=
 (∃ kvs k,H a=some (.dK kvs)/\y=kV k/\kvs.length < sizeLine/\H'=upd H a (.dK (putK kvs k v))) ∨
 ∃ kvs k b,H a=some (.dT kvs)/\y=.ref b/\H b=some (.tup (k.map kV))/\kvs.length < sizeLine/\H'=upd H a (.dT (putK kvs k v))
theorem DGet.k {H:Hp}{a:Addr}{kvs:List (Key × V)}{k:Key} (e:H a=some (.dK kvs)):DGet H a (kV k) (valV kvs k):=.inl ⟨kvs,k,.inl e,rfl,rfl⟩
theorem DPut.k {H:Hp}{a:Addr}{kvs:List (Key × V)}{k:Key}{v:V} (e:H a=some (.dK kvs)) (hl:kvs.length < sizeLine):DPut H a (kV k) v (upd H a (.dK (putK kvs k v))):=.inl ⟨kvs,k,e,rfl,hl,rfl⟩
variable {Q:Value->Shared->Prop}
section
variable {X:Cx}{pins:List (Addr × Obj)}{σ:St}{H:Hp}{s:Shared}{a:Addr}{y v:V}{u r:Value}{o:Option V}{A:Around}{E:Value->Shared->Prop}
theorem Inv.big (I:Inv X pins σ H s):sysModules < s.heap.objs.size:=by
 have h:mainGlobals < s.heap.objs.size:=(I.mod.glob.keeps I.bk).lt;exact al0 (by decide) h
theorem tU (hu:A.units+1 < cLine) (I:Inv X pins σ H s) (g:DGet H a y (some v)) (ry:RelV y u) (h:∀ w' s',Inv X pins σ H s'->RelV v w'->Q w' s') :
  wpAny (model X.prog X.w) A (getItem (.ref a) u) Q E s:=by
 rcases g with ⟨D,k,e,ey,l⟩ | ⟨D,k,b,e,ey,eb,l⟩
 ·subst ey
  obtain ⟨z,hd,vs,r,dd⟩:=dn I.hok e;obtain ⟨w',hw,B⟩:=RelO.some_of (v:=v) (o:=valueAt vs k) (by rw [l];exact r.val k)
  exact wpAny_getItem_of (iX ry) dd.mapOf hw (h w' _ (I.tok _) B)
 ·subst ey
  cases (show u=Value.ref b from ry);obtain ⟨z,hd,xs,r,dd⟩:=gI I.hok e;obtain ⟨w',hw,B⟩:=RelO.some_of (v:=v) (o:=(atKey xs k).map (·.2)) (by rw [l];exact r.val k)
  obtain ⟨p,hp,C⟩:=al1.mp hw;refine wpAny_getItem_heap (tupleKind_room_in1 hu) (gn I.hok eb) dd hp ?_;rw [C];exact h w' _ (I.tok _) B
theorem d_in (hu:A.units+1 < cLine) (I:Inv X pins σ H s) (g:DGet H a y o) (ry:RelV y u) (h:∀ s',Inv X pins σ H s'->Q (.bool o.isSome) s') :
  wpAny (model X.prog X.w) A (compareOp .In u (.ref a)) Q E s:=by
 rcases g with ⟨B,k,e,ey,l⟩ | ⟨B,k,b,e,ey,eb,l⟩
 ·subst ey
  obtain ⟨z,hd,vs,r,dd⟩:=dn I.hok e;refine wpAny_in_of (iX ry) hd dd.mapOf ?_;rw [<- (r.val k).isSome_eq,← l];exact h _ (I.tok _)
 ·subst ey
  cases (show u=Value.ref b from ry);obtain ⟨z,hd,xs,r,dd⟩:=gI I.hok e;refine wpAny_in_heap (tupleKind_room_in1 hu) (gn I.hok eb) hd dd ?_
  have q:=(r.val k).isSome_eq;rw [Option.isSome_map] at q;rw [<- q,← l];exact h _ (I.tok _)
theorem xB (hu:A.units+1 < cLine) (I:Inv X pins σ H s) (g:DGet H a y o) (ry:RelV y u) (h:∀ s',Inv X pins σ H s'->Q (.bool (!o.isSome)) s') :
  wpAny (model X.prog X.w) A (compareOp .NotIn u (.ref a)) Q E s:=by
 rcases g with ⟨B,k,e,ey,l⟩ | ⟨B,k,b,e,ey,eb,l⟩
 ·subst ey
  obtain ⟨z,hd,vs,r,dd⟩:=dn I.hok e;refine wpAny_notIn_of (iX ry) hd dd.mapOf ?_;rw [<- (r.val k).isSome_eq,← l];exact h _ (I.tok _)
 ·subst ey
  cases (show u=Value.ref b from ry);obtain ⟨z,hd,xs,r,dd⟩:=gI I.hok e;refine wpAny_notIn_heap (tupleKind_room_in1 hu) (gn I.hok eb) hd dd ?_
  have q:=(r.val k).isSome_eq;rw [Option.isSome_map] at q;rw [<- q,← l];exact h _ (I.tok _)
theorem lc {h':Heap}{t':Nat}{ob:HO} (I:Inv X pins σ H s) (mu:Mut (H a)) (hs:Heap.SameBut a s.heap h') (he:∃ q,h'.get? a=some q) (new:ObjOk X.prog X.w (upd H a ob) h' a ob) :
  Inv X pins σ (upd H a ob) { s with heap:=h',toks:=t' } :=
 I.write (x:=a) (e:=a) mu (.inl rfl) (fun b q hb z=>(hs.2 b hb).trans z) he new
theorem tV {h':Heap}{kvs:List (Key × V)}{vs:List (Key × Value)} (z:kvs.length<=sizeLine) (hd:(a == sysModules)=false) (rel:KV kvs vs) (dd:h'.DictOf (ba P w) a vs) :
  ObjOk P w H' h' a (.dK kvs):=⟨z,hd,vs,rel,dd⟩
theorem tW {Q:Unit->Shared->Prop} (hu:A.units+1 < cLine) (I:Inv X pins σ H s) (g:DPut H a y v H') (ry:RelV y u) (rv:RelV v r) (h:∀ s',Inv X pins σ H' s'->Q () s') :
  wpAny (model X.prog X.w) A (setItem (.ref a) u r) Q E s:=by
 rcases g with ⟨B,k,e,ey,l,eH⟩ | ⟨B,k,b,e,ey,eb,l,eH⟩
 ·subst ey eH
  obtain ⟨z,hd,vs,C,dd⟩:=ky I.hok e
  have hz:vs.length<=sizeLine:=by rw [<- C.length];exact z
  have hl:(putK B k v).length<=sizeLine:=by have:=jh B k v;omega
  refine wpAny_setItem_pairs (hsz:=hz) (iX ry) dd fun h' D hs=>h _ ?_
  have he:∃ q,h'.get? a=some q:=let ⟨q,_,_,hq,_⟩:=D;⟨q,hq⟩;exact lc I (by rw [e];exact True.intro) hs he (tV hl hd (C.put k rv) D)
 ·subst ey eH
  cases (show u=Value.ref b from ry);obtain ⟨z,hd,xs,C,dd⟩:=zB I.hok e
  have hz:xs.length<=sizeLine:=by rw [<- Paired.length C];exact z
  have hl:(putK B k v).length<=sizeLine:=by have:=jh B k v;omega
  refine wpAny_setItem_heap (hsz:=hz) (tupleKind_room_in1 hu) (gn I.hok eb) dd fun h' D hs=>h _ ?_;obtain ⟨q,es,ep,hq,h2,h3,h4,_,h5⟩:=D;refine lc I (by rw [e];exact True.intro) hs ⟨q,hq⟩ ⟨hl,hd,_,(C.put k eb rv).keeps fun c ys ec=>?_,q,es,ep,hq,h2,h3,h4,h5⟩
  rw [ae (aN ec e (fun z=>nomatch z))];exact ec
end
section
variable {X:Cx}{pins:List (Addr × Obj)}{σ:St}{H:Hp}{s:Shared}{a:Addr}{kvs:List (Key × V)}{k:Key}{u:Value}{A:Around}{E:Value->Shared->Prop}
theorem xC (I:Inv X pins σ H s) (e:H a=some (.dK kvs)) (h:∀ s',Inv X pins σ (upd H a (.dK [])) s'→Q .none s'):wpAny (model X.prog X.w) A (call (.builtin "dict.clear") [.ref a]) Q E s:=by
 obtain ⟨z,hd,vs,l,dd⟩:=ky I.hok e;refine call_meetsIn PySem.F.slot_dict_clear dd.typeIs PySem.F.entry_dict_clear (PySem.F.args_dict_clear_1 _) (meets_dict_clear (ba X.prog X.w) a) ⟨vs,dd,by rw [<- l.length];exact z,fun h' g hs=>h _ ?_⟩
 have he:∃ q,h'.get? a=some q:=let ⟨q,_,_,hq,_⟩:=g;⟨q,hq⟩;exact lc (t':=s.toks) I (by rw [e];exact True.intro) hs he (tV (ab1 _) hd .nil g)
end
def NoSl (i:Expr):Prop:=∀ ov iv,subscripted i false ov iv=operate [ov,iv] (getItem ov iv)
variable {s:Shared}
theorem xD {prog:Program}{A:Around}{E:Value->Shared->Prop}{env:Env}{value slice:Expr}{pos:Pos}{T id:String}
  (hl:typeLookup (.type T) "__getitem__" = pure (some (.builtin id))) (hs:NoSl slice)
  (h:wpAny (model prog w) A (eval value env) (fun o s₁=>wpAny (model prog w) A (eval slice env) (fun i s₂=>s₂.TypeIs o T/\wpAny (model prog w) A (getItem o i) Q E s₂) E s₁) E s) :
  wpAny (model prog w) A (eval (.Subscript value slice pos) env) Q E s:=by
 refine Subscript_ (af3 h (fun o s₁ h₁=>af3 h₁ (fun i s₂ h₂=>?_) fun _ _ x=>x) fun _ _ x=>x);obtain ⟨hT,h₂⟩:=h₂;unfold subscriptTail;refine zT ?_;rw [getitemInPython_of_ne hT.not_modules];refine zT (wpAny_specialOf hT hl ?_)
 have fin:wpAny (model prog w) A (subscripted slice false o i) (fun r s₃=>wpAny (model prog w) A (letTemporaryGo value o r >>= fun _=>pure r) Q E s₃) E s₂:=by
  rw [hs o i];exact wpAny_operating (af3 h₂ (fun r s₃ h₃=>zT (wpAny_letTemporaryGo (ab2 h₃))) fun _ _ x=>x)
 first
  | exact ab2 (zT fin)
  | exact zT (ab2 (zT fin))
  | exact zT fin
theorem pC {pins:List (Addr × Obj)}{σ:St}{a:Addr}{y:V}{o:Option V} (I:Inv X pins σ H s) (g:DGet H a y o):s.TypeIs (.ref a) "dict":=by
 rcases g with ⟨h,k,e,_,_⟩ | ⟨h,k,b,e,_,_,_⟩
 ·obtain ⟨_,_,vs,_,dd⟩:=dn I.hok e
  exact dd.typeIs
 ·obtain ⟨_,_,xs,_,dd⟩:=gI I.hok e
  exact dd.typeIs
inductive qr (Q:VK) (x y:V) (H2:Hp):Prop
 | mk:∀ a v,x=.ref a->DGet H2 a y (some v)->Q v H2->qr Q x y H2
def zC (td ty:TE):TE:=fun σ H Q=>td σ H fun x H1=>ty σ H1 fun y H2=>qr Q x y H2
inductive tY (Q:VK) (y x:V) (H2:Hp):Prop
 | mk:∀ a o,x=.ref a->DGet H2 a y o->Q (.bl o.isSome) H2->tY Q y x H2
def tDIn (ty td:TE):TE:=fun σ H Q=>ty σ H fun y H1=>td σ H1 fun x H2=>tY Q y x H2
inductive lZ (Q:VK) (y x:V) (H2:Hp):Prop
 | mk:∀ a o,x=.ref a->DGet H2 a y o->Q (.bl (!o.isSome)) H2->lZ Q y x H2
def xE (ty td:TE):TE:=fun σ H Q=>ty σ H fun y H1=>td σ H1 fun x H2=>lZ Q y x H2
inductive qt (D:Ends) (σ:St) (v x y:V) (H3:Hp):Prop
 | mk:∀ a H4,x=.ref a->DPut H3 a y v H4->D.nx σ H4->qt D σ v x y H3
def zD (td ty tv:TE):TS:=fun D σ H=>tv σ H fun v H1=>td σ H1 fun x H2=>ty σ H2 fun y H3=>qt D σ v x y H3
section
variable {X:Cx}{o i e value:Expr}{pos pos' tpos:Pos}{td ty tv:TE}
theorem iY (hu:X.A.units+1 < cLine) (ho:PE X o td) (hi:PE X i ty) (hs:NoSl i):PE X (.Subscript o i pos) (zC td ty):=by
 intro l s σ H Q I h;refine xD PySem.F.slot_dict_getitem.lookup hs (thn (ho l s σ H _ I h) fun u s1 ⟨x,H1,I1,rx,q1⟩=>thn (hi l s1 σ H1 _ I1 q1) fun iv s2 ⟨y,H2,I2,ry,a,v,ex,g,q2⟩=>?_);subst ex;obtain rfl:u=Value.ref a:=rx;exact ⟨pC I2 g,tU hu I2 g ry fun w' s3 I3 r=>⟨v,H2,I3,r,q2⟩⟩
theorem nY (hu:X.A.units+1 < cLine) (hi:PE X i ty) (ho:PE X o td):PC X .In i o (tDIn ty td):=by
 intro l s σ H Q I h;refine thn (hi l s σ H _ I h) fun iv s1 ⟨y,H1,I1,ry,q1⟩=>thn (ho l s1 σ H1 _ I1 q1) fun u s2 ⟨x,H2,I2,rx,a,ov,ex,g,q2⟩=>?_;subst ex;obtain rfl:u=Value.ref a:=rx;exact d_in hu I2 g ry fun s3 I3=>⟨.bl ov.isSome,H2,I3,rfl,q2⟩
theorem tZ (hu:X.A.units+1 < cLine) (hi:PE X i ty) (ho:PE X o td):PC X .NotIn i o (xE ty td):=by
 intro l s σ H Q I h;refine thn (hi l s σ H _ I h) fun iv s1 ⟨y,H1,I1,ry,q1⟩=>thn (ho l s1 σ H1 _ I1 q1) fun u s2 ⟨x,H2,I2,rx,a,ov,ex,g,q2⟩=>?_;subst ex;obtain rfl:u=Value.ref a:=rx;exact xB hu I2 g ry fun s3 I3=>⟨.bl (!ov.isSome),H2,I3,rfl,q2⟩
theorem gp (hu:X.A.units+1 < cLine) (ho:PE X o td) (hi:PE X i ty) (hv:PE X value tv) (hs:swapsWith value (some (.Subscript o i pos')) pos.line X.env=pure false) :
  PS X (.Assign [.Subscript o i pos'] value pos) (zD td ty tv):=by
 intro l s σ H D I h;refine wpAny_Assign_Subscript (thn (hv l s σ H _ I h) fun r s1 ⟨v,H1,I1,rv,q1⟩=>thn (ho l s1 σ H1 _ I1 q1) fun u s2 ⟨x,H2,I2,rx,q2⟩=>thn (hi l s2 σ H2 _ I2 q2) fun iv s3 ⟨y,H3,I3,ry,a,H4,ex,g,q3⟩=>?_) hs;subst ex;obtain rfl:u=Value.ref a:=rx;exact tW hu I3 g ry rv fun s4 I4=>⟨σ,H4,I4,q3⟩
end
theorem vJ (h:Heap) (hb:sysModules < h.objs.size):ObjOk P w H (h.push { cls:=.type "dict",data:=.dict #[] }) h.objs.size (.dK []) :=
 ⟨ab1 _,ad7.mpr (ad3 (aa4 hb)),[],.nil,Heap.DictOf.new h⟩
def yR:TE:=fun _ H Q=>∀ p,H p=none->Q (.ref p) (upd H p (.dK []))
section
variable {X:Cx}{pos:Pos}
theorem gJ:PE X (.Dict [] [] pos) yR:=fun pins s σ H Q I h =>
 wpAny_Dict_empty ⟨.ref s.heap.objs.size,_,I.laid (a:=s.heap.objs.size) (o:=.dK []) (t':=s.toks) (fun _ _ q=>zP _ q) (zQ _) (vJ s.heap I.big),rfl,h _ (I.hok.fresh (zQ _))⟩
end
structure M2 (X:Cx) (o:Expr) (m:Str) (apos:Pos) (e f:Expr) (cpos:Pos):Prop where
 base:attributeBase o m X.env (eval o X.env)=eval o X.env
 few:((backTo cpos (starEach [e,f] X.env)).all (fun x=>!x.1) && (backToKw cpos (keywordEach [] X.env)).all (fun x=>x.1.isSome)
  && decide (([e,f]:List Expr).length+([]:List Keyword).length+(if ([]:List Keyword).isEmpty then 0 else 1) < 30))=true
 line:(apos.endLine == cpos.line)=true
 trees:backTo cpos (starEach [e,f] X.env)=[(false,eval e X.env),(false,eval f X.env)]
def IsD (H:Hp) (a:Addr):Prop:=(∃ kvs,Rd H a (.dK kvs))\/∃ kvs,Rd H a (.dT kvs)
theorem yS {pins:List (Addr × Obj)}{σ:St}{a:Addr} (I:Inv X pins σ H s) (d:IsD H a) :
  s.TypeIs (.ref a) "dict" ∧ (∀ b,Value.ref a=.ref b → ∃ ob,s.heap.get? b=some ob∧ob.dict=none)∧(a == sysModules)=false:=by
 rcases d with ⟨g,e⟩ | ⟨g,e⟩
 ·obtain ⟨_,hd,vs,_,dd⟩:=dn I.hok e
  refine ⟨dd.typeIs,fun b q=>?_,hd⟩
  cases q;obtain ⟨ob,_,_,h1,h2,_⟩:=dd;exact ⟨ob,h1,h2.2.1⟩
 ·obtain ⟨_,hd,xs,_,dd⟩:=gI I.hok e
  refine ⟨dd.typeIs,fun b q=>?_,hd⟩
  cases q;obtain ⟨ob,_,_,h1,h2,_⟩:=dd;exact ⟨ob,h1,h2.2.1⟩
section
variable {X:Cx}{pins:List (Addr × Obj)}{σ:St}{H:Hp}{s:Shared}{a:Addr}{y d:V}{u r:Value}{o:Option V}{A:Around}{E:Value->Shared->Prop}
theorem yT (hu:A.units+1 < cLine) (I:Inv X pins σ H s) (g:DGet H a y o) (ry:RelV y u) (rd:RelV d r) (h:∀ w' s',Inv X pins σ H s'->RelV (o.getD d) w'->Q w' s') :
  wpAny (model X.prog X.w) A (call (.builtin "dict.get") [.ref a,u,r]) Q E s:=by
 rcases g with ⟨C,k,e,ey,l⟩ | ⟨C,k,b,e,ey,eb,l⟩
 ·subst ey
  obtain ⟨z,hd,vs,B,dd⟩:=dn I.hok e;refine call_meetsIn PySem.F.slot_dict_get dd.typeIs PySem.F.entry_dict_get (PySem.F.args_dict_get_3 _ _ _) (meets_dict_get_default (ba X.prog X.w) a (iX ry) hd r) ⟨_,dd.mapOf,h _ _ (I.tok _) ?_⟩;rw [l];exact (B.val k).getD rd
 ·subst ey
  cases (show u=Value.ref b from ry);obtain ⟨z,hd,xs,B,dd⟩:=gI I.hok e;refine call_meetsIn PySem.F.slot_dict_get dd.typeIs PySem.F.entry_dict_get (PySem.F.args_dict_get_3 _ _ _) (meetsH_dict_get_default (tupleKind (ba X.prog X.w)) a b hd r) ⟨tupleKind_room_in1 hu,k,xs,gn I.hok eb,dd,h _ _ (I.tok _) ?_⟩;rw [l];exact (B.val k).getD rd
end
inductive nZ (ty tx:TE) (σ:St) (Q:VK) (x:V) (H1:Hp):Prop
 | mk:∀ a,x=.ref a->IsD H1 a->(ty σ H1 fun y H2=>tx σ H2 fun z H3=>∃ o,DGet H3 a y o/\Q (o.getD z) H3)->nZ ty tx σ Q x H1
def yU (td ty tx:TE):TE:=fun σ H Q=>td σ H fun x H1=>nZ ty tx σ Q x H1
section
variable {X:Cx}{o e f:Expr}{apos cpos:Pos}{td ty tx:TE}
theorem vK (hu:X.A.units+1 < cLine) (ho:PE X o td) (he:PE X e ty) (hf:PE X f tx) (m:M2 X o "get" apos e f cpos):PE X (.Call (.Attribute o "get" apos) [e,f] [] cpos) (yU td ty tx):=by
 intro l s σ H Q I h;refine wpAny_Call_method m.base m.few m.line PySem.F.plainAttrs_dict PySem.F.slot_dict_get PySem.F.type_dict_get (thn (ho l s σ H _ I h) fun u s1 ⟨x,H1,I1,rx,a,ex,d,q1⟩=>?_);subst ex;obtain rfl:u=Value.ref a:=rx;obtain ⟨t1,t2,_⟩:=yS I1 d;refine ⟨t1,t2,?_⟩;rw [m.trees]
 refine Calls.callWith_builtin rfl (Calls.evalArgs_plain (Calls.spliced_cons (thn (he l s1 σ H1 _ I1 q1) fun iv s2 ⟨y,H2,I2,ry,q2⟩ =>
  Calls.spliced_cons (thn (hf l s2 σ H2 _ I2 q2) fun fv s3 ⟨z,H3,I3,rz,ov,g,q3⟩=>Calls.spliced_nil ?_))))
 exact yT hu I3 g ry rz fun w' s4 I4 r=>⟨_,H3,I4,r,q3⟩
end
section
variable {X:Cx}{pins:List (Addr × Obj)}{σ:St}{H:Hp}{s:Shared}{a:Addr}{kvs:List (Key × V)}{A:Around}{E:Value->Shared->Prop}
end
section
variable {X:Cx}{pins:List (Addr × Obj)}{σ:St}{H:Hp}{s:Shared}{a:Addr}{y:V}{u:Value}{A:Around}{E:Value->Shared->Prop}
end
section
variable {X:Cx}
end
section
variable {κ:Type} [DecidableEq κ]
end
section
variable {X:Cx}{pins:List (Addr × Obj)}{σ:St}{H:Hp}{s:Shared}
theorem Inv.freeze {d:Addr}{o:Obj}{kvs:List (Key × V)} (I:Inv X pins σ H s) (hd:H d=some (.dK kvs)) (ho:s.heap.get? d=some o):Inv X pins σ (upd H d (.frz o (.dK kvs))) s:=by
 have nn:∀ b,H b=none->b≠d:=fun b e z=>by rw [z,hd] at e;cases e
 refine ⟨I.ok,I.os,I.bare,⟨I.base.keep,I.base.slot,fun b o e n h=>?_,I.base.there,fun b xs e=>?_,fun b o u e=>?_,fun b ps e=>?_⟩,I.loc,I.cell,?_,fun y c e=>?_,fun p hp=>?_,fun a u e=>?_,I.len⟩
 ·have z:=I.base.free b o e n h
  rw [ae (nn b z)];exact z
 ·have z:=I.base.tups b xs e
  rw [ae (fun w=>by rw [w,hd] at z;cases z)];exact z
 ·have z:=I.base.frzs b o u e
  rw [ae (fun w=>by rw [w,hd] at z;cases z)];exact z
 ·obtain ⟨m,z⟩:=I.base.tbls b ps e
  exact ⟨m,by rw [ae (fun w=>by rw [w,hd] at z;cases z)];exact z⟩
 ·rw [ae (nn _ I.free)];exact I.free
 ·rw [ae (nn _ (I.freeC y c e))];exact I.freeC y c e
 ·obtain ⟨q1,q2,q3⟩:=I.pin p hp
  exact ⟨q1,by rw [ae (nn _ q2)];exact q2,q3⟩
 ·have st:∀ {a u},ObjOk X.prog X.w H s.heap a u->ObjOk X.prog X.w (upd H d (.frz o (.dK kvs))) s.heap a u:=fun x =>
   x.stay (fun _ _ _ q=>q) (fun b q=>by rw [ae (fun w=>by rw [w,hd] at q;cases q)];exact q) fun b xs q=>by rw [ae (fun w=>by rw [w,hd] at q;cases q)];exact q
  by_cases ha:a=d
  ·subst ha
   rw [ab] at e
   cases e;exact ⟨ho,st (I.hok a _ hd)⟩
  ·rw [ae ha] at e
   exact st (I.hok a u e)
end
section
variable {X:Cx}{CX:CXT}{k:Nat}{f Pk:Addr}{fd:FuncData}{ps:List Str}{sp:Sp}{dvs:List V}{ds:List Value}{E:XK}{c m:Str}{p pos apos:Pos}{e:Expr}{es:List Expr}{t:TA}
end
end L2
namespace GF
end GF
namespace L2
open PySem PySem.Spec PyProof.Rows
variable {A:Around}{E:Value->Shared->Prop}{s:Shared}
theorem n9 {M:Model}{v:Value}{Q:Unit→Shared→Prop} (q:Q () s):wpAny M A (checkBuiltinCall "sorted" { pos:=[v] }) Q E s:=by
 have e1:splitId "sorted" = none:=by decide +kernel
 have h:=args_sorted1 v;unfold argsOk at h;unfold checkBuiltinCall;rw [e1]
 have fin:wpAny M A (match Manifest.signature? "sorted" with
   | some sig=>Bind.checkArgs "sorted" sig { pos:=[v] }
   | x=>pure ()) Q E s:=by
  cases hs:Manifest.signature? "sorted" with
  | none=>exact ab2 q
  | some sig =>
   rw [hs] at h
   have h:Bind.checkArgs "sorted" sig { pos:=[v] } = pure ():=h
   show wpAny M A (Bind.checkArgs "sorted" sig { pos:=[v] }) Q E s
   rw [h];exact ab2 q
 cases builtinKind "sorted" with
 | none=>exact fin
 | some k=>exact fin
theorem t8 {prog:Program}{w:World}{a:Addr}{vs:List Value}{ns:List Int}{n:Nat}{Q:Value→Shared→Prop} (h:s.heap.get? a=some (seqObj "list" vs.toArray n)) (hi:IntsAre vs ns) (hl:vs.length < 64)
  (q:∀ (out:Array Value) (ns':List Int),IntsAre out.toList ns'→ns'.Perm ns→List.Pairwise (fun x y=>x≤y) ns'→Q .none { s with heap:=sortedHeap s.heap a vs out }):wpAny (model prog w) A (call (.builtin "list.sort") [.ref a]) Q E s:=by
 refine wpAny_call (codeAny_call_builtin PySem.F.slot_list_sort.plain PySem.F.entry_list_sort ?_);refine PySem.F.slot_list_sort.check _ _ _ _ _ _ _ _ ⟨_,h,rfl⟩ (PySem.F.args_list_sort_1 _) ?_;exact list_sort_tree h hi hl fun out ns' h1 h2 h3=>q out ns' h1 h2 h3
theorem l3 {vs:List (Key × Value)}{ns:List Int}{acc:List Value} (hk:vs.map (·.1)=ns.map Sum.inl) (hl:acc.length=vs.length) (h:∀ (j:Nat) v,acc[j]?=some v->∃ k x,vs[j]?=some (k,x)/\eV k v=true):IntsAre acc ns:=by
 induction acc generalizing vs ns with
 | nil =>
  cases vs with
  | nil =>
   cases ns with
   | nil=>exact .nil
   | cons n ns=>cases hk
  | cons p vs=>cases hl
 | cons v acc ih =>
  cases vs with
  | nil=>cases hl
  | cons p vs =>
   cases ns with
   | nil=>cases hk
   | cons n ns =>
    obtain ⟨k,x,e,hv⟩:=h 0 v rfl
    have e:p=(k,x):=zX e;subst e
    have g:=(List.cons.inj hk).1
    have g:k=Sum.inl n:=g;subst g
    have hv:Value.isInt n v=true:=hv
    obtain ⟨t,rfl⟩:∃ t,v=Value.int n t:=by
     unfold Value.isInt at hv
     split at hv
     ·rename_i i t hq
      exact ⟨t,by rw [eq_of_beq hv]⟩
     ·cases hv
    exact .cons n t (ih (List.cons.inj hk).2 (Nat.succ.inj hl) fun j u hj=>h (j+1) u hj)
theorem qu {kvs:List (Key × V)}{vs:List (Key × Value)} (r:KV kvs vs):vs.map (·.1)=kvs.map (·.1):=by
 unfold KV at r
 induction r with
 | nil=>rfl
 | cons h _ ih=>rw [ad8,ad8,ih,h.1]
theorem oa {prog:Program}{w:World}{d:Addr}{kvs:List (Key × Value)}{ep:Nat}{Q:List Value->Shared->Prop} (hh:A.handled=none) (hsys:(d == sysModules)=false) (hd:Heap.DictAt (ba prog w) s.heap d kvs ep) (hn:kvs.length<=sizeLine)
  (q:∀ (h':Heap) (tk:Nat) (acc:Array Value),(∀ b o,s.heap.get? b=some o->h'.get? b=some o)->s.heap.objs.size < h'.objs.size->ItemsOf (fun i v=>∃ k x,kvs[i]?=some (k,x)/\eV k v=true) acc kvs.length->Q acc.toList { s with heap:=h',toks:=tk }) :
  wpAny (model prog w) A (collect (.ref d)) Q E s:=by
 unfold collect;refine zT (wpAny_runValue (codeAny_builtin PySem.F.entry_proto_collect ?_));unfold Builtin.«proto.collect»;refine zT (wpAny_newList ?_ (by show 0<=sizeLine;decide))
 refine ab2 ⟨Code.quiet_builtin { pos:=[.ref s.heap.objs.size,.ref d] } (by decide +kernel),?_⟩
 refine codeAny_builtin PySem.F.entry_list_iadd ?_;unfold Builtin.«list.__iadd__»;refine zT ?_;unfold slotArgs;refine ab2 ?_
 have g:d < s.heap.objs.size:=by
  obtain ⟨o,es,g1,_⟩:=id hd;exact zU g1
 rw [Around.under_plainId (by decide +kernel)]
 have h:(s.heap.push { cls:=.type "list",data:=.seq #[] }).get? s.heap.objs.size=some { cls:=.type "list",data:=.seq #[] }:=aa8 _ rfl
 obtain ⟨o,es,g1,g2,g3,g4,g5,g6⟩:=id hd
 refine PySem.W.kdl_extend (A:=A) (R:=fun r s'=>match r with
   | Except.ok (Flow.ret v)=>wpAny (model prog w) A (match v with
      | Value.ref a=>do
       let __do_lift ← load a
       match __do_lift.data with
        | Data.seq xs epoch=>pure xs.toList
        | x=>unsupported "internal:collect"
      | x=>unsupported "internal:collect") Q E s'
   | Except.ok a=>False
   | Except.error e=>E e s') (s:={ s with heap:=s.heap.push { cls:=.type "list",data:=.seq #[] } }) (PySem.W.kdl_dict (knd:=ba prog w) (kvs:=kvs) (ep:=ep) hsys) hh ⟨o,es,zP _ g1,g2,g3,g4,g5,g6⟩ s.heap.objs.size (aj8 g) (aj8 g) (.ref s.heap.objs.size) 0 h (fun h' tk acc c kp hS it=>?_) hn
 dsimp only;refine zT (wpAny_load hS ?_);dsimp only;refine ab2 (q h' tk acc (fun b o e=>kp b o (aa4 (zU e)) (zP _ e)) (zU hS) it)
section
variable {X:Cx}
inductive gq (xs:List V) (H:Hp) (Q:VK):Prop
 | mk:∀ (p:Addr) (kvs:List (Key × V)) (ns:List Int),xs=[.ref p]->H p=some (.dK kvs)->kvs.map (·.1)=ns.map Sum.inl->ns.length < 64->(∀ l ns',H l=none->ns'.Perm ns->List.Pairwise (fun x y=>x<=y) ns'->Q (.ref l) (upd H l (.lst (ns'.map V.int))))->gq xs H Q
theorem cQ (hc:X.calm=true):cG X (.builtin "sorted") (gq):=by
 intro P s σ H xs us Q I r h;obtain ⟨p,E,ns,rfl,hp,hk,hl,q⟩:=h;obtain ⟨u,rfl,rx⟩:=cH r
 cases rx;obtain ⟨z,D,vs,B,o,es,ep,g1,g2,g3,g4,g5,g6⟩:=dn I.hok (.inl hp)
 have O:E.length=ns.length:=by
  have:=congrArg List.length hk;rw [zM,zM] at this;exact this
 have S:=B.length
 have J:vs.map (·.1)=ns.map Sum.inl:=by
  rw [<- hk];exact qu B
 refine wpAny_call (codeAny_call_builtin (by decide +kernel) entry_sorted (n9 ?_))
 unfold Builtin.sorted;refine zT ?_
 show wpAny _ X.A.in1 (pure ()) _ _ s
 refine ab2 ?_;refine zT (oa (show X.A.in1.handled=none from I.ok.hd hc) D ⟨_,_,g1,g2,g3,g4,g5,g6⟩ (by omega) fun h' tk g kp C it=>?_)
 have L:IntsAre g.toList ns:=l3 J (by rw [ah7];exact it.1) fun j v hj=>it.2 j v (by simpa using hj)
 have l:g.toList.length < 64:=by rw [ah7,it.1];omega
 refine zT (wpAny_newList ?_ (zR (ah4 l) (by decide)))
 have ha:(h'.push { cls:=.type "list",data:=.seq g.toList.toArray }).get? h'.objs.size=some (seqObj "list" g.toList.toArray 0):=aa8 _ rfl
 refine zT (ag8 (t8 (A:=X.A.in1) (a:=h'.objs.size) (n:=0) ha L l fun out G h1 h2 h3=>?_));refine ab2 ?_;obtain ⟨e,he⟩:=sortedHeap_at (vs:=g.toList) (out:=out) ha
 have hv:=jz h1;refine ⟨.ref h'.objs.size,_,I.laid (t':=tk) (fun b o' z=>?_) (ah4 C) (show ObjOk X.prog X.w _ _ _ (.lst (G.map V.int)) from ⟨?_,out.toList,e,hv,?_⟩),rfl,q _ _ (I.hok.fresh (ah4 C)) h2 h3⟩
 ·have z':=kp b o' z
  have hb:=zU z';rw [sortedHeap_old (aa4 hb) (by rw [Heap.size_push];exact ad0 hb)]
  exact zP _ z'
 ·rw [zM,h2.length_eq]
  exact zR (ah4 hl) (by decide)
 ·exact he
end
structure GT (K:PySem.W.Frag) (mg:Str->Option Value) (x:Str) (st:Stmt) (f:Addr) (ps:List Str) (c t:Addr):Prop where
 m:mg x=some (.ref f)
 F:FunT K x x st f (fd K f) c t
 b:Binds K (fd K f) ps []
 k:PySem.W.keepIn K (.ref f)=true
 nl:K.lookup t=none
structure MT (K:PySem.W.Frag) (C:Addr) (x q:Str) (st:Stmt) (f:Addr) (ps:List Str) (c t:Addr):Prop where
 me:Meth K C x f
 F:FunT K x q st f (fd K f) c t
 b:Binds K (fd K f) ps []
 k:PySem.W.keepIn K (.ref f)=true
 nl:K.lookup t=none
section
variable {K:PySem.W.Frag}{h:Heap}{mg:Str->Option Value}{x q:Str}{st:Stmt}{f C c t:Addr}{ps:List Str}{oc:Value}{od an cod:Option Addr}{osl csl:Array (Option Value)}{cvs:Array Value}{kV doc pm ct:Value}
theorem gt_mk (X:K.In h) (G:h.Ns mainGlobals mg) (a:PySem.W.nsIn K mainGlobals x=some (some (.ref f))) (l:K.lookup f=some ⟨oc,od,.func (PySem.W.fnOf x x (bv st) (aY st) (ah st) .none kV doc pm an (.ref c) ct),osl⟩) (hc:PySem.W.codeIn K (.ref c) x=true) (_:K.lookup c=some ⟨.type "code",cod,.fields cvs,csl⟩) (_:cvs[11]?=some (.ref t)) (hd:PySem.W.codeHdIn K c t=true) (nl:K.lookup t=none) (k:PySem.W.keepIn K (.ref f)=true) (hb:BndP x x st ps):GT K mg x st f ps c t:=by
 have F:FunT K x x st f (fd K f) c t:=by rw [mV l];exact qp l hc k hd
 exact ⟨PySem.W.mg_of X G a,F,F.fun.binds hb,k,nl⟩
theorem mt_mk (a:PySem.W.findIn K (.ref C) x=some (some (.ref f))) (i:PySem.W.isFn K (.ref f)=true) (l:K.lookup f=some ⟨oc,od,.func (PySem.W.fnOf x q (bv st) (aY st) (ah st) .none kV doc pm an (.ref c) ct),osl⟩) (hc:PySem.W.codeIn K (.ref c) q=true) (_:K.lookup c=some ⟨.type "code",cod,.fields cvs,csl⟩) (_:cvs[11]?=some (.ref t)) (hd:PySem.W.codeHdIn K c t=true) (nl:K.lookup t=none) (k:PySem.W.keepIn K (.ref f)=true) (hb:BndP x q st ps):MT K C x q st f ps c t:=by
 have F:FunT K x q st f (fd K f) c t:=by rw [mV l];exact qp l hc k hd
 exact ⟨⟨a,i,k⟩,F,F.fun.binds hb,k,nl⟩
end
section
variable {P:Program}{w:World}{K:PySem.W.Frag}{mg:Str->Option Value}{base:Heap}
theorem FunT.okA {x qual:Str}{st:Stmt}{f c t:Addr}{fd:FuncData}{N ps:List Str}{k:Nat}{sp:Sp} (F:FunT K x qual st f fd c t) (S:ap N ps (ah st))
  (hbody:∀ (A:Around) (outer:List Env) (s:Shared) (H:Hp) (vs:List V) (Q:VK) (E:XK),Room k (A.deeper (envOfC qual (ah st) s.heap.objs.size f (.ref c)))->sp vs H Q E →
   ∃ t,PSs (cxOf CX0 P w K mg base N qual (ah st) f (.ref c) A outer s H E).nox (aY st) t/\t { nx:=fun _ H'=>Q .non H',rt:=Q } (start N vs) H)
  (len:∀ vs H Q E,sp vs H Q E->vs.length=ps.length:=by intro vs H Q E h;first | (cases h;subst_vars;rfl) | ((repeat (obtain ⟨_,h⟩:=h));subst_vars;rfl)):FnOk P w K mg base CX0 (k+1) f fd ps sp:=F.ok S len hbody
end
end L2
namespace L2
open PySem PySem.Spec PySem.W PyProof.Rows
section
variable {P:Program}{w:World}{K:PySem.W.Frag}{mg:Str->Option Value}{base:Heap}{A:Around}{outer:List Env}{s:Shared}{H:Hp}{l I S:Addr}{xs:List V}{f:Value}{kf:Nat->Int}
def KeyE (outer:List Env) (P:Program) (w:World) (H:Hp) (s:Shared) (k:Int):Value->Shared->Prop:=fun u s'=>∃ (H':Hp) (t:Tok),u=.int k t/\s'.os=s.os/\AllBare s'.gens/\Un (frs outer) [] H H' s.heap s'.heap/\HOk P w H' s'.heap/\Same H H'
structure MinAt (P:Program) (w:World) (outer:List Env) (s:Shared) (H:Hp) (l I S:Addr) (j:Nat) (best:Array Value) (s':Shared) (H':Hp):Prop where
 os:s'.os=s.os
 bare:AllBare s'.gens
 un:Un (frs outer) [] H H' s.heap s'.heap
 hok:HOk P w H' s'.heap
 same:Same H H'
 hS:∃ c,s'.heap.get? S=some (seqObj "list" best c)
 nS:H' S=none
 hI:s'.heap.IsListIter I l j
 nI:H' I=none
def Least (kf:Nat->Int) (n i:Nat):Prop:=∀ j,j < n->kf i<=kf j/\(j < i->kf i < kf j)
theorem Least.more {n i:Nat} (h:Least kf n i) (hi:i < n):Least kf (n+1) (if kf n < kf i then n else i):=fun j hj=>by
 by_cases z:kf n < kf i
 ·rw [if_pos z]
  by_cases e:j=n
  ·subst e;exact ⟨Int.le_refl _,fun y=>absurd y (ad4 _)⟩
  ·have:=h j (by omega)
   exact ⟨by omega,fun _=>by omega⟩
 ·rw [if_neg z]
  by_cases e:j=n
  ·subst e;exact ⟨by omega,fun y=>by omega⟩
  ·exact h j (by omega)
variable {j:Nat}{best:Array Value}{s':Shared}{H':Hp}
structure MinG (P:Program) (w:World) (K:PySem.W.Frag) (mg:Str->Option Value) (base:Heap) (A:Around) (outer:List Env) (s:Shared) (H:Hp) (l I S:Addr) (xs:List V) (f:Value) (kf:Nat->Int):Prop where
 hh:A.handled=none
 e0:Env0 P w K mg base A outer s H
 hl:H l=some (.lst xs)
 nI:s.heap.objs.size<=I
 nS:s.heap.objs.size<=S
 IS:I≠S
 hf:∀ (s':Shared) (H':Hp) (i:Nat) (x:V) (v:Value),xs[i]?=some x->Same H H'->Env0 P w K mg base A.in1 outer s' H'->Un (frs outer) [] H H' s.heap s'.heap->RelV x v->wpAny (model P w) A.in1 (call f [v]) (KeyE outer P w H' s' (kf i)) (fun _ _=>False) s'
theorem MinG.lI (g:MinG P w K mg base A outer s H l I S xs f kf):l≠I:=fun e=>by
 have:=g.e0.hok.fresh g.nI;rw [<- e,g.hl] at this;cases this
theorem MinAt.moved (m:MinAt P w outer s H l I S j best s' H') (nI:s.heap.objs.size<=I) (IS:I≠S) {h':Heap}{tk j':Nat} (k:∀ b o,b∉[I]->s'.heap.get? b=some o->h'.get? b=some o) (hI:h'.IsListIter I l j'):MinAt P w outer s H l I S j' best { s' with heap:=h',toks:=tk } H':=by
 have k':∀ b o,b≠I->s'.heap.get? b=some o->h'.get? b=some o:=fun b o hb e=>k b o (by simpa using hb) e
 obtain ⟨c,hS⟩:=m.hS;exact ⟨m.os,m.bare,m.un.turn nI k',m.hok.turn m.nI k',m.same,⟨c,k' S _ IS.symm hS⟩,m.nS,hI,m.nI⟩
theorem MinAt.put (m:MinAt P w outer s H l I S j best s' H') (nS:s.heap.objs.size<=S) (IS:I≠S) (bs:Array Value):MinAt P w outer s H l I S j bs { s' with heap:=s'.heap.update S (Obj.mapSeq fun _=>bs) } H':=by
 obtain ⟨c,hS⟩:=m.hS
 have s1:=aj1 s'.heap S (Obj.mapSeq fun _=>bs)
 have k':∀ b o,b≠S->s'.heap.get? b=some o->(s'.heap.update S (Obj.mapSeq fun _=>bs)).get? b=some o:=fun b o hb e=>(s1.2 b hb).trans e;obtain ⟨o,h1,h2⟩:=m.hI;exact ⟨m.os,m.bare,m.un.turn nS k',m.hok.turn m.nS k',m.same,⟨_,get?_update_seq hS fun _=>bs⟩,m.nS,⟨o,k' I _ IS h1,h2⟩,m.nI⟩
theorem jC (g:MinG P w K mg base A outer s H l I S xs f kf) {s':Shared}{H':Hp}{j:Nat}{best:Array Value}{E:Value->Shared->Prop}{Q:Option Value->Shared->Prop} (m:MinAt P w outer s H l I S j best s' H') (hj:j<=xs.length)
  (no:j=xs.length->∀ (h':Heap) (tk:Nat),(∀ b o,b∉[I]->s'.heap.get? b=some o->h'.get? b=some o)->Q none { s' with heap:=h',toks:=tk })
  (yes:∀ x v s'',xs[j]?=some x->RelV x v->MinAt P w outer s H l I S (j+1) best s'' H'->Q (some v) s''):wpAny (model P w) A.in1 (pyNext (.ref I)) Q E s':=by
 obtain ⟨_,h,n,rv,C⟩:=m.hok l _ (m.same _ _ g.hl)
 have B:=rv.length
 have W:=Walks.list (prog:=P) (w:=w) (A:=A.in1) g.hh I l g.lI h.toArray
 have r:s'.heap.IsList l h.toArray:=⟨_,C,rfl,n,rfl⟩
 by_cases e:j < xs.length
 ·refine W.item j s' _ _ (by rw [zW];omega) ⟨m.hI,r⟩ fun v h' tk hP D hk=>?_
  have hv:h[j]?=some v:=by simpa using hP
  obtain ⟨u,e1,e2⟩:=rv.get (zL e);rw [hv] at e1
  cases e1;exact yes _ v _ (zL e) e2 (m.moved g.nI g.IS hk D.1)
 ·have e':j=xs.length:=by omega
  refine W.done s' _ _ ⟨?_,r⟩ fun h' tk hk=>no e' h' tk hk;rw [zW,← B,← e'];exact m.hI
theorem MinAt.size (m:MinAt P w outer s H l I S j best s' H') (nS:s.heap.objs.size<=S):s.heap.objs.size<=s'.heap.objs.size:=by
 obtain ⟨c,hS⟩:=m.hS;exact zR nS (ah4 (zU hS))
theorem qv (g:MinG P w K mg base A outer s H l I S xs f kf) {s':Shared}{H':Hp}{j i:Nat}{best:Array Value}{x:V}{v:Value}{Q:Value->Shared->Prop}{E:Value->Shared->Prop} (m:MinAt P w outer s H l I S j best s' H') (hx:xs[i]?=some x) (rx:RelV x v)
  (q:∀ t s'' H'',MinAt P w outer s H l I S j best s'' H''->Q (.int (kf i) t) s''):wpAny (model P w) A.in1 (call f [v]) Q E s':=by
 refine af3 (g.hf s' H' i x v hx m.same (g.e0.after rfl m.un m.hok m.bare (m.size g.nS)) m.un rx) (fun u s'' h=>?_) fun _ _ h=>h.elim;obtain ⟨H'',t,rfl,os,bare,un,hok,sm⟩:=h;obtain ⟨c,hS⟩:=m.hS;obtain ⟨o,h1,h2⟩:=m.hI
 have nf:∀ b,s.heap.objs.size<=b->b∉frs outer:=fun b hb z=>absurd (g.e0.lt z) (Nat.not_lt.mpr hb)
 have r:∀ b:Addr,b∉([]:List Addr):=fun b=>ab9;exact q t s'' H'' ⟨os.trans m.os,bare,m.un.trans un,hok,m.same.trans sm,⟨c,un.keep S _ hS m.nS (nf S g.nS) (r S)⟩,un.free S _ hS m.nS (r S),⟨o,un.keep I _ h1 m.nI (nf I g.nI) (r I),h2⟩,un.free I _ h1 m.nI (r I)⟩
end
section
variable {P:Program}{w:World}{K:PySem.W.Frag}{mg:Str->Option Value}{base:Heap}{A:Around}{outer:List Env}{s:Shared}{H:Hp}{l I S:Addr}{xs:List V}{f:Value}{kf:Nat->Int}{R:Result->Shared->Prop}
theorem vL (g:MinG P w K mg base A outer s H l I S xs f kf)
  (hR:∀ (i:Nat) (x:V) (v:Value) (s':Shared) (H':Hp),xs[i]?=some x->RelV x v->Least kf xs.length i->s'.os=s.os->AllBare s'.gens->Un (frs outer) [] H H' s.heap s'.heap->HOk P w H' s'.heap->Same H H'->R (.ok (.ret v)) s') (hfn:(∃ q,f=.ref q)\/∃ b,f=.builtin b) :
  ∀ (r j i:Nat) (s':Shared) (H':Hp) (x:V) (v:Value) (t:Tok),xs.length - j=r->j<=xs.length->i < j->MinAt P w outer s H l I S j #[v,.int (kf i) t] s' H'->xs[i]?=some x->RelV x v->Least kf j i →
   codeAny (model P w) A (.builtin "min.loop" ⟨[.ref I,f,.ref S],[]⟩) R s':=by
 have nm:(toString "min" ++ toString ".loop" : String) = "min.loop":=by decide
 intro r
 induction r with
 | zero =>
  intro j i s' H' x v t hr hj C m hx rx hb;obtain ⟨c,hS⟩:=m.hS;refine codeAny_builtin PySem.F.entry_min_loop ?_;rw [Around.under_plainId ah1 _]
  show wpAny (model P w) A.in1 (seqItems? (.ref S) >>= _) _ _ s'
  refine zT (wpAny_seqItems hS rfl ?_)
  show wpAny (model P w) A.in1 (tryCatch (pyNext (.ref I)) _ >>= _) _ _ s'
  refine zT (wpAny_tryCatch (jC g m hj (fun e h' tk hk=>?_) fun y u E hy=>?_))
  ·have k':∀ b o,b≠I->s'.heap.get? b=some o->h'.get? b=some o:=fun b o hb e=>hk b o (by simpa using hb) e
   have s1:=aj1 h' S (Obj.mapSeq fun _=>(#[]:Array Value))
   have k2:∀ b o,b≠S->h'.get? b=some o->(h'.update S (Obj.mapSeq fun _=>(#[]:Array Value))).get? b=some o:=fun b o hb e=>(s1.2 b hb).trans e
   show wpAny (model P w) A.in1 (updateSeq S (fun _=>#[]) >>= _) _ _ _
   refine zT (wpAny_updateSeq (k' S _ g.IS.symm hS) rfl (zT (wpAny_letGo (ab2 ?_))));exact hR i x v _ H' hx rx (e ▸ hb) m.os m.bare ((m.un.turn g.nI k').turn g.nS k2) ((m.hok.turn m.nI k').turn m.nS k2) m.same
  ·have:=(zV.mp hy).1
   omega
 | succ r ih =>
  intro j i s' H' x v t hr hj C m hx rx hb;obtain ⟨c,hS⟩:=m.hS;refine codeAny_builtin PySem.F.entry_min_loop ?_;rw [Around.under_plainId ah1 _]
  show wpAny (model P w) A.in1 (seqItems? (.ref S) >>= _) _ _ s'
  refine zT (wpAny_seqItems hS rfl ?_)
  show wpAny (model P w) A.in1 (tryCatch (pyNext (.ref I)) _ >>= _) _ _ s'
  refine zT (wpAny_tryCatch (jC g m hj (fun e=>by omega) fun y u s1 hy ry m1=>?_))
  rcases hfn with ⟨q,rfl⟩ | ⟨b,rfl⟩
  all_goals
   show wpAny (model P w) A.in1 (tryCatch (holding [u] (call _ [u])) _ >>= _) _ _ s1
   refine zT (wpAny_tryCatch (ag8 (qv g m1 hy ry fun t2 s2 H2 m2=>?_)))
   show wpAny (model P w) A.in1 (tryCatch (holding [u,.int (kf j) t2] (richCompare .Lt (.int (kf j) t2) (.int (kf i) t) >>= _)) _ >>= _) _ _ s2
   refine zT (wpAny_tryCatch (ag8 (zT (CmpOf.ints_lt (prog:=P) (w:=w) (A:=A.in1) (P:=fun i v=>∃ t,v=.int (kf i) t) kf (fun i v h=>h) j i _ _ _ _ _ ⟨t2,rfl⟩ ⟨t,rfl⟩ ?_))));refine zT (ag8 (ah2 (zT (wpAny_letGo (ab2 ?_)))))
   have B:=hb.more C;obtain ⟨c2,D⟩:=m2.hS
   by_cases lt:kf j < kf i
   ·simp only [lt,decide_true,if_true]
    refine zT (wpAny_updateSeq D rfl (zT (wpAny_letGo ?_)));rw [nm];rw [if_pos lt] at B;exact ab2 ⟨plainId_quiet ah1 _,ih (j+1) j _ H2 y u t2 (by omega) (by omega) (ab3 j) (m2.put g.nS g.IS _) hy ry B⟩
   ·simp only [lt,decide_false,ak9,if_false]
    refine zT (wpAny_letGo ?_);rw [nm];rw [if_neg lt] at B;exact ab2 ⟨plainId_quiet ah1 _,ih (j+1) i _ H2 x v t (by omega) (by omega) (by omega) m2 hx rx B⟩
theorem qw {Q:Value->Shared->Prop}{E:Value->Shared->Prop} (hh:A.handled=none) (e0:Env0 P w K mg base A outer s H) (hl:H l=some (.lst xs)) (ne:0 < xs.length) (hfn:(∃ q,f=.ref q)\/∃ b,f=.builtin b)
  (hf:∀ (s':Shared) (H':Hp) (i:Nat) (x:V) (v:Value),xs[i]?=some x->Same H H'->Env0 P w K mg base A.in1 outer s' H'->Un (frs outer) [] H H' s.heap s'.heap->RelV x v->wpAny (model P w) A.in1 (call f [v]) (KeyE outer P w H' s' (kf i)) (fun _ _=>False) s')
  (hQ:∀ (i:Nat) (x:V) (v:Value) (s':Shared) (H':Hp),xs[i]?=some x->RelV x v->Least kf xs.length i->s'.os=s.os->AllBare s'.gens->Un (frs outer) [] H H' s.heap s'.heap->HOk P w H' s'.heap->Same H H'->Q v s') :
  wpAny (model P w) A (call (.builtin "min") [.ref l] [(Str.ofString "key",f)]) Q E s:=by
 have nm:(toString "min" ++ toString ".loop" : String) = "min.loop":=by decide
 obtain ⟨_,C,n,rv,h⟩:=e0.hok l _ hl
 have D:s.heap.IsList l C.toArray:=⟨_,h,rfl,n,rfl⟩
 have ha:argsOk "min" ⟨[.ref l],[(Str.ofString "key",f)]⟩:=kmk_min_key _ _
 refine kmk_tree PySem.F.kind_min PySem.F.plain_min PySem.F.entry_min ha ?_
 show wpAny (model P w) A.in1 (Builtin.Builtins.bindParams "min" ["key", "default"] 0 ⟨[],[(Str.ofString "key",f)]⟩ >>= _) _ _ s
 refine zT (wpAny_of_eq (show Builtin.Builtins.bindParams "min" ["key", "default"] 0 ⟨[],[(Str.ofString "key",f)]⟩=pure [some f,none] from rfl) (zT (ab2 (zT (aj9 D ?_)))))
 refine zT (wpAny_newList ?_ (ab1 _));rw [nm]
 have hS:(s.heap.push { cls:=.type "list_iterator",data:=.fields #[.ref l,.int 0 0] }).objs.size=s.heap.objs.size+1:=size_push' ..
 have kp:∀ b o,s.heap.get? b=some o→((s.heap.push { cls:=.type "list_iterator",data:=.fields #[.ref l,.int 0 0] }).push (seqObj "list" #[] 0)).get? b=some o:=fun b o e=>zP _ (zP _ e)
 have g:MinG P w K mg base A outer s H l s.heap.objs.size (s.heap.push { cls:=.type "list_iterator",data:=.fields #[.ref l,.int 0 0] }).objs.size xs f kf:=⟨hh,e0,hl,zQ _,by rw [hS];exact am5 _,by rw [hS];exact aa4 (ab3 _),hf⟩
 have m0:MinAt P w outer s H l s.heap.objs.size (s.heap.push { cls:=.type "list_iterator",data:=.fields #[.ref l,.int 0 0] }).objs.size 0 #[] { s with heap:=(s.heap.push { cls:=.type "list_iterator",data:=.fields #[.ref l,.int 0 0] }).push (seqObj "list" #[] 0) } H:=⟨rfl,e0.bare,Un.kept kp,e0.hok.kept kp,Same.refl _,⟨0,aa8 _ rfl⟩,e0.hok.fresh g.nS,⟨_,zP _ (aa8 _ rfl),rfl,rfl⟩,e0.hok.fresh (zQ _)⟩
 refine ab2 ⟨plainId_quiet ah1 _,?_⟩
 show codeAny (model P w) A _ _ { s with heap:=(s.heap.push { cls:=.type "list_iterator",data:=.fields #[.ref l,.int 0 0] }).push (seqObj "list" #[] 0) }
 generalize (s.heap.push { cls:=.type "list_iterator",data:=.fields #[.ref l,.int 0 0] }).objs.size=S at g m0
 generalize ({ s with heap:=(s.heap.push { cls:=.type "list_iterator",data:=.fields #[.ref l,.int 0 0] }).push (seqObj "list" #[] 0) }:Shared)=s0 at m0
 obtain ⟨c,G⟩:=m0.hS;refine codeAny_builtin PySem.F.entry_min_loop ?_;rw [Around.under_plainId ah1 _]
 show wpAny (model P w) A.in1 (seqItems? (.ref S) >>= _) _ _ s0
 refine zT (wpAny_seqItems G rfl ?_)
 show wpAny (model P w) A.in1 (tryCatch (pyNext (.ref s.heap.objs.size)) _ >>= _) _ _ s0
 refine zT (wpAny_tryCatch (jC g m0 (ab1 _) (fun e=>by omega) fun y u s1 hy ry m1=>?_))
 have lp:=vL g (R:=fun r s'=>match r with | .ok (.ret v)=>Q v s' | .ok _=>False | .error e=>E e s') (fun i x v s' H' h1 h2 h3 h4 h5 h6 h7 h8=>hQ i x v s' H' h1 h2 h3 h4 h5 h6 h7 h8) hfn
 have l0:Least kf 1 0:=fun j' I=>by
  obtain rfl:j'=0:=by omega
  exact ⟨Int.le_refl _,fun z=>absurd z (ad4 _)⟩
 rcases hfn with ⟨q,rfl⟩ | ⟨b,rfl⟩
 all_goals
  show wpAny (model P w) A.in1 (tryCatch (holding [u] (call _ [u])) _ >>= _) _ _ s1
  refine zT (wpAny_tryCatch (ag8 (qv g m1 hy ry fun t2 s2 H2 m2=>?_)));obtain ⟨c2,B⟩:=m2.hS
  show wpAny (model P w) A.in1 (updateSeq S (fun _=>#[u,.int (kf 0) t2]) >>= _) _ _ s2
  refine zT (wpAny_updateSeq B rfl ?_);rw [nm];exact ab2 ⟨plainId_quiet ah1 _,lp _ 1 0 _ H2 y u t2 rfl ne (ab3 0) (m2.put g.nS g.IS _) hy ry l0⟩
end
variable {K:PySem.W.Frag}{tg:Expr}
section
variable {X:Cx}
inductive gb (K:PySem.W.Frag) (xs:List V) (H:Hp) (Q:VK):Prop
 | mk:∀ (p:Addr) (bs:List Bool),xs=[.ref p]->SqL K H p (bs.map V.bl)->(Q (.bl (bs.any fun b=>b)) H)->gb K xs H Q
theorem l4 (hc:X.calm=true):cG X (.builtin "any") (gb X.K):=by
 intro B s σ H xs us Q I r h;obtain ⟨p,bs,rfl,hq,q⟩:=h;obtain ⟨u,rfl,rx⟩:=cH r
 cases rx;obtain ⟨g,rv,⟨o,nn,e1,e2,e3,e4⟩,hz⟩:=I.list hq
 have l:p≠s.heap.objs.size:=aa4 (zU e1);refine call_any_walk (aj9 ⟨o,e1,e2,nn,e4⟩ ?_);refine ⟨_,_,_,_,_,_,fun i=>bs.getD i false,rfl,Walks.list (A:=X.A.in1) (show X.A.in1.handled=none from I.ok.hd hc) s.heap.objs.size p l g.toArray,⟨⟨_,aa8 _ rfl,rfl,rfl⟩,⟨o,zP _ e1,e2,nn,e4⟩⟩,fun i v s' Q' E' hv q'=>?_,fun h' tk kp=>?_⟩
 ·rw [qh rv hv]
  exact ah2 q'
 ·have hl:g.toArray.size=bs.length:=by
   have:=rv.length;rw [zM] at this
   simp [this]
  rw [hl,lV (fun b:Bool=>b) false bs];exact ⟨.bl _,H,I.kept (t':=tk) fun b o e=>kp b o (fun z=>by rw [aa6.mp z] at e;exact absurd (zU e) (ad4 _)) (zP _ e),rfl,q⟩
theorem rV (hK:X.K=K) (hc:X.calm=true):cG X (.builtin "any") (gb K):=hK ▸ l4 hc
theorem vM {l:Expr}{tl:TE} (hK:X.K=K) (hl:PE X l tl):PI X tg l (wE K tl):=hK ▸ aJ hl
end
section
variable {X:Cx}
end
variable {pos:Pos}
section
variable {X:Cx}{pins:List (Addr × Obj)}{σ:St}{H:Hp}{s:Shared}
inductive lg (Q:VK) (x:V) (H1:Hp):Prop
 | mk:∀ (l:Addr) (as:List Addr) (n:Nat->Nat),x=.ref l->H1 l=some (.lst (as.map V.ref))->0 < as.length->((∀ i p,as[i]?=some p->∃ ys,H1 p=some (.lst ys)/\ys.length=n i))->(∀ i p H',as[i]?=some p->Least (fun i=>((n i:Nat):Int)) as.length i->Same H1 H'->Q (.ref p) H')->lg Q x H1
def xF (te:TE):TE:=fun σ H Q=>te σ H fun x H1=>lg Q x H1
theorem fK {as:List Addr}{i:Nat}{x:V} (h:(as.map V.ref)[i]?=some x):∃ p,as[i]?=some p/\x=.ref p:=by
 rw [zO] at h
 cases e:as[i]? with
 | none=>rw [e] at h;cases h
 | some p=>rw [e] at h;cases h;exact ⟨p,rfl,rfl⟩
theorem t9 {e:Expr}{te:TE}{p0 lp kp:Pos} (hc:X.calm=true) (hg:Gl X "min") (hm:X.mg "min" = none) (hg2:Gl X "len") (hm2:X.mg "len" = none) (he:PE X e te)
  (hs:starEach [e] X.env=(false,eval e X.env) :: starEach [] X.env:=by rfl) (hs2:backTo pos (starEach [e] X.env)=(false,eval e X.env) :: backTo pos (starEach [] X.env):=by rfl) (hs3:(backTo pos (starEach [e] X.env)).any (·.1)=false:=by rfl) :
  PE X (.Call (.Name "min" p0) [e] [⟨some "key",.Name "len" lp,kp⟩] pos) (xF te):=by
 intro r s σ H Q I h;refine ah9 (cA I hg hm boot_min ?_ (by decide) (by decide))
 refine callWith_kw ?_ hs2 hs3 rfl rfl
 refine thn ((aa he ac hs) pos r s σ H (fun vs H1=>match vs with
  | [x]=>lg Q x H1
  | _=>False) I h) ?_
 rintro us s1 ⟨vs,H1,I1,rv,q1⟩
 match vs,rv,q1 with
 | [x],rv,q1 =>
  obtain ⟨u,rfl,rx⟩:=cH rv;obtain ⟨l,as,n,rfl,hl,ne,hn,q⟩:=q1;obtain rfl:u=Value.ref l:=rx;refine kws_cons (cA I1 hg2 hm2 ab7 (kws_nil ?_) (by decide) (by decide))
  refine af3 (qw (K:=X.K) (mg:=X.mg) (base:=X.base) (outer:=X.stack) (H:=H1) (kf:=fun i=>((n i:Nat):Int)) (Q:=fun u s'=>CE X.stack X.prog X.w H1 s1 Q u s') (I1.ok.hd hc) I1.env0 hl (by rw [zM];exact ne) (.inr ⟨_,rfl⟩) (fun s3 H3 i x v hx sm e0 un C=>?_) (fun i x v s' H' hx rx hb os bare un hok sm=>?_)) (fun u s' ce=>I1.after ce) fun _ _ z=>z
  ·obtain ⟨p,hp,rfl⟩:=fK hx
   obtain ⟨ys,h1,h2⟩:=hn i p hp;obtain rfl:v=Value.ref p:=C;obtain ⟨hz,B,m,ri,ho⟩:=e0.hok p _ (sm _ _ h1)
   have g:=ri.length
   have D:=ii;refine Calls.call_len_list (items:=B.toArray) ⟨_,ho,rfl,m,rfl⟩ (by simp only [zW] <;> omega) ⟨H3,s3.toks+1,?_,rfl,e0.bare,Un.refl,e0.hok,Same.refl _⟩
   rw [zW,← g,h2]
  ·rw [zM] at hb
   obtain ⟨p,hp,rfl⟩:=fK hx;exact ⟨_,H',os,bare,un,hok,rx,q i p H' hp hb sm⟩
inductive rW (tb:TE) (Q:VK) (x:V) (H2:Hp):Prop
 | mk:∀ (l:Addr) (xs:List V) (kf:Nat->Int),x=.ref l->H2 l=some (.lst xs)->0 < xs.length->((∀ i y H',xs[i]?=some y->Same H2 H'->tb [some y] H' fun v H''=>v=.int (kf i)/\Same H' H''))->(∀ i y H',xs[i]?=some y->Least kf xs.length i->Same H2 H'->Q y H')->rW tb Q x H2
def zE (P:Addr) (lpos:Pos) (q:Str) (mk:Value->Value->Value->Value->FuncData) (te tb:TE):TE:=fun σ H Q=>te σ H fun x H1=>tFn P lpos q mk σ H1 fun _ H2=>rW tb Q x H2
theorem xG {c P:Addr}{p:Str}{k:Nat}{e:Expr}{te tb:TE}{params:Arguments}{body:Expr}{scope:Scope}{lpos kp p0:Pos} (T:TabK X c P) (hcl:closureFor scope X.env=pure []) (hc:X.calm=true) (hr:Room (k+3) X.A) (hg:Gl X "min") (hm:X.mg "min" = none) (he:PE X e te)
  (S:dY [p] [p] scope) (hfr:∀ q∈scope.names,q.2≠.free)
  (hb:∀ (pm cdv ctv u:Value),bindArgs (PySem.W.kla_fn (Str.ofString "<lambda>") (X.env.qual++Str.ofString "<lambda>") params body scope [] pm cdv ctv) ⟨[u],[]⟩=pure [(p,u)])
  (hbody:∀ (A:Around) (outer:List Env) (s:Shared) (H:Hp) (fa c':Addr),Room k (A.deeper (envC (X.env.qual++Str.ofString "<lambda>") scope s.heap.objs.size fa (.ref c') []))→PE (cxC X.prog X.w X.K X.mg X.base [p] (envC (X.env.qual++Str.ofString "<lambda>") scope s.heap.objs.size fa (.ref c') []) A outer s H) body tb)
  (h1:defaultsOf params X.env=([],[]):=by rfl) (hs:starEach [e] X.env=(false,eval e X.env) :: starEach [] X.env:=by rfl) (hs2:backTo pos (starEach [e] X.env)=(false,eval e X.env) :: backTo pos (starEach [] X.env):=by rfl) (hs3:(backTo pos (starEach [e] X.env)).any (·.1)=false:=by rfl) :
  PE X (.Call (.Name "min" p0) [e] [⟨some "key",.Lambda params body scope lpos,kp⟩] pos) (zE P lpos (X.env.qual++Str.ofString "<lambda>") (fun _ pm cdv ctv=>PySem.W.kla_fn (Str.ofString "<lambda>") (X.env.qual++Str.ofString "<lambda>") params body scope [] pm cdv ctv) te tb):=by
 intro B s σ H Q I h;refine ah9 (cA I hg hm boot_min ?_ (by decide) (by decide))
 refine callWith_kw ?_ hs2 hs3 rfl rfl
 refine thn ((aa he ac hs) pos B s σ H (fun vs H1=>match vs with
  | [x]=>tFn P lpos (X.env.qual++Str.ofString "<lambda>") (fun _ pm cdv ctv=>PySem.W.kla_fn (Str.ofString "<lambda>") (X.env.qual++Str.ofString "<lambda>") params body scope [] pm cdv ctv) σ H1 (fun _ H2=>rW tb Q x H2)
  | _=>False) I h) ?_
 rintro us s1 ⟨vs,H1,I1,rv,q1⟩
 match vs,rv,q1 with
 | [x],rv,q1 =>
  obtain ⟨u,rfl,rx⟩:=cH rv;refine kws_cons (PySem.W.kla_eval h1 (thn (nO T hcl I1 (nV q1)) fun f s2 ⟨vf,H2,I2,rf,q2,fa,c',_,pm,ctv,G,L,C⟩=>kws_nil ?_));subst G;obtain rfl:f=Value.ref fa:=rf;obtain ⟨l,xs,kf,rfl,hl,ne,D,q⟩:=q2;obtain rfl:u=Value.ref l:=rx;refine af3 (qw (K:=X.K) (mg:=X.mg) (base:=X.base) (outer:=X.stack) (H:=H2) (kf:=kf) (Q:=fun u s'=>CE X.stack X.prog X.w H2 s2 Q u s') (I2.ok.hd hc) I2.env0 hl ne (.inl ⟨_,rfl⟩) (fun s3 H3 i x v hx sm e0 un J=>?_) (fun i x v s' H' hx rx hb os bare un hok sm=>⟨_,H',os,bare,un,hok,rx,q i x H' hx hb sm⟩)) (fun u s' ce=>I2.after ce) fun _ _ z=>z;refine wpAny_call (am6 (nU (N:=[p]) (ps:=[p]) (cv:=[]) (vs:=[x]) (us:=[v]) (σ0:=[some x]) (E:=E0) (Q:=fun v g=>v=.int (kf i)/\Same H3 g) S (k:=k+1) hr.in1 e0 (.cons J .nil) (sm _ _ L) (sm _ _ C) (hb _ _ _ _) ⟨fun x z c e1=>(by cases e1),fun x hx=>absurd rfl (hfr (x,.free) (ae0 hx)),fun x c e=>(by cases e)⟩ ⟨rfl,fun i x v e1 e2=>?_⟩ (hbody _ _ _ _ _ _ (((hr.in1).deeper _).mono (am5 k))) (D i x H3 hx sm)) fun r s' hq=>?_)
  ·match i,e1,e2 with
   | 0,e1,e2=>exact .inl ⟨e1,by cases e2;rfl⟩
  ·cases r with
   | error _=>exact False.elim hq
   | ok fl =>
    cases fl with
    | next=>exact False.elim hq
    | brk=>exact False.elim hq
    | cont=>exact False.elim hq
    | ret u =>
     obtain ⟨v,g,os,bare,un,hok,rv,rfl,sm⟩:=hq;obtain ⟨t,rfl⟩:=rv;exact ⟨g,t,rfl,os,bare,un,hok,sm⟩
end
def iZ (kb:List (Key × V)):List (Key × V)->Bool
 | []=>true
 | p :: r=>match valV kb p.1 with
  | none=>false
  | some u=>eqV p.2 u && iZ kb r
def eqKV (ka kb:List (Key × V)):Bool:=ka.length == kb.length && iZ kb ka
def fL (ka:List (Key × V)):Bool:=ka.all fun p=>cY p.2
theorem ua {kb:List (Key × V)} (h:fL kb=true) {k:Key}{u:V} (e:valV kb k=some u):cY u=true:=by
 unfold valV at e;obtain ⟨p,hp,rfl⟩:=al1.mp e;exact ab4.mp h p (List.mem_of_find?_eq_some hp)
theorem vN {A:Around}{s:Shared}{kb:List (Key × V)}{vb:List (Key × Value)} (hb:fL kb=true) (rb:KV kb vb):∀ {ka:List (Key × V)}{va:List (Key × Value)},fL ka=true->KV ka va->PySem.W.KeqHits A s vb va (iZ kb ka):=by
 intro ka
 induction ka with
 | nil =>
  intro va _ r
  cases va with
  | nil=>exact .nil
  | cons q va=>cases r
 | cons p ka ih =>
  intro va hf r
  cases va with
  | nil=>cases r
  | cons q va =>
   obtain ⟨k,v⟩:=q
   cases r with
   | cons h1 h2 =>
    obtain ⟨e,rv⟩:=h1;unfold fL at hf;rw [aj3,ac8] at hf
    have e:p.1=k:=e;subst e
    have g:=rb.val p.1;unfold iZ
    cases hv:valV kb p.1 with
    | none =>
     rw [hv] at g
     cases hw:valueAt vb p.1 with
     | none=>exact .miss hw
     | some w=>rw [hw] at g;cases g
    | some u =>
     rw [hv] at g
     cases hw:valueAt vb p.1 with
     | none=>rw [hw] at g;cases g
     | some w =>
      rw [hw] at g;exact .hit hw (br rv g hf.1 (ua hb hv)) (ih hf.2 h2)
section
variable {X:Cx}
inductive rDk (b:Bool) (x y:V) (H:Hp) (Q:VK):Prop
 | mk:∀ a a' ka kb,x=.ref a->y=.ref a'->H a=some (.dK ka)->H a'=some (.dK kb)->fL ka=true->fL kb=true->Q (.bl (b ^^ eqKV ka kb)) H->rDk b x y H Q
theorem ub (hu:X.A.units+64 < cLine):OpR X (compareOp .NotEq) (rDk true):=by
 intro g s σ H x y v u Q I rx ry h;obtain ⟨a,a',ka,kb,rfl,rfl,ha,hb,fa,fb,q⟩:=h
 cases rx
 cases ry;obtain ⟨z1,d1,va,ra,D1⟩:=ky I.hok ha;obtain ⟨z2,d2,vb,rb,D2⟩:=ky I.hok hb;refine PySem.W.keq_ne d1 d2 D1 D2 (by omega) (fun _=>vN fb rb fa ra) ⟨.bl (!eqKV ka kb),H,I,?_,by rw [Bool.true_xor] at q;exact q⟩
 unfold eqKV;rw [ra.length,rb.length];exact rfl
end
variable {d:Addr}
theorem uc {prog:Program}{w:World}{A:Around}{E:Value->Shared->Prop}{s:Shared}{kvs:List (Key × Value)}{ep:Nat}{Q:Value->Shared->Prop} (hh:A.handled=none) (hsys:(d == sysModules)=false) (hd:Heap.DictAt (ba prog w) s.heap d kvs ep) (hn:kvs.length<=sizeLine)
  (q:∀ (h':Heap) (tk:Nat) (acc:Array Value) (c:Nat),(∀ b o,s.heap.get? b=some o→h'.get? b=some o)→h'.get? s.heap.objs.size=some { cls:=.type "list",data:=.seq acc c } → ItemsOf (fun i v=>∃ k x,kvs[i]?=some (k,x)∧eV k v=true) acc kvs.length→Q (.ref s.heap.objs.size) { s with heap:=h',toks:=tk }) :
  wpAny (model prog w) A (call (.type "list") [.ref d]) Q E s:=by
 refine callType_codes (Q₁:=fun v s1=>v=.ref s.heap.objs.size∧s1 = { s with heap:=s.heap.push { cls:=.type "list",data:=.seq #[] } }) F.called_list (F.typeCall_list_1 _) F.entry_list_init (code_list_new (.ref d) ⟨rfl,rfl⟩) fun obj s1 h1=>?_
 obtain ⟨h1,h2⟩:=h1;subst h1;subst h2
 have hS:(s.heap.push { cls:=.type "list",data:=.seq #[] }).get? s.heap.objs.size=some { cls:=.type "list",data:=.seq #[] }:=aa8 _ rfl
 refine ⟨⟨_,hS,rfl⟩,F.args_list_init_2 _ _,?_⟩
 have g:d < s.heap.objs.size:=by
  obtain ⟨o,es,g1,_⟩:=id hd;exact zU g1
 obtain ⟨o,es,g1,g2,g3,g4,g5,g6⟩:=id hd;unfold Builtin.«list.__init__»;refine zT (zT (wpAny_seqItems hS rfl (ab2 ?_)));refine zT (wpAny_updateSeq hS rfl ?_ (by decide) (by decide))
 have r:=Heap.get?_update_self (Obj.mapSeq fun _=>#[]) hS rfl
 have h:∀ b o,b≠s.heap.objs.size→(s.heap.push { cls:=.type "list",data:=.seq #[] }).get? b=some o→((s.heap.push { cls:=.type "list",data:=.seq #[] }).update s.heap.objs.size (Obj.mapSeq fun _=>#[])).get? b=some o:=fun b o hb e=>(Heap.get?_update_other _ _ (ad3 hb)).trans e
 refine zT (wpAny_letGo ?_);refine PySem.W.kdl_extend (A:=A.in1) (PySem.W.kdl_dict (knd:=ba prog w) (kvs:=kvs) (ep:=ep) hsys) hh ⟨o,es,h _ _ (aa4 g) (zP _ g1),g2,g3,g4,g5,g6⟩ s.heap.objs.size (aj8 g) (aj8 g) .none _ r (fun h' tk acc c kp l it=>?_) hn;exact ⟨rfl,q h' tk acc c (fun b o e=>kp b o (aa4 (zU e)) (h b o (aa4 (zU e)) (zP _ e))) l it⟩
section
variable {X:Cx}
inductive iy (xs:List V) (H:Hp) (Q:VK):Prop
 | mk:∀ (p:Addr) (kvs:List (Key × V)) (ns:List Int),xs=[.ref p]->H p=some (.dK kvs)->kvs.map (·.1)=ns.map Sum.inl->(∀ l,H l=none->Q (.ref l) (upd H l (.lst (ns.map V.int))))->iy xs H Q
theorem eZ (hc:X.calm=true):cG X (.type "list") (iy):=by
 intro J s σ H xs us Q I r h;obtain ⟨p,C,ns,rfl,hp,hk,q⟩:=h;obtain ⟨u,rfl,rx⟩:=cH r
 cases rx;obtain ⟨z,B,vs,g,o,es,ep,g1,g2,g3,g4,g5,g6⟩:=dn I.hok (.inl hp)
 have G:C.length=ns.length:=by
  have:=congrArg List.length hk;rw [zM,zM] at this;exact this
 have L:=g.length
 have D:vs.map (·.1)=ns.map Sum.inl:=by
  rw [<- hk];exact qu g
 refine uc (I.ok.hd hc) B ⟨_,_,g1,g2,g3,g4,g5,g6⟩ (by omega) fun h' tk l c kp hS it=>?_
 have E:IntsAre l.toList ns:=l3 D (by rw [ah7];exact it.1) fun j v hj=>it.2 j v (by simpa using hj)
 refine ⟨.ref s.heap.objs.size,_,I.laid (t':=tk) kp (zQ _) (show ObjOk X.prog X.w _ h' _ (.lst (ns.map V.int)) from ⟨?_,l.toList,c,jz E,hS⟩),rfl,q _ (I.hok.fresh (zQ _))⟩;rw [zM];omega
end
variable {o:Obj}{kvs:List (Key × V)}
section
variable {X:Cx}{pins:List (Addr × Obj)}{σ:St}{H:Hp}{s:Shared}
theorem Inv.thaw {u:HO} (I:Inv X pins σ H s) (hd:H d=some (.frz o u)) (h0:∀ o u,X.H₀ d≠some (.frz o u)):Inv X pins σ (upd H d u) s:=by
 have nn:∀ b,H b=none->b≠d:=fun b e z=>by rw [z,hd] at e;cases e
 refine ⟨I.ok,I.os,I.bare,⟨I.base.keep,I.base.slot,fun b o e n h=>?_,I.base.there,fun b xs e=>?_,fun b o u e=>?_,fun b ps e=>?_⟩,I.loc,I.cell,?_,fun y c e=>?_,fun p hp=>?_,fun a u' e=>?_,I.len⟩
 ·have z:=I.base.free b o e n h
  rw [ae (nn b z)];exact z
 ·have z:=I.base.tups b xs e
  rw [ae (fun w=>by rw [w,hd] at z;cases z)];exact z
 ·have z:=I.base.frzs b o u e
  rw [ae (fun w=>h0 o u (by rw [<- w];exact e))];exact z
 ·obtain ⟨m,z⟩:=I.base.tbls b ps e
  exact ⟨m,by rw [ae (fun w=>by rw [w,hd] at z;cases z)];exact z⟩
 ·rw [ae (nn _ I.free)];exact I.free
 ·rw [ae (nn _ (I.freeC y c e))];exact I.freeC y c e
 ·obtain ⟨q1,q2,q3⟩:=I.pin p hp
  exact ⟨q1,by rw [ae (nn _ q2)];exact q2,q3⟩
 ·have st:∀ {a u'},ObjOk X.prog X.w H s.heap a u'->ObjOk X.prog X.w (upd H d u) s.heap a u':=fun x =>
   x.stay (fun _ _ _ q=>q) (fun b q=>by rw [ae (fun w=>by rw [w,hd] at q;cases q)];exact q) fun b xs q=>by rw [ae (fun w=>by rw [w,hd] at q;cases q)];exact q
  by_cases ha:a=d
  ·subst ha
   rw [ab] at e
   cases e;exact st (I.hok a _ hd).2
  ·rw [ae ha] at e
   exact st (I.hok a u' e)
def wK (H0:Hp) (t:TS):TS:=fun D σ H=>t { D with nx:=fun σ' H'=>∃ d o u,H' d=some (.frz o u)/\(∀ o u,H0 d≠some (.frz o u))/\D.nx σ' (upd H' d u) } σ H
theorem xH {st:Stmt}{t:TS} (h:PS X st t):PS X st (wK X.H₀ t):=by
 intro g s σ H D I hw;refine thn (h g s σ H _ I hw) fun f s1 q=>?_
 cases f with
 | next =>
  obtain ⟨σ',H',I',d,o,u,e,h0,q⟩:=q;exact ⟨σ',_,I'.thaw e h0,q⟩
 | brk=>exact q
 | cont=>exact q
 | ret v=>exact q
def i0 (v d:Addr) (h:Heap):Prop:=h.IsValuesView v d
inductive ud (x:V) (xs:List V) (H:Hp) (Q:VK):Prop
 | mk:∀ d kvs,x=.ref d->xs=[]->H d=some (.dK kvs)->(∀ v,H v=none->Q (.ref v) (upd H v (.ext (i0 v d))))->ud x xs H Q
theorem vO:MtR X "dict.values" ud:=by
 intro g s σ H x xs u us Q I rx r h;obtain ⟨d,l,rfl,rfl,e,q⟩:=h;obtain rfl:u=Value.ref d:=rx
 cases r;obtain ⟨z,hd,vs,B,dd⟩:=ky I.hok e;refine call_meetsIn PySem.F.slot_dict_values dd.typeIs PySem.F.entry_dict_values (PySem.F.args_dict_values_1 _) (meets_dict_values (ba X.prog X.w) d hd) ⟨⟨vs,dd⟩,?_⟩;refine ⟨.ref s.heap.objs.size,_,I.laid (fun b o' z=>zP _ z) (zQ _) (show ObjOk X.prog X.w _ _ _ (.ext (i0 s.heap.objs.size d)) from ⟨?_,?_,?_⟩),rfl,q _ (I.hok.fresh (zQ _))⟩
 ·exact ⟨_,aa8 _ rfl,rfl,rfl⟩
 ·exact ⟨_,aa8 _ rfl⟩
 ·rintro h1 h2 ⟨o,e,r⟩ k
  exact ⟨o,k _ e,r⟩
inductive wL (x:V) (xs:List V) (H:Hp) (Q:VK):Prop
 | mk:∀ d kvs,x=.ref d->xs=[]->H d=some (.dK kvs)->Q .non (upd H d (.dK []))->wL x xs H Q
theorem xI:MtR X "dict.clear" wL:=by
 intro g s σ H x xs u us Q I rx r h;obtain ⟨d,l,rfl,rfl,e,q⟩:=h;obtain rfl:u=Value.ref d:=rx
 cases r;exact xC I e fun s' I'=>⟨.non,_,I',rfl,q⟩
def ItV (d:Addr) (o:Obj) (kvs:List (Key × V)):It where
 go i H:=H d=some (.frz o (.dK kvs))/\i < kvs.length
 yld i H x H':=H'=H/\∃ k,kvs[i]?=some (k,x)
 stop i H:=H d=some (.frz o (.dK kvs))/\kvs.length<=i
theorem KV.getv {vs:List (Key × Value)} (h:KV kvs vs):∀ {i:Nat}{k:Key}{v:V},kvs[i]?=some (k,v)->∃ u,vs[i]?=some (k,u)/\RelV v u:=by
 induction h with
 | nil=>intro i k v e;simp at e
 | cons r rs ih =>
  intro i k v e
  cases i with
  | zero =>
   rename_i p q _ _
   obtain ⟨k',u'⟩:=q
   have:p=(k,v):=by simpa using e
   subst this;obtain ⟨r1,r2⟩:=r;exact ⟨u',by rw [show k=k' from r1];rfl,r2⟩
  | succ i=>exact ih (by simpa using e)
theorem ue {P:Program}{w:World}{es:Array DictEntry}{ep:Nat} (d it:Addr) (ho:o.data=Data.dict es ep):Turn P w K tg (ItV d o kvs) [it] it (fun i h=>h.IsValIter it d i kvs.length ep) where
 mem:=by simp
 obj:=fun i h st b hb=>by
  have e:b=it:=by simpa using hb
  subst e;obtain ⟨o,e,c,d⟩:=st;exact ⟨o,e,fun v z=>by rw [d] at z;cases z⟩
 keep:=fun i h h' ⟨o,e,c,d⟩ k=>⟨o,k it (by simp) o e,c,d⟩
 item:=by
  intro X hP hw hK hc i B s σ H E I hf st hg;subst hP hw hK;obtain ⟨hd,hi⟩:=hg;obtain ⟨z,C,vs,g,o',D,G,g1,g2,g3,g4,g5,g6⟩:=dn I.hok (.inr ⟨o,hd⟩)
  have r:s.heap.get? d=some o:=(I.hok d _ hd).1
  have eo:o'=o:=zX (g1.symm.trans r);subst eo;rw [ho] at g3
  cases g3
  have hl:=g.length;obtain ⟨u,hu,ru⟩:=g.getv (zL hi);rw [hl] at st;obtain ⟨f0,f1,f2,f3,f4,f5⟩:=hf it (by simp)
  refine wpAny_pyNext_values_item st ⟨_,_,g1,g2,ho,g4,g5,g6⟩ hu fun h' l sb=>?_
  have I1:Inv X B σ H { s with heap:=h' }:=I.turned (t':=s.toks) (fun b o hb e=>(sb.2 b hb).trans e) f0 f1 f3 f4 f5;obtain ⟨oi,e,c,dd⟩:=id l;rw [<- hl] at l;exact ⟨u,rfl,jW (s:={ s with heap:=h' }) e c dd (by decide) ⟨_,H,I1,ru,⟨rfl,_,zL hi⟩,l,fun b hb=>(hf b hb).1⟩⟩
 done:=by
  intro X hP hw hK hc i B s σ H E I hf st hg;subst hP hw hK;obtain ⟨hd,hi⟩:=hg;obtain ⟨z,C,vs,g,o',D,G,g1,g2,g3,g4,g5,g6⟩:=dn I.hok (.inr ⟨o,hd⟩)
  have r:s.heap.get? d=some o:=(I.hok d _ hd).1
  have eo:o'=o:=zX (g1.symm.trans r);subst eo;rw [ho] at g3
  cases g3
  have hl:=g.length;rw [hl] at st;obtain ⟨f0,f1,f2,f3,f4,f5⟩:=hf it (by simp)
  exact wpAny_pyNext_values_end (I.ok.hd hc) st ⟨_,_,g1,g2,ho,g4,g5,g6⟩ (zY (by omega)) fun h' eb=>⟨rfl,I.turned (t':=s.toks) (fun b o hb e=>eb b o hb e) f0 f1 f3 f4 f5⟩
 self:=fun _ _ _ _ _ st h=>wpAny_pyIter_valiter st h
inductive qx (R:It->Hp->Prop) (x:V) (H1:Hp):Prop
 | mk:∀ v d kvs,x=.ref v->H1 v=some (.ext (i0 v d))->H1 d=some (.dK kvs)->(∀ o,R (ItV d o kvs) (upd H1 d (.frz o (.dK kvs))))->qx R x H1
def zF (td:TE):TI:=fun σ H R=>td σ H fun x H1=>qx R x H1
theorem xJ {l:Expr}{tl:TE} (hl:PE X l tl):PI X tg l (zF tl):=by
 intro g s σ H R I h;refine thn (hl g s σ H _ I h) fun v s1 ⟨x,H1,I1,r1,q1⟩=>?_;obtain ⟨a,d,C,e,ev,ea,q⟩:=q1;subst e
 cases r1;obtain ⟨z,B,vs,r,o,es,ep,g1,g2,g3,g4,g5,g6⟩:=dn I1.hok (.inl ea)
 have hv:s1.heap.IsValuesView a d:=(I1.hok a _ ev).1
 have I2:=I1.freeze ea g1
 have hl:=r.length;refine wpAny_pyIter_values hv ⟨_,_,g1,g2,g3,g4,g5,g6⟩ ?_;refine ⟨s1.heap.objs.size,[s1.heap.objs.size],_,_,_,rfl,I2.kept (t':=s1.toks) fun b o e=>zP _ e,ue d _ g3,⟨_,aa8 _ rfl,rfl,by rw [hl];rfl⟩,fun b hb=>?_,q o⟩
 have e:b=s1.heap.objs.size:=by simpa using hb
 subst e;exact I2.fpOk (zQ _) (I2.hok.fresh (zQ _))
theorem vP {g:TG}{tb:TS}{D:Ends} (Pv:Nat->St->Hp->Prop) (h0:Pv 0 σ H) (hl:∀ i σ H,i<=kvs.length->Pv i σ H->H d=some (.frz o (.dK kvs)))
  (hs:∀ i k v σ H,kvs[i]?=some (k,v)->Pv i σ H->g v σ H fun σ2 H2=>tb { D with nx:=Pv (i+1),ct:=Pv (i+1),bk:=D.nx } σ2 H2) (hd:∀ σ H,Pv kvs.length σ H->D.nx σ H) :
  ∃ W:Nat->Nat->St->Hp->Prop,(∃ m,W 0 m σ H)/\∀ i m σ H,W i m σ H →
   ((ItV d o kvs).stop i H/\D.nx σ H)\/((ItV d o kvs).go i H/\∃ N:St->Hp->Prop,(∀ σ' H',N σ' H'->∃ m',m' < m/\W (i+1) m' σ' H')/\∀ x H',(ItV d o kvs).yld i H x H'->g x σ H' fun σ2 H2=>tb { D with nx:=N,ct:=N,bk:=D.nx } σ2 H2):=by
 refine ⟨fun i m σ H=>m=kvs.length - i/\i<=kvs.length/\Pv i σ H,⟨kvs.length,by simp,ab1 _,h0⟩,?_⟩
 rintro i m σ H ⟨rfl,hi,p⟩
 have q:=hl i σ H hi p
 by_cases hlt:i < kvs.length
 ·refine .inr ⟨⟨q,hlt⟩,Pv (i+1),fun σ' H' p'=>⟨kvs.length - (i+1),by omega,rfl,hlt,p'⟩,fun x H' y=>?_⟩
  obtain ⟨e,k,ek⟩:=y;subst e;exact hs i k x σ _ ek p
 ·have e:i=kvs.length:=by omega
  subst e;exact .inl ⟨⟨q,zQ _⟩,hd σ H p⟩
theorem xft {G:TS->Prop}{iter:Expr}{body:List Stmt}{wi:TI}{g:TG} (hp:PassesOwn (model X.prog X.w) X.A X.env X.xe) (hc:X.calm=true) (hi:PI X tg iter wi) (hg:PG X tg g) (k:∃ tb,PSs X body tb/\G (wK X.H₀ (tFor wi g tb)))
  (hs:∀ x,foldedSetIterable iter X.env x=pure x:=by intro _;rfl):∃ t,PS X (.For tg iter body [] pos) t/\G t :=
 let ⟨_,hb,q⟩:=k
 ⟨_,xH (sJ hp hc hi hg hb hs),q⟩
end
end L2
namespace My
open PySem L2 PyProof.Rows
local macro_rules
 | `(tactic| exists $f:ident $a)=>`(tactic| (refine $f $a ?_;intro u_))
 | `(tactic| exists $f:ident)=>`(tactic| (refine $f ?_;intro u_))
def top (i : Nat) : Stmt := PySem.Challenge.pw_spareplank_k45_new_blocks_and_sums.main.body.getD i (.Pass ⟨0,0,0,0⟩)
abbrev iz:Stmt:=aK (top 43) 0
abbrev cR:Stmt:=aK (top 43) 1
abbrev gr:Stmt:=aK (top 43) 2
abbrev g0:Stmt:=aK (top 43) 3
abbrev iA:Stmt:=aK (top 43) 4
abbrev g7:Stmt:=aK (top 43) 5
abbrev uf:Stmt:=top 25
abbrev g8:Stmt:=top 26
abbrev iB:Stmt:=top 27
abbrev iC:Stmt:=top 28
abbrev l5:Stmt:=top 29
abbrev l6:Stmt:=top 30
abbrev l7:Stmt:=top 31
abbrev ji:Stmt:=top 32
abbrev g9:Stmt:=aK (top 23) 0
abbrev fB:Stmt:=aK (top 23) 2
abbrev fM:Stmt:=aK (top 23) 3
abbrev fN:Stmt:=aK (top 23) 5
abbrev fO:Stmt:=aK (top 23) 6
abbrev fP:Stmt:=top 36
abbrev fQ:Stmt:=top 37
abbrev hE:Stmt:=top 38
abbrev jj:Stmt:=aK (top 39) 0
abbrev jk:Stmt:=aK (top 39) 5
abbrev eO:Stmt:=aK (top 39) 12
abbrev iD:Stmt:=aK (top 39) 6
abbrev fD:Stmt:=aK (top 39) 8
abbrev fR:Stmt:=aK (top 39) 7
abbrev fE:Stmt:=aK (top 39) 1
abbrev gu:Stmt:=aK (top 39) 2
abbrev jl:Stmt:=top 2
abbrev hJ:Stmt:=aK (top 3) 0
abbrev iE:Stmt:=aK (top 3) 1
abbrev hU:Stmt:=aK (top 3) 2
abbrev dO:Stmt:=aK (top 3) 3
abbrev gv:Stmt:=aK (top 3) 4
abbrev gw:Stmt:=aK (top 3) 5
abbrev eP:Stmt:=aK (top 3) 7
abbrev gy:Stmt:=aK (top 3) 9
abbrev fS:Stmt:=aK (top 3) 10
abbrev eQ:Stmt:=aK (top 3) 11
abbrev fF:Stmt:=aK (top 3) 6
abbrev gz:Stmt:=aK (top 3) 8
abbrev l8:Stmt:=top 5
abbrev fT:Stmt:=top 6
abbrev l9:Stmt:=top 7
abbrev jm:Stmt:=top 8
abbrev kA:Stmt:=top 9
abbrev hV:Stmt:=top 10
abbrev fU:Stmt:=top 11
abbrev og:Stmt:=top 12
abbrev iF:Stmt:=top 13
abbrev jn:Stmt:=top 45
abbrev ug:Stmt:=top 47
abbrev qy:Stmt:=top 48
abbrev uh:Stmt:=top 49
abbrev qz:Stmt:=top 50
abbrev oh:Stmt:=top 51
abbrev ui:Stmt:=top 52
abbrev uj:Stmt:=top 53
abbrev qB:Stmt:=top 54
abbrev qC:Stmt:=top 55
abbrev qD:Stmt:=top 56
abbrev uk:Stmt:=top 57
abbrev lh:Stmt:=top 58
abbrev ul:Stmt:=top 59
abbrev um:Stmt:=top 60
abbrev wM:Stmt:=top 61
abbrev uo:Stmt:=top 62
abbrev wN:Stmt:=top 63
theorem sc_Field_init:ap ["self", "rule", "after"] ["self", "rule"] (ah iz):=scM
theorem sc_Field_doublings_of_one:ap ["self", "symbol", "after"] ["self"] (ah cR):=scM
theorem sc_Field_double:ap ["self", "one", "twice"] ["self", "one"] (ah gr):=scM
theorem sc_Field_times:ap ["self", "one", "other", "product", "doubled", "digits"] ["self", "one", "other"] (ah g0):=scM
theorem mO:ap ["self", "one"] ["self", "one"] (ah iA):=scM
theorem sc_Field_power:ap ["self", "one", "many", "product", "square", "digits"] ["self", "one", "many"] (ah g7):=scM
theorem sc_unit:ap ["many", "at", "some"] ["many", "at"] (ah uf):=scM
theorem li:ap ["field", "factor", "line"] ["field", "factor", "line"] (ah g8):=scM
theorem mP:ap ["one", "other"] ["one", "other"] (ah iB):=scM
theorem sc_first_with:ap ["lines", "start", "place", "at"] ["lines", "start", "place"] (ah iC):=scM
theorem sc_swapped:ap ["lines", "one", "other", "some"] ["lines", "one", "other"] (ah l5):=scM
theorem sc_cleared:ap ["field", "lines", "at", "place", "head", "some", "number", "line"] ["field", "lines", "at", "place"] (ah l6):=scM
theorem sc_told_of:ap ["field", "lines", "known", "place", "some", "heads", "other", "found", "by"] ["field", "lines", "known", "place"] (ah l7):=scM
theorem sc_free_make:ap ["lines", "heads", "many", "place", "make", "head", "line"] ["lines", "heads", "many", "place"] (ah ji):=scM
theorem sc_Blocks_init:ap ["self", "field", "many", "step"] ["self", "field", "many"] (ah g9):=scM
theorem sc_Blocks_symbols:ap ["self", "block", "base", "some", "rest", "at"] ["self", "block"] (ah fB):=scM
theorem sc_Blocks_joined:ap ["self", "some", "base", "block", "symbol"] ["self", "some"] (ah fM):=scM
theorem jD:ap ["self", "factor", "block"] ["self", "factor", "block"] (ah fN):=scM
theorem sc_Blocks_summed:ap ["self", "factors", "some", "total", "factor", "block"] ["self", "factors", "some"] (ah fO):=scM
theorem sc_check_lengths:ap ["weights", "data", "some"] ["weights"] (ah fP):=scM
theorem sc_check_weights:ap ["field", "weights", "some", "weight", "role"] ["field", "weights"] (ah fQ):=scM
theorem sc_equation_of:ap ["weights", "total", "line", "other"] ["weights", "total"] (ah hE):=scM
theorem oj:ap ["self", "blocks", "weights"] ["self", "blocks", "weights"] (ah jj):=scM
theorem ol:ap ["self", "known", "role"] ["self", "known", "role"] (ah jk):=scM
theorem iG:ap ["self", "role"] ["self", "role"] (ah eO):=scM
theorem mQ:ap ["self", "known", "role"] ["self", "known", "role"] (ah iD):=scM
theorem sc_Code_summed_by:ap ["self", "by", "row", "line", "factor", "equation", "told"] ["self", "by", "row"] (ah fD):=scM
theorem sc_Code_reckoned:ap ["self", "row", "role", "told"] ["self", "row", "role"] (ah fR):=scM
theorem i3:ap ["self"] ["self"] (ah fE):=scM
theorem kB:ap ["self", "total", "role"] ["self", "total", "role"] (ah gu):=scM
theorem sc_fixes_all:ap ["code", "known", "some", "role"] ["code", "known", "some"] (ah jl):=scM
theorem lj:ap ["self", "code", "ask", "costs"] ["self", "code", "ask", "costs"] (ah hJ):=scM
theorem mR:ap ["self", "role"] ["self", "role"] (ah iE):=scM
theorem ll:ap ["self", "role"] ["self", "role"] (ah hU):=scM
theorem sc_Asking_take_along:ap ["self", "some", "role"] ["self", "some"] (ah dO):=scM
theorem kC:ap ["self"] ["self"] (ah gv):=scM
theorem kD:ap ["self", "some"] ["self", "some"] (ah gw):=scM
theorem iH:ap ["self", "some"] ["self", "some"] (ah eP):=scM
theorem sc_Asking_order:ap ["self", "free"] ["self"] (ah gy):=scM
theorem sc_Asking_detour:ap ["self", "some", "order", "known", "way", "role"] ["self", "some"] (ah fS):=scM
theorem iI:ap ["self", "role"] ["self", "role"] (ah eQ):=scM
theorem sc_Asking_unfixed:ap ["self", "some", "known"] ["self", "some"] (ah fF):=scM
theorem sc_Asking_price:ap ["self", "some", "left"] ["self", "some"] (ah gz):=scM
theorem rX:ap ["code", "totals", "role"] ["code", "totals", "role"] (ah l8):=scM
theorem sc_sums_to_write:ap ["asking", "news", "code", "totals"] ["asking", "news"] (ah fT):=scM
theorem rY:ap ["code", "totals", "news"] ["code", "totals", "news"] (ah l9):=scM
theorem om:ap ["code", "totals", "news"] ["code", "totals", "news"] (ah jm):=scM
theorem sc_next_way:ap ["asking", "rest", "change", "ways", "some", "price", "detours", "shorter"] ["asking", "rest", "change"] (ah kA):=scM
theorem sc_sum_by_rest:ap ["asking", "news", "total", "code", "line", "roles", "some"] ["asking", "news", "total"] (ah hV):=scM
theorem sc_sum_by_change:ap ["asking", "news", "total", "code", "line", "roles", "some"] ["asking", "news", "total"] (ah fU):=scM
theorem sc_to_lay:ap ["asking", "news", "totals", "by_rest", "laid", "role", "total"] ["asking", "news", "totals", "by_rest"] (ah og):=scM
theorem sc_new_blocks:ap ["asking", "news", "code", "totals", "rest", "change", "way", "laid", "known"] ["asking", "news"] (ah iF):=scM
theorem sc_read_role:ap ["asking", "role", "way"] ["asking", "role"] (ah jn):=scM
theorem sc_cell:ap ["_law_script", "_law_k", "_law_number"] ["_law_script", "_law_k"] (ah ug):=scM
theorem vQ:ap ["_law_found"] ["_law_found"] (ah qy):=scM
theorem xK:ap ["_law_cell_here"] ["_law_cell_here"] (ah uh):=scM
theorem sc_times:ap ["_law_one", "_law_other", "_law_rule_here", "_law_found"] ["_law_one", "_law_other", "_law_rule_here"] (ah qz):=scM
theorem sc_scaled:ap ["_law_factor", "_law_block", "_law_rule_here", "_law_size", "_law_found", "_law_place"] ["_law_factor", "_law_block", "_law_rule_here"] (ah oh):=scM
theorem sc_make:ap ["_law_some_here", "_law_weights", "_law_rule_here", "_law_made", "_law_line", "_law_total", "_law_factor", "_law_block"] ["_law_some_here", "_law_weights", "_law_rule_here"] (ah ui):=scM
theorem sc_some:ap ["_law_script", "_law_start", "_law_many", "_law_limit", "_law_some_here", "_law_k", "_law_number"] ["_law_script", "_law_start", "_law_many", "_law_limit"] (ah uj):=scM
theorem sc_plain:ap ["_law_data", "_law_sums", "_law_weights"] ["_law_data", "_law_sums"] (ah qB):=scM
theorem sc_sizes:ap ["_law_cell_here", "_law_sums"] ["_law_cell_here"] (ah qC):=scM
theorem sc_costs:ap ["_law_cell_here", "_law_roles", "_law_left", "_law_costs_here", "_law_k"] ["_law_cell_here", "_law_roles"] (ah qD):=scM
theorem sc_news:ap ["_law_script", "_law_start", "_law_mask", "_law_data", "_law_limit", "_law_left", "_law_some_here", "_law_news_here", "_law_role"] ["_law_script", "_law_start", "_law_mask", "_law_data", "_law_limit"] (ah uk):=scM
theorem sc_asker:ap ["_law_row", "_law_seen_here", "_law_ask"] ["_law_row", "_law_seen_here"] (ah lh):=scM
theorem sc_seen:ap ["_law_asking", "_law_seen_here", "_law_row", "_law_costs_here", "_law_due_here", "_law_role"] ["_law_asking", "_law_seen_here", "_law_row", "_law_costs_here"] (ah ul):=scM
theorem sc_gaps:ap ["_law_script", "_law_roles", "_law_sums", "_law_one", "_law_two"] ["_law_script", "_law_roles", "_law_sums"] (ah um):=scM
theorem sc_due:ap ["_law_make_here", "_law_news_here", "_law_costs_here", "_law_weights", "_law_rule_here", "_law_data", "_law_some_here", "_law_due_here", "_law_role", "_law_block"] ["_law_make_here", "_law_news_here", "_law_costs_here", "_law_weights", "_law_rule_here"] (ah wM):=scM
theorem sc_dict:ap ["_law_found", "_law_due_here", "_law_block"] ["_law_found", "_law_due_here"] (ah uo):=scM
theorem sc_law:ap ["_law_script", "_law_data", "_law_sums", "_law_rule_here", "_law_many", "_law_limit", "_law_weights", "_law_make_here", "_law_row", "_law_costs_here", "_law_kinds", "_law_role", "_law_news_here", "_law_order", "_law_handed", "_law_seen_here", "_law_asking", "_law_found", "_law_due_here", "_law_before"] ["_law_script"] (ah wN):=scM
set_option genInjectivity false in
structure Adr where
 (C_Field C_Blocks C_Code C_Asking f0 f1 f2 f3 f4 f5 f6 f7 f8 f9 f10 f11 f12 f13 f14 f15 f16 f17 f18 f19 f20 f21 f22 f23 f24 f25 f26 f27 f28 f29 f30 f31 f32 f33 f34 f35 f36 f37 f38 f39 f40 f41 f42 f43 f44 f45 f46 f47 f48 f49 f50 f51 f52 f53 f54 f55 f56 f57 f58 f59 f60 f61 f62 f63 f64 f65 f66 f67 f68 f69 c38 t38 c47 t47 c64 t64:Addr)
 (t_LEAST_RULE t_GREATEST_RULE t_MOST_SYMBOLS t_MOST_ROLES t_MOST_SUMS:Tok)
structure Txt (K:W.Frag) (mg:Str->Option Value) (a:Adr):Prop where
 m_Field:mg "Field" = some (.ref a.C_Field)
 cl_Field:Cls K a.C_Field
 no_Field_rule:NoAttr K a.C_Field "rule"
 no_Field_width:NoAttr K a.C_Field "width"
 no_Field_last:NoAttr K a.C_Field "last"
 mk_Field:Mk K a.C_Field a.f0
 m_Blocks:mg "Blocks" = some (.ref a.C_Blocks)
 cl_Blocks:Cls K a.C_Blocks
 no_Blocks_field:NoAttr K a.C_Blocks "field"
 no_Blocks_many:NoAttr K a.C_Blocks "many"
 no_Blocks_limit:NoAttr K a.C_Blocks "limit"
 mk_Blocks:Mk K a.C_Blocks a.f14
 m_Code:mg "Code" = some (.ref a.C_Code)
 cl_Code:Cls K a.C_Code
 no_Code_blocks:NoAttr K a.C_Code "blocks"
 no_Code_sums:NoAttr K a.C_Code "sums"
 no_Code_data:NoAttr K a.C_Code "data"
 no_Code_roles:NoAttr K a.C_Code "roles"
 no_Code_lines:NoAttr K a.C_Code "lines"
 mk_Code:Mk K a.C_Code a.f22
 m_Asking:mg "Asking" = some (.ref a.C_Asking)
 cl_Asking:Cls K a.C_Asking
 no_Asking_code:NoAttr K a.C_Asking "code"
 no_Asking_ask:NoAttr K a.C_Asking "ask"
 no_Asking_costs:NoAttr K a.C_Asking "costs"
 no_Asking_row:NoAttr K a.C_Asking "row"
 no_Asking_asked:NoAttr K a.C_Asking "asked"
 mk_Asking:Mk K a.C_Asking a.f31
 x0:MD K a.C_Field "__init__" "Field.__init__" iz a.f0 ["self", "rule"]
 x1:MD K a.C_Field "doublings_of_one" "Field.doublings_of_one" cR a.f1 ["self"]
 x2:MD K a.C_Field "double" "Field.double" gr a.f2 ["self", "one"]
 x3:MD K a.C_Field "times" "Field.times" g0 a.f3 ["self", "one", "other"]
 x4:MD K a.C_Field "back" "Field.back" iA a.f4 ["self", "one"]
 x5:MD K a.C_Field "power" "Field.power" g7 a.f5 ["self", "one", "many"]
 x6:GD K mg "unit" uf a.f6 ["many", "at"]
 x7:GD K mg "scaled_line" g8 a.f7 ["field", "factor", "line"]
 x8:GD K mg "sum_of_two" iB a.f8 ["one", "other"]
 x9:GD K mg "first_with" iC a.f9 ["lines", "start", "place"]
 x10:GD K mg "swapped" l5 a.f10 ["lines", "one", "other"]
 x11:GD K mg "cleared" l6 a.f11 ["field", "lines", "at", "place"]
 x12:GD K mg "told_of" l7 a.f12 ["field", "lines", "known", "place"]
 x13:GD K mg "free_make" ji a.f13 ["lines", "heads", "many", "place"]
 x14:MD K a.C_Blocks "__init__" "Blocks.__init__" g9 a.f14 ["self", "field", "many"]
 x15:MD K a.C_Blocks "symbols" "Blocks.symbols" fB a.f15 ["self", "block"]
 x16:MD K a.C_Blocks "joined" "Blocks.joined" fM a.f16 ["self", "some"]
 x17:MD K a.C_Blocks "scaled" "Blocks.scaled" fN a.f17 ["self", "factor", "block"]
 x18:MD K a.C_Blocks "summed" "Blocks.summed" fO a.f18 ["self", "factors", "some"]
 x19:GD K mg "check_lengths" fP a.f19 ["weights"]
 x20:GD K mg "check_weights" fQ a.f20 ["field", "weights"]
 x21:GD K mg "equation_of" hE a.f21 ["weights", "total"]
 x22:MD K a.C_Code "__init__" "Code.__init__" jj a.f22 ["self", "blocks", "weights"]
 x23:MD K a.C_Code "told" "Code.told" jk a.f23 ["self", "known", "role"]
 x24:MD K a.C_Code "check_role" "Code.check_role" eO a.f24 ["self", "role"]
 x25:MD K a.C_Code "fixes" "Code.fixes" iD a.f25 ["self", "known", "role"]
 x26:MD K a.C_Code "summed_by" "Code.summed_by" fD a.f26 ["self", "by", "row"]
 x27:MD K a.C_Code "reckoned" "Code.reckoned" fR a.f27 ["self", "row", "role"]
 x28:MD K a.C_Code "equations" "Code.equations" fE a.f28 ["self"]
 x29:MD K a.C_Code "touches" "Code.touches" gu a.f29 ["self", "total", "role"]
 x30:GD K mg "fixes_all" jl a.f30 ["code", "known", "some"]
 x31:MD K a.C_Asking "__init__" "Asking.__init__" hJ a.f31 ["self", "code", "ask", "costs"]
 x32:MD K a.C_Asking "may" "Asking.may" iE a.f32 ["self", "role"]
 x33:MD K a.C_Asking "take" "Asking.take" hU a.f33 ["self", "role"]
 x34:MD K a.C_Asking "take_along" "Asking.take_along" dO a.f34 ["self", "some"]
 x35:MD K a.C_Asking "known" "Asking.known" gv a.f35 ["self"]
 x36:MD K a.C_Asking "fixes" "Asking.fixes" gw a.f36 ["self", "some"]
 x37:MD K a.C_Asking "cost_sum" "Asking.cost_sum" eP a.f37 ["self", "some"]
 x38:MT K a.C_Asking "order" "Asking.order" gy a.f38 ["self"] a.c38 a.t38
 x39:MD K a.C_Asking "detour" "Asking.detour" fS a.f39 ["self", "some"]
 x40:MD K a.C_Asking "block_of" "Asking.block_of" eQ a.f40 ["self", "role"]
 x41:MD K a.C_Asking "unfixed" "Asking.unfixed" fF a.f41 ["self", "some"]
 x42:MD K a.C_Asking "price" "Asking.price" gz a.f42 ["self", "some"]
 x43:GD K mg "touched" l8 a.f43 ["code", "totals", "role"]
 x44:GD K mg "sums_to_write" fT a.f44 ["asking", "news"]
 x45:GD K mg "rest_of" l9 a.f45 ["code", "totals", "news"]
 x46:GD K mg "change_of" jm a.f46 ["code", "totals", "news"]
 x47:GT K mg "next_way" kA a.f47 ["asking", "rest", "change"] a.c47 a.t47
 x48:GD K mg "sum_by_rest" hV a.f48 ["asking", "news", "total"]
 x49:GD K mg "sum_by_change" fU a.f49 ["asking", "news", "total"]
 x50:GD K mg "to_lay" og a.f50 ["asking", "news", "totals", "by_rest"]
 x51:GD K mg "new_blocks" iF a.f51 ["asking", "news"]
 x52:GD K mg "read_role" jn a.f52 ["asking", "role"]
 x53:GD K mg "_law_cell" ug a.f53 ["_law_script", "_law_k"]
 x54:GD K mg "_law_whole" qy a.f54 ["_law_found"]
 x55:GD K mg "_law_rule" uh a.f55 ["_law_cell_here"]
 x56:GD K mg "_law_times" qz a.f56 ["_law_one", "_law_other", "_law_rule_here"]
 x57:GD K mg "_law_scaled" oh a.f57 ["_law_factor", "_law_block", "_law_rule_here"]
 x58:GD K mg "_law_make" ui a.f58 ["_law_some_here", "_law_weights", "_law_rule_here"]
 x59:GD K mg "_law_some" uj a.f59 ["_law_script", "_law_start", "_law_many", "_law_limit"]
 x60:GD K mg "_law_plain" qB a.f60 ["_law_data", "_law_sums"]
 x61:GD K mg "_law_sizes" qC a.f61 ["_law_cell_here"]
 x62:GD K mg "_law_costs" qD a.f62 ["_law_cell_here", "_law_roles"]
 x63:GD K mg "_law_news" uk a.f63 ["_law_script", "_law_start", "_law_mask", "_law_data", "_law_limit"]
 x64:GT K mg "_law_asker" lh a.f64 ["_law_row", "_law_seen_here"] a.c64 a.t64
 x65:GD K mg "_law_seen" ul a.f65 ["_law_asking", "_law_seen_here", "_law_row", "_law_costs_here"]
 x66:GD K mg "_law_gaps" um a.f66 ["_law_script", "_law_roles", "_law_sums"]
 x67:GD K mg "_law_due" wM a.f67 ["_law_make_here", "_law_news_here", "_law_costs_here", "_law_weights", "_law_rule_here"]
 x68:GD K mg "_law_dict" uo a.f68 ["_law_found", "_law_due_here"]
 x69:GD K mg "law" wN a.f69 ["_law_script"]
 n_zip:mg "zip" = none
 n_range:mg "range" = none
 n_len:mg "len" = none
 n_list:mg "list" = none
 n_enumerate:mg "enumerate" = none
 n_reversed:mg "reversed" = none
 n_any:mg "any" = none
 n_sum:mg "sum" = none
 n_sorted:mg "sorted" = none
 n_all:mg "all" = none
 n_min:mg "min" = none
 n_isinstance:mg "isinstance" = none
 n_int:mg "int" = none
 n_bool:mg "bool" = none
 n_dict:mg "dict" = none
 v_LEAST_RULE:mg "LEAST_RULE" = some (.int 16 a.t_LEAST_RULE)
 v_GREATEST_RULE:mg "GREATEST_RULE" = some (.int 511 a.t_GREATEST_RULE)
 v_MOST_SYMBOLS:mg "MOST_SYMBOLS" = some (.int 16 a.t_MOST_SYMBOLS)
 v_MOST_ROLES:mg "MOST_ROLES" = some (.int 8 a.t_MOST_ROLES)
 v_MOST_SUMS:mg "MOST_SUMS" = some (.int 2 a.t_MOST_SUMS)
structure Tb (base:Heap) (mg:Str->Option Value) (a:Adr):Prop where
 b_Asking_order:base.BuiltinsAt mg a.t38
 n_Asking_order:mainGlobals≠a.t38
 b_next_way:base.BuiltinsAt mg a.t47
 n_next_way:mainGlobals≠a.t47
 b_asker:base.BuiltinsAt mg a.t64
 n_asker:mainGlobals≠a.t64
 d_Asking_order_next_way:a.t38≠a.t47
 d_Asking_order_asker:a.t38≠a.t64
 d_next_way_asker:a.t47≠a.t64
variable {P:Program}{wo:World}{K:PySem.W.Frag}{mg:Str->Option Value}{base:Heap}{a:Adr}
def ff (r w:Nat):List (Str × V):=[("rule",.int r),("width",.int w),("last",.int ((2 ^ w - 1:Nat):Int))]
theorem xL (r w:Nat):(ff r w).lookup ("rule" : Str)=some (.int r):=rfl
theorem dZ (r w:Nat):(ff r w).lookup ("last" : Str)=some (.int ((2 ^ w - 1:Nat):Int)):=rfl
def FieldAt (C:Addr) (H:Hp) (p:Addr) (r w:Nat):Prop:=∃ dx,H p=some (.ins C dx (ff r w))
variable {H H':Hp}{p:Addr}{r w:Nat}
theorem FieldAt.same {C:Addr} (h:FieldAt C H p r w) (s:Same H H'):FieldAt C H' p r w:=let ⟨dx,e⟩:=h;⟨dx,s _ _ e⟩
inductive gK (a:Adr) (vs:List V) (H:Hp) (Q:VK) (E_3:XK):Prop
 | mk:∀ (p:Addr) (r w x:Nat),vs=[.ref p,.int x]->FieldAt a.C_Field H p r w->x < 2 ^ w->Q (.int (GF.dbl r w x:Nat)) H->gK a vs H Q E_3
theorem fV (T:Txt K mg a):FnO P wo K mg base 1 a.f2 ["self", "one"] (gK a):=by
 refine T.x2.F.okA (k:=0) sc_Field_double (fun g A outer s H vs Q E hr h=>?_)
 ·obtain ⟨p,r,w,x,rfl,⟨dx,hF⟩,hx,k⟩:=h
  exists xx
  exists xc (al (i:=2) sc_Field_double.nd rfl (Or.inl rfl) (aq cM ai (pv 1)))
  refine xq ?_;refine xi (au cX (pv 2) (az (pv 0) rfl) (ax _)) ?_
  exists xl (av (aq dE (pv 2) (az (pv 0) rfl)))
  refine ⟨_,aF,?_⟩;intro u_
  exists xl (av (pv 2))
  refine ⟨_,rfl,_,_,rfl,rfl,.inl ⟨by decide,by decide⟩,?_⟩
  refine ⟨_,rfl,_,rfl,p,_,_,_,_,rfl,hF,T.cl_Field,T.no_Field_last,dZ r w,_,_,rfl,rfl,_,rfl,?_⟩
  have hp:0 < 2 ^ w:=af0 w;refine ite2 (fun h=>?_) (fun h=>?_)
  ·have h':=zN h
   refine ⟨_,rfl,_,rfl,p,_,_,_,_,rfl,hF,T.cl_Field,T.no_Field_rule,xL r w,_,_,rfl,rfl,?_⟩
   have e:Builtin.bitXor (2 * (x:Int)) (r:Int)=((GF.dbl r w x:Nat):Int):=by
    have e0:(2 * (x:Int))=((2 * x:Nat):Int):=by omega
    rw [e0,bK];unfold GF.dbl;rw [if_pos (by omega)]
   show Q (.int (Builtin.bitXor (2 * (x:Int)) (r:Int))) H
   rw [e];exact k
  ·have h':¬ (((2 ^ w - 1:Nat):Int) < 2 * (x:Int)):=fun z=>h (zZ z)
   refine ⟨_,rfl,?_⟩
   have e:(2 * (x:Int))=((GF.dbl r w x:Nat):Int):=by
    unfold GF.dbl;rw [if_neg (by omega)]
    omega
   show Q (.int (2 * (x:Int))) H
   rw [e];exact k
inductive qE (a:Adr) (vs:List V) (H:Hp) (Q:VK) (E_3:XK):Prop
 | mk:∀ (p:Addr) (r w x y:Nat),vs=[.ref p,.int x,.int y]->FieldAt a.C_Field H p r w->GF.Rule r w->x < 2 ^ w->Q (.int (GF.tm r w x y:Nat)) H->qE a vs H Q E_3
theorem cZ (T:Txt K mg a):FnO P wo K mg base 2 a.f3 ["self", "one", "other"] (qE a):=by
 have l:FnO P wo K mg base 1 a.f2 ["self", "one"] (gK a):=fV T
 refine T.x3.F.okA (k:=1) sc_Field_times (fun I A outer s H vs Q E hr h=>?_)
 ·obtain ⟨p,r,w,x,y,rfl,hF,R,hx,k⟩:=h
  exists xx
  exists xc (al (i:=3) sc_Field_times.nd rfl (Or.inl rfl) ai)
  exists xc (al (i:=4) sc_Field_times.nd rfl (Or.inl rfl) (pv 1))
  exists xc (al (i:=5) sc_Field_times.nd rfl (Or.inl rfl) (pv 2))
  refine xq ?_;refine xw PassesOwn.never (au cX (pv 5) ai (ax _)) ?_;refine xq ?_;refine xi (au bU (aq aX (pv 5) ai) ai (ax _)) ?_
  exists xl (al (i:=3) sc_Field_times.nd rfl (Or.inl rfl) (aq dE (pv 3) (pv 4)))
  refine ⟨_,aF,?_⟩;intro u_
  exists xc (al (i:=4) sc_Field_times.nd rfl (Or.inl rfl) (aE (pv 0) T.cl_Field T.x2.me l hr.u T.x2.b .nil ao (aa (pv 4) ac)))
  exists xl (al (i:=5) sc_Field_times.nd rfl (Or.inl rfl) (aq cC (pv 5) ai))
  intro u_
  exists xl (av (pv 3))
  refine ⟨_,rfl,_,rfl,?_⟩
  refine ⟨fun m σ H'=>∃ f d g:Nat,g=m/\σ=[some (.ref p),some (.int x),some (.int y),some (.int f),some (.int d),some (.int g)]/\H'=H/\d < 2 ^ w/\f ^^^ GF.tm r w d g=GF.tm r w x y,
   ⟨_,0,x,y,rfl,rfl,rfl,hx,ae4 _⟩,?_⟩
  rintro m σ H' ⟨f,d,g,rfl,rfl,rfl,hd,B⟩;refine ⟨_,rfl,_,_,rfl,rfl,_,rfl,?_⟩;refine ite2 (fun h=>⟨_,fun _ _ z=>z,?_⟩) (fun h=>?_)
  ·have hg:0 < g:=by
    have:=zN h;omega
   have hm:((g:Int) % 2)=((g % 2:Nat):Int):=by omega
   have G:((g:Int) / 2)=((g / 2:Nat):Int):=by omega
   have step:=GF.tm_step (r:=r) (w:=w) d g;refine ⟨_,rfl,_,_,rfl,rfl,p0 (by decide),rfl,_,rfl,?_⟩
   refine ite2 (fun h1=>?_) (fun h1=>?_)
   ·have D:g % 2=1:=by
     have:=V.int.inj (zN h1);omega
    refine ⟨_,rfl,_,rfl,_,_,rfl,rfl,?_⟩;obtain ⟨dx,C⟩:=id hF;refine ⟨_,rfl,p,dx,_,rfl,C,rfl,_,rfl,p,r,w,d,rfl,hF,hd,?_⟩;refine ⟨_,rfl,_,_,rfl,rfl,⟨by decide,by decide⟩,?_⟩
    refine ⟨g / 2,al6 hg (by decide),f ^^^ d,GF.dbl r w d,g / 2,rfl,?_,rfl,GF.dbl_lt R hd,?_⟩
    ·show [some (V.ref p),some (V.int x),some (V.int y),some (V.int (Builtin.bitXor f d)),some (V.int (GF.dbl r w d:Nat)),some (V.int ((g:Int) / 2))]=_
     rw [bK,G]
    ·rw [<- B,step,if_pos D,ag1]
   ·have D:¬ g % 2=1:=by
     intro z
     apply h1
     apply zZ
     show V.int ((g:Int) % 2)=V.int 1
     congr 1
     omega
    obtain ⟨dx,C⟩:=id hF;refine ⟨_,rfl,p,dx,_,rfl,C,rfl,_,rfl,p,r,w,d,rfl,hF,hd,?_⟩;refine ⟨_,rfl,_,_,rfl,rfl,⟨by decide,by decide⟩,?_⟩
    refine ⟨g / 2,al6 hg (by decide),f,GF.dbl r w d,g / 2,rfl,?_,rfl,GF.dbl_lt R hd,?_⟩
    ·show [some (V.ref p),some (V.int x),some (V.int y),some (V.int f),some (V.int (GF.dbl r w d:Nat)),some (V.int ((g:Int) / 2))]=_
     rw [G]
    ·rw [<- B,step,if_neg D,ae4]
  ·have hg:g=0:=by
    have:¬ ((0:Int) < g):=fun z=>h (zZ z);omega
   subst hg;rw [GF.tm_zero,ae5] at B;refine ⟨_,rfl,?_⟩
   show Q (.int (f:Nat)) H'
   rw [B];exact k
inductive gc (a:Adr) (vs:List V) (H:Hp) (Q:VK) (E_3:XK):Prop
 | mk:∀ (p:Addr) (r w:Nat),vs=[.ref p]->FieldAt a.C_Field H p r w->GF.Good r w->Q (.int ((2 ^ w - 1:Nat):Int)) H->gc a vs H Q E_3
theorem e9 (T:Txt K mg a):FnO P wo K mg base 2 a.f1 ["self"] (gc a):=by
 have g:FnO P wo K mg base 1 a.f2 ["self", "one"] (gK a):=fV T
 refine T.x1.F.okA (k:=1) sc_Field_doublings_of_one (fun D A outer s H vs Q E hr h=>?_)
 ·obtain ⟨p,r,w,rfl,hF,R,k⟩:=h
  obtain ⟨dx,l⟩:=id hF
  exists xx
  exists xc (al (i:=1) sc_Field_doublings_of_one.nd rfl (Or.inl rfl) (aE (pv 0) T.cl_Field T.x2.me g hr.u T.x2.b .nil ao (aa ai ac)))
  exists xc (al (i:=2) sc_Field_doublings_of_one.nd rfl (Or.inl rfl) ai)
  refine xq ?_;refine xw PassesOwn.never (au eW (pv 1) ai (ax _)) ?_
  exists xc (al (i:=1) sc_Field_doublings_of_one.nd rfl (Or.inl rfl) (aE (pv 0) T.cl_Field T.x2.me g hr.u T.x2.b .nil ao (aa (pv 1) ac)))
  exists xl (yF (i:=2) sc_Field_doublings_of_one.nd rfl (Or.inl rfl) ai yG)
  intro u_
  exists xl (av (pv 2))
  refine ⟨_,rfl,p,dx,_,rfl,l,rfl,p,r,w,1,rfl,hF,GF.one_lt R.w1,?_⟩;refine ⟨fun m σ H'=>∃ n:Nat,m=2 ^ w - 1 - n/\σ=[some (.ref p),some (.int (GF.it r w n:Nat)),some (.int n)]/\H'=H/\1<=n/\n<=2 ^ w - 1,⟨_,1,rfl,rfl,rfl,zQ _,R.last1⟩,?_⟩;rintro m σ H' ⟨n,rfl,rfl,rfl,h1,hn⟩;refine ⟨_,rfl,rfl,_,rfl,?_⟩;refine ite2 (fun h=>⟨_,fun _ _ z=>z,?_⟩) (fun h=>?_)
  ·have B:GF.it r w n≠1:=by
    intro z;rw [z] at h;exact absurd h (by decide)
   have G:n < 2 ^ w - 1:=Nat.lt_of_le_of_ne hn fun z=>B (by rw [z];exact R.back)
   refine ⟨_,rfl,p,dx,_,rfl,l,rfl,_,rfl,p,r,w,_,rfl,hF,GF.it_lt R.rule R.w1 n,?_⟩;refine ⟨_,rfl,_,_,rfl,rfl,?_⟩;exact ⟨2 ^ w - 1 - (n+1),by omega,n+1,rfl,rfl,rfl,by omega,by omega⟩
  ·have he:GF.it r w n=1:=by
    refine Classical.byContradiction fun z=>h ?_
    have:¬ (V.int (GF.it r w n:Nat)=V.int 1):=fun q=>z (by have:=V.int.inj q;omega)
    show (!decide (V.int (GF.it r w n:Nat)=V.int 1))=true
    rw [aa9 this];rfl
   have C:n=2 ^ w - 1:=by
    refine Classical.byContradiction fun z=>R.first n h1 (by omega) he
   subst C;exact ⟨_,rfl,k⟩
inductive jo (a:Adr) (vs:List V) (H:Hp) (Q:VK) (E_3:XK):Prop
 | mk:∀ (p dx:Addr) (r w:Nat),vs=[.ref p,.int r]->H p=some (.ins a.C_Field dx [])->GF.Good r w->Q .non (upd H p (.ins a.C_Field dx (ff r w)))->jo a vs H Q E_3
theorem mS (T:Txt K mg a):FnO P wo K mg base 3 a.f0 ["self", "rule"] (jo a):=by
 have g:FnO P wo K mg base 2 a.f1 ["self"] (gc a):=e9 T
 refine T.x0.F.okA (k:=2) sc_Field_init (fun C A outer s H vs Q E hr h=>?_)
 ·obtain ⟨p,dx,r,w,rfl,hp,R,k⟩:=h
  exists xx
  refine xq ?_;refine xi (PW.pt (bC (au d8 (pv 1) (gh (v:=.int 16) rfl T.v_LEAST_RULE ⟨_,rfl⟩) (ax _)) (bC (au cX (pv 1) (gh (v:=.int 511) rfl T.v_GREATEST_RULE ⟨_,rfl⟩) (ax _)) (bJ (au bU (aq aX (pv 1) ai) ai (ax _)))))) ?_
  exists xl bo
  refine ⟨_,aF,?_⟩;intro u_
  exists xc (bE (pv 0) (pv 1) rfl)
  exists xc (bE (pv 0) (aq eC (eE aj2 ag5 ag6 eG (pv 1)) ai) rfl)
  exists xc (bE (pv 0) (aq eC (aq jX ai (az (pv 0) rfl)) ai) rfl)
  exists xc (al (i:=2) sc_Field_init.nd rfl (Or.inl rfl) (cN (pv 0) T.cl_Field T.x1.me g hr.u T.x1.b .nil ao))
  refine x1 ?_;refine xi (au eW (pv 2) (az (pv 0) rfl) (ax _)) ?_
  exists xl bo
  refine ⟨_,aF,?_⟩;intro u_
  have B:=R.lo16
  have l:=R.hi511
  have D:=R.odd;refine ⟨_,rfl,_,_,rfl,rfl,_,rfl,?_⟩;refine ite2 (fun h=>absurd (zN h) (by omega)) (fun _=>?_)
  refine ⟨_,rfl,_,_,rfl,rfl,_,rfl,?_⟩;refine ite2 (fun h=>absurd (zN h) (by omega)) (fun _=>?_)
  refine ⟨_,rfl,_,_,rfl,rfl,p0 (by decide),rfl,_,rfl,?_⟩
  refine ite2 (fun h=>absurd (V.int.inj (zN h)) (by omega)) (fun _=>?_)
  refine ⟨_,rfl,_,rfl,p,a.C_Field,dx,_,rfl,hp,T.cl_Field,T.no_Field_rule,(by decide),?_⟩
  refine ⟨_,rfl,rfl,_,rfl,rfl,_,_,rfl,rfl,_,rfl,p,a.C_Field,dx,_,rfl,ab,T.cl_Field,T.no_Field_width,(by show (1:Nat) < 1000;decide),?_⟩
  have ew:((Builtin.Int.intBits (r:Int):Nat):Int) - 1=(w:Int):=by
   rw [cD R.rule.lo R.rule.hi];omega
  dsimp only;rw [ew,bA];refine ⟨_,rfl,p,_,_,_,_,rfl,ab,T.cl_Field,T.no_Field_width,rfl,_,_,rfl,rfl,⟨by omega,by have:=R.w8;omega,by decide⟩,_,_,rfl,rfl,?_⟩
  refine ⟨_,rfl,p,a.C_Field,dx,_,rfl,ab,T.cl_Field,T.no_Field_last,(by show (2:Nat) < 1000;decide),?_⟩
  have el:(1:Int) * 2 ^ ((w:Int)).toNat - 1=((2 ^ w - 1:Nat):Int):=by
   have:((w:Int)).toNat=w:=by omega
   rw [this,Int.one_mul]
   have h1:0 < 2 ^ w:=af0 w
   have h2:((2 ^ w:Nat):Int)=(2:Int) ^ w:=by simp
   omega
  dsimp only;rw [el,bA]
  have hF:FieldAt a.C_Field (upd H p (.ins a.C_Field dx (ff r w))) p r w:=⟨dx,ab⟩
  have ef:putF "last" (.int ((2 ^ w - 1:Nat):Int)) (putF "width" (.int (w:Int)) (putF "rule" (.int (r:Int)) []))=ff r w:=rfl
  rw [ef];refine ⟨_,rfl,p,dx,_,rfl,ab,rfl,p,r,w,rfl,hF,R,?_⟩;refine ⟨_,rfl,_,rfl,p,_,_,_,_,rfl,ab,T.cl_Field,T.no_Field_last,dZ r w,rfl,_,rfl,?_⟩;refine ite2 (fun h=>?_) (fun _=>k);exact absurd h (by simp)
variable {o:HO}
theorem Same.new (h:H p=none):Same H (upd H p o):=fun b u e=>by rw [ae (am e h)];exact e
theorem xM (x k:Nat):(x:Int) * 2 ^ ((k:Int)).toNat=((x * 2 ^ k:Nat):Int):=by
 have:((k:Int)).toNat=k:=by omega
 rw [this]
 simp
theorem jE (w:Nat):(1:Int) * 2 ^ ((w:Int)).toNat=((2 ^ w:Nat):Int):=by
 have:=xM 1 w;rw [Nat.one_mul] at this;exact this
def cell (ns:List Int) (k:Nat):Int:=ns.getD k 0
inductive qF (K:PySem.W.Frag) (vs:List V) (H:Hp) (Q:VK) (E_3:XK):Prop
 | mk:∀ (s:Addr) (ns:List Int) (k:Nat),vs=[.ref s,.int k]->SqL K H s (ns.map V.int)->k<=99->ns.length<=63->(∀ c:Int,Q (.int c) H)->qF K vs H Q E_3
theorem ca (T:Txt K mg a):FnO P wo K mg base 1 a.f53 ["_law_script", "_law_k"] (qF K):=by
 refine T.x53.F.okA (k:=0) sc_cell (fun g A outer s H vs Q E hr h=>?_)
 ·obtain ⟨p,ns,k,rfl,hS,l,hn,q⟩:=h
  exists xx
  refine xq ?_;refine xi (au d8 (pv 1) (aA aB rfl T.n_len ab7 (aa (pv 0) ac)) (ax _)) ?_
  exists xl (av (aI aH (pv 0) (pv 1) (fun _ _=>rfl)))
  refine ⟨_,aF,?_⟩;intro u_
  exists xc (al (i:=2) sc_cell.nd rfl (Or.inl rfl) (aq aO (aq cM ai (pv 1)) ai))
  refine xq ?_;refine xi (au cX (aA aB rfl T.n_len ab7 (aa (pv 0) ac)) ai (ax _)) ?_
  exists xl (al (i:=2) sc_cell.nd rfl (Or.inl rfl) (aq aO (pv 2) (aq cM (aq aX (aI aH (pv 0) (aq aX (aq cM ai (pv 1)) (aA aB rfl T.n_len ab7 (aa (pv 0) ac))) (fun _ _=>rfl)) ai) (aq aO (pv 1) ai))))
  refine ⟨_,aF,?_⟩;intro u_
  exists xl (av (aq aX (aq cM (pv 2) (pv 2)) ai))
  have el:(ns.map V.int).length=ns.length:=zM ..;refine ⟨_,rfl,_,rfl,p,_,rfl,.inl hS,_,_,rfl,rfl,_,rfl,?_⟩;refine ite2 (fun h=>?_) (fun h=>?_)
  ·have hk:k < ns.length:=by
    have:=zN h;rw [zM] at this;omega
   have e:(ns.map V.int)[k]?=some (V.int (ns.getD k 0)):=by
    rw [zO,zK,zL hk];rfl
   exact ⟨_,rfl,_,rfl,p,_,_,_,rfl,rfl,hS,aC e,q _⟩
  ·refine ⟨_,rfl,_,_,rfl,rfl,.inl ⟨by decide,by decide⟩,_,_,rfl,rfl,?_⟩
   refine ⟨_,rfl,p,_,rfl,.inl hS,_,_,rfl,rfl,_,rfl,?_⟩;refine ite2 (fun h0=>?_) (fun h0=>?_)
   ·have hp:0 < ns.length:=by
     have:=zN h0;rw [zM] at this;omega
    obtain ⟨i,hi,ei⟩:∃ i:Nat,i < ns.length/\(7 * (k:Int)) % (((ns.map V.int).length:Nat):Int)=(i:Int):=by
     rw [el];exact ⟨(7 * k) % ns.length,Nat.mod_lt _ hp,by rw [Int.natCast_emod,al7];rfl⟩
    have e:(ns.map V.int)[i]?=some (V.int (ns.getD i 0)):=by
     rw [zO,zK,zL hi];rfl
    have y1:ns.getD i 0 % 1000003 < 1000003:=by omega
    have y0:0<=ns.getD i 0 % 1000003:=by omega
    have b1:ns.getD i 0 % 1000003 * ((k:Int)+3)<=ns.getD i 0 % 1000003 * 102:=Int.mul_le_mul_of_nonneg_left (by omega) y0
    have b0:0<=ns.getD i 0 % 1000003 * ((k:Int)+3):=Int.mul_nonneg y0 (by omega)
    refine ⟨_,rfl,_,rfl,_,rfl,_,_,rfl,rfl,.inl ⟨by decide,by decide⟩,_,rfl,p,_,rfl,.inl hS,_,_,rfl,rfl,(by rw [el];omega),p,_,_,_,rfl,rfl,hS,(by rw [ei];exact aC e),_,_,rfl,rfl,(by show (0:Int) < 1000003;decide),_,rfl,_,_,rfl,rfl,_,_,rfl,rfl,.inl ⟨by omega,by omega⟩,_,_,rfl,rfl,?_⟩
    exact ⟨_,rfl,_,rfl,_,_,rfl,rfl,.inl ⟨by omega,by omega⟩,_,_,rfl,rfl,(by show (0:Int) < 1000003;decide),q _⟩
   ·exact ⟨_,rfl,_,rfl,_,_,rfl,rfl,.inl ⟨by omega,by omega⟩,_,_,rfl,rfl,(by show (0:Int) < 1000003;decide),q _⟩
def R81:List Nat:=[19,25,37,41,67,97,131,193,285,369]
theorem yV:∀ i,i < 10->∃ j,j < 48/\GF.rules.getD j 19=R81.getD i 0:=by decide
theorem vR (i:Nat) (h:i < 10):GF.Full (R81.getD i 0) (R81.getD i 0).log2:=by
 obtain ⟨j,hj,e⟩:=yV i h
 have:=GF.ruleOf_full (j:Int)
 have e2:GF.ruleOf (j:Int)=R81.getD i 0:=by
  unfold GF.ruleOf;rw [<- e]
  congr 1
  omega
 rw [e2] at this;exact this
inductive oo (vs:List V) (H:Hp) (Q:VK) (E_3:XK):Prop
 | mk:∀ c:Int,vs=[.int c]->(∀ (r:Nat) H',GF.Full r r.log2->Same H H'->Q (.int r) H')->oo vs H Q E_3
theorem xN (T:Txt K mg a):FnO P wo K mg base 1 a.f55 ["_law_cell_here"] oo:=by
 refine T.x55.F.okA (k:=0) xK (fun g A outer s H vs Q E hr h=>?_)
 ·obtain ⟨c,rfl,q⟩:=h
  exists xx
  refine ⟨_,(@iS _ _ _ (av (@aI _ _ _ _ _ _ _ aH (@bq _ _ _ _ (@qf _ _ [19,25,37,41,67,97,131,193,285,369] (by kernel_rfl))) (aq aX (pv 0) ai) (fun _ _=>rfl)))),?_⟩
  refine ⟨(by decide),fun p1 n1=>?_⟩
  obtain ⟨d,hd,e⟩:∃ d:Nat,d < 10/\c % 10=(d:Int):=⟨(c % 10).toNat,by omega,by omega⟩
  have e1:(R81.map fun n:Nat=>V.int n)[d]?=some (V.int ((R81.getD d 0:Nat):Int)):=by
   rw [zO,zK,zL (show d < R81.length from hd)];rfl
  refine ⟨_,rfl,_,_,rfl,rfl,(by show (0:Int) < 10;decide),p1,(R81.map fun n:Nat=>V.int n),c % 10,_,rfl,rfl,SqL.of ab,(by rw [e];exact aC e1),?_⟩
  exact q _ _ (vR d hd) (Same.new n1)
variable {d:Nat}
theorem xO (h:((2 ^ w:Nat):Int)<=(d:Int) * 2):Builtin.bitXor ((d:Int) * 2) (r:Int)=((GF.dbl r w d:Nat):Int):=by
 have e0:(d:Int) * 2=((2 * d:Nat):Int):=by omega
 try dsimp only
 rw [e0,bK];unfold GF.dbl;rw [if_pos (by omega)]
theorem xP (h:¬ ((2 ^ w:Nat):Int)<=(d:Int) * 2):(d:Int) * 2=((GF.dbl r w d:Nat):Int):=by
 unfold GF.dbl;rw [if_neg (by omega)]
 omega
def rowV (row:List Nat):List V:=row.map fun (n:Nat)=>V.int (n:Int)
variable {row:List Nat}{i:Nat}
theorem oq (h:i < row.length):(rowV row)[i]?=some (.int (row[i]:Nat)):=by
 unfold rowV;rw [zO,zL h];rfl
theorem aj (row:List Nat):(rowV row).length=row.length:=zM _
variable {v:V}
theorem aQ (h:(rowV row)[i]?=some v):∃ x,row[i]?=some x/\v=.int (x:Nat):=by
 unfold rowV at h;rw [zO] at h
 cases q:row[i]? with
 | none=>rw [q] at h;cases h
 | some x=>rw [q] at h;exact ⟨x,rfl,(zX h).symm⟩
theorem cj (row:List Nat) (x:Nat):rowV row++[.int (x:Nat)]=rowV (row++[x]):=by unfold rowV;rw [ad6];rfl
theorem ow (row:List Nat) (f:Nat->Nat) (g:V->V) (h:∀ n:Nat,g (.int (n:Int))=.int ((f n:Nat):Int)):(rowV row).map g=rowV (row.map f):=by
 unfold rowV;rw [ac4,ac4]
 apply af4
 intro n _;exact h n
theorem jF (h:v∈rowV row):∃ x∈row,v=.int (x:Nat):=by
 unfold rowV at h;obtain ⟨x,hx,e⟩:=ae2.mp h;exact ⟨x,hx,e.symm⟩
theorem modN (c:Int) {n:Nat} (h:0 < n):∃ y:Nat,y < n/\c % (n:Int)=(y:Int):=by
 have hp:(0:Int) < (n:Int):=by omega
 have h1:=Int.emod_lt_of_pos c hp
 have h2:=Int.emod_nonneg c (Int.ne_of_gt hp);exact ⟨(c % (n:Int)).toNat,by omega,by omega⟩
variable {H1:Hp}{x:Addr}
theorem ur {dx:Addr} (s1:Same H H1) (nx:H1 x=none) (ndx:H1 dx=none):Same H (upd (upd (upd H1 dx (.own x)) x (.ins a.C_Field dx [])) x (.ins a.C_Field dx (ff r w))):=by
 rw [bA];refine s1.trans fun b o e=>?_;rw [ae (am e nx),ae (am e ndx)];exact e
theorem oy {u:V} (h:u=v):¬ (!decide (u=v))=true:=by rw [zZ h];decide
variable {n j:Nat}
theorem da (h:j < n):ixN n (j:Int)=some j:=by
 unfold ixN;rw [if_pos (by omega),if_pos (by omega),ac2]
theorem vS {k:Nat} (h:k<=row.length):cutV (rowV row) none (some (k:Int))=rowV (row.take k):=by
 unfold cutV;rw [HT.sIx_none,HT.sIx_nat,aj,List.drop_zero,Nat.sub_zero,Nat.min_eq_left h];unfold rowV;rw [List.map_take]
theorem ut {k:Nat} (h:k<=row.length):cutV (rowV row) (some (k:Int)) none=rowV (row.drop k):=by
 unfold cutV;rw [HT.sIx_none,HT.sIx_nat,aj,Nat.min_eq_left h];unfold rowV;rw [<- List.map_drop,← List.map_take]
 congr 1
 apply List.take_of_length_le
 rw [List.length_drop];exact zQ _
def bf (fp:Addr) (w n:Nat):List (Str × V):=[("field",.ref fp),("many",.int n),("limit",.int (((2 ^ w) ^ n:Nat):Int))]
theorem d0 (fp:Addr) (w n:Nat):(bf fp w n).lookup ("field" : Str)=some (.ref fp):=rfl
theorem xQ (fp:Addr) (w n:Nat):(bf fp w n).lookup ("many" : Str)=some (.int n):=rfl
structure BlocksAt (a:Adr) (H:Hp) (p fp:Addr) (r w n:Nat):Prop where
 ins:∃ dx,H p=some (.ins a.C_Blocks dx (bf fp w n))
 fld:FieldAt a.C_Field H fp r w
theorem BlocksAt.same {a:Adr}{H H':Hp}{p fp:Addr}{r w n:Nat} (h:BlocksAt a H p fp r w n) (s:Same H H'):BlocksAt a H' p fp r w n:=let ⟨dx,e⟩:=h.ins;⟨⟨dx,s _ _ e⟩,h.fld.same s⟩
variable {fp:Addr}
theorem rZ {dx:Addr} (s1:Same H H1) (nx:H1 x=none) (ndx:H1 dx=none):Same H (upd (upd (upd H1 dx (.own x)) x (.ins a.C_Blocks dx [])) x (.ins a.C_Blocks dx (bf fp w n))):=by
 rw [bA];refine s1.trans fun b o e=>?_;rw [ae (am e nx),ae (am e ndx)];exact e
inductive iJ (a:Adr) (vs:List V) (H:Hp) (Q:VK) (E_3:XK):Prop
 | mk:∀ (p dx fp:Addr) (r w n:Nat),vs=[.ref p,.ref fp,.int n]->H p=some (.ins a.C_Blocks dx [])->FieldAt a.C_Field H fp r w->p≠fp->GF.Good r w->1<=n->n<=16->Q .non (upd H p (.ins a.C_Blocks dx (bf fp w n)))->iJ a vs H Q E_3
theorem lm (T:Txt K mg a):FnO P wo K mg base 1 a.f14 ["self", "field", "many"] (iJ a):=by
 refine T.x14.F.okA (k:=0) sc_Blocks_init (fun G A outer s H vs Q E hr h=>?_)
 ·obtain ⟨p,dx,fp,r,w,n,rfl,hp,hF,l,R,h1,D,q⟩:=h
  have C:=R.top16
  have B:=R.top256
  exists xx
  refine xq ?_;refine xi (PW.pt (bC (au d8 (pv 2) ai (ax _)) (bJ (au cX (pv 2) (gh (v:=.int 16) rfl T.v_MOST_SYMBOLS ⟨_,rfl⟩) (ax _))))) ?_
  exists xl bo
  refine ⟨_,aF,?_⟩;intro u_
  exists xc (bE (pv 0) (pv 1) rfl)
  exists xc (bE (pv 0) (pv 2) rfl)
  exists xc (bE (pv 0) ai rfl)
  refine x1 ?_;refine xf PassesOwn.never rfl (aW rfl T.n_range (aa (pv 2) ac)) (ar (i:=3) sc_Blocks_init.nd rfl (Or.inl rfl)) ?_
  exists xl (bE (pv 0) (aq cM (az (pv 0) rfl) (aq aO (az (pv 1) rfl) ai)) rfl)
  intro u_;refine ⟨_,rfl,_,_,rfl,rfl,_,rfl,?_⟩;refine ite2 (fun h=>absurd (zN h) (by omega)) (fun _=>?_)
  refine ⟨_,rfl,_,_,rfl,rfl,_,rfl,?_⟩;refine ite2 (fun h=>absurd (zN h) (by omega)) (fun _=>?_)
  refine ⟨_,rfl,_,rfl,p,a.C_Blocks,dx,_,rfl,hp,T.cl_Blocks,T.no_Blocks_field,(by decide),?_⟩
  refine ⟨_,rfl,_,rfl,p,a.C_Blocks,dx,_,rfl,ab,T.cl_Blocks,T.no_Blocks_many,(by show (1:Nat) < 1000;decide),?_⟩
  refine ⟨_,rfl,p,a.C_Blocks,dx,_,rfl,ab,T.cl_Blocks,T.no_Blocks_limit,(by show (2:Nat) < 1000;decide),?_⟩
  dsimp only;rw [bA,bA]
  have ef:∀ v:V,putF "limit" v (putF "many" (.int (n:Int)) (putF "field" (.ref fp) []))=[(("field" : Str),.ref fp),(("many" : Str),.int (n:Int)),(("limit" : Str),v)]:=fun v=>rfl
  rw [ef]
  refine ⟨_,rfl,_,rfl,by omega,by omega,let I_:Nat→L2.St→Hp→Prop:=fun i σ H'=>L2.E1 fun (v:Option V)=>L2.A2 (σ=[some (.ref p),some (.ref fp),some (.int n),v]) (H'=upd H p (.ins a.C_Blocks dx [(("field" : Str),.ref fp),(("many" : Str),.int (n:Int)),(("limit" : Str),.int (((2 ^ w) ^ i:Nat):Int))]));bO (lo:=0) (n:=n) I_ ⟨none,rfl,rfl⟩ ?_ ?_⟩
  ·rintro i σ H' hi ⟨v,rfl,rfl⟩
   obtain ⟨dF,g⟩:=hF
   have el:(((2 ^ w - 1:Nat):Int)+1)=((2 ^ w:Nat):Int):=by omega
   refine ⟨_,rfl,p,_,_,_,_,rfl,ab,T.cl_Blocks,T.no_Blocks_limit,rfl,_,rfl,fp,_,_,_,_,rfl,(by rw [ae l.symm];exact g),T.cl_Field,T.no_Field_last,dZ r w,_,_,rfl,rfl,_,_,rfl,rfl,.inr ⟨by omega,by omega⟩,?_⟩
   refine ⟨_,rfl,p,a.C_Blocks,dx,_,rfl,ab,T.cl_Blocks,T.no_Blocks_limit,(by show (3:Nat) < 1000;decide),?_⟩
   refine ⟨_,rfl,?_⟩;rw [bA]
   have e2:(((2 ^ w) ^ i:Nat):Int) * (((2 ^ w - 1:Nat):Int)+1)=(((2 ^ w) ^ (i+1):Nat):Int):=by
    rw [el,ag4,al7]
   rw [<- e2];rfl
  ·rintro σ H' ⟨v,rfl,rfl⟩
   exact q
inductive ma (a:Adr) (vs:List V) (H:Hp) (Q:VK) (E_3:XK):Prop
 | mk:∀ (p fp:Addr) (r w n b:Nat),vs=[.ref p,.int b]->BlocksAt a H p fp r w n->GF.Good r w->n<=16->(∀ D H',H D=none->Same H H'->H' D=some (.lst (rowV (GF.syms w n b)))->Q (.ref D) H')->ma a vs H Q E_3
theorem i4 (T:Txt K mg a):FnO P wo K mg base 1 a.f15 ["self", "block"] (ma a):=by
 refine T.x15.F.okA (k:=0) sc_Blocks_symbols (fun J A outer s H vs Q E hr h=>?_)
 ·obtain ⟨p,fp,r,w,n,b,rfl,hB,R,I,q⟩:=h
  have G:=R.top16
  have C:=R.top256;obtain ⟨dB,l⟩:=hB.ins;obtain ⟨dF,B⟩:=hB.fld
  have el:(((2 ^ w - 1:Nat):Int)+1)=((2 ^ w:Nat):Int):=by omega
  exists xx
  exists xc (al (i:=2) sc_Blocks_symbols.nd rfl (Or.inl rfl) (aq aO (az (az (pv 0) rfl) rfl) ai))
  exists xc (al (i:=3) sc_Blocks_symbols.nd rfl (Or.inl rfl) (bq ac))
  exists xc (al (i:=4) sc_Blocks_symbols.nd rfl (Or.inl rfl) (pv 1))
  refine xq ?_;refine xf PassesOwn.never rfl (aW rfl T.n_range (aa (az (pv 0) rfl) ac)) (ar (i:=5) sc_Blocks_symbols.nd rfl (Or.inl rfl)) ?_
  exists xc (aS (cn ac5 ad1 ad2 bc (pv 3) (aa (aq aX (pv 4) (pv 2)) ac)))
  exists xl (al (i:=4) sc_Blocks_symbols.nd rfl (Or.inl rfl) (aq cC (pv 4) (pv 2)))
  intro u_
  exists xl (av (pv 3))
  refine ⟨_,rfl,p,_,_,_,_,rfl,l,T.cl_Blocks,T.no_Blocks_field,d0 fp w n,fp,_,_,_,_,rfl,B,T.cl_Field,T.no_Field_last,dZ r w,_,_,rfl,rfl,?_⟩;dsimp only;rw [el];refine ⟨by decide,fun D nD=>?_⟩
  have s1:=Same.new (o:=.lst []) nD;refine ⟨_,rfl,?_⟩
  refine ⟨_,rfl,p,_,_,_,_,rfl,s1 _ _ l,T.cl_Blocks,T.no_Blocks_many,xQ fp w n,_,rfl,by omega,by omega,let I_:Nat->L2.St->Hp->Prop:=fun i σ H'=>L2.E3 fun (v:Option V) (row:List Nat) (c:Nat)=>L2.A5 (σ=[some (.ref p),some (.int b),some (.int ((2 ^ w:Nat):Int)),some (.ref D),some (.int c),v]) (Same H H') (H' D=some (.lst (rowV row))) (row.length=i) (row++GF.syms w (n - i) c=GF.syms w n b);bO (lo:=0) (n:=n) I_
   ⟨none,[],b,rfl,s1,ab,rfl,rfl⟩ ?_ ?_⟩
  ·rintro i σ H' hi ⟨v,row,c,rfl,sm,hD,hl,g⟩
   have hp:(0:Int) < ((2 ^ w:Nat):Int):=by omega
   have em:((c:Int) % ((2 ^ w:Nat):Int))=((c % 2 ^ w:Nat):Int):=(Int.natCast_emod _ _).symm
   have ed:((c:Int) / ((2 ^ w:Nat):Int))=((c / 2 ^ w:Nat):Int):=(Int.natCast_ediv _ _).symm;refine ⟨_,rfl,.inl ⟨rfl,_,SqL.of hD⟩,_,rfl,_,rfl,_,_,rfl,rfl,p0 hp,D,_,_,rfl,rfl,hD,tu (by rw [aj];omega),?_⟩
   refine ⟨_,rfl,_,rfl,_,_,rfl,rfl,⟨hp,by omega⟩,?_⟩
   dsimp only;rw [em,ed,cj];refine ⟨_,row++[c % 2 ^ w],c / 2 ^ w,rfl,fun b' o e=>by rw [ae (am e nD)];exact sm b' o e,ab,by rw [ab6,hl];rfl,?_⟩
   rw [<- g]
   have e1:n - i=(n - (i+1))+1:=by omega
   rw [e1,GF.syms,am1];rfl
  ·rintro σ H' ⟨v,row,c,rfl,sm,hD,hl,g⟩
   rw [am7,GF.syms,ai8] at g;rw [g] at hD;exact ⟨_,rfl,q D H' nD sm hD⟩
inductive oz (K:PySem.W.Frag) (a:Adr) (vs:List V) (H:Hp) (Q:VK) (E_3:XK):Prop
 | mk:∀ (p fp l:Addr) (r w n:Nat) (row:List Nat),vs=[.ref p,.ref l]->BlocksAt a H p fp r w n->GF.Good r w->SqL K H l (rowV row)->Q (.int ((GF.join w row:Nat):Int)) H->oz K a vs H Q E_3
theorem jG (T:Txt K mg a):FnO P wo K mg base 1 a.f16 ["self", "some"] (oz K a):=by
 refine T.x16.F.okA (k:=0) sc_Blocks_joined (fun I A outer s H vs Q E hr h=>?_)
 ·obtain ⟨p,fp,l,r,w,n,row,rfl,hB,R,hL,q⟩:=h
  have G:=R.top16
  have D:=R.top256;obtain ⟨dB,C⟩:=hB.ins;obtain ⟨dF,B⟩:=hB.fld
  have el:(((2 ^ w - 1:Nat):Int)+1)=((2 ^ w:Nat):Int):=by omega
  exists xx
  exists xc (al (i:=2) sc_Blocks_joined.nd rfl (Or.inl rfl) (aq aO (az (az (pv 0) rfl) rfl) ai))
  exists xc (al (i:=3) sc_Blocks_joined.nd rfl (Or.inl rfl) ai)
  refine xq ?_;refine xf PassesOwn.never rfl (yL rfl T.n_reversed (aa (pv 1) ac)) (ar (i:=4) sc_Blocks_joined.nd rfl (Or.inl rfl)) ?_
  exists xl (al (i:=3) sc_Blocks_joined.nd rfl (Or.inl rfl) (aq aO (aq cM (pv 3) (pv 2)) (pv 4)))
  intro u_
  exists xl (av (pv 3))
  refine ⟨_,rfl,p,_,_,_,_,rfl,C,T.cl_Blocks,T.no_Blocks_field,d0 fp w n,fp,_,_,_,_,rfl,B,T.cl_Field,T.no_Field_last,dZ r w,_,_,rfl,rfl,?_⟩;dsimp only;rw [el];refine ⟨_,rfl,l,_,rfl,hL,let I_:Nat->L2.St->Hp->Prop:=fun i σ H'=>L2.E1 fun (v:Option V)=>L2.A2 (σ=[some (.ref p),some (.ref l),some (.int ((2 ^ w:Nat):Int)),some (.int ((GF.join w (row.drop (row.length - i)):Nat):Int)),v]) (H'=H);xm (K:=K) (a:=l) (xs:=rowV row) I_ ⟨none,?_,rfl⟩ ?_ ?_ ?_⟩
  ·rw [Nat.sub_zero,List.drop_length]
   rfl
  ·rintro i σ H' _ ⟨v,_,rfl⟩
   exact hL
  ·rintro i v σ H' hi hx ⟨v0,rfl,rfl⟩
   rw [aj] at hi hx;obtain ⟨y,hy,rfl⟩:=aQ hx;refine ⟨_,rfl,_,rfl,_,_,rfl,rfl,.inr ⟨by omega,by omega⟩,_,rfl,_,_,rfl,rfl,some (.int (y:Nat)),?_,rfl⟩
   have ed:row.drop (row.length - (i+1))=y :: row.drop (row.length - i):=by
    have e1:row.length - (i+1)=row.length - 1 - i:=by omega
    have e2:row.length - i=row.length - 1 - i+1:=by omega
    rw [e1,e2]
    have g:row.length - 1 - i < row.length:=by omega
    rw [List.drop_eq_getElem_cons g]
    congr 1
    rw [zL g] at hy;exact zX hy
   rw [ed,GF.join,Int.natCast_add,al7];rfl
  ·rintro σ H' ⟨v,rfl,rfl⟩
   rw [aj,am7,List.drop_zero];exact ⟨_,rfl,q⟩
inductive oA (a:Adr) (vs:List V) (H:Hp) (Q:VK) (E_3:XK):Prop
 | mk:∀ (p fp:Addr) (r w n f b:Nat),vs=[.ref p,.int f,.int b]->BlocksAt a H p fp r w n->GF.Good r w->n<=16->f < 2 ^ w->(∀ H',Same H H'->Q (.int ((GF.join w ((GF.syms w n b).map (GF.tm r w f)):Nat):Int)) H')->oA a vs H Q E_3
theorem jH (T:Txt K mg a):FnO P wo K mg base 3 a.f17 ["self", "factor", "block"] (oA a):=by
 refine T.x17.F.okA (k:=2) jD (fun I A outer s H vs Q E hr h=>?_)
 ·obtain ⟨p,fp,r,w,n,f,b,rfl,hB,R,B,hf,q⟩:=h
  obtain ⟨dB,g⟩:=hB.ins;obtain ⟨dF,G⟩:=hB.fld
  exists xx
  exists xl (av (aE (pv 0) T.cl_Blocks T.x16.me (jG T) hr.u T.x16.b .nil ao (aa (bb (CompOk.of (cap:=[1,0]) (own:=["symbol"]) (by kernel_rfl)) rfl (aJ (aE (pv 0) T.cl_Blocks T.x15.me (i4 T) hr.u T.x15.b .nil ao (aa (pv 2) ac))) (fun _ _ _ _ _=>(ar (i:=2) (zN (by kernel_rfl)) rfl (Or.inl rfl))) (fun _ _ _ _ _=>aV) (fun _ _ _ _ _=>by exact (aE (by exact (dU (K:=K) rfl (pv 1) rfl)) T.cl_Field T.x3.me (cZ T) hr.u T.x3.b .nil ao (aa (pv 0) (aa (pv 2) ac))))) ac)))
  refine ⟨_,rfl,p,dB,_,rfl,g,rfl,_,rfl,p,dB,_,rfl,g,rfl,_,rfl,p,fp,r,w,n,b,rfl,hB,R,B,fun l H1 nl s1 hl=>?_⟩;refine ⟨l,rfl,⟨_,SqL.of hl⟩,fun D nD=>?_⟩;refine km (xs:=rowV (GF.syms w n b)) (f:=fun v=>match v with | .int i=>.int ((GF.tm r w f i.toNat:Nat):Int) | v=>v) (cs:=[some (.int f),some (.ref p)]) (SqL.of hl) nD rfl (zR (by rw [aj,GF.syms_length];exact B) (by decide)) (fun x H2 R2 hx s2 hR=>?_) (fun H2 s2 hD=>?_)
  ·obtain ⟨y,hy,rfl⟩:=jF hx
   have C:=s2 _ _ (s1 _ _ G);refine ⟨_,rfl,p,_,_,_,_,rfl,s2 _ _ (s1 _ _ g),T.cl_Blocks,T.no_Blocks_field,d0 fp w n,fp,dF,_,rfl,C,rfl,_,rfl,_,rfl,fp,r,w,f,y,rfl,⟨dF,C⟩,R.rule,hf,hR _ (Same.refl _)⟩
  ·rw [ow (f:=GF.tm r w f) (h:=fun n=>rfl)] at hD
   exact ⟨p,fp,D,r,w,n,_,rfl,hB.same (s1.trans s2),R,SqL.of hD,q _ (s1.trans s2)⟩
inductive oB (K:PySem.W.Frag) (a:Adr) (vs:List V) (H:Hp) (Q:VK) (E_3:XK):Prop
 | mk:∀ (p fp lf lb:Addr) (r w n:Nat) (fs bs:List Nat),vs=[.ref p,.ref lf,.ref lb]->BlocksAt a H p fp r w n->GF.Good r w->n<=16->SqL K H lf (rowV fs)->SqL K H lb (rowV bs)->fs.length=bs.length->((∀ f∈fs,f < 2 ^ w))->(∀ H',Same H H'->Q (.int ((GF.sumB r w n (fs.zip bs):Nat):Int)) H')->oB K a vs H Q E_3
theorem vT {fs bs:List Nat}{f b:Nat} (hf:fs[i]?=some f) (hb:bs[i]?=some b):(fs.zip bs).take (i+1)=(fs.zip bs).take i++[(f,b)]:=by
 rw [am2]
 have:(fs.zip bs)[i]?=some (f,b):=by
  rw [List.zip,List.getElem?_zipWith,hf,hb]
 rw [this];rfl
theorem dt (T:Txt K mg a):FnO P wo K mg base 4 a.f18 ["self", "factors", "some"] (oB K a):=by
 refine T.x18.F.okA (k:=3) sc_Blocks_summed (fun J A outer s H vs Q E hr h=>?_)
 ·obtain ⟨p,fp,lf,lb,r,w,n,fs,bs,rfl,hB,R,D,hf,hb,B,C,q⟩:=h
  exists xx
  exists xc (al (i:=3) sc_Blocks_summed.nd rfl (Or.inl rfl) ai)
  refine xq ?_;refine xf PassesOwn.never rfl (ir rfl T.n_zip (aa (pv 1) (aa (pv 2) ac))) (eA rfl (aU (ar (i:=4) sc_Blocks_summed.nd rfl (Or.inl rfl)) (aU (ar (i:=5) sc_Blocks_summed.nd rfl (Or.inl rfl)) cB))) ?_
  exists xl (al (i:=3) sc_Blocks_summed.nd rfl (Or.inl rfl) (aq dE (pv 3) (aE (pv 0) T.cl_Blocks T.x17.me (jH T) hr.u T.x17.b .nil ao (aa (pv 4) (aa (pv 5) ac)))))
  intro u_
  exists xl (av (pv 3))
  refine ⟨_,rfl,_,rfl,lf,lb,_,_,rfl,hf,hb,let I_:Nat->L2.St->Hp->Prop:=fun i σ H'=>L2.E2 fun (v4 v5:Option V)=>L2.A2 (σ=[some (.ref p),some (.ref lf),some (.ref lb),some (.int ((GF.sumB r w n ((fs.zip bs).take i):Nat):Int)),v4,v5]) (Same H H');k6 (K:=K) (l1:=lf) (l2:=lb) (xs:=rowV fs) (ys:=rowV bs) I_ ⟨none,none,rfl,Same.refl _⟩ ?_ (by rw [aj,aj];exact B) ?_ ?_⟩
  ·rintro i σ H' _ ⟨v4,v5,_,sm⟩
   exact ⟨sm.seq hf,sm.seq hb⟩
  ·rintro i u v T' σ H' hi hu hv hT ⟨v4,v5,rfl,sm⟩
   obtain ⟨f,g,rfl⟩:=aQ hu;obtain ⟨b,I,rfl⟩:=aQ hv
   have s1:=sm.trans (Same.new (o:=.tup [V.int (f:Nat),V.int (b:Nat)]) hT)
   have l:=hB.same s1;obtain ⟨dB,G⟩:=l.ins;refine ⟨T',_,rfl,SqT.of ab,rfl,_,_,rfl,_,_,rfl,rfl,?_⟩;refine ⟨_,rfl,_,rfl,p,dB,_,rfl,G,rfl,_,rfl,_,rfl,p,fp,r,w,n,f,b,rfl,l,R,D,C f (aa0 g),fun H2 s2=>?_⟩;refine ⟨_,_,rfl,rfl,some (.int (f:Nat)),some (.int (b:Nat)),?_,s1.trans s2⟩;rw [vT g I,GF.sumB_snoc]
   show [_,_,_,some (V.int (Builtin.bitXor _ _)),_,_]=_
   rw [bK]
  ·rintro σ H' ⟨v4,v5,rfl,sm⟩
   have e:(fs.zip bs).take (rowV fs).length=fs.zip bs:=by
    rw [aj]
    apply List.take_of_length_le
    rw [List.length_zip];omega
   rw [e];exact ⟨_,rfl,q H' sm⟩
structure TabAt (H:Hp) (ps:List Addr) (M:Nat) (row:Nat->List Nat):Prop where
 len:ps.length=M
 on:∀ (i:Nat) p,ps[i]?=some p->H p=some (.lst (rowV (row i)))
variable {ps:List Addr}{M:Nat}
theorem TabAt.same {row:Nat->List Nat} (h:TabAt H ps M row) (s:Same H H'):TabAt H' ps M row:=⟨h.len,fun i p e=>s _ _ (h.on i p e)⟩
theorem TabAt.get {row:Nat->List Nat} (h:TabAt H ps M row) {i:Nat} (hi:i < M):∃ p,ps[i]?=some p/\H p=some (.lst (rowV (row i))):=by
 have hl:i < ps.length:=by rw [h.len];exact hi
 exact ⟨ps[i],zL hl,h.on i _ (zL hl)⟩
theorem aZ (h:ps[i]?=some p):(ps.map V.ref)[i]?=some (.ref p):=by rw [zO,h];rfl
theorem bw (h:i < row.length):(rowV row)[i]?=some (.int ((row.getD i 0:Nat):Int)):=by
 rw [oq h,zK,zL h];rfl
def dI (m at':Nat):List Nat:=(List.replicate m 0).set at' 1
theorem lq (n c:Nat):(List.replicate n [V.int (c:Int)]).flatten=rowV (List.replicate n c):=by
 induction n with
 | zero=>rfl
 | succ n ih=>rw [ag2,ai7,ih,ag2];rfl
theorem oC (row:List Nat) (i x:Nat):(rowV row).set i (.int (x:Nat))=rowV (row.set i x):=by
 unfold rowV;rw [List.map_set]
def rowT (W:Nat) (T:Nat->Nat->Nat) (i:Nat):List Nat:=(List.range W).map (T i)
theorem aD (W:Nat) (T:Nat->Nat->Nat) (i:Nat):(rowT W T i).length=W:=by unfold rowT;rw [zM,zS]
variable {W:Nat}{T:Nat->Nat->Nat}
theorem bi {k:Nat} (h:k < W):(rowT W T i).getD k 0=T i k:=by
 unfold rowT;rw [zK,zO,ab0 h];rfl
theorem fc {U:Nat->Nat->Nat} (h:∀ k,k < W->T i k=U j k):rowT W T i=rowT W U j:=af4 fun k hk=>h k (aa1.mp hk)
theorem fm (h:∀ k,k < W->T i k < n):∀ x∈rowT W T i,x < n:=fun x hx=>by
 obtain ⟨k,hk,rfl⟩:=ae2.mp hx;exact h k (aa1.mp hk)
theorem TabAt.congr {row row':Nat->List Nat} (h:TabAt H ps M row) (e:∀ i,i < M->row i=row' i):TabAt H ps M row' :=
 ⟨h.len,fun i p hi=>by
  have:i < M:=by
   rw [<- h.len];exact (zV.mp hi).1
  rw [<- e i this]
  exact h.on i p hi⟩
theorem TabAt.snoc {row:Nat->List Nat} (h:TabAt H ps n row) (s:∀ q∈ps,H' q=H q) (hp:H' p=some (.lst (rowV (row n)))):TabAt H' (ps++[p]) (n+1) row:=by
 refine ⟨by rw [ab6,h.len];rfl,fun i q e=>?_⟩
 rw [List.getElem?_append] at e
 split at e
 ·rw [s q (aa0 e)]
  exact h.on i q e
 ·rename_i hge
  cases ht:i - ps.length with
  | zero =>
   rw [ht] at e
   have:p=q:=by simpa using e
   subst this
   have:i=n:=by have:=h.len;omega
   rw [this];exact hp
  | succ m=>rw [ht] at e;simp at e
def knV (ks:List Bool):List V:=ks.map V.bl
theorem iK (m i:Nat):(dI m i).length=m:=by unfold dI;rw [ae6,ah8]
theorem gf (x y:List Nat):rowV x++rowV y=rowV (x++y):=by unfold rowV;rw [ad6]
theorem uu {f:Nat->List Nat} (h:(f i).length=W):rowT W (fun i k=>(f i).getD k 0) i=f i:=by
 unfold rowT
 apply ak6
 ·rw [zM,zS,h]
 ·intro k k1 k2
  simp [k2]
variable {N:Nat}{l:Nat->Nat->Nat}
theorem r0 {k:Nat} (hk:k < N):(rowT N l i++dI M i).getD k 0=l i k:=by
 rw [zK,ae8 (by rw [aD];exact hk),← zK,bi hk]
theorem pD (hj:j < M):(rowT N l i++dI M i).getD (N+j) 0=if j=i then 1 else 0:=by
 rw [zK,af6 (by rw [aD];omega),aD,ak8]
 unfold dI;rw [List.getElem?_set]
 by_cases z:i=j
 ·rw [if_pos z,if_pos (by rw [ah8];omega),if_pos z.symm]
  rfl
 ·rw [if_neg z,if_neg (fun e=>z e.symm),List.getElem?_replicate,if_pos hj]
  rfl
theorem TabAt.upd {H:Hp}{ps:List Addr}{M:Nat}{row:Nat->List Nat}{d:Addr}{o:HO} (h:TabAt H ps M row) (n:d∉ps):TabAt (upd H d o) ps M row :=
 ⟨h.len,fun i p e=>by
  have np:p≠d:=fun z=>n (by rw [<- z];exact aa0 e)
  rw [ae np]
  exact h.on i p e⟩
theorem pE:(!decide (V.int (n:Int)=V.non))=true:=by
 rw [aa9 (fun z=>by cases z)]
 rfl
inductive uv (vs:List V) (H:Hp) (Q:VK) (E_3:XK):Prop
 | mk:∀ (m i:Nat),vs=[.int m,.int i]->i < m->m<=30->(∀ D H',H D=none->Same H H'->H' D=some (.lst (rowV (dI m i)))->Q (.ref D) H')->uv vs H Q E_3
theorem qG (T:Txt K mg a):FnO P wo K mg base 1 a.f6 ["many", "at"] uv:=by
 refine T.x6.F.okA (k:=0) sc_unit (fun r A outer s H vs Q E hr h=>?_)
 ·obtain ⟨m,i,rfl,hi,hm,q⟩:=h
  exists xx
  exists xc (al (i:=2) sc_unit.nd rfl (Or.inl rfl) (aq ip (bq (aa ai ac)) (pv 0)))
  exists xc (de ai (dD (pv 2) (pv 1) cm))
  exists xl (av (pv 2))
  refine ⟨(by decide),fun p1 n1=>⟨_,rfl,p1,_,_,rfl,rfl,ab,by omega,by omega,?_,fun p2 n2=>?_⟩⟩
  ·rw [ac2]
   show 1 * m<=sizeLine
   exact zR (by omega:1 * m<=30) (by decide)
  have eR:(List.replicate ((m:Int)).toNat [V.int 0]).flatten=rowV (List.replicate m 0):=by rw [ac2];exact lq m 0
  rw [eR];refine ⟨_,rfl,_,rfl,p2,_,_,i,rfl,rfl,ab,da (by rw [aj,ah8];exact hi),?_⟩
  have g:=(Same.new (o:=.lst [V.int 0]) n1);refine ⟨_,rfl,q p2 _ (g.free n2) ?_ ?_⟩
  ·rw [bA]
   exact g.trans (Same.new n2)
  ·rw [ab]
   exact congrArg (fun l=>some (HO.lst l)) (oC _ _ 1)
inductive qH (a:Adr) (vs:List V) (H:Hp) (Q:VK) (E_3:XK):Prop
 | mk:∀ (p:Addr) (r w x n:Nat),vs=[.ref p,.int x,.int n]->FieldAt a.C_Field H p r w->GF.Good r w->x < 2 ^ w->Q (.int (GF.pw r w x n:Nat)) H->qH a vs H Q E_3
theorem lr (T:Txt K mg a):FnO P wo K mg base 3 a.f5 ["self", "one", "many"] (qH a):=by
 refine T.x5.F.okA (k:=2) sc_Field_power (fun J A outer s H vs Q E hr h=>?_)
 ·obtain ⟨p,r,w,x,n,rfl,hF,g,hx,q⟩:=h
  obtain ⟨dx,B⟩:=id hF
  have I:=g.top16
  exists xx
  exists xc (al (i:=3) sc_Field_power.nd rfl (Or.inl rfl) ai)
  exists xc (al (i:=4) sc_Field_power.nd rfl (Or.inl rfl) (pv 1))
  exists xc (al (i:=5) sc_Field_power.nd rfl (Or.inl rfl) (pv 2))
  refine xq ?_;refine xw PassesOwn.never (au cX (pv 5) ai (ax _)) ?_;refine xq ?_;refine xi (au bU (aq aX (pv 5) ai) ai (ax _)) ?_
  exists xl (al (i:=3) sc_Field_power.nd rfl (Or.inl rfl) (aE (pv 0) T.cl_Field T.x3.me (cZ T) hr.u T.x3.b .nil ao (aa (pv 3) (aa (pv 4) ac))))
  refine ⟨_,aF,?_⟩;intro u_
  exists xc (al (i:=4) sc_Field_power.nd rfl (Or.inl rfl) (aE (pv 0) T.cl_Field T.x3.me (cZ T) hr.u T.x3.b .nil ao (aa (pv 4) (aa (pv 4) ac))))
  exists xl (al (i:=5) sc_Field_power.nd rfl (Or.inl rfl) (aq cC (pv 5) ai))
  intro u_
  exists xl (av (pv 3))
  refine ⟨_,rfl,_,rfl,⟨fun m σ H'=>∃ (y s d:Nat),d=m/\σ=[some (.ref p),some (.int x),some (.int n),some (.int (y:Nat)),some (.int (s:Nat)),some (.int (d:Nat))]/\H'=H/\y < 2 ^ w/\s < 2 ^ w/\GF.tm r w y (GF.pw r w s d)=GF.pw r w x n,⟨_,1,x,n,rfl,rfl,rfl,by omega,hx,GF.one_tm g.rule g.w1 (GF.pw_lt g hx n)⟩,?_⟩⟩
  rintro m σ H' ⟨y,s,d,rfl,rfl,rfl,hy,hs,l⟩;refine ⟨_,rfl,_,_,rfl,rfl,_,rfl,?_⟩;refine ite2 (fun h=>⟨_,fun _ _ z=>z,?_⟩) (fun h=>?_)
  ·have hd:0 < d:=by
    have:=zN h;omega
   have D:((d:Int) / 2)=((d / 2:Nat):Int):=by omega
   have C:=GF.tm_lt g.rule (b:=s) hs;refine ⟨_,rfl,_,_,rfl,rfl,p0 (by decide),rfl,_,rfl,?_⟩
   refine ite2 (fun h1=>?_) (fun h1=>?_)
   ·have G:d % 2=1:=by
     have:=V.int.inj (zN h1);omega
    refine ⟨_,rfl,p,dx,_,rfl,B,rfl,_,rfl,_,rfl,p,r,w,y,s,rfl,hF,g.rule,hy,?_⟩;refine ⟨_,rfl,p,dx,_,rfl,B,rfl,_,rfl,_,rfl,p,r,w,s,s,rfl,hF,g.rule,hs,?_⟩;refine ⟨_,rfl,_,_,rfl,rfl,⟨by decide,by decide⟩,?_⟩
    try dsimp only
    rw [D];refine ⟨d / 2,al6 hd (by decide),GF.tm r w y s,GF.tm r w s s,d / 2,rfl,rfl,rfl,GF.tm_lt g.rule hy,C,?_⟩
    have e:d=1+2 * (d / 2):=by omega
    rw [<- l,GF.pw_half g hs]
    conv=>rhs;rw [e]
    rw [GF.pw_add g hs,GF.pw_one s g hs,GF.tm_assoc g.rule g.w1 hy hs]
   ·have G:¬ d % 2=1:=by
     intro z
     apply h1
     apply zZ
     show V.int ((d:Int) % 2)=V.int 1
     congr 1
     omega
    refine ⟨_,rfl,p,dx,_,rfl,B,rfl,_,rfl,_,rfl,p,r,w,s,s,rfl,hF,g.rule,hs,?_⟩;refine ⟨_,rfl,_,_,rfl,rfl,⟨by decide,by decide⟩,?_⟩
    try dsimp only
    rw [D];refine ⟨d / 2,al6 hd (by decide),y,GF.tm r w s s,d / 2,rfl,rfl,rfl,hy,C,?_⟩
    have e:d=2 * (d / 2):=by omega
    rw [<- l,GF.pw_half g hs]
    conv=>rhs;rw [e]
  ·have hd:d=0:=by
    have:¬ ((0:Int) < (d:Int)):=fun z=>h (zZ z);omega
   subst hd
   have e:GF.pw r w s 0=1:=rfl;rw [e,GF.tm_one] at l;refine ⟨_,rfl,?_⟩
   show Q (.int (y:Nat)) H'
   rw [l];exact q
inductive uw (a:Adr) (vs:List V) (H:Hp) (Q:VK) (E_3:XK):Prop
 | mk:∀ (p:Addr) (r w x:Nat),vs=[.ref p,.int x]->FieldAt a.C_Field H p r w->GF.Good r w->0 < x->x < 2 ^ w->Q (.int (GF.pw r w x (2 ^ w - 1 - 1):Nat)) H->uw a vs H Q E_3
theorem mT (T:Txt K mg a):FnO P wo K mg base 4 a.f4 ["self", "one"] (uw a):=by
 refine T.x4.F.okA (k:=3) mO (fun C A outer s H vs Q E hr h=>?_)
 ·obtain ⟨p,r,w,x,rfl,hF,g,h0,hx,q⟩:=h
  obtain ⟨dx,l⟩:=id hF
  have B:=g.top16
  exists xx
  refine xq ?_;refine xi (au bU (pv 1) ai (ax _)) ?_
  exists xl bo
  refine ⟨_,aF,?_⟩;intro u_
  exists xl (av (aE (pv 0) T.cl_Field T.x5.me (lr T) hr.u T.x5.b .nil ao (aa (pv 1) (aa (aq eC (az (pv 0) rfl) ai) ac))))
  refine ⟨_,rfl,rfl,_,rfl,?_⟩;refine ite2 (fun h=>absurd (V.int.inj (zN h)) (by omega)) (fun _=>?_)
  have e:(((2 ^ w - 1:Nat):Int) - 1)=((2 ^ w - 1 - 1:Nat):Int):=by omega
  refine ⟨_,rfl,p,dx,_,rfl,l,rfl,_,rfl,_,rfl,p,_,_,_,_,rfl,l,T.cl_Field,T.no_Field_last,dZ r w,_,_,rfl,rfl,?_⟩;try dsimp only
  rw [e];exact ⟨p,r,w,x,_,rfl,hF,g,hx,q⟩
inductive iL (K:PySem.W.Frag) (a:Adr) (vs:List V) (H:Hp) (Q:VK) (E_3:XK):Prop
 | mk:∀ (p l:Addr) (r w c:Nat) (row:List Nat),vs=[.ref p,.int c,.ref l]->FieldAt a.C_Field H p r w->GF.Good r w->H l=some (.lst (rowV row))->((∀ x∈row,x < 2 ^ w))->row.length<=100->(∀ D H',H D=none->Same H H'->H' D=some (.lst (rowV (row.map fun s=>GF.tm r w s c)))->Q (.ref D) H')->iL K a vs H Q E_3
theorem d5 (T:Txt K mg a):FnO P wo K mg base 3 a.f7 ["field", "factor", "line"] (iL K a):=by
 refine T.x7.F.okA (k:=2) li (fun I A outer s H vs Q E hr h=>?_)
 ·obtain ⟨p,l,r,w,c,row,rfl,hF,g,hl,C,B,q⟩:=h
  obtain ⟨dx,G⟩:=id hF
  exists xx
  exists xl (av (bb (CompOk.of (cap:=[1,0]) (own:=["symbol"]) (by kernel_rfl)) rfl (aJ (pv 2)) (fun _ _ _ _ _=>(ar (i:=2) (zN (by kernel_rfl)) rfl (Or.inl rfl))) (fun _ _ _ _ _=>aV) (fun _ _ _ _ _=>by exact (aE (pv 1) T.cl_Field T.x3.me (cZ T) hr.u T.x3.b .nil ao (aa (pv 2) (aa (pv 0) ac))))))
  refine ⟨_,rfl,l,rfl,⟨_,SqL.of hl⟩,fun D nD=>?_⟩;refine km (xs:=rowV row) (f:=fun v=>match v with | .int i=>.int ((GF.tm r w i.toNat c:Nat):Int) | v=>v) (cs:=[some (.int c),some (.ref p)]) (SqL.of hl) nD rfl (zR (by rw [aj];exact B) (by decide)) (fun x H2 R2 hx s2 hR=>?_) (fun H2 s2 hD=>?_)
  ·obtain ⟨y,hy,rfl⟩:=jF hx
   exact ⟨_,rfl,p,dx,_,rfl,s2 _ _ G,rfl,_,rfl,_,rfl,p,r,w,y,c,rfl,hF.same s2,g.rule,C y hy,hR _ (Same.refl _)⟩
  ·rw [ow (f:=fun s=>GF.tm r w s c) (h:=fun n=>rfl)] at hD
   exact q D H2 nD s2 hD
inductive oE (K:PySem.W.Frag) (vs:List V) (H:Hp) (Q:VK) (E_3:XK):Prop
 | mk:∀ (l1 l2:Addr) (x y:List Nat),vs=[.ref l1,.ref l2]->H l1=some (.lst (rowV x))->H l2=some (.lst (rowV y))->x.length=y.length->x.length<=100->(∀ D H',H D=none->Same H H'->H' D=some (.lst (rowV (List.zipWith (fun s t=>s ^^^ t) x y)))->Q (.ref D) H')->oE K vs H Q E_3
theorem hZ (T:Txt K mg a):FnO P wo K mg base 1 a.f8 ["one", "other"] (oE K):=by
 refine T.x8.F.okA (k:=0) mP (fun l A outer s H vs Q E hr h=>?_)
 ·obtain ⟨l1,l2,x,y,rfl,h1,h2,hl,g,q⟩:=h
  exists xx
  exists xl (av (bb (CompOk.of (cap:=[]) (own:=["symbol", "another"]) (by kernel_rfl)) rfl (ir rfl T.n_zip (aa (pv 0) (aa (pv 1) ac))) (fun _ _ _ _ _=>(k9 (n:=2) (K:=K) rfl rfl (aU (ar (i:=0) (zN (by kernel_rfl)) rfl (Or.inl rfl)) (aU (ar (i:=1) (zN (by kernel_rfl)) rfl (Or.inl rfl)) cB)))) (fun _ _ _ _ _=>aV) (fun _ _ _ _ _=>by exact (aq dE (pv 0) (pv 1)))))
  refine ⟨_,rfl,_,rfl,l1,l2,_,_,rfl,SqL.of h1,SqL.of h2,fun D nD=>?_⟩;refine tJ (xs:=rowV x) (ys:=rowV y) (f:=fun i=>.int ((x.getD i 0 ^^^ y.getD i 0:Nat):Int)) (cs:=[]) (SqL.of h1) (SqL.of h2) (by rw [aj,aj,hl]) nD rfl (zR (by rw [aj];exact g) (by decide)) (fun i u v H2 R2 hu hv s2 hR=>?_) (fun H2 s2 hD=>q D H2 nD s2 ?_)
  ·obtain ⟨su,eu,rfl⟩:=aQ hu
   obtain ⟨sv,ev,rfl⟩:=aQ hv;refine ⟨_,rfl,_,rfl,_,_,rfl,rfl,?_⟩;try dsimp only
   rw [bK]
   have e1:x.getD i 0=su:=by rw [zK,eu];rfl
   have e2:y.getD i 0=sv:=by rw [zK,ev];rfl
   rw [e1,e2] at hR;exact hR _ (Same.refl _)
  ·rw [hD]
   congr 2
   rw [aj]
   apply ak6
   ·rw [zM,zS,aj,List.length_zipWith,hl,Nat.min_self]
   ·intro i i1 i2
    rw [zM,zS] at i1
    have j2:i < y.length:=by omega
    simp [rowV,i1,j2]
inductive qI (K:PySem.W.Frag) (vs:List V) (H:Hp) (Q:VK) (E_3:XK):Prop
 | mk:∀ (l:Addr) (st pl M:Nat) (ps:List Addr) (row:Nat->List Nat),vs=[.ref l,.int st,.int pl]->H l=some (.lst (ps.map V.ref))->TabAt H ps M row->((∀ i,i < M->pl < (row i).length))->st<=M->M<=8->((∀ f,st<=f->f < M->(row f).getD pl 0≠0->Q (.int (f:Nat)) H))->(((∀ i,st<=i->i < M->(row i).getD pl 0=0)->Q .non H))->qI K vs H Q E_3
theorem ia (T:Txt K mg a):FnO P wo K mg base 1 a.f9 ["lines", "start", "place"] (qI K):=by
 refine T.x9.F.okA (k:=0) sc_first_with (fun D A outer s H vs Q E hr h=>?_)
 ·obtain ⟨l,st,pl,M,ps,row,rfl,hl,ht,hp,hs,hm,q1,q2⟩:=h
  exists xx
  refine xq ?_;refine xf PassesOwn.never rfl (sH rfl T.n_range (aa (pv 1) (aa (aA aB rfl T.n_len ab7 (aa (pv 0) ac)) ac))) (ar (i:=3) sc_first_with.nd rfl (Or.inl rfl)) ?_;refine x1 ?_;refine xi (au eW (aI aH (aI aH (pv 0) (pv 3) (fun _ _=>rfl)) (pv 2) (fun _ _=>rfl)) ai (ax _)) ?_
  exists xl (av (pv 3))
  refine ⟨_,aF,?_⟩;intro u_;intro u_
  exists xl (av aR)
  have r:((ps.map V.ref).length:Int)=(M:Nat):=by rw [zM,ht.len]
  refine ⟨_,rfl,_,rfl,l,_,rfl,.inl (SqL.of hl),_,_,rfl,⟨by omega,by omega,by omega,by omega⟩,?_⟩
  have en:(((ps.map V.ref).length:Int) - (st:Nat)).toNat=M - st:=by rw [r];omega
  rw [en];refine let I_:Nat->L2.St->Hp->Prop:=fun i σ H'=>L2.A3 ((∃ v:Option V,σ=[some (.ref l),some (.int st),some (.int pl),v])) (H'=H) (∀ k,st<=k->k < st+i->(row k).getD pl 0=0);bO (lo:=(st:Nat)) (n:=M - st) I_ ⟨⟨none,rfl⟩,rfl,fun k h1 h2=>by omega⟩ ?_ ?_
  ·rintro i σ H' hi ⟨⟨v,rfl⟩,rfl,g⟩
   have ek:((st:Nat):Int)+(i:Nat)=((st+i:Nat):Int):=by omega
   obtain ⟨p,ep,C⟩:=ht.get (i:=st+i) (by omega)
   have B:=hp (st+i) (by omega)
   rw [ek];refine ⟨_,rfl,_,rfl,l,_,_,_,rfl,rfl,SqL.of hl,aC (aZ ep),_,rfl,p,_,_,_,rfl,rfl,SqL.of C,aC (bw B),rfl,_,rfl,?_⟩;refine ite2 (fun h=>?_) (fun h=>?_)
   ·refine ⟨_,rfl,?_⟩
    refine q1 (st+i) (by omega) (by omega) fun z=>?_
    rw [z] at h
    revert h
    decide
   ·refine ⟨⟨_,rfl⟩,rfl,fun k h1 h2=>?_⟩
    by_cases e:k=st+i
    ·rw [e]
     apply Decidable.byContradiction
     intro z
     apply h
     rw [aa9]
     ·rfl
     ·intro y
      have:=V.int.inj y;omega
    ·exact g k h1 (by omega)
  ·rintro σ H' ⟨⟨v,rfl⟩,rfl,g⟩
   exact q2 fun i h1 h2=>g i h1 (by omega)
inductive md (K:PySem.W.Frag) (vs:List V) (H:Hp) (Q:VK) (E_3:XK):Prop
 | mk:∀ (l:Addr) (h f M:Nat) (ps:List Addr) (row:Nat->List Nat),vs=[.ref l,.int h,.int f]->H l=some (.lst (ps.map V.ref))->TabAt H ps M row->h < M->f < M->M<=8->(∀ D H' ps',H D=none->Same H H'->H' D=some (.lst (ps'.map V.ref))->TabAt H' ps' M (fun i=>if i=h then row f else if i=f then row h else row i)->(∀ p∈ps',p∈ps)->Q (.ref D) H')->md K vs H Q E_3
theorem r6 (T:Txt K mg a):FnO P wo K mg base 1 a.f10 ["lines", "one", "other"] (md K):=by
 refine T.x10.F.okA (k:=0) sc_swapped (fun I A outer s H vs Q E hr h=>?_)
 ·obtain ⟨l,h,f,M,ps,row,rfl,hl,ht,hh,hf,hm,q⟩:=h
  exists xx
  exists xc (al (i:=3) sc_swapped.nd rfl (Or.inl rfl) (bP b7 rfl T.n_list (by decide +kernel) (aa (pv 0) ac)))
  exists xc (de (aI aH (pv 0) (pv 2) (fun _ _=>rfl)) (dD (pv 3) (pv 1) cm))
  exists xc (de (aI aH (pv 0) (pv 1) (fun _ _=>rfl)) (dD (pv 3) (pv 2) cm))
  exists xl (av (pv 3))
  obtain ⟨p1,e1,G⟩:=ht.get hf;obtain ⟨p2,e2,C⟩:=ht.get hh;refine ⟨_,rfl,l,_,rfl,.inl (SqL.of hl),fun D nD=>?_⟩
  have r:h < (ps.map V.ref).length:=by rw [zM,ht.len];exact hh
  have B:f < (ps.map V.ref).length:=by rw [zM,ht.len];exact hf
  have lD:l≠D:=am hl nD;refine ⟨_,rfl,_,rfl,l,_,_,_,rfl,rfl,SqL.of (by rw [ae lD];exact hl),aC (aZ e1),?_⟩
  refine ⟨_,rfl,_,rfl,D,_,_,h,rfl,rfl,ab,da r,?_⟩;refine ⟨_,rfl,_,rfl,l,_,_,_,rfl,rfl,SqL.of (by rw [bA,ae lD];exact hl),aC (aZ e2),?_⟩
  refine ⟨_,rfl,_,rfl,D,_,_,f,rfl,rfl,ab,da (by rw [ae6];exact B),?_⟩
  rw [bA,bA]
  have g:(((ps.map V.ref).set h (.ref p1)).set f (.ref p2))=(((ps.set h p1).set f p2).map V.ref):=by rw [List.map_set,List.map_set]
  rw [g];refine ⟨_,rfl,q D _ _ nD (Same.new nD) ab ⟨by rw [ae6,ae6,ht.len],fun i p ei=>?_⟩ (fun p hp=>?_)⟩
  rotate_left
  ·rcases List.mem_or_eq_of_mem_set hp with z | z
   ·rcases List.mem_or_eq_of_mem_set z with z | z
    ·exact z
    ·rw [z]
     exact aa0 e1
   ·rw [z]
    exact aa0 e2
  have on:=fun i p e=>(Same.new (o:=.lst (((ps.set h p1).set f p2).map V.ref)) nD) _ _ (ht.on i p e);rw [List.getElem?_set,List.getElem?_set] at ei
  by_cases zf:f=i
  ·rw [if_pos zf,if_pos (by rw [ae6,ht.len];exact hf)] at ei
   subst zf
   have:=zX ei;subst this
   by_cases zh:f=h
   ·rw [if_pos zh]
    subst zh;exact on f p2 e2
   ·rw [if_neg zh,if_pos rfl]
    exact on h p2 e2
  ·rw [if_neg zf] at ei
   by_cases zh:h=i
   ·rw [if_pos zh,if_pos (by rw [ht.len];exact hh)] at ei
    subst zh
    have:=zX ei;subst this;rw [if_pos rfl];exact on f p1 e1
   ·rw [if_neg zh] at ei
    rw [if_neg (fun z=>zh z.symm),if_neg (fun z=>zf z.symm)];exact on i p ei
inductive mf (K:PySem.W.Frag) (a:Adr) (vs:List V) (H:Hp) (Q:VK) (E_3:XK):Prop
 | mk:∀ (fp l:Addr) (r w h pl M W:Nat) (ps:List Addr) (T:Nat->Nat->Nat),vs=[.ref fp,.ref l,.int h,.int pl]->FieldAt a.C_Field H fp r w->GF.Good r w->H l=some (.lst (ps.map V.ref))->TabAt H ps M (rowT W T)->((∀ i k,i < M->k < W->T i k < 2 ^ w))->W<=30->pl < W->h < M->M<=8->T h pl≠0->(∀ D H' ps',H D=none->Same H H'->H' D=some (.lst (ps'.map V.ref))->TabAt H' ps' M (rowT W (GF.clearT r w T h pl (GF.pw r w (T h pl) (2 ^ w - 1 - 1))))->(∀ p∈ps',p∈ps\/H p=none)->Q (.ref D) H')->mf K a vs H Q E_3
theorem kE (T:Txt K mg a):FnO P wo K mg base 5 a.f11 ["field", "lines", "at", "place"] (mf K a):=by
 refine T.x11.F.okA (k:=4) sc_cleared (fun a4 A outer s H vs Q E hr h=>?_)
 ·obtain ⟨fp,l,r,w,h,pl,M,W,ps,t,rfl,hF,g,hl,ht,L,hW,I,hh,hm,h0,q⟩:=h
  obtain ⟨dx,a1⟩:=id hF
  exists xx
  exists xc (al (i:=4) sc_cleared.nd rfl (Or.inl rfl) (ay (d5 T) hr.u rfl T.x7.m T.x7.k T.x7.b .nil ao (aa (pv 0) (aa (aE (pv 0) T.cl_Field T.x4.me (mT T) hr.u T.x4.b .nil ao (aa (aI aH (aI aH (pv 1) (pv 2) (fun _ _=>rfl)) (pv 3) (fun _ _=>rfl)) ac)) (aa (aI aH (pv 1) (pv 2) (fun _ _=>rfl)) ac)))))
  exists xc (al (i:=5) sc_cleared.nd rfl (Or.inl rfl) (bq ac))
  refine xq ?_;refine xf PassesOwn.never rfl (iW rfl T.n_enumerate (aa (pv 1) ac)) (eA rfl (aU (ar (i:=6) sc_cleared.nd rfl (Or.inl rfl)) (aU (ar (i:=7) sc_cleared.nd rfl (Or.inl rfl)) cB))) ?_;refine x1 ?_;refine xi (au bU (pv 6) (pv 2) (ax _)) ?_
  exists xl (aS (cn ac5 ad1 ad2 bc (pv 5) (aa (pv 4) ac)))
  refine x1 ?_;refine xi (au bU (aI aH (pv 7) (pv 3) (fun _ _=>rfl)) ai (ax _)) ?_
  exists xl (aS (cn ac5 ad1 ad2 bc (pv 5) (aa (pv 7) ac)))
  exists xl (aS (cn ac5 ad1 ad2 bc (pv 5) (aa (ay (hZ T) hr.u rfl T.x8.m T.x8.k T.x8.b .nil ao (aa (pv 7) (aa (ay (d5 T) hr.u rfl T.x7.m T.x7.k T.x7.b .nil ao (aa (pv 0) (aa (aI aH (pv 7) (pv 3) (fun _ _=>rfl)) (aa (pv 4) ac)))) ac))) ac)))
  intro u_;intro u_;intro u_
  exists xl (av (pv 5))
  obtain ⟨ph,eh,ak⟩:=ht.get hh
  have a0:t h pl < 2 ^ w:=L h pl hh I
  have eg:(rowT W t h).getD pl 0=t h pl:=bi I
  have gt:=aC (bw (row:=rowT W t h) (i:=pl) (by rw [aD];exact I))
  rw [eg] at gt;refine ⟨_,rfl,_,rfl,fp,dx,_,rfl,a1,rfl,_,rfl,_,rfl,l,_,_,_,rfl,rfl,SqL.of hl,aC (aZ eh),_,rfl,ph,_,_,_,rfl,rfl,SqL.of ak,gt,?_⟩;refine ⟨fp,r,w,t h pl,rfl,hF,g,by omega,a0,?_⟩
  generalize hc:GF.pw r w (t h pl) (2 ^ w - 1 - 1)=c at q;refine ⟨_,rfl,_,rfl,l,_,_,_,rfl,rfl,SqL.of hl,aC (aZ eh),?_⟩;refine ⟨fp,ph,r,w,c,rowT W t h,rfl,hF,g,ak,fm fun k hk=>L h k hh hk,by rw [aD];omega,fun hd H1 an s1 ad=>?_⟩
  refine ⟨by decide,fun D nD=>⟨_,rfl,l,_,rfl,SqL.of ((Same.new nD) _ _ (s1 _ _ hl)),?_⟩⟩
  have S:(ps.map V.ref).length=M:=by rw [zM,ht.len]
  refine let I_:Nat->L2.St->Hp->Prop:=fun i σ H'=>L2.E3 fun (v u:Option V) (B:List Addr)=>L2.A6 (σ=[some (.ref fp),some (.ref l),some (.int h),some (.int pl),some (.ref hd),some (.ref D),v,u]) (Same H1 H') (H' D=some (.lst (B.map V.ref))) (TabAt H' B i (rowT W (GF.clearT r w t h pl c))) (D∉B) (∀ p∈B,p∈ps\/H p=none);nK I_
   ⟨none,none,[],rfl,Same.new nD,ab,⟨rfl,fun i p e=>by simp at e⟩,by simp,by simp⟩ ?_ ?_ ?_
  ·rintro i σ H' hi ⟨v,u,B,rfl,s2,_⟩
   exact SqL.of (s2 _ _ (s1 _ _ hl))
  ·rintro i u Tt σ H' hi hu nT ⟨v,u',B,rfl,s2,hD,C,Y,X⟩
   rw [S] at hi;obtain ⟨p,ep,hp⟩:=ht.get hi
   have eu:u=.ref p:=by
    rw [aZ ep] at hu;exact (zX hu).symm
   subst eu;refine ⟨Tt,_,rfl,SqT.of ab,rfl,_,_,rfl,_,_,rfl,rfl,?_⟩
   have s3:Same H' (upd H' Tt (.tup [.int (i:Nat),.ref p])):=Same.new nT
   have a2:∀ q∈B,H' q=upd H' Tt (.tup [.int (i:Nat),.ref p]) q:=fun q hq=>by
    rw [ae];intro z;obtain ⟨j,hj⟩:=List.getElem?_of_mem hq;rw [z] at hj;rw [C.on j _ hj] at nT
    cases nT
   generalize (upd H' Tt (.tup [.int (i:Nat),.ref p]))=H2 at s3 a2
   have Z:H2 hd=some (.lst (rowV ((rowT W t h).map fun s=>GF.tm r w s c))):=s3 _ _ (s2 _ _ ad)
   have O:H2 p=some (.lst (rowV (rowT W t i))):=s3 _ _ (s2 _ _ (s1 _ _ hp))
   have G:H2 D=some (.lst (B.map V.ref)):=s3 _ _ hD
   have U:Same H1 H2:=s2.trans s3
   have a5:t i pl < 2 ^ w:=L i pl hi I
   have i8:B.length < 8:=by rw [C.len];omega
   have fin:∀ p' H3,Same H2 H3->p'≠D->(p'∈ps\/H p'=none)->H3 p'=some (.lst (rowV (rowT W (GF.clearT r w t h pl c) i)))->I_ (i+1) [some (V.ref fp),some (.ref l),some (.int h),some (.int pl),some (.ref hd),some (.ref D),some (.int (i:Nat)),some (.ref p)] (upd H3 D (.lst (B.map V.ref++[.ref p']))):=fun p' H3 s4 nz a3 aT=>by
    refine ⟨_,_,B++[p'],rfl,(U.trans s4).up nD,?_,C.snoc (fun q hq=>?_) ?_,?_,fun q hq=>(ab5.mp hq).elim (X q) fun z=>by rw [aa6.mp z];exact a3⟩
    ·rw [ab,ad6]
     rfl
    ·have nq:q≠D:=fun z=>Y (by rw [<- z];exact hq)
     rw [ae nq];obtain ⟨j,hj⟩:=List.getElem?_of_mem hq
     have e1:=C.on j _ hj;rw [e1,s4 _ _ (s3 _ _ e1)]
    ·rw [ae nz]
     exact aT
    ·intro z
     rcases ab5.mp z with z | z
     ·exact Y z
     ·exact nz (aa6.mp z).symm
   have J:(B.map V.ref).length < sizeLine:=al0 (by rw [zM];exact i8) (by decide)
   refine ⟨_,rfl,_,rfl,rfl,_,rfl,?_⟩;refine ite2 (fun z=>?_) (fun z=>?_)
   ·have z':i=h:=by
     have:=V.int.inj (zN z);omega
    refine ⟨_,rfl,.inl ⟨rfl,_,SqL.of G⟩,_,rfl,D,_,_,rfl,rfl,G,J,?_⟩;refine fin hd H2 (Same.refl _) (am ad nD) (.inr an) ?_;rw [Z,z']
    congr 3
    unfold rowT;rw [ac4];exact af4 fun k _=>by unfold GF.clearT;rw [if_pos rfl];rfl
   ·have z':i≠h:=fun e=>z (zZ (by rw [e]))
    have gi:=aC (bw (row:=rowT W t i) (i:=pl) (by rw [aD];exact I))
    rw [bi I] at gi;refine ⟨_,rfl,_,rfl,p,_,_,_,rfl,rfl,SqL.of O,gi,rfl,_,rfl,?_⟩;refine ite2 (fun y=>?_) (fun y=>?_)
    ·have y':t i pl=0:=by
      have:=V.int.inj (zN y);omega
     refine ⟨_,rfl,.inl ⟨rfl,_,SqL.of G⟩,_,rfl,D,_,_,rfl,rfl,G,J,?_⟩;refine fin p H2 (Same.refl _) (am (s1 _ _ hp) nD) (.inl (aa0 ep)) ?_;rw [O]
     congr 3
     refine fc fun k _=>?_;unfold GF.clearT;rw [if_neg z',y',GF.tm_zero,ae5]
    ·refine ⟨_,rfl,.inl ⟨rfl,_,SqL.of G⟩,_,rfl,_,rfl,_,rfl,_,rfl,p,_,_,_,rfl,rfl,SqL.of O,gi,_,rfl,?_⟩
     refine ⟨fp,hd,r,w,t i pl,_,rfl,hF.same (s1.trans U),g,Z,?_,?_,fun d3 H3 n3 s4 h3=>?_⟩
     ·intro x hx
      obtain ⟨k,hk,rfl⟩:=ae2.mp hx;exact GF.tm_lt g.rule (fm (fun k hk=>L h k hh hk) k hk)
     ·rw [zM,aD]
      omega
     ·refine ⟨p,d3,_,_,rfl,s4 _ _ O,h3,?_,?_,fun d4 H4 n4 s5 h4=>?_⟩
      ·rw [zM,zM,aD,aD]
      ·rw [aD]
       omega
      ·have aw:=s5 _ _ (s4 _ _ G)
       refine ⟨D,_,_,rfl,rfl,aw,J,?_⟩;refine fin d4 H4 (s4.trans s5) (fun e=>?_) (.inr ((s1.trans (U.trans s4)).free n4)) ?_
       ·rw [e,s4 _ _ G] at n4
        cases n4
       ·rw [h4]
        congr 3
        unfold rowT;rw [ac4,ac4]
        apply ak6
        ·simp
        ·intro k k1 k2
         simp [GF.clearT,z']
  ·rintro σ H' ⟨v,u,B,rfl,s2,hD,C,Y,X⟩
   rw [S] at C;exact ⟨_,rfl,q D H' B (s1.free nD) (s1.trans s2) hD C X⟩
inductive kF (K:PySem.W.Frag) (vs:List V) (H:Hp) (Q:VK) (E_3:XK):Prop
 | mk:∀ (l hl:Addr) (m pl M W:Nat) (ps:List Addr) (hs:List Nat) (T:Nat->Nat->Nat),vs=[.ref l,.ref hl,.int m,.int pl]->H l=some (.lst (ps.map V.ref))->TabAt H ps M (rowT W T)->H hl=some (.lst (rowV hs))->hs.length<=M->pl < m->m<=30->m<=W->M<=8->((∀ p∈hs,p < m))->(∀ D H',H D=none->Same H H'->H' D=some (.lst (rowV ((List.range m).map (GF.makeX T hs pl hs.length))))->Q (.ref D) H')->kF K vs H Q E_3
theorem oF (T:Txt K mg a):FnO P wo K mg base 2 a.f13 ["lines", "heads", "many", "place"] (kF K):=by
 refine T.x13.F.okA (k:=1) sc_free_make (fun L A outer s H vs Q E hr h=>?_)
 ·obtain ⟨l,hl,m,pl,M,W,ps,hs,t,rfl,h1,ht,h2,J,C,hm,S,O,I,q⟩:=h
  exists xx
  exists xc (al (i:=4) sc_free_make.nd rfl (Or.inl rfl) (ay (qG T) hr.u rfl T.x6.m T.x6.k T.x6.b .nil ao (aa (pv 2) (aa (pv 3) ac))))
  refine xq ?_;refine xf PassesOwn.never rfl (ir rfl T.n_zip (aa (pv 1) (aa (pv 0) ac))) (eA rfl (aU (ar (i:=5) sc_free_make.nd rfl (Or.inl rfl)) (aU (ar (i:=6) sc_free_make.nd rfl (Or.inl rfl)) cB))) ?_
  exists xl (de (aI aH (pv 6) (pv 3) (fun _ _=>rfl)) (dD (pv 4) (pv 5) cm))
  intro u_
  exists xl (av (pv 4))
  refine ⟨_,rfl,_,rfl,m,pl,rfl,C,hm,fun D H1 nD s1 hD=>?_⟩;refine ⟨_,rfl,_,rfl,hl,l,_,_,rfl,SqL.of (s1 _ _ h2),SqL.of (s1 _ _ h1),?_⟩
  have r:(rowV hs).length=hs.length:=aj hs
  refine let I_:Nat->L2.St->Hp->Prop:=fun i σ H'=>L2.E2 fun (v u:Option V)=>L2.A3 (σ=[some (.ref l),some (.ref hl),some (.int m),some (.int pl),some (.ref D),v,u]) (Same H H') (H' D=some (.lst (rowV ((List.range m).map (GF.makeX t hs pl i)))));vq (xs:=rowV hs) I_
   ⟨none,none,rfl,s1,?_⟩ ?_ ?_ ?_ ?_
  ·rw [hD]
   congr 3
   unfold dI
   apply ak6
   ·simp
   ·intro k k1 k2
    rw [List.getElem_set]
    simp [GF.makeX]
    by_cases z:pl=k
    ·rw [if_pos z,if_pos z.symm]
    ·rw [if_neg z,if_neg (fun e=>z e.symm)]
  ·rintro i σ H' hi ⟨v,u,rfl,s2,g⟩
   exact ⟨SqL.of (s2 _ _ h2),SqL.of (s2 _ _ h1)⟩
  ·rw [r,zM,ht.len]
   exact J
  ·rintro i x y Tt σ H' hi hx hy nT ⟨v,u,rfl,s2,g⟩
   rw [r] at hi;refine ⟨Tt,_,rfl,SqT.of ab,rfl,_,_,rfl,_,_,rfl,rfl,?_⟩;obtain ⟨xh,B,rfl⟩:=aQ hx;obtain ⟨p,ep,hp⟩:=ht.get (i:=i) (by omega)
   have ey:y=.ref p:=by
    rw [aZ ep] at hy;exact (zX hy).symm
   subst ey
   have s3:Same H' (upd H' Tt (.tup [.int (xh:Nat),.ref p])):=Same.new nT;generalize (upd H' Tt (.tup [.int (xh:Nat),.ref p]))=H2 at s3
   have gi:=aC (bw (row:=rowT W t i) (i:=pl) (by rw [aD];omega))
   rw [bi (by omega)] at gi
   have G:xh < m:=I xh (aa0 B);refine ⟨_,rfl,_,rfl,p,_,_,_,rfl,rfl,SqL.of (s3 _ _ (s2 _ _ hp)),gi,?_⟩;refine ⟨_,rfl,_,rfl,D,_,_,xh,rfl,rfl,s3 _ _ g,da (by rw [aj,zM,zS];exact G),?_⟩
   refine ⟨_,_,rfl,(s2.trans s3).up nD,?_⟩;rw [ab,oC]
   congr 3
   have eh:hs.getD i 0=xh:=by rw [zK,B];rfl
   apply ak6
   ·simp
   ·intro k k1 k2
    rw [List.getElem_set]
    simp [GF.makeX,B]
    by_cases z:xh=k
    ·rw [if_pos z,if_pos z.symm]
    ·rw [if_neg z,if_neg (fun e=>z e.symm)]
  ·rintro σ H' ⟨v,u,rfl,s2,g⟩
   rw [r] at g;exact ⟨_,rfl,q D H' nD s2 g⟩
structure Reck (r w N M:Nat) (l:Nat->Nat->Nat) (ks:List Bool) (pl:Nat) (by':List Nat):Prop where
 len:by'.length=M
 lt:∀ x∈by',x < 2 ^ w
 ok:∀ k,k < N->ks[k]?=some false->GF.dot r w M (fun j=>l j k) (fun j=>by'.getD j 0)=if k=pl then 1 else 0
structure Free (r w N M:Nat) (l:Nat->Nat->Nat) (ks:List Bool) (pl:Nat) (mk:List Nat):Prop where
 len:mk.length=N
 lt:∀ x∈mk,x < 2 ^ w
 one:mk.getD pl 0=1
 zero:∀ k,k < N->ks[k]?=some true->mk.getD k 0=0
 ok:∀ j,j < M->GF.dot r w N (l j) (fun k=>mk.getD k 0)=0
def ux (H:Hp) (D:Addr) (r w N M:Nat) (l:Nat→Nat→Nat) (ks:List Bool) (pl:Nat):Prop:=(∃ e by',H D=some (.tup [.str "reckoned",.ref e])∧H e=some (.lst (rowV by'))∧Reck r w N M l ks pl by') ∨ (∃ e mk,H D=some (.tup [.str "free",.ref e])∧H e=some (.lst (rowV mk))∧Free r w N M l ks pl mk)
inductive uz (K:PySem.W.Frag) (a:Adr) (vs:List V) (H:Hp) (Q:VK) (E_3:XK):Prop
 | mk:∀ (fp L kn:Addr) (r w N M pl:Nat) (pL:List Addr) (l:Nat->Nat->Nat) (ks:List Bool),vs=[.ref fp,.ref L,.ref kn,.int pl]->FieldAt a.C_Field H fp r w->GF.Full r w->H L=some (.lst (pL.map V.ref))->TabAt H pL M (rowT N l)->((∀ i k,i < M->k < N->l i k < 2 ^ w))->H kn=some (.lst (knV ks))->ks.length=N->N<=12->M<=8->pl < N->ks[pl]?=some false->((∀ D H',Same H H'->H D=none->ux H' D r w N M l ks pl->(∀ t e,H' D=some (.tup [t,.ref e])->H e=none)->Q (.ref D) H'))->uz K a vs H Q E_3
theorem r9 (T:Txt K mg a):FnO P wo K mg base 6 a.f12 ["field", "lines", "known", "place"] (uz K a):=by
 refine T.x12.F.okA (k:=5) sc_told_of (fun c9 A outer s H vs Q E hr h=>?_)
 ·obtain ⟨fp,L,kn,r,w,N,M,pl,pL,l,ks,rfl,hF,g,hL,ht,a2,c3,b6,hN,hM,X,b0,q⟩:=h
  have q1:=fun D e cr H' s n ne h1 h2 h3=>q D H' s n (.inl ⟨e,cr,h1,h2,h3⟩) (fun t e' h=>by rw [h1] at h;cases h;exact ne)
  have q2:=fun D e mk H' s n ne h1 h2 h3=>q D H' s n (.inr ⟨e,mk,h1,h2,h3⟩) (fun t e' h=>by rw [h1] at h;cases h;exact ne)
  exists xx
  refine xq ?_;refine xi (PW.pt (bC (au d8 (pv 3) ai (ax _)) (bC (au jY (pv 3) (aA aB rfl T.n_len ab7 (aa (pv 2) ac)) (ax _)) (bJ (bd (aI aH (pv 2) (pv 3) (fun _ _=>rfl))))))) ?_
  exists xl bo
  refine ⟨_,aF,?_⟩;intro u_
  exists xc (b9 (i:=4) sc_told_of.nd rfl (Or.inl rfl) (CompOk.of (cap:=[1]) (own:=["at", "line"]) (by kernel_rfl)) rfl (iW rfl T.n_enumerate (aa (pv 1) ac)) (fun _ _ _ _ _=>(k9 (n:=2) (K:=K) rfl rfl (aU (ar (i:=1) (zN (by kernel_rfl)) rfl (Or.inl rfl)) (aU (ar (i:=2) (zN (by kernel_rfl)) rfl (Or.inl rfl)) cB)))) (fun _ _ _ _ _=>aV) (fun _ _ _ _ _=>by exact (aq sY (pv 2) (ay (qG T) hr.u rfl T.x6.m T.x6.k T.x6.b .nil ao (aa (aA (mL (K:=K) rfl) rfl T.n_len ab7 (aa (pv 0) ac)) (aa (pv 1) ac))))))
  exists xc (al (i:=5) sc_told_of.nd rfl (Or.inl rfl) (bq ac))
  refine xq ?_;refine xf PassesOwn.never rfl (aW rfl T.n_range (aa (aA aB rfl T.n_len ab7 (aa (pv 2) ac)) ac)) (ar (i:=6) sc_told_of.nd rfl (Or.inl rfl)) ?_;refine xq ?_;refine xi (PW.pt (bC (bd (aI aH (pv 2) (pv 6) (fun _ _=>rfl))) (bJ (au bU (pv 6) (pv 3) (ax _))))) ?_
  exists xl pi
  refine ⟨_,aF,?_⟩;intro u_
  exists xc (al (i:=7) sc_told_of.nd rfl (Or.inl rfl) (ay (ia T) hr.u rfl T.x9.m T.x9.k T.x9.b .nil ao (aa (pv 4) (aa (aA aB rfl T.n_len ab7 (aa (pv 5) ac)) (aa (pv 6) ac)))))
  refine x1 ?_;refine xi (au bZ (pv 7) aR (ax _)) ?_
  exists xc (al (i:=4) sc_told_of.nd rfl (Or.inl rfl) (ay (kE T) hr.u rfl T.x11.m T.x11.k T.x11.b .nil ao (aa (pv 0) (aa (ay (r6 T) hr.u rfl T.x10.m T.x10.k T.x10.b .nil ao (aa (pv 4) (aa (aA aB rfl T.n_len ab7 (aa (pv 5) ac)) (aa (pv 7) ac)))) (aa (aA aB rfl T.n_len ab7 (aa (pv 5) ac)) (aa (pv 6) ac))))))
  exists xl (aS (cn ac5 ad1 ad2 bc (pv 5) (aa (pv 6) ac)))
  refine ⟨_,aF,?_⟩;intro u_;intro u_
  exists xc (al (i:=7) sc_told_of.nd rfl (Or.inl rfl) (ay (ia T) hr.u rfl T.x9.m T.x9.k T.x9.b .nil ao (aa (pv 4) (aa (aA aB rfl T.n_len ab7 (aa (pv 5) ac)) (aa (pv 3) ac)))))
  refine xq ?_;refine xi (au ig (pv 7) aR (ax _)) ?_
  exists xl (av (eD (aa jU (aa (ay (oF T) hr.u rfl T.x13.m T.x13.k T.x13.b .nil ao (aa (pv 4) (aa (pv 5) (aa (aA aB rfl T.n_len ab7 (aa (pv 2) ac)) (aa (pv 3) ac))))) ac))))
  refine ⟨_,aF,?_⟩;intro u_
  exists xc (al (i:=8) sc_told_of.nd rfl (Or.inl rfl) (jv kY (aI aH (ay (kE T) hr.u rfl T.x11.m T.x11.k T.x11.b .nil ao (aa (pv 0) (aa (pv 4) (aa (pv 7) (aa (pv 3) ac))))) (pv 7) (fun _ _=>rfl)) (kX (aA aB rfl T.n_len ab7 (aa (pv 2) ac))) kW))
  exists xl (av (eD (aa jU (aa (pv 8) ac))))
  have hS:SqL K H kn (knV ks):=SqL.of c3
  have O:(knV ks).length=N:=by unfold knV;rw [zM,b6]
  have a5:∀ {k:Nat}{b:Bool},ks[k]?=some b->(knV ks)[k]?=some (.bl b):=fun {k b} e=>by unfold knV;rw [zO,e];rfl
  have ad:(pL.map V.ref).length=M:=by rw [zM,ht.len]
  refine ⟨_,rfl,_,_,rfl,rfl,_,rfl,?_⟩;refine ite2 (fun z=>?_) (fun _=>?_)
  ·have:=zN z
   omega
  refine ⟨_,rfl,_,rfl,kn,_,rfl,.inl hS,_,_,rfl,rfl,_,rfl,?_⟩;refine ite2 (fun z=>?_) (fun _=>?_)
  ·have:=zN z
   rw [O] at this;omega
  refine ⟨_,rfl,_,rfl,kn,_,_,_,rfl,rfl,hS,aC (a5 b0),_,rfl,?_⟩;refine ite2 (fun z=>absurd z (by decide)) (fun _=>?_)
  refine ⟨_,rfl,L,_,rfl,SqL.of hL,fun D nD=>?_⟩;refine rP (xs:=pL.map V.ref) (row:=fun i=>rowV (rowT N l i++dI M i)) (cs:=[some (.ref L)]) (SqL.of hL) nD rfl (zR (by rw [ad];exact hM) (by decide:8<=sizeLine)) (fun i u H2 R2 hu s2 hR=>?_) (fun ps H1 s1 hD U c6 c8=>?_)
  ·have hi:i < M:=by
    rw [<- ad];exact (zV.mp hu).1
   obtain ⟨p,ep,hp⟩:=ht.get hi
   have eu:u=.ref p:=by
    rw [aZ ep] at hu;exact (zX hu).symm
   subst eu;refine ⟨_,rfl,_,rfl,L,_,rfl,.inl (s2.seq (SqL.of hL)),_,rfl,?_⟩;try dsimp only
   rw [ad];refine ⟨M,i,rfl,hi,by omega,fun D3 H3 n3 s3 h3=>?_⟩
   refine ⟨p,D3,_,_,rfl,rfl,s3 _ _ (s2 _ _ hp),h3,?_,fun D4 n4=>?_⟩
   ·rw [aj,aj,aD,iK]
    exact zR (by omega:N+M<=30) (by decide)
   ·refine hR D4 _ (s3.free n4) (s3.trans (Same.new n4)) ?_
    rw [ab,gf]
  ·have cc:TabAt H1 ps M (rowT (N+M) fun i k=>(rowT N l i++dI M i).getD k 0):=by
    refine ⟨by rw [U.len,ad],fun i p e=>?_⟩
    rw [U.on i p e,uu (by rw [ab6,aD,iK])]
   have tb:=GF.Tab.start g a2 (T:=fun i k=>(rowT N l i++dI M i).getD k 0) (fun i k _ hk=>r0 hk) (fun i j hi hj=>pD hj);generalize (fun i k=>(rowT N l i++dI M i).getD k 0)=t0 at cc tb
   have c4:=s1.seq hS;refine ⟨by decide,fun Hd nH=>⟨_,rfl,kn,_,rfl,.inl ((Same.new nH).seq c4),_,rfl,by rw [O];omega,by rw [O];omega,?_⟩⟩
   have en:(((knV ks).length:Nat):Int).toNat=N:=by rw [O];omega
   rw [en]
   refine let I_:Nat->L2.St->Hp->Prop:=fun o σ H'=>L2.E6 fun (v6 v7:Option V) (S:Addr) (ps:List Addr) (hs:List Nat) (t:Nat->Nat->Nat)=>L2.A10 (σ=[some (.ref fp),some (.ref L),some (.ref kn),some (.int pl),some (.ref S),some (.ref Hd),v6,v7,none]) (Same H H') (H' S=some (.lst (ps.map V.ref))) (TabAt H' ps M (rowT (N+M) t)) (GF.Tab r w N M l t) (GF.Piv N M t hs (fun k=>k < o/\ks[k]?=some false/\k≠pl)) (H' Hd=some (.lst (rowV hs))) (S≠Hd) (Hd∉ps) ((∀ p∈hs,ks[p]?=some false/\p≠pl));bO (lo:=0) (n:=N) I_
    ⟨none,none,D,ps,[],t0,rfl,(s1.trans (Same.new nH)),by rw [ae (am hD nH)];exact hD,cc.same (Same.new nH),tb,GF.Piv.start.weaken (fun k z=>absurd z.1 (af5 k)),ab,am hD nH,U.ne nH,by simp⟩ ?_ ?_
   ·rintro o σ H' ho ⟨v6,v7,S,ps,hs,t,rfl,s2,B,C,tb,pv,hH,ak,Z,I⟩
    have ek:(0:Int)+(o:Nat)=((o:Nat):Int):=by omega
    rw [ek];obtain ⟨b,eb⟩:∃ b,ks[o]?=some b:=⟨_,zL (by rw [b6];exact ho)⟩
    refine ⟨_,rfl,_,rfl,kn,_,_,_,rfl,rfl,s2.seq hS,aC (a5 eb),b,rfl,?_⟩;refine ite2 (fun z=>iteT ?_) (fun z=>?_)
    ·exact ⟨_,_,S,ps,hs,t,rfl,s2,B,C,tb,pv.weaken (fun k y=>⟨by
      have nk:k≠o:=fun e=>by
       rw [e,eb,z] at y;exact absurd (zX y.2.1) (by decide)
      omega,y.2⟩),hH,ak,Z,I⟩
    ·have ck:ks[o]?=some false:=by
      rw [eb]
      cases b
      ·rfl
      ·exact absurd rfl z
     refine ⟨_,rfl,_,rfl,rfl,_,rfl,?_⟩;refine ite2 (fun z=>?_) (fun z=>?_)
     ·exact ⟨_,_,S,ps,hs,t,rfl,s2,B,C,tb,pv.weaken (fun k y=>⟨by
       have nk:k≠o:=fun e=>y.2.2 (by
        have:=V.int.inj (zN z)
        omega)
       omega,y.2⟩),hH,ak,Z,I⟩
     ·have cv:o≠pl:=fun e=>z (zZ (by rw [e]))
      refine ⟨_,rfl,_,rfl,Hd,_,rfl,.inl (SqL.of hH),_,rfl,?_⟩;try dsimp only
      rw [aj];refine ⟨S,hs.length,o,M,ps,rowT (N+M) t,rfl,B,C,fun i _=>by rw [aD];omega,pv.hl,hM,fun f h1 h2 h3=>?_,fun h0=>?_⟩
      ·rw [bi (by omega)] at h3
       refine ⟨_,rfl,rfl,_,rfl,?_⟩;refine ite2 (fun _=>?_) (fun z=>absurd pE z);refine ⟨_,rfl,_,rfl,_,rfl,Hd,_,rfl,.inl (SqL.of hH),_,rfl,?_⟩;try dsimp only
       rw [aj];refine ⟨S,hs.length,f,M,ps,rowT (N+M) t,rfl,B,C,by omega,h2,hM,fun D5 H5 a7 n5 s5 c2 cp ch=>?_⟩
       refine ⟨_,rfl,Hd,_,rfl,.inl (SqL.of (s5 _ _ hH)),_,rfl,?_⟩;try dsimp only
       rw [aj]
       have b2:=tb.swap (h:=hs.length) (f:=f) (by omega) h2
       have eT:GF.swapT t hs.length f hs.length o=t f o:=by unfold GF.swapT;rw [if_pos rfl]
       have ce:TabAt H5 a7 M (rowT (N+M) (GF.swapT t hs.length f)):=cp.congr fun i _=>by
        unfold GF.swapT
        by_cases z1:i=hs.length
        ·rw [if_pos z1]
         exact fc fun k _=>by rw [if_pos z1]
        ·rw [if_neg z1]
         by_cases z2:i=f
         ·rw [if_pos z2]
          exact fc fun k _=>by rw [if_neg z1,if_pos z2]
         ·rw [if_neg z2]
          exact fc fun k _=>by rw [if_neg z1,if_neg z2]
       refine ⟨fp,D5,r,w,hs.length,o,M,N+M,a7,GF.swapT t hs.length f,rfl,hF.same (s2.trans s5),g.toGood,c2,ce,b2.lt,by omega,by omega,by omega,hM,by rw [eT];exact h3,fun D6 H6 a4 n6 s6 a3 J aT=>?_⟩
       rw [eT] at J
       have t3:t f o < 2 ^ w:=tb.lt f o h2 (by omega)
       have hc:=GF.pw_lt g.toGood t3 (2 ^ w - 1 - 1)
       have G:=GF.pw_back g (Nat.pos_of_ne_zero h3) t3
       have c5:GF.pw r w (t f o) (2 ^ w - 1 - 1)≠0:=fun z=>by
        rw [z,GF.tm_zero] at G;exact absurd G (by decide)
       have b1:=b2.clear g a2 (h:=hs.length) (p:=o) (by omega) ho hc c5
       have a8:=pv.step g tb (p:=o) ho h1 h2 hc G;generalize GF.clearT r w (GF.swapT t hs.length f) hs.length o (GF.pw r w (t f o) (2 ^ w - 1 - 1))=t6 at J b1 a8
       have aw:=s5 _ _ hH
       have b5:=s6 _ _ aw
       have a0:Hd∉a4:=fun z=>(aT Hd z).elim (fun y=>Z (ch Hd y)) fun y=>by rw [aw] at y;cases y
       have bm:D6≠Hd:=fun z=>by rw [z,aw] at n6;cases n6
       refine ⟨_,rfl,.inl ⟨rfl,_,SqL.of b5⟩,_,rfl,Hd,_,_,rfl,rfl,b5,?_,?_⟩
       ·rw [aj]
        exact al0 (by omega:hs.length < 8) (by decide)
       ·refine ⟨_,_,D6,a4,hs++[o],t6,rfl,(s2.trans (s5.trans s6)).up (s1.free nH),?_,J.upd a0,b1,a8.weaken (fun k y=>?_),?_,bm,a0,fun p hp=>?_⟩
        ·rw [ae bm]
         exact a3
        ·by_cases z:k=o
         ·exact .inr z
         ·exact .inl ⟨by omega,y.2⟩
        ·rw [ab,cj]
        ·rcases ab5.mp hp with y | y
         ·exact I p y
         ·rw [aa6.mp y]
          exact ⟨ck,cv⟩
      ·refine ⟨_,rfl,rfl,_,rfl,?_⟩
       refine ite2 (fun z=>absurd z (by decide)) (fun _=>?_)
       refine ⟨_,_,S,ps,hs,t,rfl,s2,B,C,tb,(pv.skip (p:=o) fun i h1 h2=>?_).weaken (fun k y=>?_),hH,ak,Z,I⟩
       ·rw [<- h0 i h1 h2,bi (by omega)]
       ·by_cases z:k=o
        ·exact .inr z
        ·exact .inl ⟨by omega,y.2⟩
   ·rintro σ H' ⟨v6,v7,S,ps,hs,t,rfl,s2,B,C,tb,pv,hH,ak,Z,I⟩
    refine ⟨_,rfl,_,rfl,Hd,_,rfl,.inl (SqL.of hH),_,rfl,?_⟩;try dsimp only
    rw [aj]
    have b3:=s2.seq hS
    have a6:∀ p∈hs,p < N:=fun p hp=>by
     obtain ⟨j,hj⟩:=List.getElem?_of_mem hp;exact pv.lt j p hj
    refine ⟨S,hs.length,pl,M,ps,rowT (N+M) t,rfl,B,C,fun i _=>by rw [aD];omega,pv.hl,hM,fun f h1 h2 h3=>?_,fun h0=>?_⟩
    ·rw [bi (by omega)] at h3
     refine ⟨_,rfl,rfl,_,rfl,?_⟩;refine ite2 (fun z=>absurd (zN z) (fun y=>by cases y)) (fun _=>?_)
     refine ⟨_,rfl,_,rfl,_,rfl,_,rfl,?_⟩;refine ⟨fp,S,r,w,f,pl,M,N+M,ps,t,rfl,hF.same s2,g.toGood,B,C,tb.lt,by omega,by omega,h2,hM,h3,fun D6 H6 a4 n6 s6 a3 J aT=>?_⟩
     have t3:t f pl < 2 ^ w:=tb.lt f pl h2 (by omega)
     have G:=GF.pw_back g (Nat.pos_of_ne_zero h3) t3;generalize c7:GF.pw r w (t f pl) (2 ^ w - 1 - 1)=c at J G;obtain ⟨p6,e6,c1⟩:=J.get h2;refine ⟨_,rfl,D6,_,_,_,rfl,rfl,SqL.of a3,aC (aZ e6),_,rfl,kn,_,rfl,.inl (s6.seq b3),_,rfl,p6,_,rfl,SqL.of c1,fun D7 n7=>?_⟩;rw [O,ut (by rw [aD];omega)]
     have a9:=s2.trans (s6.trans (Same.new (o:=.lst (rowV ((rowT (N+M) (GF.clearT r w t f pl c) f).drop N))) n7));refine ⟨_,rfl,(show 2<=sizeLine by decide),fun D8 n8=>?_⟩
     have a1:=a9.free n8;refine q1 D8 D7 ((rowT (N+M) (GF.clearT r w t f pl c) f).drop N) _ (a9.trans (Same.new n8)) a1 ((s2.trans s6).free n7) ab (by rw [ae (am ab n8)];exact ab) ?_
     have c0:∀ j,j < M->((rowT (N+M) (GF.clearT r w t f pl c) f).drop N).getD j 0=GF.tm r w (t f (N+j)) c:=fun j hj=>by
      rw [zK,List.getElem?_drop,← zK,bi (by omega)]
      unfold GF.clearT;rw [if_pos rfl]
     have rk:=GF.reckoned_ok g tb a2 pv h1 h2 X G;refine ⟨by rw [List.length_drop,aD];omega,fun x hx=>?_,fun k hk e=>?_⟩
     ·have cy:=List.mem_of_mem_drop hx
      obtain ⟨k,hk,rfl⟩:=ae2.mp cy
      have cw:=aa1.mp hk;unfold GF.clearT;rw [if_pos rfl];exact GF.tm_lt g.rule (tb.lt f k h2 cw)
     ·rw [GF.dot_congr M (b:=fun j=>l j k) (y:=fun j=>GF.tm r w (t f (N+j)) c) fun j hj=>⟨rfl,c0 j hj⟩]
      by_cases z:k=pl
      ·rw [if_pos z,z]
       exact rk.1
      ·rw [if_neg z]
       exact rk.2 k hk ⟨hk,e,z⟩
    ·refine ⟨_,rfl,rfl,_,rfl,?_⟩
     refine ite2 (fun _=>?_) (fun z=>absurd rfl z);refine ⟨_,rfl,_,rfl,_,rfl,kn,_,rfl,.inl b3,_,rfl,?_⟩;try dsimp only
     rw [O];refine ⟨S,Hd,N,pl,M,N+M,ps,hs,t,rfl,B,C,hH,pv.hl,X,by omega,by omega,hM,a6,fun D7 H7 n7 s7 h7=>?_⟩
     refine ⟨(show 2<=sizeLine by decide),fun D8 n8=>?_⟩
     have a1:=(s2.trans s7).free n8
     have an:∀ s,s < hs.length->hs.getD s 0∈hs:=fun s Y=>aa0 (GF.getD_at Y)
     have b4:∀ s,s < hs.length->hs.getD s 0≠pl:=fun s Y=>(I _ (an s Y)).2
     have hz:∀ i,hs.length<=i->i < M->t i pl=0:=fun i h1 h2=>by
      rw [<- h0 i h1 h2,bi (by omega)]
     have fr:=GF.free_ok g tb pv X b4 hz
     have gx:∀ k,k < N->((List.range N).map (GF.makeX t hs pl hs.length)).getD k 0=GF.makeX t hs pl hs.length k:=fun k hk=>by
      rw [zK,zO,ab0 hk];rfl
     refine q2 D8 D7 ((List.range N).map (GF.makeX t hs pl hs.length)) _ ((s2.trans s7).trans (Same.new n8)) a1 (s2.free n7) ab (by rw [ae (am h7 n8)];exact h7) ⟨by rw [zM,zS],fun x hx=>?_,?_,fun k hk e=>?_,fun j hj=>?_⟩
     ·obtain ⟨k,hk,rfl⟩:=ae2.mp hx
      exact GF.makeX_lt g tb pv X k _ (zQ _)
     ·rw [gx pl X]
      exact GF.makeX_place _ (zQ _) b4
     ·rw [gx k hk]
      refine GF.makeX_none (fun z=>?_) _ (zQ _) fun s Y z=>?_
      ·rw [z,b0] at e
       exact absurd (zX e) (by decide)
      ·have:=(I _ (an s Y)).1
       rw [z,e] at this;exact absurd (zX this) (by decide)
     ·exact (GF.dot_congr N fun k hk=>⟨rfl,gx k hk⟩).trans (fr j hj)
theorem jI {K:PySem.W.Frag}{H:Hp}:∀ {xs:List V}{ds:List Dt},xs.length=ds.length->(∀ (i:Nat) v d,xs[i]?=some v->ds[i]?=some d->Sees K H v d)->SeesL K H xs ds
 | [],[],_,_=>by rw [SeesL]
 | v :: xs,d :: ds,hl,h=>by
  rw [SeesL];exact ⟨v,xs,rfl,h 0 v d rfl rfl,jI (by simpa using hl) fun i u e h1 h2=>h (i+1) u e (by simpa using h1) (by simpa using h2)⟩
 | [],_ :: _,hl,_=>by simp at hl
 | _ :: _,[],hl,_=>by simp at hl
theorem jJ {n:Nat}:∀ {ds:List Dt},(∀ d∈ds,depD d<=n)->dH ds<=n
 | [],_=>by rw [dH];exact ab1 _
 | d :: ds,h=>by
  rw [dH]
  have h1:=h d (ac9)
  have h2:=jJ (ds:=ds) fun e he=>h e (ac3 _ he);omega
theorem fo (h:∀ x∈row,x < n) (hi:i < row.length):row.getD i 0 < n:=by
 rw [zK,zL hi];exact h _ (ae1 hi)
inductive mh (vs:List V) (H:Hp) (Q:VK) (E_3:XK):Prop
 | mk:∀ (L:Addr) (ps:List Addr) (M N:Nat) (l:Nat->Nat->Nat),vs=[.ref L]->H L=some (.lst (ps.map V.ref))->TabAt H ps M (rowT N l)->1<=M->M<=2->1<=N->N+M<=8->Q .non H->mh vs H Q E_3
theorem jK (T:Txt K mg a):FnO P wo K mg base 1 a.f19 ["weights"] mh:=by
 refine T.x19.F.okA (k:=0) sc_check_lengths (fun B A outer s H vs Q E hr h=>?_)
 ·obtain ⟨L,ps,M,N,l,rfl,hL,ht,h1,h2,h3,h4,q⟩:=h
  have el:(ps.map V.ref).length=M:=by rw [zM,ht.len]
  have er:∀ i,(rowV (rowT N l i)).length=N:=fun i=>by rw [aj,aD]
  obtain ⟨r,e0,g⟩:=ht.get (i:=0) (by omega)
  exists xx
  refine xq ?_;refine xi (PW.pt (bC (au d8 (aA aB rfl T.n_len ab7 (aa (pv 0) ac)) ai (ax _)) (bJ (au cX (aA aB rfl T.n_len ab7 (aa (pv 0) ac)) (gh (v:=.int 2) rfl T.v_MOST_SUMS ⟨_,rfl⟩) (ax _))))) ?_
  exists xl bo
  refine ⟨_,aF,?_⟩;intro u_
  exists xc (al (i:=1) sc_check_lengths.nd rfl (Or.inl rfl) (aA aB rfl T.n_len ab7 (aa (aI aH (pv 0) ai (fun _ _=>rfl)) ac)))
  refine xq ?_;refine xi (PW.pt (bC (au d8 (pv 1) ai (ax _)) (bJ (au cX (aq aO (pv 1) (aA aB rfl T.n_len ab7 (aa (pv 0) ac))) (gh (v:=.int 8) rfl T.v_MOST_ROLES ⟨_,rfl⟩) (ax _))))) ?_
  exists xl bo
  refine ⟨_,aF,?_⟩;intro u_;refine x1 ?_;refine xf PassesOwn.never rfl (aJ (pv 0)) (ar (i:=2) sc_check_lengths.nd rfl (Or.inl rfl)) ?_;refine x1 ?_;refine xi (au eW (aA aB rfl T.n_len ab7 (aa (pv 2) ac)) (pv 1) (ax _)) ?_
  exists xl bo
  refine ⟨_,aF,?_⟩;intro u_;intro u_;refine ⟨_,rfl,L,_,rfl,.inl (SqL.of hL),_,_,rfl,rfl,_,rfl,?_⟩;refine ite2 (fun y=>absurd (zN y) (by rw [el];omega)) (fun _=>?_)
  refine ⟨_,rfl,L,_,rfl,.inl (SqL.of hL),_,_,rfl,rfl,_,rfl,?_⟩;refine ite2 (fun y=>absurd (zN y) (by rw [el];omega)) (fun _=>?_)
  refine ⟨_,rfl,L,_,_,_,rfl,rfl,SqL.of hL,aC (j:=0) (aZ e0),r,_,rfl,.inl (SqL.of g),?_⟩;try dsimp only
  rw [er 0];refine ⟨_,rfl,_,_,rfl,rfl,_,rfl,?_⟩;refine ite2 (fun y=>absurd (zN y) (by omega)) (fun _=>?_)
  refine ⟨_,rfl,_,rfl,L,_,rfl,.inl (SqL.of hL),_,_,rfl,rfl,_,_,rfl,rfl,_,rfl,?_⟩;refine ite2 (fun y=>absurd (zN y) (by rw [el];omega)) (fun _=>?_)
  refine ⟨_,rfl,L,rfl,⟨_,SqL.of hL⟩,let I_:Nat->L2.St->Hp->Prop:=fun i σ H'=>L2.A2 ((∃ v2:Option V,σ=[some (.ref L),some (.int (N:Nat)),v2])) (H'=H);bR (K:=K) (a:=L) (xs:=ps.map V.ref) I_ ⟨⟨none,rfl⟩,rfl⟩ ?_ ?_ ?_⟩
  ·rintro i σ H' _ ⟨_,rfl⟩
   exact SqL.of hL
  ·rintro i v σ H' hv ⟨⟨v2,rfl⟩,rfl⟩
   have hi:i < M:=by rw [<- el];exact (zV.mp hv).1
   obtain ⟨p,ep,hp⟩:=ht.get hi;rw [aZ ep] at hv
   cases zX hv;refine ⟨_,rfl,p,_,rfl,.inl (SqL.of hp),_,rfl,rfl,_,rfl,?_⟩;refine ite2 (fun y=>absurd y (oy (by rw [er]))) (fun _=>⟨⟨_,rfl⟩,rfl⟩)
  ·rintro σ H' ⟨⟨v2,rfl⟩,rfl⟩
   exact q
inductive mi (a:Adr) (vs:List V) (H:Hp) (Q:VK) (E_3:XK):Prop
 | mk:∀ (fp L:Addr) (r w:Nat) (ps:List Addr) (M N:Nat) (l:Nat->Nat->Nat),vs=[.ref fp,.ref L]->FieldAt a.C_Field H fp r w->GF.Good r w->H L=some (.lst (ps.map V.ref))->TabAt H ps M (rowT N l)->((∀ i k,i < M->k < N->l i k < 2 ^ w))->1<=M->M<=2->1<=N->N<=8->((∀ i,i < M->∃ k,k < N/\l i k≠0))->((∀ k,k < N->∃ i,i < M/\l i k≠0))->(∀ H',Same H H'->Q .non H')->mi a vs H Q E_3
theorem qJ {k:Nat} (hk:k < row.length) (h:row.getD k 0≠0):((row.map fun n:Nat=>(n:Int)).any fun i=>i != 0)=true:=by
 rw [ak7];refine ⟨((row.getD k 0:Nat):Int),ae2.mpr ⟨row.getD k 0,?_,rfl⟩,?_⟩
 ·rw [zK,zL hk]
  exact ae1 hk
 ·simp only [bne_iff_ne,ne_eq]
  omega
theorem uA (row:List Nat):rowV row=(row.map fun n:Nat=>(n:Int)).map V.int:=by
 unfold rowV;rw [ac4];rfl
theorem jL (T:Txt K mg a):FnO P wo K mg base 1 a.f20 ["field", "weights"] (mi a):=by
 refine T.x20.F.okA (k:=0) sc_check_weights (fun X A outer s H vs Q E hr h=>?_)
 ·obtain ⟨fp,L,r,w,ps,M,N,l,rfl,hF,g,hL,ht,J,h1,h2,h3,h4,G,C,q⟩:=h
  obtain ⟨dF,S⟩:=id hF
  have U:=g.top16
  have el:(ps.map V.ref).length=M:=by rw [zM,ht.len]
  have er:∀ i,(rowV (rowT N l i)).length=N:=fun i=>by rw [aj,aD]
  obtain ⟨I,e0,O⟩:=ht.get (i:=0) (by omega)
  exists xx
  refine xq ?_;refine xf PassesOwn.never rfl (aJ (pv 1)) (ar (i:=2) sc_check_weights.nd rfl (Or.inl rfl)) ?_;refine xq ?_;refine xf PassesOwn.never rfl (aJ (pv 2)) (ar (i:=3) sc_check_weights.nd rfl (Or.inl rfl)) ?_;refine x1 ?_;refine xi (PW.pt (bC (au d8 (pv 3) ai (ax _)) (bJ (au cX (pv 3) (az (pv 0) rfl) (ax _))))) ?_
  exists xl bo
  refine ⟨_,aF,?_⟩;intro u_;intro u_;refine x1 ?_;refine xi (bQ (bd (aA (lW rfl) rfl T.n_any boot_any (aa (pv 2) ac)))) ?_
  exists xl bo
  refine ⟨_,aF,?_⟩;intro u_;intro u_;refine x1 ?_;refine xf PassesOwn.never rfl (aW rfl T.n_range (aa (aA aB rfl T.n_len ab7 (aa (aI aH (pv 1) ai (fun _ _=>rfl)) ac)) ac)) (ar (i:=4) sc_check_weights.nd rfl (Or.inr rfl)) ?_;refine x1 ?_
  refine xi (bQ (bd (aA (lW rfl) rfl T.n_any boot_any (aa (bb (CompOk.of (cap:=[4]) (own:=["some"]) (by kernel_rfl)) rfl (aJ (pv 1)) (fun _ _ _ _ _=>(ar (i:=1) (zN (by kernel_rfl)) rfl (Or.inl rfl))) (fun _ _ _ _ _=>aV) (fun _ _ _ _ _=>by exact (aI (bI (K:=K) rfl) (pv 1) (pv 0) (fun _ _=>rfl)))) ac)))) ?_
  exists xl bo
  refine ⟨_,aF,?_⟩;intro u_;intro u_;refine ⟨_,rfl,L,rfl,⟨_,SqL.of hL⟩,let I_:Nat->L2.St->Hp->Prop:=fun i σ H'=>L2.A2 ((∃ v2 v3 v4:Option V,σ=[some (.ref fp),some (.ref L),v2,v3,v4])) (H'=H);bR (K:=K) (a:=L) (xs:=ps.map V.ref) I_ ⟨⟨none,none,none,rfl⟩,rfl⟩ ?_ ?_ ?_⟩
  ·rintro i σ H' _ ⟨_,rfl⟩
   exact SqL.of hL
  ·rintro i v σ H' hv ⟨⟨v2,v3,v4,rfl⟩,rfl⟩
   have hi:i < M:=by rw [<- el];exact (zV.mp hv).1
   obtain ⟨p,ep,hp⟩:=ht.get hi;rw [aZ ep] at hv
   cases zX hv;refine ⟨_,rfl,p,rfl,⟨_,SqL.of hp⟩,let I_:Nat->L2.St->Hp->Prop:=fun j σ B=>L2.A2 ((∃ v3:Option V,σ=[some (.ref fp),some (.ref L),some (.ref p),v3,v4])) (B=H');bR (K:=K) (a:=p) (xs:=rowV (rowT N l i)) I_ ⟨⟨_,rfl⟩,rfl⟩ ?_ ?_ ?_⟩
   ·rintro j σ B _ ⟨_,rfl⟩
    exact SqL.of hp
   ·rintro j u σ B hu ⟨⟨v3,rfl⟩,rfl⟩
    obtain ⟨y,ey,rfl⟩:=aQ hu
    have hy:y < 2 ^ w:=fm (fun k hk=>J i k hi hk) y (aa0 ey);refine ⟨_,rfl,_,_,rfl,rfl,_,rfl,?_⟩;refine ite2 (fun y=>absurd (zN y) (by omega)) (fun _=>?_)
    refine ⟨_,rfl,_,rfl,fp,_,_,_,_,rfl,S,T.cl_Field,T.no_Field_last,dZ r w,_,_,rfl,rfl,_,rfl,?_⟩;refine ite2 (fun z=>absurd (zN z) (by omega)) (fun _=>⟨⟨_,rfl⟩,rfl⟩)
   ·rintro σ B ⟨⟨v3,rfl⟩,rfl⟩
    obtain ⟨k,hk,hz⟩:=G i hi;refine ⟨_,rfl,p,_,rfl,(by rw [<- uA];exact SqL.of hp),_,rfl,?_⟩
    rw [qJ (k:=k) (by rw [aD];exact hk) (by rw [bi hk];exact hz)]
    refine ite2 (fun z=>absurd z (by decide)) (fun _=>⟨⟨_,_,_,rfl⟩,rfl⟩)
  ·rintro σ H' ⟨⟨v2,v3,v4,rfl⟩,rfl⟩
   refine ⟨_,rfl,L,_,_,_,rfl,rfl,SqL.of hL,aC (j:=0) (aZ e0),I,_,rfl,.inl (SqL.of O),_,rfl,by rw [er];omega,by rw [er];omega,?_⟩
   have en:(((rowV (rowT N l 0)).length:Nat):Int).toNat=N:=by rw [er];omega
   rw [en];refine let I_:Nat->L2.St->Hp->Prop:=fun i σ B=>L2.A2 ((∃ v2 v3 v4:Option V,σ=[some (.ref fp),some (.ref L),v2,v3,v4])) (Same H' B);bO (lo:=0) (n:=N) I_ ⟨⟨_,_,_,rfl⟩,Same.refl _⟩ ?_ ?_
   ·rintro k σ B hk ⟨⟨v2,v3,v4,rfl⟩,s1⟩
    have ek:(0:Int)+(k:Nat)=((k:Nat):Int):=by omega
    rw [ek];refine ⟨_,rfl,L,rfl,⟨_,SqL.of (s1 _ _ hL)⟩,fun D nD=>?_⟩;refine bV (xs:=ps.map V.ref) (f:=fun i=>.int ((l i k:Nat):Int)) (cs:=[some (.int (k:Nat))]) (SqL.of (s1 _ _ hL)) nD rfl (by rw [el];exact zR h2 (by decide)) (fun i u H2 R2 hu s2 hR=>?_) (fun H2 s2 hD=>?_)
    ·have hi:i < M:=by rw [<- el];exact (zV.mp hu).1
     obtain ⟨p,ep,hp⟩:=ht.get hi;rw [aZ ep] at hu
     cases zX hu
     have gi:=aC (bw (row:=rowT N l i) (i:=k) (by rw [aD];exact hk))
     rw [bi hk] at gi;exact ⟨_,rfl,_,rfl,p,_,_,_,rfl,rfl,SqL.of ((s1.trans s2) _ _ hp),gi,hR _ (Same.refl _)⟩
    ·rw [el] at hD
     have e:((List.range M).map fun i=>V.int ((l i k:Nat):Int))=(((List.range M).map fun i=>l i k).map fun n:Nat=>(n:Int)).map V.int:=by
      rw [ac4,ac4];rfl
     rw [e] at hD;obtain ⟨i,hi,hz⟩:=C k hk;refine ⟨D,_,rfl,SqL.of hD,_,rfl,?_⟩
     have gd:((List.range M).map fun i=>l i k).getD i 0=l i k:=by
      rw [zK,zO,ab0 hi];rfl
     rw [qJ (k:=i) (by rw [zM,zS];exact hi) (by rw [gd];exact hz)]
     refine ite2 (fun z=>absurd z (by decide)) (fun _=>⟨⟨_,_,_,rfl⟩,s1.trans s2⟩)
   ·rintro σ B ⟨⟨v2,v3,v4,rfl⟩,s1⟩
    exact q _ s1
def eqn (N:Nat) (l:Nat->Nat->Nat) (t k:Nat):Nat:=if k < N then l t k else if k - N=t then 1 else 0
theorem qK (N M:Nat) (l:Nat->Nat->Nat) (t:Nat):rowT (N+M) (eqn N l) t=rowT N l t++(List.range M).map fun j=>if j=t then 1 else 0:=by
 unfold rowT;rw [List.range_add,ad6,ac4]
 congr 1
 ·exact af4 fun k hk=>by
   unfold eqn;rw [if_pos (aa1.mp hk)]
 ·exact af4 fun k hk=>by
   show eqn N l t (N+k)=_
   unfold eqn;rw [if_neg (by omega),ak8]
inductive iM (K:PySem.W.Frag) (vs:List V) (H:Hp) (Q:VK) (E_3:XK):Prop
 | mk:∀ (L:Addr) (ps:List Addr) (M N t:Nat) (l:Nat->Nat->Nat),vs=[.ref L,.int t]->H L=some (.lst (ps.map V.ref))->TabAt H ps M (rowT N l)->t < M->N+M<=8->(∀ D H',H D=none->Same H H'->H' D=some (.lst (rowV (rowT (N+M) (eqn N l) t)))->Q (.ref D) H')->iM K vs H Q E_3
theorem lu (T:Txt K mg a):FnO P wo K mg base 1 a.f21 ["weights", "total"] (iM K):=by
 refine T.x21.F.okA (k:=0) sc_equation_of (fun B A outer s H vs Q E hr h=>?_)
 ·obtain ⟨L,ps,M,N,t,l,rfl,hL,ht,r,h8,q⟩:=h
  have el:(ps.map V.ref).length=M:=by rw [zM,ht.len]
  obtain ⟨p,ep,hp⟩:=ht.get r
  exists xx
  exists xc (al (i:=2) sc_equation_of.nd rfl (Or.inl rfl) (bP b7 rfl T.n_list (by decide +kernel) (aa (aI aH (pv 0) (pv 1) (fun _ _=>rfl)) ac)))
  refine xq ?_;refine xf PassesOwn.never rfl (aW rfl T.n_range (aa (aA aB rfl T.n_len ab7 (aa (pv 0) ac)) ac)) (ar (i:=3) sc_equation_of.nd rfl (Or.inl rfl)) ?_
  exists xl (aS (cn ac5 ad1 ad2 bc (pv 2) (aa (jt (au bU (pv 3) (pv 1) (ax _)) ai ai) ac)))
  intro u_
  exists xl (av (pv 2))
  refine ⟨_,rfl,_,rfl,L,_,_,_,rfl,rfl,SqL.of hL,aC (aZ ep),p,_,rfl,.inl (SqL.of hp),fun D nD=>?_⟩
  have sD:=Same.new (o:=.lst (rowV (rowT N l t))) nD
  have hD:(upd H D (.lst (rowV (rowT N l t)))) D=some (.lst (rowV (rowT N l t))):=ab;generalize (upd H D (.lst (rowV (rowT N l t))))=H1 at sD hD;refine ⟨_,rfl,L,_,rfl,.inl (SqL.of (sD _ _ hL)),_,rfl,by rw [el];omega,by rw [el];omega,?_⟩
  have en:(((ps.map V.ref).length:Nat):Int).toNat=M:=by rw [el];omega
  rw [en];refine let I_:Nat->L2.St->Hp->Prop:=fun j σ H'=>L2.A3 ((∃ v3:Option V,σ=[some (.ref L),some (.int t),some (.ref D),v3])) (Same H H') (H' D=some (.lst (rowV (rowT N l t++(List.range j).map fun j=>if j=t then 1 else 0))));bO (lo:=0) (n:=M) I_ ⟨⟨none,rfl⟩,sD,by rw [hD];simp⟩ ?_ ?_
  ·rintro j σ H' hj ⟨⟨v3,rfl⟩,s1,h1⟩
   have ej:(0:Int)+(j:Nat)=((j:Nat):Int):=by omega
   rw [ej]
   have g:(rowV (rowT N l t++(List.range j).map fun j=>if j=t then 1 else 0)).length < sizeLine:=by
    rw [aj,ab6,aD,zM,zS];exact al0 (by omega:N+j < 9) (by decide)
   have er:rowV (rowT N l t++(List.range (j+1)).map fun j=>if j=t then 1 else 0)=rowV (rowT N l t++(List.range j).map fun j=>if j=t then 1 else 0)++[.int ((if j=t then 1 else 0:Nat):Int)]:=by
    rw [af9,ad6,← am1,← gf];rfl
   refine ⟨_,rfl,.inl ⟨rfl,_,SqL.of h1⟩,_,rfl,_,rfl,rfl,_,rfl,?_⟩
   by_cases z:j=t
   ·refine ite2 (fun _=>?_) (fun y=>absurd (zZ (by rw [z])) y)
    rw [if_pos z] at er;exact ⟨D,_,_,rfl,rfl,h1,g,⟨_,rfl⟩,s1.up nD,by rw [ab,er];rfl⟩
   ·refine ite2 (fun y=>absurd (V.int.inj (zN y)) (by omega)) (fun _=>?_)
    rw [if_neg z] at er;exact ⟨D,_,_,rfl,rfl,h1,g,⟨_,rfl⟩,s1.up nD,by rw [ab,er];rfl⟩
  ·rintro σ H' ⟨⟨v3,rfl⟩,s1,h1⟩
   refine ⟨_,rfl,q D H' nD s1 ?_⟩;rw [h1,qK]
def cf (bp:Addr) (M N:Nat) (Lp:Addr):List (Str × V):=[("blocks",.ref bp),("sums",.int M),("data",.int N),("roles",.int ((N+M:Nat):Int)),("lines",.ref Lp)]
theorem eK (bp:Addr) (M N:Nat) (Lp:Addr):(cf bp M N Lp).lookup ("blocks" : Str)=some (.ref bp):=rfl
theorem qM (bp:Addr) (M N:Nat) (Lp:Addr):(cf bp M N Lp).lookup ("sums" : Str)=some (.int M):=rfl
theorem d6 (bp:Addr) (M N:Nat) (Lp:Addr):(cf bp M N Lp).lookup ("data" : Str)=some (.int N):=rfl
theorem fG (bp:Addr) (M N:Nat) (Lp:Addr):(cf bp M N Lp).lookup ("roles" : Str)=some (.int ((N+M:Nat):Int)):=rfl
theorem gL (bp:Addr) (M N:Nat) (Lp:Addr):(cf bp M N Lp).lookup ("lines" : Str)=some (.ref Lp):=rfl
structure Wts (w M N:Nat) (l:Nat->Nat->Nat):Prop where
 m1:1<=M
 m2:M<=2
 n1:1<=N
 n8:N+M<=8
 lt:∀ i k,i < M->k < N->l i k < 2 ^ w
 row:∀ i,i < M->∃ k,k < N/\l i k≠0
 col:∀ k,k < N->∃ i,i < M/\l i k≠0
theorem fH (W:Wts w M N l) (t16:16<=2 ^ w):∀ i k,i < M->k < N+M->eqn N l i k < 2 ^ w:=fun i k hi hk=>by
 unfold eqn
 split
 ·exact W.lt i k hi (by assumption)
 ·split <;> omega
structure CodeAt (a:Adr) (H:Hp) (c bp fp:Addr) (r w n M N:Nat) (l:Nat->Nat->Nat):Prop where
 ins:∃ dx Lp qs,H c=some (.ins a.C_Code dx (cf bp M N Lp))/\H Lp=some (.lst (qs.map V.ref))/\TabAt H qs M (rowT (N+M) (eqn N l))
 blk:BlocksAt a H bp fp r w n
theorem CodeAt.same {a:Adr}{H H':Hp}{c bp fp:Addr}{r w n M N:Nat}{l:Nat->Nat->Nat} (h:CodeAt a H c bp fp r w n M N l) (s:Same H H'):CodeAt a H' c bp fp r w n M N l :=
 let ⟨dx,Lp,qs,h1,h2,h3⟩:=h.ins
 ⟨⟨dx,Lp,qs,s _ _ h1,s _ _ h2,h3.same s⟩,h.blk.same s⟩
inductive kG (a:Adr) (vs:List V) (H:Hp) (Q:VK) (E_3:XK):Prop
 | mk:∀ (c dx bp fp L:Addr) (r w n M N:Nat) (ps:List Addr) (l:Nat->Nat->Nat),vs=[.ref c,.ref bp,.ref L]->H c=some (.ins a.C_Code dx [])->BlocksAt a H bp fp r w n->GF.Good r w->H L=some (.lst (ps.map V.ref))->TabAt H ps M (rowT N l)->Wts w M N l->(∀ H',(∀ b o,b≠c->H b=some o->H' b=some o)->CodeAt a H' c bp fp r w n M N l->Q .non H')->kG a vs H Q E_3
theorem oG (T:Txt K mg a):FnO P wo K mg base 2 a.f22 ["self", "blocks", "weights"] (kG a):=by
 refine T.x22.F.okA (k:=1) oj (fun a0 A outer s H vs Q E hr h=>?_)
 ·obtain ⟨c,dx,bp,fp,L,r,w,n,M,N,ps,l,rfl,hc,hB,g,hL,ht,W,q⟩:=h
  obtain ⟨dB,I⟩:=hB.ins
  have el:(ps.map V.ref).length=M:=by rw [zM,ht.len]
  have er:∀ i,(rowV (rowT N l i)).length=N:=fun i=>by rw [aj,aD]
  obtain ⟨Y,e0,ad⟩:=ht.get (i:=0) W.m1
  have n8:=W.n8
  exists xx
  exists xc (aS (ay (jK T) hr.u rfl T.x19.m T.x19.k T.x19.b .nil ao (aa (pv 2) ac)))
  exists xc (aS (ay (jL T) hr.u rfl T.x20.m T.x20.k T.x20.b .nil ao (aa (az (pv 1) rfl) (aa (pv 2) ac))))
  exists xc (bE (pv 0) (pv 1) rfl)
  exists xc (bE (pv 0) (aA aB rfl T.n_len ab7 (aa (pv 2) ac)) rfl)
  exists xc (bE (pv 0) (aA aB rfl T.n_len ab7 (aa (aI aH (pv 2) ai (fun _ _=>rfl)) ac)) rfl)
  exists xc (bE (pv 0) (aq aO (az (pv 0) rfl) (az (pv 0) rfl)) rfl)
  exists xl (bE (pv 0) (bb (CompOk.of (cap:=[2]) (own:=["total"]) (by kernel_rfl)) rfl (aW rfl T.n_range (aa (az (pv 0) rfl) ac)) (fun _ _ _ _ _=>(ar (i:=1) (zN (by kernel_rfl)) rfl (Or.inl rfl))) (fun _ _ _ _ _=>aV) (fun _ _ _ _ _=>by exact (ay (lu T) hr.u rfl T.x21.m T.x21.k T.x21.b .nil ao (aa (pv 0) (aa (pv 1) ac))))) rfl)
  refine ⟨_,rfl,L,ps,M,N,l,rfl,hL,ht,W.m1,W.m2,W.n1,W.n8,?_⟩;refine ⟨_,rfl,bp,_,_,_,_,rfl,I,T.cl_Blocks,T.no_Blocks_field,d0 fp w n,_,rfl,fp,L,r,w,ps,M,N,l,rfl,hB.fld,g,hL,ht,W.lt,W.m1,W.m2,W.n1,by omega,W.row,W.col,fun H1 s1=>?_⟩
  have Z:=s1 _ _ hc
  have U:bp≠c:=fun z=>by
   rw [z,hc] at I
   have:=(HO.ins.inj (zX I)).2.2;unfold bf at this
   cases this
  obtain ⟨dF,O⟩:=hB.fld
  have S:fp≠c:=fun z=>by
   rw [z,hc] at O
   have:=(HO.ins.inj (zX O)).2.2;unfold ff at this
   cases this
  have C:L≠c:=fun z=>by rw [z,hc] at hL;cases hL
  have J:∀ (i:Nat) p,ps[i]?=some p->p≠c:=fun i p e z=>by
   have:=ht.on i p e;rw [z,hc] at this
   cases this
  refine ⟨_,rfl,_,rfl,c,a.C_Code,dx,_,rfl,Z,T.cl_Code,T.no_Code_blocks,(by decide),?_⟩
  refine ⟨_,rfl,L,_,rfl,.inl (SqL.of (by rw [ae C];exact s1 _ _ hL)),_,rfl,c,a.C_Code,dx,_,rfl,ab,T.cl_Code,T.no_Code_sums,(by show (1:Nat) < 1000;decide),?_⟩
  refine ⟨_,rfl,L,_,_,_,rfl,rfl,SqL.of (by rw [ae C,ae C];exact s1 _ _ hL),aC (j:=0) (aZ e0),Y,_,rfl,.inl (SqL.of (by rw [ae (J 0 _ e0),ae (J 0 _ e0)];exact s1 _ _ ad)),_,rfl,c,a.C_Code,dx,_,rfl,ab,T.cl_Code,T.no_Code_data,(by show (2:Nat) < 1000;decide),?_⟩
  refine ⟨_,rfl,c,_,_,_,_,rfl,ab,T.cl_Code,T.no_Code_data,rfl,_,rfl,c,_,_,_,_,rfl,ab,T.cl_Code,T.no_Code_sums,rfl,_,_,rfl,rfl,_,rfl,c,a.C_Code,dx,_,rfl,ab,T.cl_Code,T.no_Code_roles,(by show (3:Nat) < 1000;decide),?_⟩
  dsimp only;rw [bA,bA,bA,el,er]
  have ef:putF "roles" (.int ((N:Int)+(M:Int))) (putF "data" (.int (N:Int)) (putF "sums" (.int (M:Int)) (putF "blocks" (.ref bp) [])))=[(("blocks" : Str),V.ref bp),(("sums" : Str),V.int M),(("data" : Str),V.int N),(("roles" : Str),V.int ((N+M:Nat):Int))]:=by
   rw [Int.natCast_add];rfl
  rw [ef]
  have B:(upd H1 c (.ins a.C_Code dx [(("blocks" : Str),V.ref bp),(("sums" : Str),V.int M),(("data" : Str),V.int N),(("roles" : Str),V.int ((N+M:Nat):Int))])) c=some (.ins a.C_Code dx [(("blocks" : Str),V.ref bp),(("sums" : Str),V.int M),(("data" : Str),V.int N),(("roles" : Str),V.int ((N+M:Nat):Int))]):=ab
  have k2:∀ b o,b≠c→H b=some o→(upd H1 c (.ins a.C_Code dx [(("blocks" : Str),V.ref bp),(("sums" : Str),V.int M),(("data" : Str),V.int N),(("roles" : Str),V.int ((N+M:Nat):Int))])) b=some o:=fun b o z e=>by rw [ae z];exact s1 _ _ e
  generalize (upd H1 c (.ins a.C_Code dx [(("blocks" : Str),V.ref bp),(("sums" : Str),V.int M),(("data" : Str),V.int N),(("roles" : Str),V.int ((N+M:Nat):Int))]))=H2 at B k2
  have X:=k2 _ _ C hL
  have ak:TabAt H2 ps M (rowT N l):=⟨ht.len,fun i p e=>k2 _ _ (J i p e) (ht.on i p e)⟩;refine ⟨_,rfl,c,_,_,_,_,rfl,B,T.cl_Code,T.no_Code_sums,rfl,_,rfl,by omega,by omega,fun D nD=>?_⟩
  rw [ac2];refine rM (n:=M) (row:=fun i=>rowV (rowT (N+M) (eqn N l) i)) (cs:=[some (.ref L)]) nD rfl (zR (by omega:M<=8) (by decide)) (fun i H3 R3 hi s3 hR=>?_) (fun qs H3 s3 hD G hf aT=>?_)
  ·exact ⟨_,rfl,_,rfl,L,ps,M,N,i,l,rfl,s3 _ _ X,ak.same s3,hi,W.n8,fun D4 H4 n4 s4 h4=>hR D4 H4 n4 s4 h4⟩
  ·have an:D≠c:=fun z=>by rw [z,B] at nD;cases nD
   have aw:∀ (i:Nat) p,qs[i]?=some p->p≠c:=fun i p e z=>by
    have:=hf p (aa0 e);rw [z,B] at this
    cases this
   refine ⟨_,rfl,c,a.C_Code,dx,_,rfl,s3 _ _ B,T.cl_Code,T.no_Code_lines,(by show (4:Nat) < 1000;decide),?_⟩
   refine q _ (fun b o z e=>?_) ⟨⟨dx,D,qs,ab,?_,⟨G.len,fun i p e=>?_⟩⟩,⟨⟨dB,?_⟩,⟨dF,?_⟩⟩⟩
   ·rw [ae z]
    exact s3 _ _ (k2 b o z e)
   ·rw [ae an]
    exact hD
   ·rw [ae (aw i p e)]
    exact G.on i p e
   ·rw [ae U]
    exact s3 _ _ (k2 _ _ U I)
   ·rw [ae S]
    exact s3 _ _ (k2 _ _ S O)
def cu (r w n M N:Nat) (l:Nat->Nat->Nat) (bs:List Nat):List Nat:=bs++(List.range M).map fun t=>GF.sumB r w n ((rowT N l t).zip bs)
def isMk (r w n M N:Nat) (l:Nat->Nat->Nat) (bs:List Nat):Bool:=(List.range M).all fun t=>decide (GF.sumB r w n ((rowT (N+M) (eqn N l) t).zip bs)=0)
def valO:Option Nat->V
 | some b=>.int (b:Nat)
 | none=>.non
def rowO (os:List (Option Nat)):List V:=os.map valO
theorem aP (os:List (Option Nat)):(rowO os).length=os.length:=by unfold rowO;rw [zM]
variable {os:List (Option Nat)}
theorem bj {k:Nat}{o:Option Nat} (h:os[k]?=some o):(rowO os)[k]?=some (valO o):=by
 unfold rowO;rw [zO,h];rfl
inductive jp (a:Adr) (vs:List V) (H:Hp) (Q:VK) (E_3:XK):Prop
 | mk:∀ (c bp fp:Addr) (r w n M N k:Nat) (l:Nat->Nat->Nat),vs=[.ref c,.int k]->CodeAt a H c bp fp r w n M N l->k < N+M->Q .non H->jp a vs H Q E_3
theorem eM (T:Txt K mg a):FnO P wo K mg base 1 a.f24 ["self", "role"] (jp a):=by
 refine T.x24.F.okA (k:=0) iG (fun g A outer s H vs Q E hr h=>?_)
 ·obtain ⟨c,bp,fp,r,w,n,M,N,k,l,rfl,hC,hk,q⟩:=h
  obtain ⟨dx,Lp,qs,h1,_,_⟩:=hC.ins
  exists xx
  refine x1 ?_;refine xi (PW.pt (bC (au d8 (pv 1) ai (ax _)) (bJ (au jY (pv 1) (az (pv 0) rfl) (ax _))))) ?_
  exists xl bo
  refine ⟨_,aF,?_⟩;intro u_;refine ⟨_,rfl,_,_,rfl,rfl,_,rfl,?_⟩;refine ite2 (fun y=>absurd (zN y) (by omega)) (fun _=>?_)
  refine ⟨_,rfl,_,rfl,c,_,_,_,_,rfl,h1,T.cl_Code,T.no_Code_roles,fG bp M N Lp,_,_,rfl,rfl,_,rfl,?_⟩;refine ite2 (fun y=>absurd (zN y) (by omega)) (fun _=>q)
inductive qN (K:PySem.W.Frag) (a:Adr) (vs:List V) (H:Hp) (Q:VK) (E_3:XK):Prop
 | mk:∀ (c bp fp kn:Addr) (r w n M N pl:Nat) (l:Nat->Nat->Nat) (ks:List Bool),vs=[.ref c,.ref kn,.int pl]->CodeAt a H c bp fp r w n M N l->GF.Full r w->Wts w M N l->H kn=some (.lst (knV ks))->ks.length=N+M->pl < N+M->ks[pl]?=some false->(∀ D H',Same H H'->H D=none->ux H' D r w (N+M) M (eqn N l) ks pl->(∀ t e,H' D=some (.tup [t,.ref e])->H e=none)->Q (.ref D) H')->qN K a vs H Q E_3
theorem iN (T:Txt K mg a):FnO P wo K mg base 7 a.f23 ["self", "known", "role"] (qN K a):=by
 refine T.x23.F.okA (k:=6) ol (fun I A outer s H vs Q E hr h=>?_)
 ·obtain ⟨c,bp,fp,kn,r,w,n,M,N,pl,l,ks,rfl,hC,g,W,C,G,B,D,q⟩:=h
  obtain ⟨dx,Lp,qs,h1,h2,h3⟩:=hC.ins;obtain ⟨dB,hB⟩:=hC.blk.ins
  have n8:=W.n8
  exists xx
  exists xl (av (ay (r9 T) hr.u rfl T.x12.m T.x12.k T.x12.b .nil ao (aa (az (az (pv 0) rfl) rfl) (aa (az (pv 0) rfl) (aa (pv 1) (aa (pv 2) ac))))))
  refine ⟨_,rfl,c,_,_,_,_,rfl,h1,T.cl_Code,T.no_Code_blocks,eK bp M N Lp,bp,_,_,_,_,rfl,hB,T.cl_Blocks,T.no_Blocks_field,d0 fp w n,_,rfl,c,_,_,_,_,rfl,h1,T.cl_Code,T.no_Code_lines,gL bp M N Lp,_,rfl,_,rfl,?_⟩;exact ⟨fp,Lp,kn,r,w,N+M,M,pl,qs,eqn N l,ks,rfl,hC.blk.fld,g,h2,h3,fH W g.toGood.top16,C,G,by omega,by have:=W.m2;omega,B,D,q⟩
def byL (r w M N:Nat) (l:Nat->Nat->Nat) (by':List Nat) (k:Nat):Nat:=GF.dot r w M (fun t=>eqn N l t k) (fun t=>by'.getD t 0)
def tells (r w M N:Nat) (l:Nat->Nat->Nat) (by':List Nat) (os:List (Option Nat)):List (Nat × Nat):=((List.range (N+M)).filter fun k=>(os.getD k none).isSome).map fun k=>(byL r w M N l by' k,(os.getD k none).getD 0)
inductive kH (K:PySem.W.Frag) (a:Adr) (vs:List V) (H:Hp) (Q:VK) (E_3:XK):Prop
 | mk:∀ (c bp fp bl rl:Addr) (r w n M N:Nat) (l:Nat->Nat->Nat) (by':List Nat) (os:List (Option Nat)),vs=[.ref c,.ref bl,.ref rl]->CodeAt a H c bp fp r w n M N l->GF.Good r w->n<=16->Wts w M N l->H bl=some (.lst (rowV by'))->by'.length=M->H rl=some (.lst (rowO os))->os.length=N+M->(∀ H',Same H H'->Q (.int ((GF.sumB r w n (tells r w M N l by' os):Nat):Int)) H')->kH K a vs H Q E_3
theorem i5 (T:Txt K mg a):FnO P wo K mg base 5 a.f26 ["self", "by", "row"] (kH K a):=by
 refine T.x26.F.okA (k:=4) sc_Code_summed_by (fun a9 A outer s H vs Q E hr h=>?_)
 ·obtain ⟨c,bp,fp,bl,rl,r,w,n,M,N,l,B,os,rfl,hC,g,hn,W,a0,ad,aT,a7,q⟩:=h
  obtain ⟨dx,Lp,qs,h1,h2,h3⟩:=hC.ins
  have n8:=W.n8
  have ak:=g.top16
  have el:(qs.map V.ref).length=M:=by rw [zM,h3.len]
  exists xx
  exists xc (al (i:=3) sc_Code_summed_by.nd rfl (Or.inr rfl) (aq ip (bq (aa ai ac)) (az (pv 0) rfl)))
  refine xq ?_;refine xf PassesOwn.never rfl (ir rfl T.n_zip (aa (pv 1) (aa (az (pv 0) rfl) ac))) (eA rfl (aU (ar (i:=4) sc_Code_summed_by.nd rfl (Or.inl rfl)) (aU (ar (i:=5) sc_Code_summed_by.nd rfl (Or.inl rfl)) cB))) ?_
  exists xl (al (i:=3) sc_Code_summed_by.nd rfl (Or.inr rfl) (ay (hZ T) hr.u rfl T.x8.m T.x8.k T.x8.b .nil ao (aa (pv 3) (aa (ay (d5 T) hr.u rfl T.x7.m T.x7.k T.x7.b .nil ao (aa (az (az (pv 0) rfl) rfl) (aa (pv 4) (aa (pv 5) ac)))) ac))))
  intro u_
  exists xc (b9 (i:=6) sc_Code_summed_by.nd rfl (Or.inl rfl) (CompOk.of (cap:=[2]) (own:=["role"]) (by kernel_rfl)) rfl (aW rfl T.n_range (aa (az (pv 0) rfl) ac)) (fun _ _ _ _ _=>(ar (i:=1) (zN (by kernel_rfl)) rfl (Or.inl rfl))) (fun _ _ _ _ _=>(cE (au bZ (aI (bI (K:=K) rfl) (pv 0) (pv 1) (fun _ _=>rfl)) aR (ax _)))) (fun _ _ _ _ _=>by exact (pv 1)))
  exists xl (av (aE (by exact (az (pv 0) rfl)) T.cl_Blocks T.x18.me (dt T) hr.u T.x18.b .nil ao (aa (bb (CompOk.of (cap:=[3]) (own:=["role"]) (by kernel_rfl)) rfl (aJ (pv 6)) (fun _ _ _ _ _=>(ar (i:=1) (zN (by kernel_rfl)) rfl (Or.inl rfl))) (fun _ _ _ _ _=>aV) (fun _ _ _ _ _=>by exact (aI (bI (K:=K) rfl) (pv 0) (pv 1) (fun _ _=>rfl)))) (aa (bb (CompOk.of (cap:=[2]) (own:=["role"]) (by kernel_rfl)) rfl (aJ (pv 6)) (fun _ _ _ _ _=>(ar (i:=1) (zN (by kernel_rfl)) rfl (Or.inl rfl))) (fun _ _ _ _ _=>aV) (fun _ _ _ _ _=>by exact (aI (bI (K:=K) rfl) (pv 0) (pv 1) (fun _ _=>rfl)))) ac))))
  refine ⟨(show 1<=sizeLine by decide),fun p1 n1=>⟨_,rfl,c,_,_,_,_,rfl,(Same.new n1) _ _ h1,T.cl_Code,T.no_Code_roles,fG bp M N Lp,p1,_,_,rfl,rfl,ab,by omega,by omega,?_,fun p2 n2=>?_⟩⟩
  ·rw [ac2]
   show 1 * (N+M)<=sizeLine
   exact zR (by omega:1 * (N+M)<=30) (by decide)
  have eR:(List.replicate (((N+M:Nat):Int)).toNat [V.int 0]).flatten=rowV ((List.range (N+M)).map fun k=>GF.dot r w 0 (fun t=>eqn N l t k) (fun t=>B.getD t 0)):=by
   rw [ac2]
   have:((List.range (N+M)).map fun k=>GF.dot r w 0 (fun t=>eqn N l t k) (fun t=>B.getD t 0))=List.replicate (N+M) 0:=by
    show ((List.range (N+M)).map fun _=>0)=_
    rw [List.map_const',zS]
   rw [this];exact lq (N+M) 0
  rw [eR]
  have s1:=(Same.new (o:=.lst [V.int 0]) n1).trans (Same.new (o:=.lst (rowV ((List.range (N+M)).map fun k=>GF.dot r w 0 (fun t=>eqn N l t k) (fun t=>B.getD t 0)))) n2)
  have an:(upd (upd H p1 (.lst [V.int 0])) p2 (.lst (rowV ((List.range (N+M)).map fun k=>GF.dot r w 0 (fun t=>eqn N l t k) (fun t=>B.getD t 0))))) p2=some (.lst (rowV ((List.range (N+M)).map fun k=>GF.dot r w 0 (fun t=>eqn N l t k) (fun t=>B.getD t 0)))):=ab;generalize (upd (upd H p1 (.lst [V.int 0])) p2 (.lst (rowV ((List.range (N+M)).map fun k=>GF.dot r w 0 (fun t=>eqn N l t k) (fun t=>B.getD t 0)))))=H1 at s1 an;refine ⟨_,rfl,_,rfl,c,_,_,_,_,rfl,s1 _ _ h1,T.cl_Code,T.no_Code_lines,gL bp M N Lp,bl,Lp,_,_,rfl,SqL.of (s1 _ _ a0),SqL.of (s1 _ _ h2),let I_:Nat->L2.St->Hp->Prop:=fun i σ H'=>L2.E3 fun (La:Addr) (v4 v5:Option V)=>L2.A3 (σ=[some (.ref c),some (.ref bl),some (.ref rl),some (.ref La),v4,v5,none]) (Same H H') (H' La=some (.lst (rowV ((List.range (N+M)).map fun k=>GF.dot r w i (fun t=>eqn N l t k) (fun t=>B.getD t 0)))));k6 (K:=K) (l1:=bl) (l2:=Lp) (xs:=rowV B) (ys:=qs.map V.ref) I_ ⟨p2,none,none,rfl,s1,an⟩ ?_ (by rw [aj,ad,el]) ?_ ?_⟩
  ·rintro i σ H' _ ⟨La,v4,v5,_,sm,_⟩
   exact ⟨SqL.of (sm _ _ a0),SqL.of (sm _ _ h2)⟩
  ·rintro i u v T' σ H' hi hu hv hT ⟨La,v4,v5,rfl,sm,I⟩
   obtain ⟨f,a2,rfl⟩:=aQ hu
   have aw:i < M:=by rw [<- el];exact (zV.mp hv).1
   obtain ⟨p,ep,hp⟩:=h3.get aw;rw [aZ ep] at hv
   cases zX hv
   have s2:=sm.trans (Same.new (o:=.tup [V.int (f:Nat),V.ref p]) hT)
   have C:=(Same.new (o:=.tup [V.int (f:Nat),V.ref p]) hT) _ _ I;refine ⟨T',_,rfl,SqT.of ab,rfl,_,_,rfl,_,_,rfl,rfl,?_⟩;generalize (upd H' T' (.tup [V.int (f:Nat),V.ref p]))=H2 at s2 C
   have J:=hC.same s2;obtain ⟨dB,hB⟩:=J.blk.ins;refine ⟨_,rfl,_,rfl,c,_,_,_,_,rfl,s2 _ _ h1,T.cl_Code,T.no_Code_blocks,eK bp M N Lp,bp,_,_,_,_,rfl,hB,T.cl_Blocks,T.no_Blocks_field,d0 fp w n,_,rfl,_,rfl,?_⟩;refine ⟨fp,p,r,w,f,rowT (N+M) (eqn N l) i,rfl,J.blk.fld,g,s2 _ _ hp,fm fun k hk=>fH W ak i k aw hk,by rw [aD];omega,fun D3 H3 n3 s3 a4=>?_⟩
   refine ⟨La,D3,_,_,rfl,s3 _ _ C,a4,by rw [zM,zS,zM,aD],by rw [zM,zS];omega,fun D4 H4 n4 s4 h4=>?_⟩
   refine ⟨D4,_,_,rfl,s2.trans (s3.trans s4),?_⟩;rw [h4];refine congrArg (fun l=>some (HO.lst (rowV l))) ?_
   have ef:B.getD i 0=f:=by rw [zK,a2];rfl
   unfold rowT
   apply ad9
   intro k;rw [List.getElem?_zipWith,zO,zO,zO,zO]
   cases (List.range (N+M))[k]? with
   | none=>rfl
   | some x =>
    rw [<- ef];rfl
  ·rintro σ H' ⟨La,v4,v5,rfl,sm,I⟩
   rw [aj,ad] at I
   have a8:=hC.same sm;refine ⟨_,rfl,c,_,_,_,_,rfl,sm _ _ h1,T.cl_Code,T.no_Code_roles,fG bp M N Lp,_,rfl,by omega,by omega,fun tl a3=>?_⟩
   rw [ac2]
   have Y:∀ k,k < N+M->os[k]?=some (os.getD k none):=fun k hk=>by
    rw [zK,zL (by omega)]
    rfl
   refine di (n:=N+M) (f:=fun k=>.int ((k:Nat):Int)) (b:=fun k=>(os.getD k none).isSome) (cs:=[some (.ref rl)]) a3 rfl (zR n8 (by decide)) (fun k H2 R2 hk s2 hR=>?_) (fun k H2 R2 hk hb s2 hR=>?_) (fun H2 s2 Z=>?_)
   ·refine ⟨_,rfl,_,rfl,rl,_,_,_,rfl,rfl,SqL.of (s2 _ _ (sm _ _ aT)),aC (bj (Y k hk)),rfl,_,rfl,?_⟩
    have e:(!decide (valO (os.getD k none)=V.non))=(os.getD k none).isSome:=by
     cases os.getD k none with
     | none=>rfl
     | some b=>exact by rw [aa9 (fun z=>by cases z)];rfl
    rw [e];exact hR _ (Same.refl _)
   ·exact ⟨_,rfl,hR _ (Same.refl _)⟩
   have G:=sm.trans s2
   have J:=hC.same G;obtain ⟨dB,hB⟩:=J.blk.ins
   have C:=s2 _ _ I;generalize U:(List.range (N+M)).filter (fun k=>(os.getD k none).isSome)=tks at Z
   have S:∀ k∈tks,k < N+M/\(os.getD k none).isSome=true:=fun k hk=>by
    rw [<- U] at hk
    have:=aa7.mp hk;exact ⟨aa1.mp this.1,this.2⟩
   have D:H2 tl=some (.lst (rowV tks)):=by
    rw [Z];rfl
   have L:tks.length<=8:=by
    rw [<- U]
    have:=ac0 (fun k=>(os.getD k none).isSome) (List.range (N+M));rw [zS] at this;omega
   refine ⟨_,rfl,c,_,_,_,_,rfl,G _ _ h1,T.cl_Code,T.no_Code_blocks,eK bp M N Lp,bp,dB,_,rfl,hB,rfl,?_⟩;refine ⟨_,rfl,tl,rfl,⟨_,SqL.of D⟩,fun D1 a6=>?_⟩;refine bV (xs:=rowV tks) (f:=fun i=>.int ((byL r w M N l B (tks.getD i 0):Nat):Int)) (cs:=[some (.ref La)]) (SqL.of D) a6 rfl (by rw [aj];exact zR L (by decide)) (fun i u H3 R3 hu s3 hR=>?_) (fun H3 s3 O=>?_)
   ·obtain ⟨k,ek,rfl⟩:=aQ hu
    have hk:=(S k (aa0 ek)).1
    have eg:tks.getD i 0=k:=by rw [zK,ek];rfl
    rw [eg] at hR
    have gi:=aC (bw (row:=(List.range (N+M)).map fun k=>GF.dot r w M (fun t=>eqn N l t k) (fun t=>B.getD t 0)) (i:=k) (by rw [zM,zS];exact hk))
    rw [zK,zO,ab0 hk] at gi;exact ⟨_,rfl,_,rfl,La,_,_,_,rfl,rfl,SqL.of (s3 _ _ C),gi,hR _ (Same.refl _)⟩
   refine ⟨_,rfl,tl,rfl,⟨_,SqL.of (s3 _ _ D)⟩,fun D2 a5=>?_⟩;refine bV (xs:=rowV tks) (f:=fun i=>.int (((os.getD (tks.getD i 0) none).getD 0:Nat):Int)) (cs:=[some (.ref rl)]) (SqL.of (s3 _ _ D)) a5 rfl (by rw [aj];exact zR L (by decide)) (fun i u H4 R4 hu s4 hR=>?_) (fun H4 s4 X=>?_)
   ·obtain ⟨k,ek,rfl⟩:=aQ hu
    have hk:=S k (aa0 ek)
    have eg:tks.getD i 0=k:=by rw [zK,ek];rfl
    rw [eg] at hR
    have ev:valO (os.getD k none)=.int (((os.getD k none).getD 0:Nat):Int):=by
     cases hz:os.getD k none with
     | none=>rw [hz] at hk;exact absurd hk.2 (by decide)
     | some b=>rfl
    have gi:=aC (bj (Y k hk.1));rw [ev] at gi;exact ⟨_,rfl,_,rfl,rl,_,_,_,rfl,rfl,SqL.of (s4 _ _ (s3 _ _ (G _ _ aT))),gi,hR _ (Same.refl _)⟩
   rw [aj] at O X
   have e1:((List.range tks.length).map fun i=>V.int ((byL r w M N l B (tks.getD i 0):Nat):Int))=rowV (tks.map (byL r w M N l B)):=by
    unfold rowV
    apply ad9
    intro i;rw [zO,zO,zO]
    by_cases hi:i < tks.length
    ·rw [ab0 hi,zL hi]
     have eg:tks.getD i 0=tks[i]:=by rw [zK,zL hi];rfl
     dsimp only [Option.map];rw [eg]
    ·rw [zY (by rw [zS];omega),zY (by omega)]
     rfl
   have e2:((List.range tks.length).map fun i=>V.int (((os.getD (tks.getD i 0) none).getD 0:Nat):Int))=rowV (tks.map fun k=>(os.getD k none).getD 0):=by
    unfold rowV
    apply ad9
    intro i;rw [zO,zO,zO]
    by_cases hi:i < tks.length
    ·rw [ab0 hi,zL hi]
     have eg:tks.getD i 0=tks[i]:=by rw [zK,zL hi];rfl
     dsimp only [Option.map];rw [eg]
    ·rw [zY (by rw [zS];omega),zY (by omega)]
     rfl
   rw [e1] at O;rw [e2] at X
   have a1:=G.trans (s3.trans s4);refine ⟨bp,fp,D1,D2,r,w,n,tks.map (byL r w M N l B),tks.map (fun k=>(os.getD k none).getD 0),rfl,(hC.same a1).blk,g,hn,SqL.of (s4 _ _ O),SqL.of X,by rw [zM,zM],fun f hf=>?_,fun H5 s5=>?_⟩
   ·obtain ⟨k,hk,rfl⟩:=ae2.mp hf
    exact GF.dot_lt g.rule M fun t ht=>fH W ak t k ht (S k hk).1
   ·have ez:(tks.map (byL r w M N l B)).zip (tks.map fun k=>(os.getD k none).getD 0)=tells r w M N l B os:=by
     unfold tells;rw [U,List.zip_map',]
    rw [ez];exact q _ (a1.trans s5)
def knO (os:List (Option Nat)):List Bool:=os.map Option.isSome
inductive kI (K:PySem.W.Frag) (a:Adr) (vs:List V) (H:Hp) (Q:VK) (E_3:XK):Prop
 | mk:∀ (c bp fp rl:Addr) (r w n M N k:Nat) (l:Nat->Nat->Nat) (os:List (Option Nat)),vs=[.ref c,.ref rl,.int k]->CodeAt a H c bp fp r w n M N l->GF.Full r w->n<=16->Wts w M N l->H rl=some (.lst (rowO os))->os.length=N+M->k < N+M->((∀ b,os.getD k none=some b->Q (.int (b:Nat)) H))->((os.getD k none=none->∀ H',Same H H'->(∀ by',Reck r w (N+M) M (eqn N l) (knO os) k by'->Q (.int ((GF.sumB r w n (tells r w M N l by' os):Nat):Int)) H')/\∀ mk,Free r w (N+M) M (eqn N l) (knO os) k mk->Q .non H'))->kI K a vs H Q E_3
theorem jM (T:Txt K mg a):FnO P wo K mg base 8 a.f27 ["self", "row", "role"] (kI K a):=by
 refine T.x27.F.okA (k:=7) sc_Code_reckoned (fun aT A outer s H vs Q E hr h=>?_)
 ·obtain ⟨c,bp,fp,rl,r,w,n,M,N,k,l,os,rfl,hC,g,hn,W,B,L,hk,q1,q2⟩:=h
  obtain ⟨dx,Lp,qs,h1,h2,h3⟩:=id hC.ins
  have n8:=W.n8
  have C:os[k]?=some (os.getD k none):=by
   rw [zK,zL (by omega)]
   rfl
  exists xx
  exists xc (aS (aE (pv 0) T.cl_Code T.x24.me (eM T) hr.u T.x24.b .nil ao (aa (pv 2) ac)))
  refine xq ?_;refine xi (au bZ (aI aH (pv 1) (pv 2) (fun _ _=>rfl)) aR (ax _)) ?_
  exists xl (av (aI aH (pv 1) (pv 2) (fun _ _=>rfl)))
  refine ⟨_,aF,?_⟩;intro u_
  exists xc (al (i:=3) sc_Code_reckoned.nd rfl (Or.inl rfl) (aE (pv 0) T.cl_Code T.x23.me (iN T) hr.u T.x23.b .nil ao (aa (bb (CompOk.of (cap:=[]) (own:=["block"]) (by kernel_rfl)) rfl (aJ (pv 1)) (fun _ _ _ _ _=>(ar (i:=0) (zN (by kernel_rfl)) rfl (Or.inl rfl))) (fun _ _ _ _ _=>aV) (fun _ _ _ _ _=>by exact (dP bZ (pv 0) aR (ax _)))) (aa (pv 2) ac))))
  refine xq ?_;refine xi (au bU (aI io (pv 3) ai (fun _ _=>rfl)) jU (ax _)) ?_
  exists xl (av aR)
  refine ⟨_,aF,?_⟩;intro u_
  exists xl (av (aE (pv 0) T.cl_Code T.x26.me (i5 T) hr.u T.x26.b .nil ao (aa (aI io (pv 3) ai (fun _ _=>rfl)) (aa (pv 1) ac))))
  refine ⟨_,rfl,c,dx,_,rfl,h1,rfl,_,rfl,c,bp,fp,r,w,n,M,N,k,l,rfl,hC,hk,?_⟩;refine ⟨_,rfl,_,rfl,rl,_,_,_,rfl,rfl,SqL.of B,aC (bj C),rfl,_,rfl,?_⟩
  cases hz:os.getD k none with
  | some b =>
   refine ite2 (fun _=>?_) (fun y=>absurd (by rw [aa9 (fun z=>by cases z)];rfl) y)
   rw [hz] at C;exact ⟨_,rfl,_,rfl,rl,_,_,_,rfl,rfl,SqL.of B,aC (bj C),q1 b hz⟩
  | none =>
   refine iteF ?_
   have q2:=q2 hz;refine ⟨_,rfl,c,dx,_,rfl,h1,rfl,_,rfl,rl,rfl,⟨_,SqL.of B⟩,fun kn U=>?_⟩;refine bV (xs:=rowO os) (f:=fun i=>.bl (os.getD i none).isSome) (cs:=[]) (SqL.of B) U rfl (by rw [aP];exact zR (by omega:os.length<=8) (by decide)) (fun i u H2 R2 hu s2 hR=>?_) (fun H2 s2 J=>?_)
   ·have hi:i < os.length:=by rw [<- aP];exact (zV.mp hu).1
    have ak:os[i]?=some (os.getD i none):=by
     rw [zK,zL hi];rfl
    rw [bj ak] at hu
    cases zX hu;refine ⟨_,rfl,rfl,?_⟩
    have e:(!decide (valO (os.getD i none)=V.non))=(os.getD i none).isSome:=by
     cases os.getD i none with
     | none=>rfl
     | some b=>exact by rw [aa9 (fun z=>by cases z)];rfl
    rw [e];exact hR _ (Same.refl _)
   rw [aP] at J
   have ek:((List.range os.length).map fun i=>V.bl (os.getD i none).isSome)=knV (knO os):=by
    unfold knV knO
    apply ad9
    intro i;rw [zO,zO,zO]
    by_cases hi:i < os.length
    ·rw [ab0 hi,zL hi]
     have eg:os.getD i none=os[i]:=by rw [zK,zL hi];rfl
     dsimp only [Option.map];rw [eg]
    ·rw [zY (by rw [zS];omega),zY (by omega)]
     rfl
   rw [ek] at J
   have ad:(knO os).length=N+M:=by unfold knO;rw [zM,L]
   have X:(knO os)[k]?=some false:=by
    unfold knO;rw [zO,C,hz];rfl
   refine ⟨_,rfl,c,bp,fp,kn,r,w,n,M,N,k,l,knO os,rfl,hC.same s2,g,W,J,ad,hk,X,fun D H3 s3 nD S _=>?_⟩
   have I:=s2.trans s3
   have q3:=fun H' (s':Same H3 H')=>q2 H' (I.trans s');rcases S with ⟨e,O,hD,he,G⟩ | ⟨e,mk,hD,he,G⟩
   ·refine ⟨_,rfl,D,_,_,_,rfl,rfl,SqT.of hD,rfl,rfl,_,rfl,?_⟩
    refine ite2 (fun z=>absurd (V.str.inj (zN z)) (by decide)) (fun _=>?_)
    obtain ⟨Y,an,aw,Z,_,_⟩:=(hC.same I).ins;refine ⟨_,rfl,c,Y,_,rfl,Z,rfl,_,rfl,D,_,_,_,rfl,rfl,SqT.of hD,rfl,_,rfl,?_⟩;exact ⟨c,bp,fp,e,rl,r,w,n,M,N,l,O,os,rfl,hC.same I,g.toGood,hn,W,he,G.len,I _ _ B,L,fun H4 s4=>(q3 H4 s4).1 O G⟩
   ·refine ⟨_,rfl,D,_,_,_,rfl,rfl,SqT.of hD,rfl,rfl,_,rfl,?_⟩
    refine ite2 (fun _=>?_) (fun z=>absurd (zZ rfl) z);exact (q3 H3 (Same.refl _)).2 mk G
def tot (r w N:Nat) (l:Nat->Nat->Nat) (o k:Nat):Nat:=GF.tm r w (eqn N l 0 k) (eqn N l 1 o) ^^^ GF.tm r w (eqn N l 1 k) (eqn N l 0 o)
def bY (R:Nat) (ks:List Bool) (pl:Nat):List Nat:=(List.range R).filter fun k=>!(ks.getD k false) && !decide (k=pl)
def fixB (r w M N:Nat) (l:Nat->Nat->Nat) (ks:List Bool) (pl:Nat):Bool :=
 match bY (N+M) ks pl with
 | []=>true
 | o :: os=>if M=1 then false else (o :: os++[pl]).all fun k=>decide ((tot r w N l o k≠0)=(k=pl))
variable {R pl:Nat}{ks:List Bool}
theorem fe {k:Nat} (h:k∈bY R ks pl):k < R/\ks.getD k false=false/\k≠pl:=by
 unfold bY at h
 have:=aa7.mp h
 have h2:=this.2;rw [ac8,am3,am3] at h2;exact ⟨aa1.mp this.1,h2.1,of_decide_eq_false h2.2⟩
variable {b:Bool}
theorem mY {k:Nat} (hk:k < ks.length) (h:ks.getD k false=b):ks[k]?=some b:=by
 rw [zL hk];rw [zK,zL hk] at h;exact congrArg some h
theorem xR (a x:Nat->Nat):GF.dot r w 2 a x=GF.tm r w (a 0) (x 0) ^^^ GF.tm r w (a 1) (x 1):=by
 show (0 ^^^ _) ^^^ _=_
 rw [ae4]
theorem lv (W:Wts w M N l) {k:Nat} (hk:k < N+M):∃ t,t < M/\eqn N l t k≠0:=by
 by_cases hjN:k < N
 ·obtain ⟨t,ht,hz⟩:=W.col k hjN
  refine ⟨t,ht,?_⟩;unfold eqn;rw [if_pos hjN];exact hz
 ·refine ⟨k - N,by omega,?_⟩
  unfold eqn;rw [if_neg hjN,if_pos rfl]
  decide
theorem oH {a b:Nat} (h:a ^^^ b=0):a=b:=by
 have:=congrArg (fun z=>z ^^^ b) h;simp only [ag1,ai4,ae5,ae4] at this;exact this
variable {by':List Nat}
theorem vU (g:GF.Full r w) (W:Wts w 2 N l) (hks:ks.length=N+2) (hpl:pl < N+2) (hkp:ks.getD pl false=false) (f:Reck r w (N+2) 2 (eqn N l) ks pl by') {o:Nat} (ho:o < N+2) (hko:ks.getD o false=false) (hop:o≠pl) :
  ∀ k,k < N+2->ks.getD k false=false->(tot r w N l o k≠0 ↔ k=pl):=by
 have I:=g.toGood.top16
 have R:=g.toGood.rule
 have w1:=g.toGood.w1
 have B:∀ t k,t < 2->k < N+2->eqn N l t k < 2 ^ w:=fH W I
 have b0:by'.getD 0 0 < 2 ^ w:=fo f.lt (by rw [f.len];decide)
 have b1:by'.getD 1 0 < 2 ^ w:=fo f.lt (by rw [f.len];decide)
 have hk:∀ k,k < N+2->ks.getD k false=false->GF.tm r w (eqn N l 0 k) (by'.getD 0 0) ^^^ GF.tm r w (eqn N l 1 k) (by'.getD 1 0)=if k=pl then 1 else 0:=fun k h1 h2=>by
  have:=f.ok k h1 (mY (by omega) h2)
  rw [xR] at this;exact this
 have e0:=hk o ho hko;rw [if_neg hop] at e0
 have e0:=oH e0;generalize by'.getD 0 0=y0 at b0 hk e0
 generalize by'.getD 1 0=y1 at b1 hk e0
 have a0:=B 0 o (by decide) ho
 have a1:=B 1 o (by decide) ho
 have H:∃ m,m < 2 ^ w/\m≠0/\y0=GF.tm r w m (eqn N l 1 o)/\y1=GF.tm r w m (eqn N l 0 o):=by
  have G:¬ (y0=0/\y1=0):=fun z=>by
   have:=hk pl hpl hkp;rw [if_pos rfl,z.1,z.2,GF.tm_zero,GF.tm_zero] at this;exact absurd this (by decide)
  obtain ⟨t,ht,hz⟩:=lv W ho
  have D:∀ {x y z:Nat},x < 2 ^ w->y < 2 ^ w->z < 2 ^ w->z≠0->GF.tm r w x z=GF.tm r w y z->x=y:=fun {x y z} hx hy E z0 e=>by
   rw [GF.tm_comm R w1 hx E,GF.tm_comm R w1 hy E] at e;exact GF.tm_inj g z0 E hx hy e
  by_cases z1:eqn N l 1 o=0
  ·have z0:eqn N l 0 o≠0:=by
    have h2:t=0\/t=1:=by omega
    rcases h2 with rfl | rfl
    ·exact hz
    ·exact absurd z1 hz
   have h:y0=0:=by
    rw [z1,GF.zero_tm] at e0;rcases (GF.tm_eq_zero g a0 b0).mp e0 with z | z
    ·exact absurd z z0
    ·exact z
   have s:=GF.pw_back g (Nat.pos_of_ne_zero z0) a0
   have il:=GF.pw_lt g.toGood a0 (2 ^ w - 1 - 1);generalize GF.pw r w (eqn N l 0 o) (2 ^ w - 1 - 1)=v at s il;refine ⟨GF.tm r w y1 v,GF.tm_lt R b1,fun z=>?_,?_,?_⟩
   ·rcases (GF.tm_eq_zero g b1 il).mp z with z | z
    ·exact G ⟨h,z⟩
    ·rw [z,GF.tm_zero] at s
     exact absurd s (by decide)
   ·rw [z1,GF.tm_zero,h]
   ·rw [GF.tm_assoc R w1 b1 il,GF.tm_comm R w1 il a0,s,GF.tm_one]
  ·have s:=GF.pw_back g (Nat.pos_of_ne_zero z1) a1
   have il:=GF.pw_lt g.toGood a1 (2 ^ w - 1 - 1);generalize GF.pw r w (eqn N l 1 o) (2 ^ w - 1 - 1)=v at s il
   have h:y0=GF.tm r w (GF.tm r w y0 v) (eqn N l 1 o):=by rw [GF.tm_assoc R w1 b0 il,GF.tm_comm R w1 il a1,s,GF.tm_one]
   have C:y1=GF.tm r w (GF.tm r w y0 v) (eqn N l 0 o):=by
    refine D b1 (GF.tm_lt R (GF.tm_lt R b0)) a1 z1 ?_;rw [GF.tm_comm R w1 b1 a1,← e0,GF.tm_assoc R w1 (GF.tm_lt R b0) a0,GF.tm_comm R w1 a0 a1,← GF.tm_assoc R w1 (GF.tm_lt R b0) a1,← h,GF.tm_comm R w1 a0 b0]
   refine ⟨GF.tm r w y0 v,GF.tm_lt R b0,fun z=>?_,h,C⟩;rw [z,GF.zero_tm] at h C;exact G ⟨h,C⟩
 obtain ⟨m,ml,m0,rfl,rfl⟩:=H;intro k h1 h2
 have ek:=hk k h1 h2
 have c0:=B 0 k (by decide) h1
 have c1:=B 1 k (by decide) h1
 have et:GF.tm r w m (tot r w N l o k)=if k=pl then 1 else 0:=by
  rw [<- ek];unfold tot;rw [GF.tm_xor_right,← GF.tm_assoc R w1 ml c0,GF.tm_comm R w1 ml c0,GF.tm_assoc R w1 c0 ml,← GF.tm_assoc R w1 ml c1,GF.tm_comm R w1 ml c1,GF.tm_assoc R w1 c1 ml]
 have tl:tot r w N l o k < 2 ^ w:=ag7 (GF.tm_lt R c0) (GF.tm_lt R c1)
 constructor
 ·intro z
  by_cases y:k=pl
  ·exact y
  ·rw [if_neg y] at et
   rcases (GF.tm_eq_zero g ml tl).mp et with x | x
   ·exact absurd x m0
   ·exact absurd x z
 ·intro y z
  rw [if_pos y,z,GF.tm_zero] at et;exact absurd et (by decide)
theorem kJ {a x:Nat->Nat} (hpl:pl < R) (h:∀ k,k < R->k≠pl->GF.tm r w (a k) (x k)=0):GF.dot r w R a x=GF.tm r w (a pl) (x pl):=by
 have g:∀ n,n<=R->GF.dot r w n a x=if pl < n then GF.tm r w (a pl) (x pl) else 0:=by
  intro n
  induction n with
  | zero=>intro _;rw [if_neg (af5 _)];rfl
  | succ n ih =>
   intro hn;rw [GF.dot,ih (by omega)]
   by_cases z:n=pl
   ·subst z
    rw [if_neg (ad4 _),if_pos (ab3 _),ae4]
   ·rw [h n (by omega) z,ae5]
    by_cases y:pl < n
    ·rw [if_pos y,if_pos (by omega)]
    ·rw [if_neg y,if_neg (by omega)]
 rw [g R (zQ _),if_pos hpl]
theorem mj (g:GF.Full r w) (W:Wts w M N l) (hks:ks.length=N+M) (hpl:pl < N+M) (hkp:ks.getD pl false=false) (f:Reck r w (N+M) M (eqn N l) ks pl by'):fixB r w M N l ks pl=true:=by
 unfold fixB
 have s:=g.toGood.top16
 split
 ·rfl
 ·rename_i o os he
  have ho:=fe (R:=N+M) (ks:=ks) (pl:=pl) (k:=o) (by rw [he];exact ac9)
  by_cases hM:M=1
  ·subst hM
   have b0:by'.getD 0 0 < 2 ^ w:=fo f.lt (by rw [f.len];decide)
   have e1:=f.ok o ho.1 (mY (by omega) ho.2.1)
   have e2:=f.ok pl hpl (mY (by omega) hkp)
   rw [if_neg ho.2.2] at e1;rw [if_pos rfl] at e2
   have d1:∀ a x:Nat->Nat,GF.dot r w 1 a x=GF.tm r w (a 0) (x 0):=fun a x=>ae4 _;rw [d1] at e1 e2;obtain ⟨t,ht,hz⟩:=lv W ho.1
   have t0:t=0:=by omega
   subst t0;rcases (GF.tm_eq_zero g (fH W s 0 o (by decide) ho.1) b0).mp e1 with z | z
   ·exact absurd z hz
   ·rw [z,GF.tm_zero] at e2
    exact absurd e2 (by decide)
  ·have B:M=2:=by have:=W.m1;have:=W.m2;omega
   subst B;rw [if_neg hM,ab4]
   have h:=vU g W hks hpl hkp f ho.1 ho.2.1 ho.2.2;intro k hk
   apply zZ
   rcases ab5.mp hk with y | y
   ·have:=fe (R:=N+2) (ks:=ks) (pl:=pl) (k:=k) (by rw [he];exact y)
    exact propext (h k this.1 this.2.1)
   ·rw [aa6.mp y]
    exact propext (h pl hpl hkp)
theorem mm {mk:List Nat} (g:GF.Full r w) (W:Wts w M N l) (hks:ks.length=N+M) (hpl:pl < N+M) (hkp:ks.getD pl false=false) (f:Free r w (N+M) M (eqn N l) ks pl mk):fixB r w M N l ks pl=false:=by
 unfold fixB
 have E:=g.toGood.top16
 have R:=g.toGood.rule
 have w1:=g.toGood.w1
 have C:∀ k,k < N+M->mk.getD k 0 < 2 ^ w:=fun k hk=>fo f.lt (by rw [f.len];exact hk)
 have none_of:∀ k,k < N+M->k≠pl->k∉bY (N+M) ks pl->mk.getD k 0=0:=fun k hk s H=>by
  refine f.zero k hk (mY (by omega) ?_)
  cases hb:ks.getD k false with
  | true=>rfl
  | false =>
   refine absurd ?_ H;unfold bY;refine aa7.mpr ⟨aa1.mpr hk,?_⟩;rw [hb,aa9 s];rfl
 split
 ·rename_i he
  obtain ⟨t,ht,hz⟩:=lv W hpl
  have e:=f.ok t ht;rw [kJ hpl fun k hk s=>by rw [none_of k hk s (by rw [he];simp),GF.tm_zero],f.one,GF.tm_one] at e
  exact absurd e hz
 ·rename_i o os he
  have ho:=fe (R:=N+M) (ks:=ks) (pl:=pl) (k:=o) (by rw [he];exact ac9)
  by_cases hM:M=1
  ·rw [if_pos hM]
  ·have G:M=2:=by have:=W.m1;have:=W.m2;omega
   subst G;rw [if_neg hM,List.all_eq_false]
   have h:∀ t k,t < 2->k < N+2->eqn N l t k < 2 ^ w:=fH W E;refine Classical.byContradiction fun D=>?_
   have B:∀ k∈(o :: os++[pl]),(tot r w N l o k≠0)=(k=pl):=fun k hk=>Classical.byContradiction fun z=>D ⟨k,hk,fun y=>z (zN y)⟩
   have h0:GF.dot r w (N+2) (tot r w N l o) (fun k=>mk.getD k 0)=0:=by
    show GF.dot r w (N+2) (fun k=>GF.tm r w (eqn N l 0 k) (eqn N l 1 o) ^^^ GF.tm r w (eqn N l 1 k) (eqn N l 0 o)) (fun k=>mk.getD k 0)=0
    rw [GF.dot_add R (N+2) fun k hk=>⟨GF.tm_lt R (h 0 k (by decide) hk),GF.tm_lt R (h 1 k (by decide) hk)⟩]
    rw [GF.dot_scale R w1 (h 1 o (by decide) ho.1) (N+2) fun k hk=>⟨h 0 k (by decide) hk,C k hk⟩,GF.dot_scale R w1 (h 0 o (by decide) ho.1) (N+2) fun k hk=>⟨h 1 k (by decide) hk,C k hk⟩]
    have e0:=f.ok 0 (by decide)
    have e1:=f.ok 1 (by decide)
    rw [e0,e1,GF.zero_tm,GF.zero_tm];rfl
   rw [kJ hpl fun k hk s=>by
    by_cases hm:k∈bY (N+2) ks pl
    ·have:=B k (ai6 _ (by rw [<- he];exact hm))
     have z:tot r w N l o k=0:=Classical.byContradiction fun y=>s (this.mp y);rw [z,GF.zero_tm]
    ·rw [none_of k hk s hm,GF.tm_zero],f.one,GF.tm_one] at h0
   have:=B pl (ac6 _ (aa6.mpr rfl));exact absurd h0 (this.mpr rfl)
variable {X:List Nat}
theorem uB (hX:X.length=N+M):isMk r w n M N l X=true ↔ ∀ t,t < M->GF.xsum (N+M) (fun j=>GF.sc r w n (eqn N l t j) (X.getD j 0))=0:=by
 have e:∀ t,GF.sumB r w n ((rowT (N+M) (eqn N l) t).zip X)=GF.xsum (N+M) (fun j=>GF.sc r w n (eqn N l t j) (X.getD j 0)):=fun t=>by
  have h:=GF.sumB_range (r:=r) (w:=w) (n:=n) (eqn N l t) (fun j=>X.getD j 0) (N+M)
  have hx:=GF.list_range X;rw [hX] at hx;rw [<- hx] at h;exact h
 unfold isMk;rw [ab4]
 constructor
 ·intro h t ht
  rw [<- e];exact zN (h t (aa1.mpr ht))
 ·intro h t ht
  apply zZ
  rw [e];exact h t (aa1.mp ht)
def bH (R:Nat) (os:List (Option Nat)) (X:List Nat):Prop:=∀ j,j < R->∀ b,os.getD j none=some b->X.getD j 0=b
theorem gM (hj:j < os.length) (h:os.getD j none=none):(knO os)[j]?=some false:=by
 unfold knO;rw [zO,zL hj];rw [zK,zL hj] at h
 have h:os[j]=none:=h;rw [h];rfl
theorem oI {b:Nat} (hj:j < os.length) (h:os.getD j none=some b):(knO os)[j]?=some true:=by
 unfold knO;rw [zO,zL hj];rw [zK,zL hj] at h
 have h:os[j]=some b:=h;rw [h];rfl
theorem tells_make {k:Nat} (g:GF.Good r w) (W:Wts w M N l) (hos:os.length=N+M) (hX:X.length=N+M) (hlt:∀ b∈X,b < (2 ^ w) ^ n) (hk:k < N+M) (hz:os.getD k none=none) (hm:isMk r w n M N l X=true) (ha:bH (N+M) os X) (f:Reck r w (N+M) M (eqn N l) (knO os) k by') :
  GF.sumB r w n (tells r w M N l by' os)=X.getD k 0:=by
 have h:=g.top16
 have hm:=(uB hX).mp hm
 have h0:=GF.lines_zero g.rule g.w1 (n:=n) (m:=N+M) (e:=eqn N l) (x:=fun j=>X.getD j 0) (y:=fun t=>by'.getD t 0) M (fun t j ht hj=>fH W h t j ht hj) (fun t ht=>fo f.lt (by rw [f.len];exact ht)) hm
 unfold tells;rw [GF.sumB_filter (fun k=>(os.getD k none).isSome) (byL r w M N l by') (fun k=>(os.getD k none).getD 0)]
 have h1:=GF.xsum_xor (fun j=>if (os.getD j none).isSome=true then GF.sc r w n (byL r w M N l by' j) ((os.getD j none).getD 0) else 0) (fun j=>GF.sc r w n (GF.dot r w M (fun t=>eqn N l t j) (fun t=>by'.getD t 0)) (X.getD j 0)) (N+M)
 rw [h0,ae5] at h1;rw [<- h1,GF.xsum_single hk fun j hj s=>?_]
 ·have e:=f.ok k hk (gM (by omega) hz)
  rw [if_pos rfl] at e;rw [hz,e,GF.sc_one g.rule g.w1 (fo hlt (by rw [hX];exact hk))]
  have:(if (none:Option Nat).isSome=true then GF.sc r w n (byL r w M N l by' k) ((none:Option Nat).getD 0) else 0)=0:=if_neg (by decide)
  rw [this];exact ae4 _
 ·cases hb:os.getD j none with
  | none =>
   have e:=f.ok j hj (gM (by omega) hb)
   rw [if_neg s] at e;rw [e,GF.sc_zero,ae5];exact if_neg (by decide)
  | some b =>
   have:=ha j hj b hb
   show GF.sc r w n (byL r w M N l by' j) b ^^^ GF.sc r w n (GF.dot r w M (fun t=>eqn N l t j) (fun t=>by'.getD t 0)) (X.getD j 0)=0
   rw [this];exact ai4 _
def moved (r w n R:Nat) (X mk:List Nat) (c:Nat):List Nat:=(List.range R).map fun j=>X.getD j 0 ^^^ GF.sc r w n (mk.getD j 0) c
def plainL (i k:Nat):Nat:=if i=0 then 1 else k+1
theorem uC (t16:16<=2 ^ w) (h1:1<=M) (h2:M<=2) (h3:1<=N) (h8:N+M<=8):Wts w M N plainL where
 m1:=h1
 m2:=h2
 n1:=h3
 n8:=h8
 lt i k hi hk:=by
  unfold plainL
  split <;> omega
 row i hi:=⟨0,h3,by unfold plainL;split <;> decide⟩
 col k hk:=⟨0,h1,by unfold plainL;rw [if_pos rfl];decide⟩
def dJ (ks:List Bool):Nat:=ks.countP fun b=>!b
theorem jN (N k:Nat):eqn N plainL 0 k=if k<=N then 1 else 0:=by
 unfold eqn plainL
 by_cases h:k < N
 ·rw [if_pos h,if_pos rfl,if_pos (by omega)]
 ·rw [if_neg h]
  by_cases y:k=N
  ·rw [if_pos (by omega),if_pos (by omega)]
  ·rw [if_neg (by omega),if_neg (by omega)]
theorem gN (N k:Nat):eqn N plainL 1 k=if k < N then k+1 else if k=N+1 then 1 else 0:=by
 unfold eqn plainL
 by_cases h:k < N
 ·rw [if_pos h,if_neg (by decide),if_pos h]
 ·rw [if_neg h,if_neg h]
  by_cases y:k=N+1
  ·rw [if_pos (by omega),if_pos y]
  ·rw [if_neg (by omega),if_neg y]
theorem zG (t16:16<=2 ^ w) (h8:N+2<=8) (hj:j < N+2):(if j < N then j+1 else if j=N+1 then 1 else 0) < 2 ^ w:=by
 split
 ·omega
 ·split <;> omega
theorem mn {o k:Nat} (g:GF.Good r w) (h8:N+2<=8) (ho:o < N+2) (hk:k < N+2) (hne:o≠k):tot r w N plainL o k≠0:=by
 have h:=g.top16
 have R:=g.rule
 have w1:=g.w1
 have l1:∀ j,j < N+2->eqn N plainL 1 j < 2 ^ w:=fun j hj=>by
  rw [gN]
  split
  ·omega
  ·split <;> omega
 have e:tot r w N plainL o k=(if k<=N then eqn N plainL 1 o else 0) ^^^ (if o<=N then eqn N plainL 1 k else 0):=by
  unfold tot;rw [jN,jN]
  congr 1
  ·by_cases y:k<=N
   ·rw [if_pos y,if_pos y,GF.one_tm R w1 (l1 o ho)]
   ·rw [if_neg y,if_neg y,GF.zero_tm]
  ·by_cases y:o<=N
   ·rw [if_pos y,if_pos y,GF.tm_one]
   ·rw [if_neg y,if_neg y,GF.tm_zero]
 rw [e];intro z
 have z:=oH z;rw [gN,gN] at z
 by_cases y1:k<=N
 ·by_cases y2:o<=N
  ·rw [if_pos y1,if_pos y2] at z
   by_cases c1:o < N
   ·rw [if_pos c1] at z
    by_cases c2:k < N
    ·rw [if_pos c2] at z;omega
    ·rw [if_neg c2,if_neg (by omega)] at z;omega
   ·rw [if_neg c1,if_neg (by omega)] at z
    by_cases c2:k < N
    ·rw [if_pos c2] at z;omega
    ·omega
  ·rw [if_pos y1,if_neg y2,if_neg (by omega),if_pos (by omega)] at z
   omega
 ·by_cases y2:o<=N
  ·rw [if_neg y1,if_pos y2,if_neg (by omega),if_pos (by omega)] at z
   omega
  ·omega
theorem iO (f:Nat->Bool) (pl:Nat):∀ R,(List.range R).countP f=((List.range R).filter fun k=>f k && !decide (k=pl)).length+if pl < R/\f pl=true then 1 else 0
 | 0=>rfl
 | R+1=>by
  have ih:=iO f pl R;rw [af9,List.countP_append,aj5,ab6,ih,List.countP_singleton]
  by_cases y:R=pl
  ·subst y
   have e:([R].filter fun k=>f k && !decide (k=R))=[]:=by simp
   rw [e,if_neg (fun z=>absurd z.1 (ad4 _))]
   cases hf:f R with
   | true=>rw [if_pos rfl,if_pos ⟨ab3 _,rfl⟩];rfl
   | false=>rw [if_neg (by decide),if_neg (fun z=>by cases z.2)];rfl
  ·have e:([R].filter fun k=>f k && !decide (k=pl)).length=if f R=true then 1 else 0:=by
    cases hf:f R <;> simp [hf,y]
   rw [e]
   have e2:(if pl < R+1/\f pl=true then 1 else 0)=(if pl < R/\f pl=true then 1 else 0:Nat):=by
    by_cases z:f pl=true
    ·by_cases x:pl < R
     ·rw [if_pos ⟨by omega,z⟩,if_pos ⟨x,z⟩]
     ·rw [if_neg (fun q=>by omega),if_neg (fun q=>x q.1)]
    ·rw [if_neg (fun q=>z q.2),if_neg (fun q=>z q.2)]
   rw [e2];omega
theorem dj:dJ ks=(List.range ks.length).countP fun k=>!(ks.getD k false):=by
 have e:ks=(List.range ks.length).map fun k=>ks.getD k false:=by
  apply ad9
  intro k;rw [zO]
  by_cases hk:k < ks.length
  ·rw [ab0 hk,zL hk,Option.map,zK,zL hk]
   rfl
  ·rw [zY (by omega),zY (by rw [zS];omega)]
   rfl
 unfold dJ
 conv=>lhs;rw [e]
 rw [List.countP_map];rfl
theorem pF (hks:ks.length=R) (hpl:pl < R) (hkp:ks.getD pl false=false):dJ ks=(bY R ks pl).length+1:=by
 rw [dj,hks,iO _ pl,if_pos ⟨hpl,by rw [hkp];rfl⟩]
 rfl
theorem mo (g:GF.Good r w) (m1:1<=M) (m2:M<=2) (h8:N+M<=8) (hks:ks.length=N+M) (hpl:pl < N+M) (hkp:ks.getD pl false=false):fixB r w M N plainL ks pl=decide (dJ ks<=M):=by
 have hg:=pF hks hpl hkp
 have l:=fun k (h:k∈bY (N+M) ks pl)=>fe h
 have B:(bY (N+M) ks pl).Nodup:=af2 _ ai0;unfold fixB;generalize bY (N+M) ks pl=os at hg l B
 cases os with
 | nil=>rw [zZ (by rw [hg];exact m1)]
 | cons o os =>
  show (if M=1 then false else _)=_
  by_cases hM:M=1
  ·rw [if_pos hM,aa9 (by rw [hg,ac7];omega)]
  ·rw [if_neg hM]
   have C:M=2:=by omega
   subst C
   have ho:=l o ac9
   cases os with
   | nil =>
    rw [zZ (by rw [hg];exact zQ 2)]
    have e1:tot r w N plainL o o=0:=by
     unfold tot
     have l0:eqn N plainL 0 o < 2 ^ w:=by rw [jN];have:=g.top16;split <;> omega
     have l1:eqn N plainL 1 o < 2 ^ w:=by rw [gN];exact zG g.top16 h8 ho.1
     rw [GF.tm_comm g.rule g.w1 l0 l1,ai4]
    have e2:=mn g h8 ho.1 hpl ho.2.2
    show (List.all [o,pl] _)=true
    rw [aj3,aj3,List.all_nil,ai5,ac8];refine ⟨zZ ?_,zZ ?_⟩
    ·exact propext ⟨fun z=>absurd e1 z,fun z=>absurd z ho.2.2⟩
    ·exact propext ⟨fun _=>rfl,fun _=>e2⟩
   | cons o2 os =>
    rw [aa9 (by rw [hg,ac7,ac7];omega)]
    have s:=l o2 (ac3 _ ac9)
    have ne:o≠o2:=fun z=>(al3.mp B).1 (by rw [z];exact ac9)
    have e2:=mn g h8 ho.1 s.1 ne
    cases hz:(o :: o2 :: os++[pl]).all (fun k=>decide ((tot r w N plainL o k≠0)=(k=pl))) with
    | false=>rfl
    | true =>
     have:=ab4.mp hz o2 (ai6 _ (ac3 _ ac9))
     have:=zN this;exact absurd (this.mp e2) s.2.2
variable {G:Prop}
theorem zH {F:Nat->Prop} (Pz:Nat->Prop) (h:(∀ z,Pz z->F z)->G) (key:∀ z,Pz z->F z):G:=h key
theorem iteR {c:Bool}{A B:Prop} (hf:¬ c=true->B) (ht:c=true->A):if c=true then A else B:=by
 by_cases h:c=true
 ·rw [if_pos h];exact ht h
 ·rw [if_neg h];exact hf h
theorem xS {x:Nat} (h:x < 2 ^ w):Builtin.Int.intBits (x:Int)<=w:=by
 by_cases z:x=0
 ·subst z
  exact ab1 _
 ·have h1:2 ^ x.log2<=x:=(Nat.le_log2 z).mp (zQ _)
  have h2:x < 2 ^ (x.log2+1):=(Nat.log2_lt z).mp (ab3 _);rw [cD h1 h2];exact (Nat.log2_lt z).mpr h
theorem mq (R:GF.Rule r w) (hd:d < 2 ^ w):V.int ((Builtin.Int.intBits ((2:Int) * (d:Int)):Nat):Int)=V.int ((Builtin.Int.intBits (r:Int):Nat):Int) ↔ 2 ^ w<=2 * d:=by
 have e:(2:Int) * (d:Int)=((2 * d:Nat):Int):=by omega
 rw [cD R.lo R.hi,e]
 constructor
 ·intro h
  have h:=V.int.inj h
  by_cases z:2 ^ w<=2 * d
  ·exact z
  ·have:=xS (x:=2 * d) (w:=w) (by omega)
   omega
 ·intro h
  rw [cD h (by rw [ag4];omega)]
inductive oJ (vs:List V) (H:Hp) (Q:VK) (E_3:XK):Prop
 | mk:∀ x y r w:Nat,vs=[.int x,.int y,.int r]->GF.Rule r w->w<=8->x < 2 ^ w->Q (.int (GF.tm r w x y:Nat)) H->oJ vs H Q E_3
theorem vV (T:Txt K mg a):FnO P wo K mg base 1 a.f56 ["_law_one", "_law_other", "_law_rule_here"] oJ:=by
 refine T.x56.F.okA (k:=0) sc_times (fun O A outer s H vs Q E hr h=>?_)
 ·obtain ⟨x,y,r,w,rfl,R,I,hx,q⟩:=h
  exists xx
  exists xc (al (i:=3) sc_times.nd rfl (Or.inl rfl) ai)
  refine xq ?_;refine xw PassesOwn.never (au cX (pv 1) ai (ax _)) ?_;refine xq ?_;refine xi (au bU (aq aX (pv 1) ai) ai (ax _)) ?_
  exists xl (al (i:=3) sc_times.nd rfl (Or.inl rfl) (aq dE (pv 3) (pv 0)))
  refine ⟨_,aF,?_⟩;intro u_
  exists xc (al (i:=0) sc_times.nd rfl (Or.inl rfl) (aq cM ai (pv 0)))
  refine xq ?_;refine xi (au bU (eE aj2 ag5 ag6 eG (pv 0)) (eE aj2 ag5 ag6 eG (pv 2)) (ax _)) ?_
  exists xl (al (i:=0) sc_times.nd rfl (Or.inl rfl) (aq dE (pv 0) (pv 2)))
  refine ⟨_,aF,?_⟩;intro u_
  exists xl (al (i:=1) sc_times.nd rfl (Or.inl rfl) (aq cC (pv 1) ai))
  intro u_
  exists xl (av (pv 3))
  refine ⟨fun m σ H'=>∃ f d g:Nat,g=m/\σ=[some (.int d),some (.int g),some (.int r),some (.int f)]/\H'=H/\d < 2 ^ w/\f ^^^ GF.tm r w d g=GF.tm r w x y,
   ⟨_,0,x,y,rfl,rfl,rfl,hx,ae4 _⟩,?_⟩
  rintro m σ H' ⟨f,d,g,rfl,rfl,rfl,hd,B⟩
  have L:d < 256:=aa2 hd (af8 (by decide) I)
  refine ⟨_,rfl,_,_,rfl,rfl,_,rfl,?_⟩;refine ite2 (fun h=>⟨_,fun _ _ z=>z,?_⟩) (fun h=>?_)
  ·have hg:0 < g:=by
    have:=zN h;omega
   have G:((g:Int) / 2)=((g / 2:Nat):Int):=by omega
   have step:=GF.tm_step (r:=r) (w:=w) d g;refine ⟨_,rfl,_,_,rfl,rfl,p0 (by decide),rfl,_,rfl,?_⟩
   refine zH (fun f'=>f' ^^^ GF.tm r w (GF.dbl r w d) (g / 2)=GF.tm r w x y) (fun D=>by
    refine ite2 (fun h1=>?_) (fun h1=>?_)
    ·have C:g % 2=1:=by
      have:=V.int.inj (zN h1);omega
     have l:f ^^^ d ^^^ GF.tm r w (GF.dbl r w d) (g / 2)=GF.tm r w x y:=by rw [<- B,step,if_pos C,ag1]
     refine ⟨_,rfl,_,rfl,_,_,rfl,rfl,?_⟩;try dsimp only
     rw [bK];generalize f ^^^ d=f' at l ⊢;exact D f' l
    ·have C:¬ g % 2=1:=fun z=>h1 (zZ (by
      show V.int ((g:Int) % 2)=V.int 1
      congr 1
      omega))
     have l:f ^^^ GF.tm r w (GF.dbl r w d) (g / 2)=GF.tm r w x y:=by rw [<- B,step,if_neg C,ae4]
     exact D f l) ?_
   intro f' l;refine ⟨_,rfl,_,_,rfl,rfl,.inl ⟨by decide,by decide⟩,?_⟩
   refine ⟨_,rfl,rfl,_,rfl,rfl,_,rfl,rfl,_,rfl,rfl,rfl,_,rfl,?_⟩;try dsimp only
   refine ite2 (fun h2=>?_) (fun h2=>?_)
   ·have J:=(mq R hd).mp (zN h2)
    refine ⟨_,rfl,_,rfl,_,_,rfl,rfl,?_⟩;refine ⟨_,rfl,_,_,rfl,rfl,⟨by decide,by decide⟩,?_⟩
    have e2:Builtin.bitXor ((2:Int) * (d:Int)) (r:Int)=((GF.dbl r w d:Nat):Int):=by
     rw [Int.mul_comm];exact xO (by omega)
    try dsimp only
    rw [e2,G];exact ⟨g / 2,al6 hg (by decide),f',GF.dbl r w d,g / 2,rfl,rfl,rfl,GF.dbl_lt R hd,l⟩
   ·have J:¬ 2 ^ w<=2 * d:=fun z=>h2 (zZ ((mq R hd).mpr z))
    refine ⟨_,rfl,_,_,rfl,rfl,⟨by decide,by decide⟩,?_⟩
    have e2:(2:Int) * (d:Int)=((GF.dbl r w d:Nat):Int):=by
     rw [Int.mul_comm];exact xP (r:=r) (by omega)
    try dsimp only
    rw [e2,G];exact ⟨g / 2,al6 hg (by decide),f',GF.dbl r w d,g / 2,rfl,rfl,rfl,GF.dbl_lt R hd,l⟩
  ·have hg:g=0:=by
    have:¬ ((0:Int) < g):=fun z=>h (zZ z);omega
   subst hg;rw [GF.tm_zero,ae5] at B;refine ⟨_,rfl,?_⟩
   show Q (.int (f:Nat)) H'
   rw [B];exact q
theorem qO (r w f b i:Nat):GF.sc r w (i+1) f b=GF.sc r w i f b+GF.tm r w f (b / (2 ^ w) ^ i % 2 ^ w) * (2 ^ w) ^ i:=by
 unfold GF.sc;rw [GF.syms_range,GF.syms_range,af9,ad6,ad6,ad8,List.map_nil,ad8,List.map_nil,GF.join_snoc,zM,zM,zS]
theorem qP {r w f b i:Nat} (h:b / (2 ^ w) ^ i=0):∀ j,GF.sc r w (i+j) f b=GF.sc r w i f b
 | 0=>rfl
 | j+1=>by
  have e:b / (2 ^ w) ^ (i+j)=0:=by
   rw [Nat.pow_add,← Nat.div_div_eq_div_mul,h,Nat.zero_div]
  rw [<- Nat.add_assoc,qO,e,Nat.zero_mod,GF.tm_zero,Nat.zero_mul,Nat.add_zero];exact qP h j
inductive mr (vs:List V) (H:Hp) (Q:VK) (E_3:XK):Prop
 | mk:∀ f b r w n:Nat,vs=[.int f,.int b,.int r]->GF.Good r w->f < 2 ^ w->b < (2 ^ w) ^ n->Q (.int (GF.sc r w n f b:Nat)) H->mr vs H Q E_3
theorem uD (T:Txt K mg a):FnO P wo K mg base 2 a.f57 ["_law_factor", "_law_block", "_law_rule_here"] mr:=by
 refine T.x57.F.okA (k:=1) sc_scaled (fun G A outer s H vs Q E hr h=>?_)
 ·obtain ⟨f,b,r,w,n,rfl,R,hf,hb,q⟩:=h
  have l:=R.w8
  have C:=R.top256
  have D:=R.top16
  exists xx
  exists xc (al (i:=3) sc_scaled.nd rfl (Or.inl rfl) (aq jX ai (aq eC (eE aj2 ag5 ag6 eG (pv 2)) ai)))
  exists xc (al (i:=4) sc_scaled.nd rfl (Or.inl rfl) ai)
  exists xc (al (i:=5) sc_scaled.nd rfl (Or.inl rfl) ai)
  refine xq ?_;refine xw PassesOwn.never (au cX (pv 1) ai (ax _)) ?_
  exists xc (al (i:=4) sc_scaled.nd rfl (Or.inl rfl) (aq aO (pv 4) (aq cM (ay (vV T) hr.u rfl T.x56.m T.x56.k T.x56.b .nil ao (aa (pv 0) (aa (aq aX (pv 1) (pv 3)) (aa (pv 2) ac)))) (pv 5))))
  exists xc (al (i:=1) sc_scaled.nd rfl (Or.inl rfl) (aq cC (pv 1) (pv 3)))
  exists xl (al (i:=5) sc_scaled.nd rfl (Or.inl rfl) (aq cM (pv 5) (pv 3)))
  intro u_
  exists xl (av (pv 4))
  have ew:((Builtin.Int.intBits (r:Int):Nat):Int) - 1=(w:Int):=by
   rw [cD R.rule.lo R.rule.hi];omega
  refine ⟨_,rfl,rfl,_,rfl,rfl,_,_,rfl,rfl,?_⟩;try dsimp only
  rw [ew];refine ⟨_,_,rfl,rfl,⟨by omega,by omega,by decide⟩,?_⟩
  try dsimp only
  rw [jE]
  refine ⟨fun m σ H'=>∃ i:Nat,i<=n/\m=n - i/\σ=[some (.int f),some (.int ((b / (2 ^ w) ^ i:Nat):Int)),some (.int r),some (.int ((2 ^ w:Nat):Int)),some (.int ((GF.sc r w i f b:Nat):Int)),some (.int (((2 ^ w) ^ i:Nat):Int))]/\H'=H,
   ⟨_,0,ab1 _,rfl,by rw [Nat.pow_zero,Nat.div_one];rfl,rfl⟩,?_⟩
  rintro m σ H' ⟨i,hi,rfl,rfl,rfl⟩;refine ⟨_,rfl,_,_,rfl,rfl,_,rfl,?_⟩;refine ite2 (fun h=>⟨_,fun _ _ z=>z,?_⟩) (fun h=>?_)
  ·have g:0 < b / (2 ^ w) ^ i:=by
    have:=zN h;omega
   have B:i < n:=by
    by_cases z:i < n
    ·exact z
    ·obtain rfl:i=n:=by omega
     rw [Nat.div_eq_of_lt hb] at g;omega
   have e1:((b / (2 ^ w) ^ i:Nat):Int) % ((2 ^ w:Nat):Int)=((b / (2 ^ w) ^ i % 2 ^ w:Nat):Int):=by rw [Int.natCast_emod]
   have e2:((b / (2 ^ w) ^ i:Nat):Int) / ((2 ^ w:Nat):Int)=((b / (2 ^ w) ^ (i+1):Nat):Int):=by rw [ag4,← Nat.div_div_eq_div_mul];exact (Int.natCast_ediv _ _).symm
   have tl:=GF.tm_lt R.rule hf (b:=b / (2 ^ w) ^ i % 2 ^ w);refine ⟨_,rfl,_,rfl,_,rfl,_,rfl,_,_,rfl,rfl,(by omega),?_⟩
   try dsimp only
   rw [e1];refine ⟨_,rfl,f,_,r,w,rfl,R.rule,l,hf,_,rfl,_,_,rfl,rfl,.inl ⟨by omega,by omega⟩,_,_,rfl,rfl,?_⟩
   refine ⟨_,rfl,_,rfl,_,_,rfl,rfl,⟨by omega,by omega⟩,?_⟩
   refine ⟨_,rfl,_,rfl,_,_,rfl,rfl,.inr ⟨by omega,by omega⟩,?_⟩
   try dsimp only
   rw [e2];refine ⟨n - (i+1),by omega,i+1,B,rfl,?_,rfl⟩
   rw [qO,ag4,Int.natCast_add,al7,al7];rfl
  ·have hz:b / (2 ^ w) ^ i=0:=by
    exact Nat.eq_zero_of_not_pos fun z=>h (zZ (Int.ofNat_lt.mpr z))
   have:=qP (r:=r) (f:=f) hz (n - i);rw [Nat.add_sub_cancel' hi] at this;refine ⟨_,rfl,?_⟩;rw [<- this];exact q
def zI (i j:Int):Prop:=i.natAbs < 2 ^ 1024/\j.natAbs < 2 ^ 1024
theorem qQ {X:Cx}:OpR X (binaryOp .Mult) (rI zI fun i j=>.int (i * j)):=opI fun i j _ _ _ _ _ hc q=>mul_int q (IntMulOk.of_le (intBits_le_iff.mpr hc.1) (intBits_le_iff.mpr hc.2) (by decide))
theorem mU {α β:Type}{xs:List α}{ys:List β}{x:α}{y:β} (hx:xs[j]?=some x) (hy:ys[j]?=some y):(xs.zip ys).take (j+1)=(xs.zip ys).take j++[(x,y)]:=by
 have h:(xs.zip ys)[j]?=some (x,y):=List.getElem?_zip_eq_some (z:=(x,y)).mpr ⟨hx,hy⟩;rw [am2,h];rfl
inductive qR (K:PySem.W.Frag) (vs:List V) (H:Hp) (Q:VK) (E_3:XK):Prop
 | mk:∀ (sl wl:Addr) (ps:List Addr) (r w n M N:Nat) (l:Nat->Nat->Nat) (xs:List Nat),vs=[.ref sl,.ref wl,.int r]->GF.Good r w->H sl=some (.lst (rowV xs))->xs.length=N->N<=8->M<=2->((∀ x∈xs,x < (2 ^ w) ^ n))->H wl=some (.lst (ps.map V.ref))->TabAt H ps M (rowT N l)->((∀ i k,i < M->k < N->l i k < 2 ^ w))->(∀ D H',Same H H'->H D=none->H' D=some (.lst (rowV (cu r w n M N l xs)))->Q (.ref D) H')->qR K vs H Q E_3
theorem qS (T:Txt K mg a):FnO P wo K mg base 3 a.f58 ["_law_some_here", "_law_weights", "_law_rule_here"] (qR K):=by
 refine T.x58.F.okA (k:=2) sc_make (fun L A outer s H vs Q E hr h=>?_)
 ·obtain ⟨sl,wl,ps,r,w,n,M,N,l,xs,rfl,R,g,hN,S,O,J,B,ht,hl,q⟩:=h
  exists xx
  exists xc (al (i:=3) sc_make.nd rfl (Or.inl rfl) (bP b7 rfl T.n_list (by decide +kernel) (aa (pv 0) ac)))
  refine xq ?_;refine xf PassesOwn.never rfl (aJ (pv 1)) (ar (i:=4) sc_make.nd rfl (Or.inl rfl)) ?_
  exists xc (al (i:=5) sc_make.nd rfl (Or.inl rfl) ai)
  refine xq ?_;refine xf PassesOwn.never rfl (ir rfl T.n_zip (aa (pv 4) (aa (pv 0) ac))) (eA rfl (aU (ar (i:=6) sc_make.nd rfl (Or.inl rfl)) (aU (ar (i:=7) sc_make.nd rfl (Or.inl rfl)) cB))) ?_
  exists xl (al (i:=5) sc_make.nd rfl (Or.inl rfl) (aq dE (pv 5) (ay (uD T) hr.u rfl T.x57.m T.x57.k T.x57.b .nil ao (aa (pv 6) (aa (pv 7) (aa (pv 2) ac))))))
  intro u_
  exists xl (aS (cn ac5 ad1 ad2 bc (pv 3) (aa (pv 5) ac)))
  intro u_
  exists xl (av (pv 3))
  have el:(ps.map V.ref).length=M:=by rw [zM,ht.len]
  refine ⟨_,rfl,sl,_,rfl,.inl (SqL.of g),fun D nD=>?_⟩
  have sD:=Same.new (o:=.lst (rowV xs)) nD
  have hD:(upd H D (.lst (rowV xs))) D=some (.lst (rowV xs)):=ab;generalize (upd H D (.lst (rowV xs)))=H1 at sD hD;refine ⟨_,rfl,wl,rfl,⟨_,SqL.of (sD _ _ B)⟩,?_⟩;refine let I_:Nat->L2.St->Hp->Prop:=fun i σ H'=>L2.A3 ((∃ v4 v5 v6 v7:Option V,σ=[some (.ref sl),some (.ref wl),some (.int r),some (.ref D),v4,v5,v6,v7])) (Same H H') (H' D=some (.lst (rowV (xs++(List.range i).map fun t=>GF.sumB r w n ((rowT N l t).zip xs)))));bR (xs:=ps.map V.ref) I_ ⟨⟨none,none,none,none,rfl⟩,sD,by rw [hD];simp⟩ ?_ ?_ ?_
  ·rintro i σ H' _ ⟨_,sm,_⟩
   exact SqL.of (sm _ _ B)
  ·rintro i x σ H' hx ⟨⟨v4,v5,v6,v7,rfl⟩,sm,h1⟩
   have hi:i < M:=by rw [<- el];exact (zV.mp hx).1
   obtain ⟨p,ep,hp⟩:=ht.get hi;rw [aZ ep] at hx
   cases zX hx;refine ⟨_,rfl,_,rfl,p,sl,_,_,rfl,SqL.of (sm _ _ hp),SqL.of (sm _ _ g),let I_:Nat->L2.St->Hp->Prop:=fun j σ H'=>L2.A3 ((∃ v6 v7:Option V,σ=[some (.ref sl),some (.ref wl),some (.int r),some (.ref D),some (.ref p),some (.int ((GF.sumB r w n (((rowT N l i).zip xs).take j):Nat):Int)),v6,v7])) (Same H H') (H' D=some (.lst (rowV (xs++(List.range i).map fun t=>GF.sumB r w n ((rowT N l t).zip xs)))));k6 (K:=K) (l1:=p) (l2:=sl) (xs:=rowV (rowT N l i)) (ys:=rowV xs) I_ ⟨⟨_,_,rfl⟩,sm,h1⟩ ?_ (by rw [aj,aj,aD,hN]) ?_ ?_⟩
   ·rintro j σ H2 _ ⟨_,s2,_⟩
    exact ⟨SqL.of (s2 _ _ hp),SqL.of (s2 _ _ g)⟩
   ·rintro j u v T' σ H2 hj hu hv hT ⟨⟨v6,v7,rfl⟩,s2,h2⟩
    obtain ⟨f,hf,rfl⟩:=aQ hu;obtain ⟨b,hb,rfl⟩:=aQ hv
    have s3:=s2.trans (Same.new (o:=.tup [V.int (f:Nat),V.int (b:Nat)]) hT)
    have h3:=(Same.new (o:=.tup [V.int (f:Nat),V.int (b:Nat)]) hT) _ _ h2;refine ⟨T',_,rfl,SqT.of ab,rfl,_,_,rfl,_,_,rfl,rfl,?_⟩;generalize (upd H2 T' (.tup [V.int (f:Nat),V.int (b:Nat)]))=H3 at s3 h3
    have I:f < 2 ^ w:=by
     have C:j < N:=by
      have:=(zV.mp hf).1;rw [aD] at this;exact this
     unfold rowT at hf;rw [zO,ab0 C] at hf
     cases hf;exact hl i j hi C
    refine ⟨_,rfl,_,rfl,_,rfl,_,rfl,f,b,r,w,n,rfl,R,I,J b (aa0 hb),_,_,rfl,rfl,?_⟩;try dsimp only
    rw [bK];refine ⟨⟨some (.int (f:Nat)),some (.int (b:Nat)),?_⟩,s3,h3⟩;rw [mU hf hb,GF.sumB_snoc];rfl
   ·rintro σ H2 ⟨⟨v6,v7,rfl⟩,s2,h2⟩
    have G:(rowV (xs++(List.range i).map fun t=>GF.sumB r w n ((rowT N l t).zip xs))).length < sizeLine:=by
     rw [aj,ab6,zM,zS];exact al0 (by omega:xs.length+i < 11) (by decide)
    refine ⟨_,rfl,.inl ⟨rfl,_,SqL.of h2⟩,_,rfl,D,_,_,rfl,rfl,h2,G,⟨_,_,_,_,rfl⟩,s2.up nD,?_⟩
    have ez:((rowT N l i).zip xs).take (rowV (rowT N l i)).length=(rowT N l i).zip xs:=List.take_of_length_le (by rw [aj,List.length_zip];omega)
    rw [ab,ez,af9,ad6,← am1,cj];rfl
  ·rintro σ H' ⟨⟨v4,v5,v6,v7,rfl⟩,sm,h1⟩
   rw [el] at h1;exact ⟨_,rfl,q D H' sm nD h1⟩
inductive qT (K:PySem.W.Frag) (vs:List V) (H:Hp) (Q:VK) (E_3:XK):Prop
 | mk:∀ (s:Addr) (ns:List Int) (st N L:Nat),vs=[.ref s,.int st,.int N,.int L]->SqL K H s (ns.map V.int)->ns.length<=63->st+N<=99->N<=8->0 < L->L<=2 ^ 128->(∀ D H' xs,Same H H'->H D=none->H' D=some (.lst (rowV xs))->xs.length=N->(∀ x∈xs,x < L)->Q (.ref D) H')->qT K vs H Q E_3
theorem qU (T:Txt K mg a):FnO P wo K mg base 2 a.f59 ["_law_script", "_law_start", "_law_many", "_law_limit"] (qT K):=by
 refine T.x59.F.okA (k:=1) sc_some (fun I A outer s H vs Q E hr h=>?_)
 ·obtain ⟨sa,ns,st,N,L,rfl,hS,hn,J,O,l,hL,q⟩:=h
  exists xx
  exists xc (al (i:=4) sc_some.nd rfl (Or.inl rfl) (bq ac))
  refine xq ?_;refine xf PassesOwn.never rfl (aW rfl T.n_range (aa (pv 2) ac)) (ar (i:=5) sc_some.nd rfl (Or.inl rfl)) ?_
  exists xc (al (i:=6) sc_some.nd rfl (Or.inl rfl) (aq aX (ay (ca T) hr.u rfl T.x53.m T.x53.k T.x53.b .nil ao (aa (pv 0) (aa (aq aO (pv 1) (pv 5)) ac))) (pv 3)))
  exists xl (aS (cn ac5 ad1 ad2 bc (pv 4) (aa (aq aX (aq qQ (pv 6) (aq aO (aq aO (aq yH ai ai) ai) (aq qQ ai (pv 5)))) (pv 3)) ac)))
  intro u_
  exists xl (av (pv 4))
  refine ⟨ab1 _,fun D nD=>?_⟩
  have sD:=Same.new (o:=.lst []) nD
  have hD:(upd H D (.lst [])) D=some (.lst []):=ab;generalize (upd H D (.lst []))=H1 at sD hD
  have r:(0:Int) < (L:Int):=by omega
  refine ⟨_,rfl,_,rfl,by omega,by omega,?_⟩
  rw [ac2];refine let I_:Nat->L2.St->Hp->Prop:=fun i σ H'=>L2.A3 ((∃ v5 v6:Option V,σ=[some (.ref sa),some (.int st),some (.int N),some (.int L),some (.ref D),v5,v6])) (Same H H') (L2.E1 fun (xs:List Nat)=>L2.A3 (H' D=some (.lst (rowV xs))) (xs.length=i) (∀ x∈xs,x < L));bO (lo:=0) (n:=N) I_ ⟨⟨none,none,rfl⟩,sD,[],hD,rfl,fun x hx=>absurd hx ab9⟩ ?_ ?_
  ·rintro i σ H' hi ⟨⟨v5,v6,rfl⟩,sm,xs,h1,g,hx⟩
   have ei:(0:Int)+(i:Nat)=((i:Nat):Int):=by omega
   rw [ei];refine ⟨_,rfl,_,rfl,_,rfl,_,_,rfl,rfl,?_⟩;try dsimp only
   rw [show (st:Int)+(i:Int)=((st+i:Nat):Int) by omega]
   refine ⟨sa,ns,st+i,rfl,sm.seq hS,by omega,hn,fun c=>?_⟩
   obtain ⟨y,hy,ey⟩:=modN c l;refine ⟨_,rfl,_,_,rfl,rfl,p0 r,?_⟩;try dsimp only
   rw [ey]
   have big:∀ z:Nat,z<=2 ^ 128->(z:Int).natAbs < 2 ^ 1024:=fun z h=>by
    rw [Int.natAbs_natCast];exact ae7 h (by decide +kernel)
   have C:i < 8:=by omega
   refine ⟨_,rfl,.inl ⟨rfl,_,SqL.of h1⟩,_,rfl,_,_,rfl,rfl,⟨by decide,by decide,by decide⟩,_,_,rfl,rfl,_,rfl,_,_,rfl,rfl,⟨by decide +kernel,big i (zR (ah4 C) (by decide))⟩,_,_,rfl,rfl,_,_,rfl,rfl,⟨big y (by omega),?_⟩,?_⟩
   ·have e:(10:Int) ^ (39:Int).toNat+7+2 * (i:Int)=((10 ^ 39+7+2 * i:Nat):Int):=by
     rw [Int.natCast_add,al7];rfl
    rw [e,Int.natAbs_natCast];exact ae7 (show 10 ^ 39+7+2 * i<=10 ^ 39+7+2 * 8 by omega) (by decide +kernel)
   obtain ⟨z,hz,ez⟩:=modN ((y:Int) * ((10:Int) ^ (39:Int).toNat+7+2 * (i:Int))) l;refine ⟨_,rfl,_,_,rfl,rfl,p0 r,?_⟩;try dsimp only
   rw [ez]
   have B:(rowV xs).length < sizeLine:=by
    rw [aj];exact al0 (by omega:xs.length < 9) (by decide)
   refine ⟨D,_,_,rfl,rfl,h1,B,⟨_,_,rfl⟩,sm.up nD,xs++[z],by rw [ab,← cj],by rw [ab6,g];rfl,fun x G=>?_⟩
   rcases ab5.mp G with y | y
   ·exact hx x y
   ·rw [aa6.mp y];exact hz
  ·rintro σ H' ⟨⟨v5,v6,rfl⟩,sm,xs,h1,g,hx⟩
   exact ⟨_,rfl,q D H' xs sm nD h1 g hx⟩
inductive oK (vs:List V) (H:Hp) (Q:VK) (E_3:XK):Prop
 | mk:∀ c:Int,vs=[.int c]->(∀ (t:Addr) (H':Hp) (N M:Nat),1<=M->M<=2->1<=N->N+M<=8->H t=none->Same H H'->H' t=some (.tup [.int (N:Nat),.int (M:Nat)])->Q (.ref t) H')->oK vs H Q E_3
theorem vW (T:Txt K mg a):FnO P wo K mg base 1 a.f61 ["_law_cell_here"] oK:=by
 refine T.x61.F.okA (k:=0) sc_sizes (fun B A outer s H vs Q E hr h=>?_)
 ·obtain ⟨c,rfl,q⟩:=h
  exists xx
  exists xc (al (i:=1) sc_sizes.nd rfl (Or.inl rfl) (aq aO ai (aq aX (pv 0) ai)))
  exists xl (av (eD (aa (aq aO ai (aq aX (aq cC (pv 0) ai) (aq eC ai (pv 1)))) (aa (pv 1) ac))))
  obtain ⟨m0,C,g⟩:=modN c (n:=2) (by decide)
  have g:c % 2=(m0:Int):=g;refine ⟨_,rfl,_,_,rfl,rfl,p0 (by decide),_,_,rfl,rfl,?_⟩
  try dsimp only
  rw [g,show (1:Int)+(m0:Int)=((1+m0:Nat):Int) by omega]
  obtain ⟨n0,r,l⟩:=modN (c / 2) (n:=8 - (1+m0)) (by omega)
  have e8:(8:Int) - ((1+m0:Nat):Int)=((8 - (1+m0):Nat):Int):=by omega
  refine ⟨_,rfl,_,_,rfl,rfl,⟨by decide,by decide⟩,_,rfl,_,_,rfl,rfl,_,_,rfl,rfl,(by rw [e8];omega),_,_,rfl,rfl,_,rfl,(by show 2<=sizeLine;decide),fun t nt=>?_⟩
  refine q t _ (1+n0) (1+m0) (by omega) (by omega) (by omega) (by omega) nt (Same.new nt) ?_
  rw [ab];try dsimp only
  rw [e8,l];rfl
inductive oM (vs:List V) (H:Hp) (Q:VK) (E_3:XK):Prop
 | mk:∀ (c:Int) (R:Nat),vs=[.int c,.int R]->R<=8->(∀ D H' (cs:List Nat),Same H H'->H D=none->H' D=some (.lst (rowV cs))->cs.length=R->(∀ x∈cs,1<=x/\x<=9)->Q (.ref D) H')->oM vs H Q E_3
theorem vX (T:Txt K mg a):FnO P wo K mg base 1 a.f62 ["_law_cell_here", "_law_roles"] oM:=by
 refine T.x62.F.okA (k:=0) sc_costs (fun C A outer s H vs Q E hr h=>?_)
 ·obtain ⟨c,R,rfl,hR,q⟩:=h
  exists xx
  exists xc (al (i:=2) sc_costs.nd rfl (Or.inl rfl) (aq aX (pv 0) ai))
  exists xc (al (i:=3) sc_costs.nd rfl (Or.inl rfl) (bq ac))
  refine xq ?_;refine xf PassesOwn.never rfl (aW rfl T.n_range (aa (pv 1) ac)) (ar (i:=4) sc_costs.nd rfl (Or.inl rfl)) ?_
  exists xc (aS (cn ac5 ad1 ad2 bc (pv 3) (aa (aq aO ai (aq aX (pv 2) ai)) ac)))
  exists xl (al (i:=2) sc_costs.nd rfl (Or.inl rfl) (aq cC (pv 2) ai))
  intro u_
  exists xl (av (pv 3))
  obtain ⟨z0,_,r⟩:=modN c (n:=43046721) (by decide)
  refine ⟨_,rfl,_,_,rfl,rfl,p0 (by decide),?_⟩
  try dsimp only
  rw [show c % 43046721=(z0:Int) from r];refine ⟨ab1 _,fun D nD=>?_⟩
  have sD:=Same.new (o:=.lst []) nD
  have hD:(upd H D (.lst [])) D=some (.lst []):=ab;generalize (upd H D (.lst []))=H1 at sD hD;refine ⟨_,rfl,_,rfl,by omega,by omega,?_⟩
  rw [ac2];refine let I_:Nat->L2.St->Hp->Prop:=fun i σ H'=>L2.A3 ((∃ (v4:Option V) (z:Nat),σ=[some (.int c),some (.int R),some (.int z),some (.ref D),v4])) (Same H H') (L2.E1 fun (cs:List Nat)=>L2.A3 (H' D=some (.lst (rowV cs))) (cs.length=i) (∀ x∈cs,1<=x/\x<=9));bO (lo:=0) (n:=R) I_ ⟨⟨none,z0,rfl⟩,sD,[],hD,rfl,fun x hx=>absurd hx ab9⟩ ?_ ?_
  ·rintro i σ H' hi ⟨⟨v4,z,rfl⟩,sm,cs,h1,g,hx⟩
   have l:(rowV cs).length < sizeLine:=by
    rw [aj];exact al0 (by omega:cs.length < 9) (by decide)
   refine ⟨_,rfl,.inl ⟨rfl,_,SqL.of h1⟩,_,rfl,_,_,rfl,rfl,p0 (by decide),_,_,rfl,rfl,D,_,_,rfl,rfl,h1,l,?_⟩
   refine ⟨_,rfl,_,_,rfl,rfl,⟨by decide,by decide⟩,?_⟩
   try dsimp only
   rw [show (z:Int) / 9=((z / 9:Nat):Int) by omega,show (1:Int)+(z:Int) % 9=((1+z % 9:Nat):Int) by omega]
   refine ⟨⟨_,_,rfl⟩,sm.up nD,cs++[1+z % 9],by rw [ab,← cj],by rw [ab6,g];rfl,fun x B=>?_⟩
   rcases ab5.mp B with y | y
   ·exact hx x y
   ·rw [aa6.mp y];omega
  ·rintro σ H' ⟨⟨v4,z,rfl⟩,sm,cs,h1,g,hx⟩
   exact ⟨_,rfl,q D H' cs sm nD h1 g hx⟩
def fx (r w M N:Nat) (l:Nat->Nat->Nat) (ks:List Bool) (k:Nat):Bool:=ks.getD k false || fixB r w M N l ks k
theorem yW {k:Nat} (h:k < ks.length):ks[k]?=some (ks.getD k false):=by
 rw [zK,zL h];rfl
inductive qV (K:PySem.W.Frag) (a:Adr) (vs:List V) (H:Hp) (Q:VK) (E_3:XK):Prop
 | mk:∀ (c bp fp kn:Addr) (r w n M N k:Nat) (l:Nat->Nat->Nat) (ks:List Bool),vs=[.ref c,.ref kn,.int k]->CodeAt a H c bp fp r w n M N l->GF.Full r w->Wts w M N l->H kn=some (.lst (knV ks))->ks.length=N+M->k < N+M->(∀ H',Same H H'->Q (.bl (fx r w M N l ks k)) H')->qV K a vs H Q E_3
theorem ib (T:Txt K mg a):FnO P wo K mg base 8 a.f25 ["self", "known", "role"] (qV K a):=by
 refine T.x25.F.okA (k:=7) mQ (fun O A outer s H vs Q E hr h=>?_)
 ·obtain ⟨c,bp,fp,kn,r,w,n,M,N,k,l,ks,rfl,hC,g,W,G,B,hk,q⟩:=h
  obtain ⟨dx,Lp,qs,h1,h2,h3⟩:=id hC.ins
  exists xx
  exists xc (aS (aE (pv 0) T.cl_Code T.x24.me (eM T) hr.u T.x24.b .nil ao (aa (pv 2) ac)))
  exists xl (av (wC (aI aH (pv 1) (pv 2) (fun _ _=>rfl)) (ie (dP bU (aI io (aE (pv 0) T.cl_Code T.x23.me (iN T) hr.u T.x23.b .nil ao (aa (pv 1) (aa (pv 2) ac))) ai (fun _ _=>rfl)) jU (ax _)))))
  refine ⟨_,rfl,c,dx,_,rfl,h1,rfl,_,rfl,c,bp,fp,r,w,n,M,N,k,l,rfl,hC,hk,?_⟩
  have hb:=yW (ks:=ks) (k:=k) (by omega)
  have J:(knV ks)[k]?=some (.bl (ks.getD k false)):=by unfold knV;rw [zO,hb];rfl
  refine ⟨_,rfl,_,rfl,kn,_,_,_,rfl,rfl,SqL.of G,aC J,_,rfl,?_⟩;unfold fx at q
  cases hz:ks.getD k false with
  | true =>
   rw [hz] at q;refine ite2 (fun _=>?_) (fun z=>absurd rfl z);exact q H (Same.refl _)
  | false =>
   rw [hz] at q hb;refine ite2 (fun z=>absurd z (by decide)) (fun _=>?_)
   refine ⟨_,rfl,c,dx,_,rfl,h1,rfl,_,rfl,_,rfl,c,bp,fp,kn,r,w,n,M,N,k,l,ks,rfl,hC,g,W,G,B,hk,hb,fun D H1 s1 nD I fr=>?_⟩;rcases I with ⟨e,L,hD,he,C⟩ | ⟨e,mk,hD,he,C⟩
   ·refine ⟨D,_,_,_,rfl,rfl,SqT.of hD,rfl,rfl,?_⟩
    try dsimp only
    rw [zZ rfl]
    have:=q H1 s1;rw [mj g W B hk hz C] at this;exact this
   ·refine ⟨D,_,_,_,rfl,rfl,SqT.of hD,rfl,rfl,?_⟩
    try dsimp only
    rw [aa9 (fun z=>absurd (V.str.inj z) (by decide))]
    have:=q H1 s1;rw [mm g W B hk hz C] at this;exact this
inductive kK (K:PySem.W.Frag) (a:Adr) (vs:List V) (H:Hp) (Q:VK) (E_3:XK):Prop
 | mk:∀ (c bp fp kn so:Addr) (r w n M N:Nat) (l:Nat->Nat->Nat) (ks:List Bool) (rs:List Nat),vs=[.ref c,.ref kn,.ref so]->CodeAt a H c bp fp r w n M N l->GF.Full r w->Wts w M N l->H kn=some (.lst (knV ks))->ks.length=N+M->SqL K H so (rowV rs)->((∀ k∈rs,k < N+M))->(∀ H',Same H H'->Q (.bl (rs.all (fx r w M N l ks))) H')->kK K a vs H Q E_3
theorem fI (T:Txt K mg a):FnO P wo K mg base 9 a.f30 ["code", "known", "some"] (kK K a):=by
 refine T.x30.F.okA (k:=8) sc_fixes_all (fun L A outer s H vs Q E hr h=>?_)
 ·obtain ⟨c,bp,fp,kn,so,r,w,n,M,N,l,ks,rs,rfl,hC,g,W,G,I,C,J,q⟩:=h
  exists xx
  refine xq ?_;refine xf PassesOwn.never rfl (aJ (pv 2)) (ar (i:=3) sc_fixes_all.nd rfl (Or.inl rfl)) ?_;refine x1 ?_;refine xi (bQ (bd (aE (pv 0) T.cl_Code T.x25.me (ib T) hr.u T.x25.b .nil ao (aa (pv 1) (aa (pv 3) ac))))) ?_
  exists xl (av dC)
  refine ⟨_,aF,?_⟩;intro u_;intro u_
  exists xl (av dC)
  refine ⟨_,rfl,so,rfl,⟨_,C⟩,?_⟩;refine let I_:Nat->L2.St->Hp->Prop:=fun i σ H'=>L2.A3 ((∃ v3:Option V,σ=[some (.ref c),some (.ref kn),some (.ref so),v3])) (Same H H') ((rs.take i).all (fx r w M N l ks)=true);bR (xs:=rowV rs) I_ ⟨⟨none,rfl⟩,Same.refl _,rfl⟩ ?_ ?_ ?_
  ·rintro i σ H' _ ⟨_,sm,_⟩
   exact sm.seq C
  ·rintro i x σ H' hx ⟨⟨v3,rfl⟩,sm,B⟩
   obtain ⟨k,ek,rfl⟩:=aQ hx
   have hk:=J k (aa0 ek)
   have D:=hC.same sm;obtain ⟨dx,Lp,qs,h1,_,_⟩:=id D.ins;refine ⟨_,rfl,c,dx,_,rfl,h1,rfl,_,rfl,_,rfl,c,bp,fp,kn,r,w,n,M,N,k,l,ks,rfl,D,g,W,sm _ _ G,I,hk,fun H2 s2=>?_⟩;refine ⟨_,rfl,?_⟩
   cases hz:fx r w M N l ks k with
   | true =>
    refine ite2 (fun z=>absurd z (by decide)) (fun _=>⟨⟨_,rfl⟩,sm.trans s2,?_⟩)
    rw [am2,ek,List.all_append,B]
    show (true && ([k].all (fx r w M N l ks)))=true
    rw [aj3,hz];rfl
   | false =>
    refine ite2 (fun _=>?_) (fun z=>absurd rfl z)
    have:rs.all (fx r w M N l ks)=false:=by
     rw [Bool.eq_false_iff];intro z
     have:=ab4.mp z k (aa0 ek);rw [hz] at this
     cases this
    rw [this] at q;exact q H2 (sm.trans s2)
  ·rintro σ H' ⟨⟨v3,rfl⟩,sm,B⟩
   rw [aj,ai1] at B;rw [B] at q;exact q H' sm
def af (c f cl rl sl:Addr):List (Str × V):=[("code",.ref c),("ask",.ref f),("costs",.ref cl),("row",.ref rl),("asked",.ref sl)]
theorem cF (c f cl rl sl:Addr):(af c f cl rl sl).lookup ("code" : Str)=some (.ref c):=rfl
theorem yX (c f cl rl sl:Addr):(af c f cl rl sl).lookup ("ask" : Str)=some (.ref f):=rfl
theorem du (c f cl rl sl:Addr):(af c f cl rl sl).lookup ("costs" : Str)=some (.ref cl):=rfl
theorem fJ (c f cl rl sl:Addr):(af c f cl rl sl).lookup ("row" : Str)=some (.ref rl):=rfl
theorem gO (c f cl rl sl:Addr):(af c f cl rl sl).lookup ("asked" : Str)=some (.ref sl):=rfl
inductive mv (K:PySem.W.Frag) (a:Adr) (vs:List V) (H:Hp) (Q:VK) (E_3:XK):Prop
 | mk:∀ (x dx c bp fp f cl0:Addr) (r w n M N:Nat) (l:Nat->Nat->Nat) (cs:List (Option Nat)),vs=[.ref x,.ref c,.ref f,.ref cl0]->H x=some (.ins a.C_Asking dx [])->CodeAt a H c bp fp r w n M N l->Wts w M N l->SqL K H cl0 (rowO cs)->cs.length<=8->(∀ H' cl rl sl,(∀ b o,b≠x->H b=some o->H' b=some o)->H' x=some (.ins a.C_Asking dx (af c f cl rl sl))->H cl=none->H rl=none->H sl=none->cl≠rl->cl≠sl->rl≠sl->H' cl=some (.lst (rowO cs))->H' rl=some (.lst (rowO (List.replicate (N+M) none)))->H' sl=some (.lst (rowV []))->Q .non H')->mv K a vs H Q E_3
theorem lw (T:Txt K mg a):FnO P wo K mg base 1 a.f31 ["self", "code", "ask", "costs"] (mv K a):=by
 refine T.x31.F.okA (k:=0) lj (fun a3 A outer s H vs Q E hr h=>?_)
 ·obtain ⟨x,dx,c,bp,fp,f,ad,r,w,n,M,N,l,cs,rfl,hx,hC,W,an,a2,q⟩:=h
  obtain ⟨dc,Lp,qs,h1,_,_⟩:=id hC.ins
  have n8:=W.n8
  have L:c≠x:=fun z=>by
   rw [z,hx] at h1
   have:=(HO.ins.inj (zX h1)).2.2;unfold cf at this
   cases this
  exists xx
  exists xc (bE (pv 0) (pv 1) rfl)
  exists xc (bE (pv 0) (pv 2) rfl)
  exists xc (bE (pv 0) (bP b7 rfl T.n_list (by decide +kernel) (aa (pv 3) ac)) rfl)
  exists xc (bE (pv 0) (aq ip (bq (aa aR ac)) (az (pv 1) rfl)) rfl)
  exists xl (bE (pv 0) (bq ac) rfl)
  refine ⟨_,rfl,_,rfl,x,a.C_Asking,dx,_,rfl,hx,T.cl_Asking,T.no_Asking_code,(by decide),?_⟩
  refine ⟨_,rfl,_,rfl,x,a.C_Asking,dx,_,rfl,ab,T.cl_Asking,T.no_Asking_ask,(by show (1:Nat) < 1000;decide),?_⟩
  dsimp only;rw [bA]
  have aw:putF "ask" (.ref f) (putF "code" (.ref c) [])=[(("code" : Str),V.ref c),(("ask" : Str),.ref f)]:=rfl
  rw [aw]
  have fr:∀ {fs:List (Str × V)}{b:Addr},(upd H x (.ins a.C_Asking dx fs)) b=none->H b=none:=fun {fs b} z=>by
   by_cases e:b=x
   ·rw [e,ab] at z;cases z
   ·rwa [ae e] at z
  have ak:SqL K (upd H x (.ins a.C_Asking dx [(("code" : Str),V.ref c),(("ask" : Str),.ref f)])) ad (rowO cs):=by
   rcases an with (z | ⟨o,z⟩) | z
   ·exact .inl (.inl (by rw [ae (aN z hx (fun y=>by cases y))];exact z))
   ·exact .inl (.inr ⟨o,by rw [ae (aN z hx (fun y=>by cases y))];exact z⟩)
   ·exact .inr z
  refine ⟨_,rfl,ad,_,rfl,.inl ak,fun cl S=>?_⟩
  have C:=fr S
  have g:x≠cl:=fun z=>by rw [<- z,ab] at S;cases S
  refine ⟨_,rfl,x,a.C_Asking,dx,_,rfl,(by rw [ae g];exact ab),T.cl_Asking,T.no_Asking_costs,(by show (2:Nat) < 1000;decide),?_⟩
  refine ⟨(show 1<=sizeLine by decide),fun p1 n1=>?_⟩
  have G:x≠p1:=fun z=>by rw [<- z,ab] at n1;cases n1
  have I:p1≠cl:=fun z=>by rw [z,ae (ad3 g),ab] at n1;cases n1
  have a1:(upd (upd (upd (upd H x (.ins a.C_Asking dx [(("code" : Str),V.ref c),(("ask" : Str),.ref f)])) cl (.lst (rowO cs))) x (.ins a.C_Asking dx (putF "costs" (.ref cl) [(("code" : Str),V.ref c),(("ask" : Str),.ref f)]))) p1 (.lst [V.non])) c=some (.ins a.C_Code dc (cf bp M N Lp)):=by
   have n2:c≠p1:=fun z=>by
    rw [<- z,ae L,ae (fun y=>by rw [y,C] at h1;cases h1),ae L,h1] at n1
    cases n1
   rw [ae n2,ae L,ae (fun y=>by rw [y,C] at h1;cases h1),ae L]
   exact h1
  refine ⟨_,rfl,c,_,_,_,_,rfl,a1,T.cl_Code,T.no_Code_roles,fG bp M N Lp,p1,_,_,rfl,rfl,ab,by omega,by omega,?_,fun rl nrl=>?_⟩
  ·rw [ac2]
   show 1 * (N+M)<=sizeLine
   exact zR (by omega:1 * (N+M)<=30) (by decide)
  have B:x≠rl:=fun z=>by rw [<- z,ae G,ab] at nrl;cases nrl
  have Z:rl≠p1:=fun z=>by rw [z,ab] at nrl;cases nrl
  have J:rl≠cl:=fun z=>by rw [z,ae (ad3 I),ae (ad3 g),ab] at nrl;cases nrl
  have U:H rl=none:=by
   rw [ae Z,ae (ad3 B),ae J,ae (ad3 B)] at nrl;exact nrl
  refine ⟨_,rfl,x,a.C_Asking,dx,_,rfl,(by rw [ae B,ae G];exact ab),T.cl_Asking,T.no_Asking_row,(by show (3:Nat) < 1000;decide),?_⟩
  refine ⟨ab1 _,fun sl nsl=>?_⟩
  have D:x≠sl:=fun z=>by rw [<- z,ab] at nsl;cases nsl
  have O:sl≠rl:=fun z=>by rw [z,ae (ad3 B),ab] at nsl;cases nsl
  have a0:sl≠p1:=fun z=>by rw [z,ae (ad3 G),ae (ad3 Z),ab] at nsl;cases nsl
  have X:sl≠cl:=fun z=>by rw [z,ae (ad3 g),ae (ad3 J),ae (ad3 I),ae (ad3 g),ab] at nsl;cases nsl
  have Y:H sl=none:=by
   rw [ae (ad3 D),ae O,ae a0,ae (ad3 D),ae X,ae (ad3 D)] at nsl;exact nsl
  have aT:H p1=none:=by
   rw [ae (ad3 G),ae I,ae (ad3 G)] at n1;exact n1
  refine ⟨_,rfl,x,a.C_Asking,dx,_,rfl,(by rw [ae D];exact ab),T.cl_Asking,T.no_Asking_asked,(by show (4:Nat) < 1000;decide),?_⟩
  refine q _ cl rl sl (fun b o hb hz=>?_) ab C U Y (ad3 J) (ad3 X) (ad3 O) ?_ ?_ ?_
  ·have f1:∀ y,H y=none->b≠y:=fun y ny e=>by rw [e,ny] at hz;cases hz
   rw [ae hb,ae (f1 sl Y),ae hb,ae (f1 rl U),ae (f1 p1 aT),ae hb,ae (f1 cl C),ae hb];exact hz
  ·rw [ae (ad3 g),ae (ad3 X),ae (ad3 g),ae (ad3 J),ae (ad3 I),ae (ad3 g),ab]
  ·rw [ae (ad3 B),ae (ad3 O),ae (ad3 B),ab]
   have:(List.replicate (((N+M:Nat):Int)).toNat [V.non]).flatten=rowO (List.replicate (N+M) none):=by
    rw [ac2];unfold rowO;rw [List.map_replicate];generalize N+M=R
    induction R with
    | zero=>rfl
    | succ R ih=>rw [ag2,ai7,ih];rfl
   rw [this]
  ·rw [ae (ad3 D),ab]
   rfl
theorem okC2 {w:World}{x qual:Str}{st:Stmt}{f:Addr}{N ps:List Str}{k:Nat}{sp:Sp}{oc:Value}{od an:Option Addr}{osl:Array (Option Value)}{kV doc pm cdv ct:Value} (lk:K.lookup f=some ⟨oc,od,.func (PySem.W.fnOf x qual (bv st) (aY st) (ah st) .none kV doc pm an cdv ct),osl⟩) (hcd:PySem.W.codeIn K cdv qual=true) (S:ap N ps (ah st)) (len:∀ vs H Q E,sp vs H Q E->vs.length=ps.length)
  (hbody:∀ (A:Around) (outer:List Env) (s:Shared) (H:Hp) (vs:List V) (Q:VK) (E:XK),Room k (A.deeper (envOfC qual (ah st) s.heap.objs.size f cdv))->sp vs H Q E →
   ∃ t,PSR (cxOf CX0 P w K mg base N qual (ah st) f cdv A outer s H E).nox (aY st) t/\t (fun v σ H'=>∃ cvs,tN N (ah st) (cellsFrom (s.heap.objs.size+1) (ah st).names []) σ cvs/\((∀ c v,cvs.lookup c=some v->H' c=none/\H c=none)->Q v (trC cvs H'))) (start N vs) H):FnOk P w K mg base CX0 (k+1) f (PySem.W.fnOf x qual (bv st) (aY st) (ah st) .none kV doc pm an cdv ct) ps sp:=by
 refine ⟨len,fun A outer s H O us vs Q E hr e0 hb r C=>?_⟩
 have hl:=len _ _ _ _ C
 have KX:K.In s.heap:=e0.mod.kin.keeps fun b o e=>(e0.bs b o e).1
 have L:s.heap.NoLimit:=e0.mod.nolimit.keeps fun b o e=>(e0.bs b o e).1
 have h:∀ y∈ps.zip us,(ah st).names.lookup y.1=some .local\/((ah st).names.lookup y.1=some .cell/\((cellsFrom (s.heap.objs.size+1) (ah st).names []).lookup y.1).isSome=true):=fun ⟨n,v⟩ hy=>by
  rcases S.par n (al4 hy).1 with q | q
  ·exact .inl q
  ·exact .inr ⟨q,PySem.W.cellsFrom_some _ _ _ (.inl q)⟩
 refine codeAny_call_function hr.depth (KX _ _ lk) rfl S.co S.gen rfl (PySem.W.codeRec_of KX hcd) (hb _ _ _ _ ?_);refine wpAny_newFunctionEnv_cells S.kind h fun env he s1 y=>?_;subst he;refine ⟨L.keeps y.toInCall.keep,codeAny_func ?_⟩;obtain ⟨t,ht,hq⟩:=hbody A outer s H vs Q E (hr.deeper _) C
 have I:Inv (cxOf CX0 P w K mg base N qual (ah st) f cdv A outer s H E) [] (start N vs) H s1:=lH S hr.hd e0 hl r y;refine af3 (ht [] s1 (start N vs) H _ (I.wish _) hq) (fun fl s' hs=>?_) fun e s' hs=>False.elim hs;obtain ⟨v,σ',H',u,rfl,J0,rv,cvs,G,hQ⟩:=hs
 have J:=J0.unwish
 have B:Un (frs outer) [] H H' s.heap s'.heap:=J.base
 have cell:∀ c v,cvs.lookup c=some v->H' c=none/\s.heap.objs.size<=c/\∃ u,RelV v u/\s'.heap.IsCell c (some u):=fun c v e=>by
  obtain ⟨i,y,h1,h2,h3,h4⟩:=G c v e;obtain ⟨m,hn,hl⟩:=J.loc;obtain ⟨u,ru,l⟩:=hl i y v h1 h2 (.inr (.inl h4));refine ⟨J.freeC y c h3,J.ok.cab y c rfl h3,u,ru,?_⟩;rcases l with ⟨l,_⟩ | ⟨_,c',e',z⟩
  ·have l:(ah st).names.lookup y=some .local:=l
   rw [h4] at l
   cases l
  ·have e':(cellsFrom (s.heap.objs.size+1) (ah st).names []).lookup y=some c':=e'
   rw [h3] at e'
   cases e';exact z
 have D:∀ b o,s.heap.get? b=some o->cvs.lookup b=none:=fun b o e=>by
  cases z:cvs.lookup b with
  | none=>rfl
  | some v=>exact absurd (zU e) (Nat.not_lt.mpr (cell b v z).2.1)
 have g:∀ b x,H' b=some x->cvs.lookup b=none:=fun b x e=>by
  cases z:cvs.lookup b with
  | none=>rfl
  | some v=>rw [(cell b v z).1] at e;cases e
 refine ⟨v,trC cvs H',J.os,J.bare,⟨B.keep,B.slot,fun b o e n hx=>(bG (D b o e)).trans (B.free b o e n hx),B.there,fun b xs e=>?_,fun b o x e=>?_,fun b ps e=>?_⟩,qk J.hok (fun c v e=>(cell c v e).1) (fun c v e=>(cell c v e).2.2),rv,hQ fun c v e=>⟨(cell c v e).1,e0.hok.fresh (cell c v e).2.1⟩⟩
 ·have z:=B.tups b xs e
  exact (bG (g b _ z)).trans z
 ·have z:=B.frzs b o x e
  exact (bG (g b _ z)).trans z
 ·obtain ⟨more,z⟩:=B.tbls b ps e
  exact ⟨more,(bG (g b _ z)).trans z⟩
variable {c t:Addr}
theorem uE {w:World}{x qual:Str}{st:Stmt}{f:Addr}{fd:FuncData}{N ps:List Str}{k:Nat}{sp:Sp} (F:FunT K x qual st f fd c t) (S:ap N ps (ah st)) (len:∀ vs H Q E,sp vs H Q E->vs.length=ps.length)
  (hbody:∀ (A:Around) (outer:List Env) (s:Shared) (H:Hp) (vs:List V) (Q:VK) (E:XK),Room k (A.deeper (envOfC qual (ah st) s.heap.objs.size f (.ref c)))->sp vs H Q E →
   ∃ t,PSR (cxOf CX0 P w K mg base N qual (ah st) f (.ref c) A outer s H E).nox (aY st) t/\t (fun v σ H'=>∃ cvs,tN N (ah st) (cellsFrom (s.heap.objs.size+1) (ah st).names []) σ cvs/\((∀ c v,cvs.lookup c=some v->H' c=none/\H c=none)->Q v (trC cvs H'))) (start N vs) H):FnOk P w K mg base CX0 (k+1) f fd ps sp:=by
 obtain ⟨oc,od,kV,h,pm,an,ct,osl,rfl,lk,g⟩:=F.ex;exact okC2 lk g S len hbody
def TabS (H:Hp) (t:Addr) (p:Pos) (q:Str):Prop:=∃ ps,H t=some (.tbl ps)/\(ps = #[]\/∃ c',ps = #[rawInt p.line,rawInt p.col,.ref c']/\H c'=some (dm q c'))
variable {q:Str}
theorem TabS.keep {p:Pos} (h:TabS H t p q) (k:Same H H'):TabS H' t p q:=by
 obtain ⟨ps,h1,h2⟩:=h;refine ⟨ps,k _ _ h1,?_⟩;rcases h2 with h2 | ⟨c',e,h2⟩
 ·exact .inl h2
 ·exact .inr ⟨c',e,k _ _ h2⟩
theorem oN {P:Addr}{pos:Pos}{mk:Value->Value->Value->Value->FuncData}{σ:L2.St}{Q:VK} (ht:TabS H P pos q)
  (h:∀ (H1:Hp) (c' fa:Addr) (doc pm ctv:Value),(∀ b o,b≠P->H b=some o->H1 b=some o)->TabS H1 P pos q->H fa=none->H1 fa=some (FunO fa (mk doc pm (.ref c') ctv))->H1 c'=some (dm q c')->(∀ b,H1 b=none->H b=none)->Q (.ref fa) H1):tFn P pos q mk σ H Q:=by
 obtain ⟨ps,hP,h2⟩:=ht;rcases h2 with rfl | ⟨c0,rfl,g⟩
 ·refine ⟨#[],hP,trivial,.inl ⟨rfl,fun c' fa doc pm ctv n1 n2 ne=>h _ c' fa doc pm ctv (fun b o hb e=>?_) ⟨_,?_,.inr ⟨c',rfl,?_⟩⟩ n2 ab ?_ fun b e=>?_⟩⟩
  ·rw [ae (am e n2),ae (am e n1),ae hb];exact e
  ·rw [ae (am hP n2),ae (am hP n1)];exact ab
  ·rw [ae ne.symm];exact ab
  ·rw [ae ne.symm];exact ab
  ·by_cases z1:b=fa
   ·rw [z1];exact n2
   rw [ae z1] at e
   by_cases z2:b=c'
   ·rw [z2];exact n1
   rw [ae z2] at e
   by_cases z3:b=P
   ·rw [z3,ab] at e;cases e
   rwa [ae z3] at e
 ·refine ⟨_,hP,⟨⟩,.inr ⟨c0,?_,g,fun fa doc pm ctv n=>h _ c0 fa doc pm ctv (fun b o _ e=>?_) ⟨_,?_,.inr ⟨c0,rfl,?_⟩⟩ n ab ?_ fun b e=>?_⟩⟩
  ·show codeAmong pos [rawInt pos.line,rawInt pos.col,.ref c0]=some (.ref c0)
   simp [codeAmong,rawInt]
  ·rw [ae (am e n)];exact e
  ·rw [ae (am hP n)];exact hP
  ·rw [ae (am g n)];exact g
  ·rw [ae (am g n)];exact g
  ·by_cases z1:b=fa
   ·rw [z1];exact n
   rwa [ae z1] at e
def inA:Stmt:=(aY lh).getD 0 (.Pass ⟨0,0,0,0⟩)
def posD:Stmt->Pos
 | .FunctionDef _ _ _ _ _ _ _ _ _ p=>p
 | _=>⟨0,0,0,0⟩
def qA:Str:="_law_asker" ++ Str.ofString ".<locals>." ++ Str.ofString "_law_ask"
def clA (c1 c2:Addr):List (Str × Addr):=[("_law_seen_here",c2),("_law_row",c1)]
structure AskerAt (H:Hp) (f rw z:Addr):Prop where
 ex:∃ (c' c1 c2:Addr) (doc pm ctv:Value),H f=some (FunO f (PySem.W.fnX "_law_ask" qA (bv inA) (aY inA) (ah inA) (clA c1 c2) .none .none doc pm none (.ref c') ctv))∧H c'=some (dm qA c')∧H c1=some (CelO c1 (.ref rw))∧H c2=some (CelO c2 (.ref z))∧c1≠c2
theorem AskerAt.same {f rw z:Addr} (h:AskerAt H f rw z) (s:Same H H'):AskerAt H' f rw z:=by
 obtain ⟨c',c1,c2,g,pm,l,h1,h2,h3,h4,h5⟩:=h.ex;exact ⟨c',c1,c2,g,pm,l,s _ _ h1,s _ _ h2,s _ _ h3,s _ _ h4,h5⟩
inductive qX (a:Adr) (vs:List V) (H:Hp) (Q:VK) (E_3:XK):Prop
 | mk:∀ (rw z:Addr),vs=[.ref rw,.ref z]->TabS H a.t64 (posD inA) qA->(∀ (H':Hp) (f:Addr),(∀ b o,b≠a.t64->H b=some o->H' b=some o)->TabS H' a.t64 (posD inA) qA->H f=none->AskerAt H' f rw z->(∀ b,H' b=none->H b=none)->Q (.ref f) H')->qX a vs H Q E_3
theorem vY (T:Txt K mg a) (B:Tb base mg a):FnO P wo K mg base 1 a.f64 ["_law_row", "_law_seen_here"] (qX a):=by
 refine uE T.x64.F (k:=0) sc_asker (fun vs H Q E h=>?_) (fun A outer s H vs Q E hr h=>?_)
 ·obtain ⟨rw,sl,rfl,_⟩:=h
  rfl
 ·obtain ⟨rw,z,rfl,ht,q⟩:=h
  refine ⟨_,(vC (yN (i:=2) (T.x64.F.tab B.b_asker B.n_asker) rfl sc_asker.nd rfl (Or.inl rfl))
   (xu (pv 2))),?_⟩
  unfold tRC tRR tAsg;refine oN (q:=qA) (pos:=posD inA) ht fun H1 c' fa g pm r k1 t1 n1 hf hc fr=>?_;refine ⟨_,rfl,[(s.heap.objs.size+1,.ref rw),(s.heap.objs.size+1+1,.ref z)],?_,fun C=>?_⟩
  ·intro c v e
   rw [ac1] at e
   split at e
   ·rename_i h
    cases e
    cases eq_of_beq h;exact ⟨0,_,rfl,rfl,rfl,rfl⟩
   ·rw [ac1] at e
    split at e
    ·rename_i h
     cases e
     cases eq_of_beq h;exact ⟨1,_,rfl,rfl,rfl,rfl⟩
    ·cases e
  ·have ne:s.heap.objs.size+1≠s.heap.objs.size+1+1:=by omega
   have l1:[(s.heap.objs.size+1,V.ref rw),(s.heap.objs.size+1+1,.ref z)].lookup (s.heap.objs.size+1)=some (.ref rw):=by rw [ac1];simp
   have l2:[(s.heap.objs.size+1,V.ref rw),(s.heap.objs.size+1+1,.ref z)].lookup (s.heap.objs.size+1+1)=some (.ref z):=by rw [ac1,ad7.mpr (ad3 ne)];simp
   have l:∀ {b:Addr}{o:HO},H1 b=some o->[(s.heap.objs.size+1,V.ref rw),(s.heap.objs.size+1+1,.ref z)].lookup b=none:=fun {b o} e=>by
    cases y:[(s.heap.objs.size+1,V.ref rw),(s.heap.objs.size+1+1,.ref z)].lookup b with
    | none=>rfl
    | some v=>rw [(C b v y).1] at e;cases e
   have sm:Same H1 (trC [(s.heap.objs.size+1,V.ref rw),(s.heap.objs.size+1+1,.ref z)] H1):=fun b o e=>(bG (l e)).trans e;refine q _ fa (fun b o hb e=>sm b o (k1 b o hb e)) (t1.keep sm) n1 ⟨c',s.heap.objs.size+1,s.heap.objs.size+1+1,g,pm,r,sm _ _ hf,sm _ _ hc,ix l1,ix l2,ne⟩ fun b e=>?_
   cases y:[(s.heap.objs.size+1,V.ref rw),(s.heap.objs.size+1+1,.ref z)].lookup b with
   | none=>exact fr b ((bG y).symm.trans e)
   | some v=>rw [ix y] at e;cases e
inductive oO (f:V) (vs:List V) (H:Hp) (Q:VK):Prop
 | mk:∀ (fa rw z:Addr) (k:Nat) (srow:List (Option Nat)) (as:List Nat),f=.ref fa->vs=[.int k]->AskerAt H fa rw z->H rw=some (.lst (rowO srow))->H z=some (.lst (rowV as))->k < srow.length->as.length < 900->rw≠z->Q (valO (srow.getD k none)) (upd H z (.lst (rowV (as++[k]))))->oO f vs H Q
theorem yY (T:Txt K mg a):ku P wo K mg base 1 oO:=by
 intro A outer s H f us vs Q hr e0 r h;obtain ⟨fa,rw,z,k,g,as,rfl,rfl,hA,l,hz,hk,has,E,q⟩:=h;obtain ⟨c',c1,c2,G,pm,I,h1,h2,h3,h4,h5⟩:=hA.ex;refine ⟨fa,_,rfl,h1,?_⟩
 have l1:[(c1,V.ref rw),(c2,.ref z)].lookup c1=some (.ref rw):=by rw [ac1];simp
 have l2:[(c1,V.ref rw),(c2,.ref z)].lookup c2=some (.ref z):=by
  rw [ac1,ad7.mpr (ad3 h5)]
  simp
 have L:∀ c v,[(c1,V.ref rw),(c2,.ref z)].lookup c=some v->(c=c1/\v=.ref rw)\/(c=c2/\v=.ref z):=fun c v e=>by
  rw [ac1] at e
  split at e
  ·rename_i h
   cases e;exact .inl ⟨eq_of_beq h,rfl⟩
  ·rw [ac1] at e
   split at e
   ·rename_i h
    cases e;exact .inr ⟨eq_of_beq h,rfl⟩
   ·cases e
 have at_:∀ c v,[(c1,V.ref rw),(c2,.ref z)].lookup c=some v->H c=some (CelO c v):=fun c v e=>by
  rcases L c v e with ⟨rfl,rfl⟩ | ⟨rfl,rfl⟩
  ·exact h3
  ·exact h4
 refine xt (k:=0) (cvs:=[(c1,V.ref rw),(c2,.ref z)]) (vs:=[.int ((k:Nat):Int)]) (N:=["_law_role", "_law_seen_here", "_law_row"]) (ps:=["_law_role"]) (σ0:=[some (.int ((k:Nat):Int)),some (.ref z),some (.ref rw)]) ⟨rfl,rfl,rfl,by decide +kernel,rfl,by decide +kernel,by decide +kernel⟩ hr e0 r h1 h2 ?_ ?_ ?_ (ju (aS (cn ac5 ad1 ad2 bc (pv 1) (aa (pv 0) ac)))
   (iS (av (aI aH (pv 2) (pv 0) (fun _ _=>rfl))))) ?_
 ·obtain ⟨u,rfl,_⟩:=cH r
  rfl
 ·have J:∀ x c,(clA c1 c2).lookup x=some c→(x = "_law_seen_here" ∧ c=c2) ∨ (x = "_law_row" ∧ c=c1):=fun x c e=>by
   unfold clA at e;rw [ac1] at e
   split at e
   ·rename_i h
    cases e;exact .inl ⟨eq_of_beq h,rfl⟩
   ·rw [ac1] at e
    split at e
    ·rename_i h
     cases e;exact .inr ⟨eq_of_beq h,rfl⟩
    ·cases e
  refine ⟨fun x y c e1 e2=>?_,fun x hx=>?_,fun x c e=>?_,at_⟩
  ·rcases J x c e1 with ⟨rfl,rfl⟩ | ⟨rfl,rfl⟩
   ·rcases J y c e2 with ⟨rfl,_⟩ | ⟨_,z⟩
    ·rfl
    ·exact absurd z.symm h5
   ·rcases J y c e2 with ⟨_,z⟩ | ⟨rfl,_⟩
    ·exact absurd z h5
    ·rfl
  ·have d:∀ q∈(ah inA).names,q.2=.free→q.1 = "_law_seen_here" ∨ q.1 = "_law_row":=by decide +kernel
   have d:=d (x,.free) (ae0 hx) rfl;rcases d with d | d
   ·have d:x=_:=d
    subst d;exact ⟨c2,rfl⟩
   ·have d:x=_:=d
    subst d;exact ⟨c1,rfl⟩
  ·rcases J x c e with ⟨_,rfl⟩ | ⟨_,rfl⟩
   ·exact ⟨_,l2⟩
   ·exact ⟨_,l1⟩
 ·refine ⟨rfl,fun i x v e1 e2=>?_⟩
  match i,e1,e2 with
  | 0,e1,e2=>exact .inl ⟨e1,by cases e2;rfl⟩
  | 1,e1,e2 =>
   cases e1
   cases e2;exact .inr ⟨rfl,c2,rfl,l2⟩
  | 2,e1,e2 =>
   cases e1
   cases e2;exact .inr ⟨rfl,c1,rfl,l1⟩
 ·have no:∀ {b:Addr}{xs:List V},H b=some (.lst xs)->[(c1,V.ref rw),(c2,.ref z)].lookup b=none:=fun {b xs} e=>by
   cases y:[(c1,V.ref rw),(c2,.ref z)].lookup b with
   | none=>rfl
   | some v=>rw [at_ b v y] at e;cases e
  have C:=(bn (no hz)).trans hz
  have D:(rowV as).length < sizeLine:=by
   rw [aj];exact al0 has (by decide)
  have B:(upd (untr [(c1,V.ref rw),(c2,.ref z)] H) z (.lst (rowV (as++[k])))) rw=some (.lst (rowO g)):=by
   rw [ae E,bn (no l)];exact l
  refine ⟨_,rfl,.inl ⟨rfl,_,SqL.of C⟩,_,rfl,z,_,_,rfl,rfl,C,D,?_⟩;rw [cj];refine ⟨_,rfl,_,rfl,rw,_,_,_,rfl,rfl,SqL.of B,aC (bj (o:=g.getD k none) (by rw [zK,zL hk];rfl)),?_⟩
  have e:trC [(c1,V.ref rw),(c2,.ref z)] (upd (untr [(c1,V.ref rw),(c2,.ref z)] H) z (.lst (rowV (as++[k]))))=upd H z (.lst (rowV (as++[k]))):=by
   funext b
   cases y:[(c1,V.ref rw),(c2,.ref z)].lookup b with
   | some v =>
    have nz:b≠z:=fun e=>by rw [e,no hz] at y;cases y
    rw [ix y,ae nz,at_ b v y]
   | none =>
    rw [bG y]
    by_cases nz:b=z
    ·rw [nz,ab,ab]
    ·rw [ae nz,ae nz,bn y]
  show Q (valO (g.getD k none)) (trC _ _)
  rw [e];exact q
def posL:Pos:=⟨54,32,54,69⟩
def qL:Str:="Asking.order" ++ Str.ofString ".<locals>." ++ Str.ofString "<lambda>"
structure AskR where
 A:Addr
 c:Addr
 bp:Addr
 fp:Addr
 f:Addr
 cl:Addr
 rl:Addr
 sl:Addr
 rw:Addr
 z:Addr
structure AskI (a:Adr) (H0:Hp) (R:AskR) (r w n M N:Nat) (l:Nat->Nat->Nat) (cs srow:List (Option Nat)):Prop where
 code:CodeAt a H0 R.c R.bp R.fp r w n M N l
 full:GF.Full r w
 n16:n<=16
 W:Wts w M N l
 obj:∃ dx,H0 R.A=some (.ins a.C_Asking dx (af R.c R.f R.cl R.rl R.sl))
 cost:H0 R.cl=some (.lst (rowO cs))
 csl:cs.length=N+M
 asker:AskerAt H0 R.f R.rw R.z
 row:H0 R.rw=some (.lst (rowO srow))
 srl:srow.length=N+M
 nrl:H0 R.rl=none
 nsl:H0 R.sl=none
 nz:H0 R.z=none
 nt:H0 a.t38=none
 d1:R.rl≠R.sl
 d2:R.rl≠R.z
 d3:R.sl≠R.z
structure AskM (a:Adr) (H0 H:Hp) (R:AskR) (n:Nat) (os:List (Option Nat)) (as:List Nat):Prop where
 sm:Same H0 H
 hr:H R.rl=some (.lst (rowO os))
 hs:H R.sl=some (.lst (rowV as))
 hz:H R.z=some (.lst (rowV as))
 tab:TabS H a.t38 posL qL
 osl:os.length=n
 nd:as.Nodup
 lt:∀ k∈as,k < n
theorem bF:∀ (n:Nat) (as:List Nat),as.Nodup->(∀ k∈as,k < n)->as.length<=n
 | 0,[],_,_=>zQ _
 | 0,k :: _,_,h=>absurd (h k (.head _)) (af5 k)
 | n+1,as,nd,h=>by
  by_cases z:n∈as
  ·have e:=List.length_erase_of_mem z
   have ih:=bF n (as.erase n) (nd.erase n) fun k hk=>by
    have h1:=h k (List.mem_of_mem_erase hk)
    have h2:k≠n:=fun e=>by
     subst e;exact (List.Nodup.mem_erase_iff nd).mp hk |>.1 rfl
    omega
   omega
  ·exact Nat.le_succ_of_le (bF n as nd fun k hk=>by
    have h1:=h k hk
    have h2:k≠n:=fun e=>z (e ▸ hk)
    omega)
variable {H0:Hp}{as:List Nat}
theorem AskM.asl {R:AskR} (h:AskM a H0 H R n os as):as.length<=n:=bF n as h.nd h.lt
def mayB (cs:List (Option Nat)) (as:List Nat) (k:Nat):Bool:=(cs.getD k none).isSome && !as.contains k
theorem uF (k:Nat):∀ as:List Nat,inV (.int (k:Nat)) (rowV as)=as.contains k
 | []=>rfl
 | x :: as=>by
  have ih:=uF k as;unfold inV rowV at ih ⊢;rw [ad8,al8,ih,List.contains_cons]
  congr 1
  show eqV (.int (x:Nat)) (.int (k:Nat))=(k == x)
  show (((x:Nat):Int) == ((k:Nat):Int))=(k == x)
  by_cases z:x=k
  ·subst z;simp
  ·have h1:((x:Nat):Int)≠((k:Nat):Int):=by omega
   rw [ad7.mpr h1,ad7.mpr (ad3 z)]
theorem vZ (as:List Nat):(rowV as).all cY=true:=by
 unfold rowV;rw [List.all_map];exact ab4.mpr fun _ _=>rfl
theorem cb {k:Nat} (h:k < os.length):os[k]?=some (os.getD k none):=by
 rw [zK,zL h];rfl
theorem fq (o:Option Nat):(!decide (valO o=V.non))=o.isSome:=by
 cases o with
 | none=>rfl
 | some b=>rw [aa9 (fun z=>by cases z)];rfl
inductive wO (a:Adr) (vs:List V) (H:Hp) (Q:VK) (E_3:XK):Prop
 | mk:∀ (H0:Hp) (R:AskR) (r w n M N k:Nat) (l:Nat->Nat->Nat) (cs srow os:List (Option Nat)) (as:List Nat),vs=[.ref R.A,.int k]->AskI a H0 R r w n M N l cs srow->AskM a H0 H R (N+M) os as->k < N+M->Q (.bl (mayB cs as k)) H->wO a vs H Q E_3
theorem dq (T:Txt K mg a):FnO P wo K mg base 1 a.f32 ["self", "role"] (wO a):=by
 refine T.x32.F.okA (k:=0) mR (fun B A outer s H vs Q E hr h=>?_)
 ·obtain ⟨H0,R,r,w,n,M,N,k,l,cs,g,os,as,rfl,I,J,hk,q⟩:=h
  obtain ⟨dx,hA⟩:=I.obj
  have hA:=J.sm _ _ hA
  exists xx
  exists xl (av (m3 (dP bZ (aI aH (az (pv 0) rfl) (pv 1) (fun _ _=>rfl)) aR (ax _)) (ie (dP ni (pv 1) (az (pv 0) rfl) rfl))))
  refine ⟨_,rfl,R.A,_,_,_,_,rfl,hA,T.cl_Asking,T.no_Asking_costs,du _ _ _ _ _,_,rfl,R.cl,_,_,_,rfl,rfl,SqL.of (J.sm _ _ I.cost),aC (bj (cb (by rw [I.csl];exact hk))),rfl,_,rfl,?_⟩
  rw [fq];unfold mayB at q
  cases hz:(cs.getD k none).isSome with
  | false =>
   rw [hz] at q;exact q
  | true =>
   rw [hz] at q;refine ⟨_,rfl,_,rfl,R.A,_,_,_,_,rfl,hA,T.cl_Asking,T.no_Asking_asked,gO _ _ _ _ _,R.sl,_,rfl,.inl (SqL.of J.hs),rfl,vZ as,?_⟩;rw [uF];exact q
variable {xs:List V}
theorem TabS.up {p:Pos} (h:TabS H t p q) (hx:H x=some (.lst xs)):TabS (upd H x o) t p q:=by
 obtain ⟨ps,h1,h2⟩:=h;refine ⟨ps,by rw [ae (aN h1 hx (fun y=>by cases y))];exact h1,?_⟩
 rcases h2 with h2 | ⟨c',e,h2⟩
 ·exact .inl h2
 ·exact .inr ⟨c',e,by rw [ae (aN h2 hx (fun y=>by cases y))];exact h2⟩
theorem AskM.same {R:AskR} (h:AskM a H0 H R n os as) (s:Same H H'):AskM a H0 H' R n os as :=
 ⟨h.sm.trans s,s _ _ h.hr,s _ _ h.hs,s _ _ h.hz,h.tab.keep s,h.osl,h.nd,h.lt⟩
def tk (cs srow os:List (Option Nat)) (as:List Nat) (k:Nat):List (Option Nat) × List Nat:=if mayB cs as k=true then (os.set k (srow.getD k none),as++[k]) else (os,as)
theorem gP (os:List (Option Nat)) (k:Nat) (o:Option Nat):(rowO os).set k (valO o)=rowO (os.set k o):=by
 unfold rowO;rw [List.map_set]
variable {cs:List (Option Nat)}
theorem xT {k:Nat} (h:mayB cs as k=true):k∉as:=fun z=>by
 unfold mayB at h;rw [ab8.mpr z,Bool.not_true,Bool.and_false] at h
 cases h
theorem sd {k:Nat} (h:as.Nodup) (n:k∉as):(as++[k]).Nodup:=List.nodup_append.mpr ⟨h,List.pairwise_singleton _ k,fun x hx y hy e=>by
 rw [aa6.mp hy] at e
 exact n (e ▸ hx)⟩
inductive uG (a:Adr) (vs:List V) (H:Hp) (Q:VK) (E_3:XK):Prop
 | mk:∀ (H0:Hp) (R:AskR) (r w n M N k:Nat) (l:Nat->Nat->Nat) (cs srow os:List (Option Nat)) (as:List Nat),vs=[.ref R.A,.int k]->AskI a H0 R r w n M N l cs srow->AskM a H0 H R (N+M) os as->k < N+M->(∀ H',AskM a H0 H' R (N+M) (tk cs srow os as k).1 (tk cs srow os as k).2->Q (valO ((tk cs srow os as k).1.getD k none)) H')->uG a vs H Q E_3
theorem gA (T:Txt K mg a):FnO P wo K mg base 2 a.f33 ["self", "role"] (uG a):=by
 have CK:ku P wo K mg base 1 oO:=yY T;refine T.x33.F.okA (k:=1) ll (fun X A outer s H vs Q E hr h=>?_)
 ·obtain ⟨H0,R,r,w,n,M,N,k,l,cs,g,os,as,rfl,I,J,hk,q⟩:=h
  obtain ⟨dx,hA⟩:=I.obj
  have n8:=I.W.n8
  have L:=J.asl
  exists xx
  refine xq ?_;refine xi (bd (aE (pv 0) T.cl_Asking T.x32.me (dq T) hr.u T.x32.b .nil ao (aa (pv 1) ac))) ?_
  exists xc (aS (cn ac5 ad1 ad2 bc (az (pv 0) rfl) (aa (pv 1) ac)))
  exists xl (de (vD CK hr.u (pv 0) (aa (pv 1) ac)) (dD (az (pv 0) rfl) (pv 1) cm))
  refine ⟨_,aF,?_⟩;intro u_
  exists xl (av (aI aH (az (pv 0) rfl) (pv 1) (fun _ _=>rfl)))
  refine ⟨_,rfl,R.A,dx,_,rfl,J.sm _ _ hA,rfl,_,rfl,H0,R,r,w,n,M,N,k,l,cs,g,os,as,rfl,I,J,hk,?_⟩
  cases hz:mayB cs as k with
  | true =>
   refine ⟨_,rfl,ite2 (fun _=>?_) (fun y=>absurd rfl y)⟩
   have O:(rowV as).length < sizeLine:=by
    rw [aj];exact ae7 L (ae7 n8 (by decide))
   have B:=J.sm.up (o:=.lst (rowV (as++[k]))) I.nsl;refine ⟨_,rfl,R.A,_,_,_,_,rfl,J.sm _ _ hA,T.cl_Asking,T.no_Asking_asked,gO _ _ _ _ _,.inl ⟨rfl,_,SqL.of J.hs⟩,_,rfl,R.sl,_,_,rfl,rfl,J.hs,O,?_⟩;rw [cj]
   have S:=(I.asker.ex);obtain ⟨c',c1,c2,U,pm,Y,hf,hc,h3,h4,h5⟩:=S;refine ⟨_,rfl,R.A,_,_,_,R.f,_,rfl,B _ _ hA,T.cl_Asking,T.no_Asking_ask,yX _ _ _ _ _,B _ _ hf,_,rfl,B _ _ hf,R.f,R.rw,R.z,k,g,as,rfl,rfl,I.asker.same B,B _ _ I.row,(by rw [ae (ad3 I.d3)];exact J.hz),by rw [I.srl];exact hk,by omega,(fun y=>by have:=I.row;rw [y,I.nz] at this;cases this),?_⟩
   have D:=B.up (o:=.lst (rowV (as++[k]))) I.nz
   have G:(upd (upd H R.sl (.lst (rowV (as++[k])))) R.z (.lst (rowV (as++[k])))) R.rl=some (.lst (rowO os)):=by
    rw [ae I.d2,ae I.d1];exact J.hr
   refine ⟨_,rfl,R.A,_,_,_,_,rfl,D _ _ hA,T.cl_Asking,T.no_Asking_row,fJ _ _ _ _ _,_,rfl,R.rl,_,_,k,rfl,rfl,G,da (by rw [aP,J.osl];exact hk),?_⟩
   rw [gP]
   have C:=D.up (o:=.lst (rowO (os.set k (g.getD k none)))) I.nrl
   have J3:AskM a H0 (upd (upd (upd H R.sl (.lst (rowV (as++[k])))) R.z (.lst (rowV (as++[k])))) R.rl (.lst (rowO (os.set k (g.getD k none))))) R (N+M) (os.set k (g.getD k none)) (as++[k]):=by
    refine ⟨C,ab,?_,?_,((J.tab.up J.hs).up (x:=R.z) (xs:=rowV as) ?_).up G,by rw [ae6,J.osl],sd J.nd (xT hz),fun x hx=>?_⟩
    ·rw [ae (ad3 I.d1),ae I.d3];exact ab
    ·rw [ae (ad3 I.d2)];exact ab
    ·rw [ae (ad3 I.d3)];exact J.hz
    ·rcases ab5.mp hx with y | y
     ·exact J.lt x y
     ·rw [aa6.mp y];exact hk
   have e:tk cs g os as k=(os.set k (g.getD k none),as++[k]):=by unfold tk;rw [if_pos hz]
   rw [e] at q;exact ⟨_,rfl,R.A,_,_,_,_,rfl,C _ _ hA,T.cl_Asking,T.no_Asking_row,fJ _ _ _ _ _,_,rfl,R.rl,_,_,_,rfl,rfl,SqL.of ab,aC (bj (cb (by rw [ae6,J.osl];exact hk))),q _ J3⟩
  | false =>
   refine ⟨_,rfl,ite2 (fun y=>by cases y) (fun _=>?_)⟩
   have e:tk cs g os as k=(os,as):=by unfold tk;rw [if_neg (by rw [hz];decide)]
   rw [e] at q;exact ⟨_,rfl,R.A,_,_,_,_,rfl,J.sm _ _ hA,T.cl_Asking,T.no_Asking_row,fJ _ _ _ _ _,_,rfl,R.rl,_,_,_,rfl,rfl,SqL.of J.hr,aC (bj (cb (by rw [J.osl];exact hk))),q _ J⟩
theorem uH (ns:List Int):preSum (fun i=>ns.getD i 0) ns.length=ns.sum:=by
 have h:∀ (f:Nat->Int) (j:Nat),preSum f j=((List.range j).map f).sum:=fun f j=>by
  induction j with
  | zero=>rfl
  | succ j ih =>
   have e:preSum f (j+1)=preSum f j+f j:=rfl;rw [e,ih,af9,ad6,List.sum_append]
   simp
 rw [h]
 congr 1
 apply ad9
 intro i;rw [zO]
 by_cases hi:i < ns.length
 ·rw [ab0 hi,zL hi,ae3,zK,zL hi]
  rfl
 ·rw [zY (by rw [zS];omega),zY (by omega)]
  rfl
inductive jq (K:PySem.W.Frag) (xs:List V) (H:Hp) (Q:VK):Prop
 | mk:∀ (p:Addr) (ns:List Int),xs=[.ref p]->SqL K H p (ns.map V.int)->ns.length<=1000->((∀ y∈ns,0<=y/\y<=1000000))->Q (.int ns.sum) H->jq K xs H Q
theorem uI {X:Cx} (hc:X.calm=true):cG X (.builtin "sum") (jq X.K):=by
 intro B s σ H xs us Q I r h;obtain ⟨p,ns,rfl,hq,hn,hb,q⟩:=h;obtain ⟨u,rfl,rx⟩:=cH r
 cases rx;obtain ⟨g,rv,⟨o,nn,e1,e2,e3,e4⟩,hz⟩:=I.list hq
 have l:p≠s.heap.objs.size:=aa4 (zU e1)
 have hl:g.toArray.size=ns.length:=by
  have:=rv.length;rw [zM] at this
  simp [this]
 have hv:∀ j,0<=ns.getD j 0/\ns.getD j 0<=1000000:=fun j=>by
  by_cases hj:j < ns.length
  ·rw [zK,zL hj]
   exact hb _ (ae1 hj)
  ·rw [zK,zY (by omega)]
   exact ⟨by decide,by decide⟩
 have hs:∀ j,0<=preSum (fun i=>ns.getD i 0) j/\preSum (fun i=>ns.getD i 0) j<=1000000 * (j:Int)/\∀ i,i < j->ns.getD i 0<=preSum (fun i=>ns.getD i 0) j:=fun j=>by
  induction j with
  | zero=>exact ⟨Int.le_refl _,Int.le_refl _,fun i h=>absurd h (af5 _)⟩
  | succ j ih =>
   have e:preSum (fun i=>ns.getD i 0) (j+1)=preSum (fun i=>ns.getD i 0) j+ns.getD j 0:=rfl
   have:=hv j;rw [e];refine ⟨by omega,by omega,fun i h=>?_⟩
   by_cases y:i=j
   ·subst y;omega
   ·have:=ih.2.2 i (by omega)
    omega
 refine call_sum_walk (aj9 ⟨o,e1,e2,nn,e4⟩ ?_);refine ⟨_,_,_,_,_,_,fun i=>ns.getD i 0,rfl,Walks.list (A:=X.A.in1) (show X.A.in1.handled=none from I.ok.hd hc) s.heap.objs.size p l g.toArray,⟨⟨_,aa8 _ rfl,rfl,rfl⟩,⟨o,zP _ e1,e2,nn,e4⟩⟩,fun b hb=>?_,fun i v hv=>nM rv hv,fun j hj=>?_,fun h' tk t' kp=>?_⟩
 ·show b < (s.heap.push _).objs.size
  rw [Heap.size_push];rcases aa5.mp hb with z | z
  ·rw [z];exact ab3 _
  ·rw [aa6.mp z];exact ad0 (zU e1)
 ·have h1:=hv j
  have h2:=hs (j+1);rw [hl] at hj
  have h3:=h2.2.1
  have h4:=h2.1
  show InLong (ns.getD j 0)/\InLong (preSum (fun i=>ns.getD i 0) (j+1))
  generalize preSum (fun i=>ns.getD i 0) (j+1)=pp at h3 h4;unfold InLong;omega
 ·rw [hl]
  rw [<- uH] at q;exact ⟨.int _,H,I.kept (t':=tk) fun b o e=>kp b o (fun z=>by rw [aa6.mp z] at e;exact absurd (zU e) (ad4 _)) (zP _ e),⟨_,rfl⟩,q⟩
theorem uJ (os:List (Option Nat)):((List.range os.length).map fun i=>V.bl (os.getD i none).isSome)=knV (knO os):=by
 unfold knV knO
 apply ad9
 intro i;rw [zO,zO,zO]
 by_cases hi:i < os.length
 ·rw [ab0 hi,zL hi]
  have eg:os.getD i none=os[i]:=by rw [zK,zL hi];rfl
  dsimp only [Option.map];rw [eg]
 ·rw [zY (by rw [zS];omega),zY (by omega)]
  rfl
theorem bg (os:List (Option Nat)):(knO os).length=os.length:=by unfold knO;rw [zM]
inductive qY (a:Adr) (vs:List V) (H:Hp) (Q:VK) (E_3:XK):Prop
 | mk:∀ (H0:Hp) (R:AskR) (r w n M N:Nat) (l:Nat->Nat->Nat) (cs srow os:List (Option Nat)) (as:List Nat),vs=[.ref R.A]->AskI a H0 R r w n M N l cs srow->AskM a H0 H R (N+M) os as->(∀ D H',Same H H'->H D=none->H' D=some (.lst (knV (knO os)))->Q (.ref D) H')->qY a vs H Q E_3
theorem cJ (T:Txt K mg a):FnO P wo K mg base 1 a.f35 ["self"] (qY a):=by
 refine T.x35.F.okA (k:=0) kC (fun G A outer s H vs Q E hr h=>?_)
 ·obtain ⟨H0,R,r,w,n,M,N,l,cs,D,os,as,rfl,I,J,q⟩:=h
  obtain ⟨dx,hA⟩:=I.obj
  have n8:=I.W.n8
  have C:=J.osl
  exists xx
  exists xl (av (bb (CompOk.of (cap:=[]) (own:=["block"]) (by kernel_rfl)) rfl (aJ (az (pv 0) rfl)) (fun _ _ _ _ _=>(ar (i:=0) (zN (by kernel_rfl)) rfl (Or.inl rfl))) (fun _ _ _ _ _=>aV) (fun _ _ _ _ _=>by exact (dP bZ (pv 0) aR (ax _)))))
  refine ⟨_,rfl,R.A,_,_,_,_,rfl,J.sm _ _ hA,T.cl_Asking,T.no_Asking_row,fJ _ _ _ _ _,R.rl,rfl,⟨_,SqL.of J.hr⟩,fun kn B=>?_⟩;refine bV (xs:=rowO os) (f:=fun i=>.bl (os.getD i none).isSome) (cs:=[]) (SqL.of J.hr) B rfl (by rw [aP];exact zR (by omega:os.length<=8) (by decide)) (fun i u H2 R2 hu s2 hR=>?_) (fun H2 s2 g=>?_)
  ·have hi:i < os.length:=by rw [<- aP];exact (zV.mp hu).1
   rw [bj (cb hi)] at hu
   cases zX hu;refine ⟨_,rfl,rfl,?_⟩;rw [fq];exact hR _ (Same.refl _)
  rw [aP,uJ] at g;exact q kn H2 s2 B g
inductive oP (K:PySem.W.Frag) (a:Adr) (vs:List V) (H:Hp) (Q:VK) (E_3:XK):Prop
 | mk:∀ (H0:Hp) (R:AskR) (so:Addr) (r w n M N:Nat) (l:Nat->Nat->Nat) (cs srow os:List (Option Nat)) (as rs:List Nat),vs=[.ref R.A,.ref so]->AskI a H0 R r w n M N l cs srow->AskM a H0 H R (N+M) os as->SqL K H so (rowV rs)->((∀ k∈rs,k < N+M))->(∀ H',Same H H'->Q (.bl (rs.all (fx r w M N l (knO os)))) H')->oP K a vs H Q E_3
theorem cK (T:Txt K mg a):FnO P wo K mg base 10 a.f36 ["self", "some"] (oP K a):=by
 refine T.x36.F.okA (k:=9) kD (fun G A outer s H vs Q E hr h=>?_)
 ·obtain ⟨H0,R,so,r,w,n,M,N,l,cs,g,os,as,rs,rfl,I,J,B,C,q⟩:=h
  obtain ⟨dx,hA⟩:=I.obj
  exists xx
  exists xl (av (ay (fI T) hr.u rfl T.x30.m T.x30.k T.x30.b .nil ao (aa (az (pv 0) rfl) (aa (cN (pv 0) T.cl_Asking T.x35.me (cJ T) hr.u T.x35.b .nil ao) (aa (pv 1) ac)))))
  refine ⟨_,rfl,R.A,_,_,_,_,rfl,J.sm _ _ hA,T.cl_Asking,T.no_Asking_code,cF _ _ _ _ _,_,rfl,R.A,dx,_,rfl,J.sm _ _ hA,rfl,H0,R,r,w,n,M,N,l,cs,g,os,as,rfl,I,J,fun D H1 s1 nD hD=>?_⟩;exact ⟨_,rfl,R.c,R.bp,R.fp,D,so,r,w,n,M,N,l,knO os,rs,rfl,I.code.same (J.sm.trans s1),I.full,I.W,hD,by rw [bg,J.osl],s1.seq B,C,fun H' s'=>q H' (s1.trans s')⟩
inductive mw (K:PySem.W.Frag) (a:Adr) (vs:List V) (H:Hp) (Q:VK) (E_3:XK):Prop
 | mk:∀ (H0:Hp) (R:AskR) (so:Addr) (r w n M N:Nat) (l:Nat->Nat->Nat) (cs srow os:List (Option Nat)) (as rs:List Nat),vs=[.ref R.A,.ref so]->AskI a H0 R r w n M N l cs srow->AskM a H0 H R (N+M) os as->SqL K H so (rowV rs)->rs.length<=8->((∀ k∈rs,k < N+M/\(cs.getD k none).isSome=true/\(cs.getD k none).getD 0<=1000000))->(∀ H',Same H H'->Q (.int (((rs.map fun k=>(((cs.getD k none).getD 0:Nat):Int)).sum:Int))) H')->mw K a vs H Q E_3
theorem cS (T:Txt K mg a):FnO P wo K mg base 1 a.f37 ["self", "some"] (mw K a):=by
 refine T.x37.F.okA (k:=0) iH (fun L A outer s H vs Q E hr h=>?_)
 ·obtain ⟨H0,R,so,r,w,n,M,N,l,cs,G,os,as,rs,rfl,I,J,g,C,B,q⟩:=h
  obtain ⟨dx,hA⟩:=I.obj
  exists xx
  exists xl (av (aA (uI rfl) rfl T.n_sum PyProof.Rows.Boot.sum (aa (bb (CompOk.of (cap:=[0]) (own:=["role"]) (by kernel_rfl)) rfl (aJ (pv 1)) (fun _ _ _ _ _=>(ar (i:=1) (zN (by kernel_rfl)) rfl (Or.inl rfl))) (fun _ _ _ _ _=>aV) (fun _ _ _ _ _=>by exact (aI (bI (K:=K) rfl) (dU (K:=K) rfl (pv 0) rfl) (pv 1) (fun _ _=>rfl)))) ac)))
  refine ⟨_,rfl,so,rfl,⟨_,g⟩,fun D nD=>?_⟩;refine bV (xs:=rowV rs) (f:=fun i=>.int (((cs.getD (rs.getD i 0) none).getD 0:Nat):Int)) (cs:=[some (.ref R.A)]) g nD rfl (by rw [aj];exact zR C (by decide)) (fun i u H2 R2 hu s2 hR=>?_) (fun H2 s2 hD=>?_)
  ·obtain ⟨k,ek,rfl⟩:=aQ hu
   obtain ⟨h1,h2,h3⟩:=B k (aa0 ek)
   have eg:rs.getD i 0=k:=by rw [zK,ek];rfl
   rw [eg] at hR
   have ev:valO (cs.getD k none)=.int (((cs.getD k none).getD 0:Nat):Int):=by
    cases hz:cs.getD k none with
    | none=>rw [hz] at h2;cases h2
    | some b=>rfl
   have gi:=aC (bj (cb (os:=cs) (k:=k) (by rw [I.csl];exact h1)))
   rw [ev] at gi;exact ⟨_,rfl,R.A,_,_,_,_,rfl,s2 _ _ (J.sm _ _ hA),T.cl_Asking,T.no_Asking_costs,du _ _ _ _ _,_,rfl,R.cl,_,_,_,rfl,rfl,SqL.of (s2 _ _ (J.sm _ _ I.cost)),gi,hR _ (Same.refl _)⟩
  rw [aj] at hD
  have ex:((List.range rs.length).map fun i=>V.int (((cs.getD (rs.getD i 0) none).getD 0:Nat):Int))=(rs.map fun k=>(((cs.getD k none).getD 0:Nat):Int)).map V.int:=by
   rw [ac4]
   apply ad9
   intro i;rw [zO,zO]
   by_cases hi:i < rs.length
   ·rw [ab0 hi,zL hi]
    have eg:rs.getD i 0=rs[i]:=by rw [zK,zL hi];rfl
    dsimp only [Option.map];rw [eg];rfl
   ·rw [zY (by rw [zS];omega),zY (by omega)]
    rfl
  rw [ex] at hD;refine ⟨D,_,rfl,SqL.of hD,by rw [zM];omega,fun y hy=>?_,q H2 s2⟩
  obtain ⟨k,hk,rfl⟩:=ae2.mp hy
  have:=(B k hk).2.2;omega
inductive my (a:Adr) (vs:List V) (H:Hp) (Q:VK) (E_3:XK):Prop
 | mk:∀ (H0:Hp) (R:AskR) (r w n M N k:Nat) (l:Nat->Nat->Nat) (cs srow os:List (Option Nat)) (as X:List Nat),vs=[.ref R.A,.int k]->AskI a H0 R r w n M N l cs srow->AskM a H0 H R (N+M) os as->k < N+M->X.length=N+M->((∀ b∈X,b < (2 ^ w) ^ n))->isMk r w n M N l X=true->bH (N+M) os X->(∀ H',Same H H'->Q (if fx r w M N l (knO os) k=true then .int ((X.getD k 0:Nat):Int) else .non) H')->my a vs H Q E_3
theorem bW (T:Txt K mg a):FnO P wo K mg base 9 a.f40 ["self", "role"] (my a):=by
 refine T.x40.F.okA (k:=8) iI (fun L A outer s H vs Q E hr h=>?_)
 ·obtain ⟨H0,R,r,w,n,M,N,k,l,cs,D,os,as,X,rfl,I,J,hk,hX,C,hm,g,q⟩:=h
  obtain ⟨dx,hA⟩:=I.obj
  have hC:=I.code.same J.sm;obtain ⟨dc,Lp,qs,hc,_,_⟩:=id hC.ins
  exists xx
  exists xl (av (aE (by exact (az (pv 0) rfl)) T.cl_Code T.x27.me (jM T) hr.u T.x27.b .nil ao (aa (az (pv 0) rfl) (aa (pv 1) ac))))
  refine ⟨_,rfl,R.A,_,_,_,_,rfl,J.sm _ _ hA,T.cl_Asking,T.no_Asking_code,cF _ _ _ _ _,R.c,dc,_,rfl,hc,rfl,_,rfl,R.A,_,_,_,_,rfl,J.sm _ _ hA,T.cl_Asking,T.no_Asking_row,fJ _ _ _ _ _,_,rfl,?_⟩;refine ⟨R.c,R.bp,R.fp,R.rl,r,w,n,M,N,k,l,os,rfl,hC,I.full,I.n16,I.W,J.hr,J.osl,hk,fun b hb=>?_,fun hz H' s'=>⟨fun G B=>?_,fun mk hf=>?_⟩⟩
  ·have e:fx r w M N l (knO os) k=true:=by
    unfold fx;rw [zK,oI (by rw [J.osl];exact hk) hb]
    rfl
   have:=q H (Same.refl _);rw [e,if_pos rfl,g k hk b hb] at this;exact this
  ·have kz:=gM (by rw [J.osl];exact hk) hz
   have kg:(knO os).getD k false=false:=by rw [zK,kz];rfl
   have e:fx r w M N l (knO os) k=true:=by
    unfold fx;rw [mj I.full I.W (by rw [bg,J.osl]) hk kg B,am8]
   have:=q H' s';rw [e,if_pos rfl,← tells_make I.full.toGood I.W J.osl hX C hk hz hm g B] at this;exact this
  ·have kz:=gM (by rw [J.osl];exact hk) hz
   have kg:(knO os).getD k false=false:=by rw [zK,kz];rfl
   have e:fx r w M N l (knO os) k=false:=by
    unfold fx;rw [mm I.full I.W (by rw [bg,J.osl]) hk kg hf,kg]
    rfl
   have:=q H' s';rw [e,if_neg (by decide)] at this
   exact this
def bx (cs srow:List (Option Nat)):List Nat->List (Option Nat)->List Nat->List (Option Nat) × List Nat
 | [],os,as=>(os,as)
 | k :: ks,os,as=>if ((tk cs srow os as k).1.getD k none).isSome=true then bx cs srow ks (tk cs srow os as k).1 (tk cs srow os as k).2 else tk cs srow os as k
inductive qZ (K:PySem.W.Frag) (a:Adr) (vs:List V) (H:Hp) (Q:VK) (E_3:XK):Prop
 | mk:∀ (H0:Hp) (R:AskR) (so:Addr) (r w n M N:Nat) (l:Nat->Nat->Nat) (cs srow os:List (Option Nat)) (as rs:List Nat),vs=[.ref R.A,.ref so]->AskI a H0 R r w n M N l cs srow->AskM a H0 H R (N+M) os as->SqL K H0 so (rowV rs)->((∀ k∈rs,k < N+M))->(∀ H',AskM a H0 H' R (N+M) (bx cs srow rs os as).1 (bx cs srow rs os as).2->Q .non H')->qZ K a vs H Q E_3
theorem dL (T:Txt K mg a):FnO P wo K mg base 3 a.f34 ["self", "some"] (qZ K a):=by
 refine T.x34.F.okA (k:=2) sc_Asking_take_along (fun L A outer s H vs Q E hr h=>?_)
 ·obtain ⟨H0,R,so,r,w,n,M,N,l,cs,g,os,as,rs,rfl,I,J,D,G,q⟩:=h
  obtain ⟨dx,hA⟩:=I.obj
  exists xx
  refine x1 ?_;refine xf PassesOwn.never rfl (aJ (pv 1)) (ar (i:=2) sc_Asking_take_along.nd rfl (Or.inl rfl)) ?_;refine x1 ?_;refine xi (au ig (aE (pv 0) T.cl_Asking T.x33.me (gA T) hr.u T.x33.b .nil ao (aa (pv 2) ac)) aR (ax _)) ?_
  exists xl vd
  refine ⟨_,aF,?_⟩;intro u_;intro u_;refine ⟨_,rfl,so,rfl,⟨_,J.sm.seq D⟩,?_⟩;refine let I_:Nat->L2.St->Hp->Prop:=fun i σ H'=>L2.A2 ((∃ v2:Option V,σ=[some (.ref R.A),some (.ref so),v2])) (L2.E2 fun B C=>L2.A2 (AskM a H0 H' R (N+M) B C) (bx cs g rs os as=bx cs g (rs.drop i) B C));bR (xs:=rowV rs) I_ ⟨⟨none,rfl⟩,os,as,J,rfl⟩ ?_ ?_ ?_
  ·rintro i σ H' _ ⟨_,_,_,J',_⟩
   exact J'.sm.seq D
  ·rintro i x σ H' hx ⟨⟨v2,rfl⟩,B,C,J',e'⟩
   obtain ⟨k,ek,rfl⟩:=aQ hx
   have hk:=G k (aa0 ek)
   have hi:=(zV.mp ek).1
   have ed:rs.drop i=k :: rs.drop (i+1):=by
    rw [List.drop_eq_getElem_cons hi,(zV.mp ek).2]
   refine ⟨_,rfl,R.A,dx,_,rfl,J'.sm _ _ hA,rfl,_,rfl,H0,R,r,w,n,M,N,k,l,cs,g,B,C,rfl,I,J',hk,fun H2 J2=>?_⟩;refine ⟨rfl,_,rfl,?_⟩;rw [ed] at e'
   have e2:bx cs g (k :: rs.drop (i+1)) B C=if ((tk cs g B C k).1.getD k none).isSome=true then bx cs g (rs.drop (i+1)) (tk cs g B C k).1 (tk cs g B C k).2 else tk cs g B C k:=rfl
   rw [e2] at e'
   cases hz:(tk cs g B C k).1.getD k none with
   | none =>
    refine ite2 (fun _=>?_) (fun y=>absurd rfl y);rw [hz,if_neg (by decide)] at e'
    rw [e'] at q;exact q H2 J2
   | some b =>
    refine ite2 (fun y=>absurd (zN y) (fun z=>by cases z)) (fun _=>?_)
    rw [hz,if_pos (show (some b).isSome=true from rfl)] at e';exact ⟨⟨_,rfl⟩,_,_,J2,e'⟩
  ·rintro σ H' ⟨⟨v2,rfl⟩,B,C,J',e'⟩
   rw [aj,List.drop_length] at e';rw [e'] at q;exact q H' J'
theorem mz {k:Nat} (h:k < row.length):row.getD k 0∈row:=by
 rw [zK,zL h];exact ae1 h
variable {rs:List Nat}{te:TE}{D:Addr}{Q:Hp->Prop}
theorem fg {l:Addr}{b:Nat->Bool}{k:Nat}{tt:TT}{cs:L2.St} (hl:SqL K H1 l (rowV rs)) (hD:H1 D=none) (hk:k=cs.length) (hn:rs.length<=sizeLine)
  (ht:∀ x H (R:Bool->Hp->Prop),x∈rs->Same H1 H->(∀ H4,Same H H4->R (b x) H4)->tt (cs++[some (.int (x:Nat))]) H R)
  (he:∀ x H (R:V->Hp->Prop),x∈rs->b x=true->Same H1 H->(∀ H4,Same H H4->R (.int (x:Nat)) H4)->te (cs++[some (.int (x:Nat))]) H R)
  (hQ:∀ H,Same H1 H->H D=some (.lst (rowV (rs.filter b)))->Q H):bt (Itl K l) (be k) tt te (cs++[none]) H1 D Q:=by
 refine ga (n:=rs.length) (src:=fun i=>.int ((rs.getD i 0:Nat):Int)) (f:=fun i=>.int ((rs.getD i 0:Nat):Int)) (b:=fun i=>b (rs.getD i 0)) hD hk hn (fun H sm=>⟨_,sm.seq hl,by rw [aj];exact zQ _⟩) (fun i H hi sm=>⟨_,_,sm.seq hl,bw hi⟩) (fun i H x H' hi sm y=>?_) (fun i H R hi sm r=>ht _ H R (mz hi) sm r) (fun i H R hi hb sm r=>he _ H R (mz hi) hb sm r) (fun H sm h=>hQ H sm ?_)
 ·obtain ⟨e,y⟩:=y
  exact ⟨zX ((y _ (sm.seq hl)).symm.trans (bw hi)),e⟩
 ·rw [h]
  refine congrArg (fun z=>some (HO.lst z)) ?_;unfold rowV;clear hl hn ht he hQ h
  have:rs=(List.range rs.length).map fun i=>rs.getD i 0:=by
   apply ad9
   intro i
   by_cases hi:i < rs.length
   ·rw [zO,ab0 hi,ae3,zK,zL hi]
    rfl
   ·rw [zY (by omega),zY (by rw [zM,zS];omega)]
  conv=>rhs;rw [this]
  rw [List.filter_map,ac4];rfl
inductive kL (K:PySem.W.Frag) (a:Adr) (vs:List V) (H:Hp) (Q:VK) (E_3:XK):Prop
 | mk:∀ (H0:Hp) (R:AskR) (so:Addr) (r w n M N:Nat) (l:Nat->Nat->Nat) (cs srow os:List (Option Nat)) (as rs:List Nat),vs=[.ref R.A,.ref so]->AskI a H0 R r w n M N l cs srow->AskM a H0 H R (N+M) os as->SqL K H so (rowV rs)->rs.length<=8->((∀ k∈rs,k < N+M))->(∀ D H',Same H H'->H D=none->H' D=some (.lst (rowV (rs.filter fun k=>!fx r w M N l (knO os) k)))->Q (.ref D) H')->kL K a vs H Q E_3
theorem eS (T:Txt K mg a):FnO P wo K mg base 10 a.f41 ["self", "some"] (kL K a):=by
 refine T.x41.F.okA (k:=9) sc_Asking_unfixed (fun S A outer s H vs Q E hr h=>?_)
 ·obtain ⟨H0,R,so,r,w,n,M,N,l,cs,C,os,as,rs,rfl,I,J,g,h8,O,q⟩:=h
  obtain ⟨dx,hA⟩:=I.obj
  have hA:=J.sm _ _ hA
  exists xx
  exists xc (al (i:=2) sc_Asking_unfixed.nd rfl (Or.inr rfl) (cN (pv 0) T.cl_Asking T.x35.me (cJ T) hr.u T.x35.b .nil ao))
  exists xl (av (bb (CompOk.of (cap:=[2,0]) (own:=["role"]) (by kernel_rfl)) rfl (aJ (pv 1)) (fun _ _ _ _ _=>(ar (i:=2) (zN (by kernel_rfl)) rfl (Or.inl rfl))) (fun _ _ _ _ _=>(cE (bQ (bd (aE (by exact (dU (K:=K) rfl (pv 1) rfl)) T.cl_Code T.x25.me (ib T) hr.u T.x25.b .nil ao (aa (pv 0) (aa (pv 2) ac))))))) (fun _ _ _ _ _=>by exact (pv 2))))
  refine ⟨_,rfl,R.A,dx,_,rfl,hA,rfl,H0,R,r,w,n,M,N,l,cs,C,os,as,rfl,I,J,fun kn H1 s1 U G=>?_⟩;refine ⟨_,rfl,so,rfl,⟨_,s1.seq g⟩,fun D nD=>?_⟩;refine fg (rs:=rs) (b:=fun k=>!fx r w M N l (knO os) k) (cs:=[some (.ref kn),some (.ref R.A)]) (s1.seq g) nD rfl (zR h8 (by decide)) (fun x Hx Rx hx sx hR=>?_) (fun x Hx Rx hx _ sx hR=>⟨_,rfl,hR _ (Same.refl _)⟩) (fun H2 s2 hD=>?_)
  ·have B:=J.sm.trans (s1.trans sx)
   obtain ⟨L,Lp,qs,hc,_⟩:=I.code.ins;refine ⟨_,rfl,R.A,_,_,_,_,rfl,(s1.trans sx) _ _ hA,T.cl_Asking,T.no_Asking_code,cF _ _ _ _ _,R.c,L,_,rfl,B _ _ hc,rfl,_,rfl,_,rfl,R.c,R.bp,R.fp,kn,r,w,n,M,N,x,l,knO os,rfl,I.code.same B,I.full,I.W,sx _ _ G,by rw [bg,J.osl],O x hx,fun H' s'=>?_⟩
   exact ⟨_,rfl,hR _ s'⟩
  ·exact q D H2 (s1.trans s2) (s1.free nD) hD
def gQ (cs:List (Option Nat)) (rs:List Nat):Int:=(rs.map fun k=>(((cs.getD k none).getD 0:Nat):Int)).sum
def oQ (cs:List (Option Nat)) (as ls:List Nat):V:=if ls.all (mayB cs as)=true then .int (gQ cs ls) else .non
inductive oR (K:PySem.W.Frag) (a:Adr) (vs:List V) (H:Hp) (Q:VK) (E_3:XK):Prop
 | mk:∀ (H0:Hp) (R:AskR) (so:Addr) (r w n M N:Nat) (l:Nat->Nat->Nat) (cs srow os:List (Option Nat)) (as rs:List Nat),vs=[.ref R.A,.ref so]->AskI a H0 R r w n M N l cs srow->AskM a H0 H R (N+M) os as->SqL K H so (rowV rs)->rs.length<=8->((∀ k∈rs,k < N+M))->((∀ k,(cs.getD k none).getD 0<=1000000))->(∀ H',Same H H'->Q (oQ cs as (rs.filter fun k=>!fx r w M N l (knO os) k)) H')->oR K a vs H Q E_3
theorem kM (T:Txt K mg a):FnO P wo K mg base 11 a.f42 ["self", "some"] (oR K a):=by
 refine T.x42.F.okA (k:=10) sc_Asking_price (fun X A outer s H vs Q E hr h=>?_)
 ·obtain ⟨H0,R,so,r,w,n,M,N,l,cs,B,os,as,rs,rfl,I,J,S,h8,O,U,q⟩:=h
  obtain ⟨dx,hA⟩:=I.obj
  have hA:=J.sm _ _ hA
  exists xx
  exists xc (al (i:=2) sc_Asking_price.nd rfl (Or.inl rfl) (aE (pv 0) T.cl_Asking T.x41.me (eS T) hr.u T.x41.b .nil ao (aa (pv 1) ac)))
  refine xq ?_
  refine xi (bQ (bd (aA (tL rfl) rfl T.n_all boot_all (aa (bb (CompOk.of (cap:=[0]) (own:=["role"]) (by kernel_rfl)) rfl (aJ (pv 2)) (fun _ _ _ _ _=>(ar (i:=1) (zN (by kernel_rfl)) rfl (Or.inl rfl))) (fun _ _ _ _ _=>aV) (fun _ _ _ _ _=>by exact (aE (pv 0) T.cl_Asking T.x32.me (dq T) hr.u T.x32.b .nil ao (aa (pv 1) ac)))) ac)))) ?_
  exists xl (av aR)
  refine ⟨_,aF,?_⟩;intro u_
  exists xl (av (aE (pv 0) T.cl_Asking T.x37.me (cS T) hr.u T.x37.b .nil ao (aa (pv 2) ac)))
  refine ⟨_,rfl,R.A,dx,_,rfl,hA,rfl,_,rfl,H0,R,so,r,w,n,M,N,l,cs,B,os,as,rs,rfl,I,J,S,h8,O,fun L H1 s1 nL hL=>?_⟩
  have G:∀ k∈(rs.filter fun k=>!fx r w M N l (knO os) k),k < N+M:=fun k hk=>O k (aa7.mp hk).1
  have C:(rs.filter fun k=>!fx r w M N l (knO os) k).length<=8:=zR (ac0 _ _) h8;generalize (rs.filter fun k=>!fx r w M N l (knO os) k)=ls at q hL G C;refine ⟨_,rfl,L,rfl,⟨_,SqL.of hL⟩,fun D nD=>?_⟩;refine bV (xs:=rowV ls) (f:=fun i=>.bl (mayB cs as (ls.getD i 0))) (cs:=[some (.ref R.A)]) (SqL.of hL) nD rfl (by rw [aj];exact zR C (by decide)) (fun i u H2 R2 hu s2 hR=>?_) (fun H2 s2 hD=>?_)
  ·obtain ⟨k,ek,rfl⟩:=aQ hu
   have eg:ls.getD i 0=k:=by rw [zK,ek];rfl
   rw [eg] at hR
   have g:=s1.trans s2;refine ⟨_,rfl,R.A,dx,_,rfl,g _ _ hA,rfl,_,rfl,H0,R,r,w,n,M,N,k,l,cs,B,os,as,rfl,I,J.same g,G k (aa0 ek),?_⟩;exact hR _ (Same.refl _)
  rw [aj] at hD
  have ex:((List.range ls.length).map fun i=>V.bl (mayB cs as (ls.getD i 0)))=(ls.map (mayB cs as)).map V.bl:=by
   rw [ac4]
   apply ad9
   intro i;rw [zO,zO]
   by_cases hi:i < ls.length
   ·rw [ab0 hi,zL hi]
    have eg:ls.getD i 0=ls[i]:=by rw [zK,zL hi];rfl
    dsimp only [Option.map];rw [eg];rfl
   ·rw [zY (by rw [zS];omega),zY (by omega)]
    rfl
  rw [ex] at hD
  have g:=s1.trans s2;refine ⟨D,_,rfl,SqL.of hD,_,rfl,?_⟩
  have ea:((ls.map (mayB cs as)).all fun b=>b)=ls.all (mayB cs as):=by rw [List.all_map];rfl
  rw [ea];unfold oQ at q
  cases hz:ls.all (mayB cs as) with
  | false =>
   rw [hz] at q;refine ite2 (fun _=>?_) (fun y=>absurd rfl y);exact q H2 g
  | true =>
   rw [hz] at q;refine ite2 (fun y=>absurd y (by decide)) (fun _=>?_)
   refine ⟨_,rfl,R.A,dx,_,rfl,g _ _ hA,rfl,_,rfl,H0,R,L,r,w,n,M,N,l,cs,B,os,as,ls,rfl,I,J.same g,SqL.of (s2 _ _ hL),C,fun k hk=>⟨G k hk,?_,U k⟩,fun H' s'=>q H' (g.trans s')⟩
   have:=ab4.mp hz k hk;unfold mayB at this;exact (ac8 _ _ ▸ this).1
def ckO (cs:List (Option Nat)) (k:Nat):Int:=(((cs.getD k none).getD 0:Nat):Int)
inductive q5 (a:Adr) (vs:List V) (H:Hp) (Q:VK) (E_3:XK):Prop
 | mk:∀ (H0:Hp) (R:AskR) (r w n M N:Nat) (l:Nat->Nat->Nat) (cs srow os:List (Option Nat)) (as:List Nat),vs=[.ref R.A]->AskI a H0 R r w n M N l cs srow->AskM a H0 H R (N+M) os as->(∀ D H' ms,AskM a H0 H' R (N+M) os as->(∀ b o,b≠a.t38->H b=some o->H' b=some o)->H D=none->H' D=some (.lst (rowV ms))->ms.Perm ((List.range (N+M)).filter (mayB cs as))->ms.Pairwise (klt (ckO cs))->Q (.ref D) H')->q5 a vs H Q E_3
theorem kN (T:Txt K mg a) (B:Tb base mg a):FnO P wo K mg base 5 a.f38 ["self"] (q5 a):=by
 refine T.x38.F.okA (k:=4) sc_Asking_order (fun A outer s H vs Q E hr h=>?_)
 ·obtain ⟨H0,R,r,w,n,M,N,l,cs,G,os,as,rfl,I,J,q⟩:=h
  obtain ⟨dx,hA⟩:=I.obj
  have n8:=I.W.n8
  have hC:=I.code.same J.sm;obtain ⟨dc,Lp,qs,hc,_,_⟩:=id hC.ins
  exists xx
  exists xc (b9 (i:=1) sc_Asking_order.nd rfl (Or.inl rfl) (CompOk.of (cap:=[0]) (own:=["role"]) (by kernel_rfl)) rfl (aW rfl T.n_range (aa (az (az (pv 0) rfl) rfl) ac)) (fun _ _ _ _ _=>(ar (i:=1) (zN (by kernel_rfl)) rfl (Or.inl rfl))) (fun _ _ _ _ _=>(cE (bd (aE (pv 0) T.cl_Asking T.x32.me (dq T) hr.u T.x32.b .nil ao (aa (pv 1) ac))))) (fun _ _ _ _ _=>by exact (pv 1)))
  exists xl (av (vH (k:=0) (p:="role") (y:="self") (j:=0) (T.x38.F.tab B.b_Asking_order B.n_Asking_order) rfl hr.u rfl T.n_sorted (pv 1) ⟨rfl,rfl,rfl,by decide +kernel,rfl,by decide +kernel,by decide +kernel⟩ rfl (by decide +kernel) rfl rfl rfl rfl (fun _ _ _ _=>rfl) (fun _ _ _ _ _ _ hr=>(eD (aa (aI (bI (K:=K) rfl) (dU (K:=K) rfl (pv 1) rfl) (pv 0) (fun _ _=>rfl)) (aa (pv 0) ac))))))
  refine ⟨_,rfl,R.A,_,_,_,_,rfl,J.sm _ _ hA,T.cl_Asking,T.no_Asking_code,cF _ _ _ _ _,R.c,_,_,_,_,rfl,hc,T.cl_Code,T.no_Code_roles,fG R.bp M N Lp,_,rfl,by omega,by omega,fun fl L=>?_⟩
  rw [ac2];refine di (n:=N+M) (f:=fun k=>.int ((k:Nat):Int)) (b:=mayB cs as) (cs:=[some (.ref R.A)]) L rfl (zR n8 (by decide)) (fun k H2 R2 hk s2 hR=>?_) (fun k H2 R2 hk hb s2 hR=>?_) (fun H2 s2 S=>?_)
  ·refine ⟨_,rfl,R.A,dx,_,rfl,s2 _ _ (J.sm _ _ hA),rfl,_,rfl,H0,R,r,w,n,M,N,k,l,cs,G,os,as,rfl,I,J.same s2,hk,?_⟩
   exact ⟨_,rfl,hR _ (Same.refl _)⟩
  ·exact ⟨_,rfl,hR _ (Same.refl _)⟩
  have J2:=J.same s2
  have C:H2 fl=some (.lst (rowV ((List.range (N+M)).filter (mayB cs as)))):=S;refine ⟨_,rfl,?_⟩;refine oN (q:=qL) (pos:=posL) J2.tab fun H3 c' fa X pm ad k3 t3 n3 Y Z O=>?_
  have ht:∀ {b:Addr}{xs:List V},H2 b=some (.lst xs)->b≠a.t38:=fun {b xs} e=>by
   obtain ⟨ps,hp,_⟩:=J2.tab;exact aN e hp (fun y=>by cases y)
  have h0:∀ {b:Addr}{o:HO},H0 b=some o->b≠a.t38:=fun {b o} e=>am e I.nt
  have J3:AskM a H0 H3 R (N+M) os as:=⟨fun b o e=>k3 b o (h0 e) (J2.sm b o e),k3 _ _ (ht J2.hr) J2.hr,k3 _ _ (ht J2.hs) J2.hs,k3 _ _ (ht J2.hz) J2.hz,t3,J2.osl,J2.nd,J2.lt⟩;refine ⟨fl,(List.range (N+M)).filter (mayB cs as),ckO cs,8,.ref R.A,rfl,SqL.of (k3 _ _ (ht C) C),af2 _ ai0,fun k hk=>?_,?_,rfl,fun k H' hk sm=>?_,fun D H' ms n1 n2 sm pm pw=>?_⟩
  ·have:=aa1.mp (aa7.mp hk).1
   omega
  ·have:=ac0 (mayB cs as) (List.range (N+M))
   rw [zS] at this;omega
  ·have U:=aa1.mp (aa7.mp hk).1
   have g:=(aa7.mp hk).2
   have J':=J3.same sm
   have ev:valO (cs.getD k none)=.int (ckO cs k):=by
    unfold mayB at g;unfold ckO
    cases hz:cs.getD k none with
    | none=>rw [hz] at g;cases g
    | some b=>rfl
   have gi:=aC (bj (cb (os:=cs) (k:=k) (by rw [I.csl];exact U)))
   rw [ev] at gi;exact ⟨_,rfl,R.A,_,_,_,_,rfl,J'.sm _ _ hA,T.cl_Asking,T.no_Asking_costs,du _ _ _ _ _,_,rfl,R.cl,_,_,_,rfl,rfl,SqL.of (J'.sm _ _ I.cost),gi,_,rfl,(by show 2<=sizeLine;decide),fun p np=>⟨p,rfl,ab,Same.new np⟩⟩
  ·have s4:Same H3 (upd H' D (.lst (cq ms))):=sm.up n1
   refine q D _ ms (J3.same s4) (fun b o hb e=>s4 b o (k3 b o hb (s2 b o e))) ?_ ab pm pw;exact s2.free (O D n1)
def knW (ks:List Bool):List Nat->List Bool
 | []=>ks
 | k :: way=>knW (ks.set k true) way
theorem wb (ks:List Bool) (k:Nat):∀ way,knW ks (way++[k])=(knW ks way).set k true:=fun way=>by
 induction way generalizing ks with
 | nil=>rfl
 | cons x way ih=>exact ih _
theorem dM (ks:List Bool):∀ way,(knW ks way).length=ks.length:=fun way=>by
 induction way generalizing ks with
 | nil=>rfl
 | cons x way ih =>
  show (knW (ks.set x true) way).length=_
  rw [ih,ae6]
theorem xU (ks:List Bool) (k:Nat):(knV ks).set k (.bl true)=knV (ks.set k true):=by
 unfold knV;rw [List.map_set]
variable {ms:List Nat}
theorem dy {k:Nat} (h:ms[j]?=some k):ms.take (j+1)=ms.take j++[k]:=by
 rw [am2,h];rfl
def gR (r w M N:Nat) (l:Nat->Nat->Nat) (ks:List Bool) (rs ms:List Nat) (j:Nat):Prop :=
 j<=ms.length/\rs.all (fx r w M N l (knW ks (ms.take j)))=true/\∀ i,i < j->rs.all (fx r w M N l (knW ks (ms.take i)))=false
def jO (r w M N:Nat) (l:Nat->Nat->Nat) (ks:List Bool) (rs ms:List Nat):Prop:=∀ i,i<=ms.length->rs.all (fx r w M N l (knW ks (ms.take i)))=false
inductive oS (a:Adr) (vs:List V) (H:Hp) (Q:VK) (E_3:XK):Prop
 | mk:∀ (H0:Hp) (R:AskR) (so:Addr) (r w n M N:Nat) (l:Nat->Nat->Nat) (cs srow os:List (Option Nat)) (as rs:List Nat),vs=[.ref R.A,.ref so]->AskI a H0 R r w n M N l cs srow->AskM a H0 H R (N+M) os as->H so=some (.lst (rowV rs))->((∀ k∈rs,k < N+M))->(∀ H' ms,AskM a H0 H' R (N+M) os as->(∀ b o,b≠a.t38->H b=some o->H' b=some o)->ms.Perm ((List.range (N+M)).filter (mayB cs as))->ms.Pairwise (klt (ckO cs))->(∀ D j,gR r w M N l (knO os) rs ms j->H D=none->H' D=some (.lst (rowV (ms.take j)))->Q (.ref D) H')/\(jO r w M N l (knO os) rs ms->Q .non H'))->oS a vs H Q E_3
theorem dv (T:Txt K mg a) (B:Tb base mg a):FnO P wo K mg base 10 a.f39 ["self", "some"] (oS a):=by
 refine T.x39.F.okA (k:=9) sc_Asking_detour (fun a5 A outer s H vs Q E hr h=>?_)
 ·obtain ⟨H0,R,so,r,w,n,M,N,l,cs,L,os,as,rs,rfl,I,J,Z,a4,q⟩:=h
  obtain ⟨dx,hA⟩:=I.obj
  have n8:=I.W.n8
  have a2:so≠a.t38:=by
   obtain ⟨ps,hp,_⟩:=J.tab;exact aN Z hp (fun y=>by cases y)
  exists xx
  exists xc (al (i:=2) sc_Asking_detour.nd rfl (Or.inl rfl) (cN (pv 0) T.cl_Asking T.x38.me (kN T B) hr.u T.x38.b .nil ao))
  exists xc (al (i:=3) sc_Asking_detour.nd rfl (Or.inl rfl) (cN (pv 0) T.cl_Asking T.x35.me (cJ T) hr.u T.x35.b .nil ao))
  exists xc (al (i:=4) sc_Asking_detour.nd rfl (Or.inl rfl) (bq ac))
  refine xq ?_;refine xw PassesOwn.never (bQ (bd (ay (fI T) hr.u rfl T.x30.m T.x30.k T.x30.b .nil ao (aa (az (pv 0) rfl) (aa (pv 3) (aa (pv 1) ac)))))) ?_;refine xq ?_;refine xi (au bU (aA aB rfl T.n_len ab7 (aa (pv 4) ac)) (aA aB rfl T.n_len ab7 (aa (pv 2) ac)) (ax _)) ?_
  exists xl (av aR)
  refine ⟨_,aF,?_⟩;intro u_
  exists xc (al (i:=5) sc_Asking_detour.nd rfl (Or.inl rfl) (aI aH (pv 2) (aA aB rfl T.n_len ab7 (aa (pv 4) ac)) (fun _ _=>rfl)))
  exists xc (de dC (dD (pv 3) (pv 5) cm))
  exists xl (aS (cn ac5 ad1 ad2 bc (pv 4) (aa (pv 5) ac)))
  intro u_
  exists xl (av (pv 4))
  refine ⟨_,rfl,R.A,dx,_,rfl,J.sm _ _ hA,rfl,H0,R,r,w,n,M,N,l,cs,L,os,as,rfl,I,J,fun D1 H1 ms J1 k1 a6 Y pm pw=>?_⟩
  have q:=fun H' (s:Same H1 H')=>q H' ms (J1.same s) (fun b o hb e=>s b o (k1 b o hb e)) pm pw
  have aw:=k1 _ _ a2 Z
  have ml:ms.length<=8:=by
   rw [pm.length_eq]
   have:=ac0 (mayB cs as) (List.range (N+M));rw [zS] at this;omega
  have a1:∀ k∈ms,k < N+M:=fun k hk=>aa1.mp (aa7.mp (pm.mem_iff.mp hk)).1;refine ⟨_,rfl,R.A,dx,_,rfl,J1.sm _ _ hA,rfl,H0,R,r,w,n,M,N,l,cs,L,os,as,rfl,I,J1,fun D2 H2 s2 a3 ak=>?_⟩;refine ⟨ab1 _,fun D3 ad=>?_⟩
  have U:D2≠D3:=am ak ad
  have C:H1 D3=none:=s2.free ad
  have a0:∀ D,H1 D=none->H D=none:=fun D e=>by
   cases z:H D with
   | none=>rfl
   | some o =>
    by_cases y:D=a.t38
    ·obtain ⟨ps,hp,_⟩:=J1.tab
     rw [y,hp] at e;cases e
    ·rw [k1 D o y z] at e;cases e
  have X:(upd H2 D3 (.lst [])) D3=some (.lst (rowV (ms.take 0))):=ab
  have O:(upd H2 D3 (.lst [])) D2=some (.lst (knV (knW (knO os) (ms.take 0)))):=by rw [ae U];exact ak
  have s3:Same H1 (upd H2 D3 (.lst [])):=s2.up C;generalize (upd H2 D3 (.lst []))=H3 at X O s3
  refine ⟨fun m σ H'=>∃ (j:Nat) (v5:Option V),m=ms.length - j/\j<=ms.length/\σ=[some (.ref R.A),some (.ref so),some (.ref D1),some (.ref D2),some (.ref D3),v5]/\Same H1 H'/\H' D2=some (.lst (knV (knW (knO os) (ms.take j))))/\H' D3=some (.lst (rowV (ms.take j)))/\∀ i,i < j->rs.all (fx r w M N l (knW (knO os) (ms.take i)))=false,
   ⟨_,0,none,rfl,ab1 _,rfl,s3,O,X,fun i hi=>absurd hi (af5 i)⟩,?_⟩
  rintro m σ H' ⟨j,v5,rfl,hj,rfl,sm,h2,h3,S⟩
  have J':=J1.same sm;refine ⟨_,rfl,R.A,_,_,_,_,rfl,J'.sm _ _ hA,T.cl_Asking,T.no_Asking_code,cF _ _ _ _ _,_,rfl,_,rfl,?_⟩;refine ⟨R.c,R.bp,R.fp,D2,so,r,w,n,M,N,l,knW (knO os) (ms.take j),rs,rfl,I.code.same J'.sm,I.full,I.W,h2,by rw [dM,bg,J.osl],SqL.of (sm _ _ aw),a4,fun H4 s4=>?_⟩
  refine ⟨_,rfl,?_⟩
  have g:=sm.trans s4
  cases hz:rs.all (fx r w M N l (knW (knO os) (ms.take j))) with
  | true =>
   refine ite2 (fun y=>absurd y (by decide)) (fun _=>?_)
   exact ⟨_,rfl,(q H4 g).1 D3 j ⟨hj,hz,S⟩ (a0 D3 C) (s4 _ _ h3)⟩
  | false =>
   refine ite2 (fun _=>⟨_,fun _ _ z=>z,?_⟩) (fun y=>absurd rfl y);refine ⟨_,rfl,D3,_,rfl,.inl (SqL.of (s4 _ _ h3)),_,rfl,D1,_,rfl,.inl (SqL.of (g _ _ Y)),rfl,_,rfl,?_⟩
   have e1:(rowV (ms.take j)).length=j:=by rw [aj,ag0];omega
   rw [e1,aj]
   by_cases hjm:j=ms.length
   ·refine ite2 (fun _=>?_) (fun y=>absurd (zZ (by rw [hjm])) y)
    refine (q H4 g).2 fun i hi=>?_
    by_cases y:i=j
    ·rw [y];exact hz
    ·exact S i (by omega)
   ·refine ite2 (fun y=>absurd (V.int.inj (zN y)) (by omega)) (fun _=>?_)
    have G:j < ms.length:=by omega
    have gk:ms[j]?=some ms[j]:=zL G
    have hk:=a1 _ (ae1 G)
    have ek:(rowV ms)[j]?=some (.int (ms[j]:Nat)):=oq G;refine ⟨_,rfl,_,rfl,D3,_,rfl,.inl (SqL.of (s4 _ _ h3)),?_⟩;rw [e1];refine ⟨D1,_,_,_,rfl,rfl,SqL.of (g _ _ Y),aC ek,?_⟩;refine ⟨_,rfl,_,rfl,D2,_,_,ms[j],rfl,rfl,s4 _ _ h2,da (by unfold knV;rw [zM,dM,bg,J.osl];exact hk),?_⟩
    rw [xU,← wb,← dy gk]
    have an:(upd H4 D2 (.lst (knV (knW (knO os) (ms.take (j+1)))))) D3=some (.lst (rowV (ms.take j))):=by
     rw [ae (ad3 U)];exact s4 _ _ h3
    have aT:(rowV (ms.take j)).length < sizeLine:=by
     rw [e1];exact aa2 (by omega:j < 8) (by decide)
    refine ⟨_,rfl,.inl ⟨rfl,_,SqL.of an⟩,_,rfl,D3,_,_,rfl,rfl,an,aT,?_⟩;rw [cj,← dy gk];refine ⟨ms.length - (j+1),by omega,j+1,_,rfl,G,rfl,(g.up a3).up C,?_,ab,fun i hi=>?_⟩
    ·rw [ae U];exact ab
    ·by_cases y:i=j
     ·rw [y];exact hz
     ·exact S i (by omega)
def sumC (cs:List (Option Nat)) (rs:List Nat):Int:=(rs.map fun k=>ckO cs k).sum
variable {srow:List (Option Nat)}
theorem AskI.ext {R:AskR} (I:AskI a H0 R r w n M N l cs srow) (nD:H0 D=none) (h1:R.rl≠D) (h2:R.sl≠D) (h3:R.z≠D) (h4:a.t38≠D):AskI a (upd H0 D o) R r w n M N l cs srow:=by
 have s:=Same.new (o:=o) nD;obtain ⟨dx,hA⟩:=I.obj;exact ⟨I.code.same s,I.full,I.n16,I.W,⟨dx,s _ _ hA⟩,s _ _ I.cost,I.csl,I.asker.same s,s _ _ I.row,I.srl,by rw [ae h1];exact I.nrl,by rw [ae h2];exact I.nsl,by rw [ae h3];exact I.nz,by rw [ae h4];exact I.nt,I.d1,I.d2,I.d3⟩
theorem AskM.ext {R:AskR} (J:AskM a H0 H R n os as) (hD:H D=some o):AskM a (upd H0 D o) H R n os as :=
 ⟨fun b u e=>by
  by_cases z:b=D
  ·rw [z,ab] at e
   cases e;rw [z];exact hD
  ·rw [ae z] at e
   exact J.sm b u e,J.hr,J.hs,J.hz,J.tab,J.osl,J.nd,J.lt⟩
theorem AskM.rebs {H0':Hp}{R:AskR} (J:AskM a H0' H R n os as) (s:Same H0 H0'):AskM a H0 H R n os as:=⟨s.trans J.sm,J.hr,J.hs,J.hz,J.tab,J.osl,J.nd,J.lt⟩
theorem AskM.away {R:AskR} (J:AskM a H0 H R n os as) (nD:H D=none):R.rl≠D/\R.sl≠D/\R.z≠D/\a.t38≠D:=by
 obtain ⟨ps,hp,_⟩:=J.tab;exact ⟨am J.hr nD,am J.hs nD,am J.hz nD,am hp nD⟩
theorem oU {k:Nat} (hl:os.length=R) (hs:bH R srow X) (ho:bH R os X) (hk:k < R):bH R (tk cs srow os as k).1 X:=by
 unfold tk
 split
 ·intro j hj b hb
  by_cases z:j=k
  ·subst z
   rw [zK,ah0 (by omega)] at hb
   exact hs j hj b hb
  ·rw [zK,af7 (ad3 z),← zK] at hb
   exact ho j hj b hb
 ·exact ho
theorem yZ {k:Nat}:(tk cs srow os as k).1.length=os.length:=by
 unfold tk
 split
 ·exact ae6
 ·rfl
theorem lx {k:Nat} (h:mayB cs as k=true):(tk cs srow os as k).2.length=as.length+1:=by
 unfold tk;rw [if_pos h];exact ab6
theorem wP {k:Nat}:as.length<=(tk cs srow os as k).2.length:=by
 unfold tk
 split
 ·rw [ab6];exact aj4 _ _
 ·exact zQ _
theorem gg {R:Nat}{cs srow:List (Option Nat)}{X:List Nat} (hs:bH R srow X):∀ (ks:List Nat) (os:List (Option Nat)) (as:List Nat),os.length=R->(∀ k∈ks,k < R)->bH R os X->bH R (bx cs srow ks os as).1 X
 | [],_,_,_,_,h=>h
 | k :: ks,os,as,hl,hk,h=>by
  have h1:=oU (cs:=cs) (as:=as) hl hs h (hk k (.head _));unfold bx
  split
  ·exact gg hs ks _ _ (by rw [yZ,hl]) (fun j hj=>hk j (.tail _ hj)) h1
  ·exact h1
theorem oV {cs srow:List (Option Nat)}:∀ (ks:List Nat) (os:List (Option Nat)) (as:List Nat),as.length<=(bx cs srow ks os as).2.length
 | [],_,_=>zQ _
 | k :: ks,os,as=>by
  unfold bx
  split
  ·exact zR wP (oV ks _ _)
  ·exact wP
theorem kO {k:Nat}{ks:List Nat} (h:mayB cs as k=true):as.length+1<=(bx cs srow (k :: ks) os as).2.length:=by
 unfold bx
 split
 ·rw [<- lx (srow:=srow) (os:=os) h]
  exact oV ks _ _
 ·rw [lx h]
  exact zQ _
theorem kP {F:Hp->Prop} (Pz:Hp->Prop) (h:(∀ z,Pz z->F z)->G) (key:∀ z,Pz z->F z):G:=h key
section
variable (r w M N:Nat) (l:Nat->Nat->Nat) (cs srow:List (Option Nat)) (k:Nat)
inductive RdS:List (Option Nat)->List Nat->List (Option Nat)->List Nat->Bool->Prop
 | fixed {os as:_}:fx r w M N l (knO os) k=true->RdS os as os as true
 | none {os as ms:_}:fx r w M N l (knO os) k=false->ms.Perm ((List.range (N+M)).filter (mayB cs as))->ms.Pairwise (klt (ckO cs))->jO r w M N l (knO os) [k] ms->RdS os as os as false
 | own {os as ms j os' as' b:_}:fx r w M N l (knO os) k=false->ms.Perm ((List.range (N+M)).filter (mayB cs as))->ms.Pairwise (klt (ckO cs))->gR r w M N l (knO os) [k] ms j->mayB cs as k=true->ckO cs k<=sumC cs (ms.take j)->RdS (tk cs srow os as k).1 (tk cs srow os as k).2 os' as' b->RdS os as os' as' b
 | way {os as ms j os' as' b:_}:fx r w M N l (knO os) k=false->ms.Perm ((List.range (N+M)).filter (mayB cs as))->ms.Pairwise (klt (ckO cs))->gR r w M N l (knO os) [k] ms j->¬ (mayB cs as k=true/\ckO cs k<=sumC cs (ms.take j))->RdS (bx cs srow (ms.take j) os as).1 (bx cs srow (ms.take j) os as).2 os' as' b->RdS os as os' as' b
end
inductive uK (a:Adr) (vs:List V) (H:Hp) (Q:VK) (E_3:XK):Prop
 | mk:∀ (H0:Hp) (R:AskR) (r w n M N k:Nat) (l:Nat->Nat->Nat) (cs srow os:List (Option Nat)) (as X:List Nat),vs=[.ref R.A,.int k]->AskI a H0 R r w n M N l cs srow->AskM a H0 H R (N+M) os as->k < N+M->((∀ j,(cs.getD j none).getD 0<=1000000))->X.length=N+M->((∀ b∈X,b < (2 ^ w) ^ n))->isMk r w n M N l X=true->bH (N+M) srow X->bH (N+M) os X->(∀ H' os' as' b,RdS r w M N l cs srow k os as os' as' b->bH (N+M) os' X->AskM a H0 H' R (N+M) os' as'->Q (if b=true then .int ((X.getD k 0:Nat):Int) else .non) H')->uK a vs H Q E_3
theorem oW (T:Txt K mg a) (B:Tb base mg a):FnO P wo K mg base 11 a.f52 ["asking", "role"] (uK a):=by
 refine T.x52.F.okA (k:=10) sc_read_role (fun b1 A outer s H vs Q E hr h=>?_)
 ·obtain ⟨H0,R,r,w,n,M,N,k,l,cs,srow,os,as,X,rfl,I,J,hk,a9,hX,a7,hm,ad,a6,q⟩:=h
  obtain ⟨dx,hA⟩:=I.obj
  have n8:=I.W.n8
  exists xx
  refine xq ?_;refine xw PassesOwn.never (bQ (bd (aE (pv 0) T.cl_Asking T.x36.me (cK T) hr.u T.x36.b .nil ao (aa (bq (aa (pv 1) ac)) ac)))) ?_
  exists xc (al (i:=2) sc_read_role.nd rfl (Or.inl rfl) (aE (pv 0) T.cl_Asking T.x39.me (dv T B) hr.u T.x39.b .nil ao (aa (bq (aa (pv 1) ac)) ac)))
  refine xq ?_;refine xi (au ig (pv 2) aR (ax _)) ?_
  exists xl (av aR)
  refine ⟨_,aF,?_⟩;intro u_;refine x1 ?_;refine xi (PW.pt (jV (bd (aE (pv 0) T.cl_Asking T.x32.me (dq T) hr.u T.x32.b .nil ao (aa (pv 1) ac))) (iR (au zo (aI aH (az (pv 0) rfl) (pv 1) (fun _ _=>rfl)) (aE (pv 0) T.cl_Asking T.x37.me (cS T) hr.u T.x37.b .nil ao (aa (pv 2) ac)) (ax _))))) ?_
  exists xl (aS (aE (pv 0) T.cl_Asking T.x33.me (gA T) hr.u T.x33.b .nil ao (aa (pv 1) ac)))
  exists xl (aS (aE (pv 0) T.cl_Asking T.x34.me (dL T) hr.u T.x34.b .nil ao (aa (pv 2) ac)))
  intro u_;intro u_
  exists xl (av (aE (pv 0) T.cl_Asking T.x40.me (bW T) hr.u T.x40.b .nil ao (aa (pv 1) ac)))
  refine ⟨fun m σ H'=>∃ (g:List (Option Nat)) (C:List Nat) (v2:Option V),m=(N+M) - C.length/\σ=[some (.ref R.A),some (.int (k:Nat)),v2]/\AskM a H0 H' R (N+M) g C/\bH (N+M) g X/\∀ S U b,RdS r w M N l cs srow k g C S U b->RdS r w M N l cs srow k os as S U b,
   ⟨_,os,as,none,rfl,rfl,J,a6,fun _ _ _ h=>h⟩,?_⟩
  rintro m σ H1 ⟨g,C,v2,rfl,rfl,J1,G,O⟩;refine ⟨_,rfl,R.A,dx,_,rfl,J1.sm _ _ hA,rfl,_,rfl,(by show 1<=sizeLine;decide),fun p1 n1=>?_⟩
  have J2:=J1.same (Same.new (o:=.lst [V.int (k:Nat)]) n1)
  have Y:(upd H1 p1 (.lst [V.int (k:Nat)])) p1=some (.lst (rowV [k])):=ab;generalize (upd H1 p1 (.lst [V.int (k:Nat)]))=H2 at J2 Y
  have aT:∀ j∈[k],j < N+M:=fun j hj=>by rw [aa6.mp hj];exact hk
  refine ⟨H0,R,p1,r,w,n,M,N,l,cs,srow,g,C,[k],rfl,I,J2,SqL.of Y,aT,fun H3 s3=>?_⟩
  have J3:=J2.same s3;refine ⟨_,rfl,?_⟩
  have aw:[k].all (fx r w M N l (knO g))=fx r w M N l (knO g) k:=by
   rw [aj3,List.all_nil,ai5]
  rw [aw]
  cases hz:fx r w M N l (knO g) k with
  | true =>
   refine ite2 (fun y=>absurd y (by decide)) (fun _=>?_)
   refine ⟨_,rfl,R.A,dx,_,rfl,J3.sm _ _ hA,rfl,_,rfl,H0,R,r,w,n,M,N,k,l,cs,srow,g,C,X,rfl,I,J3,hk,hX,a7,hm,G,fun H4 s4=>?_⟩;rw [hz];exact q H4 g C true (O _ _ _ (.fixed hz)) G (J3.same s4)
  | false =>
   refine ite2 (fun _=>⟨_,fun _ _ z=>z,?_⟩) (fun y=>absurd rfl y);refine ⟨_,rfl,R.A,dx,_,rfl,J3.sm _ _ hA,rfl,_,rfl,(by show 1<=sizeLine;decide),fun p2 n2=>?_⟩
   have J4:=J3.same (Same.new (o:=.lst [V.int (k:Nat)]) n2)
   have ak:(upd H3 p2 (.lst [V.int (k:Nat)])) p2=some (.lst (rowV [k])):=ab;generalize (upd H3 p2 (.lst [V.int (k:Nat)]))=H4 at J4 ak;refine ⟨H0,R,p2,r,w,n,M,N,l,cs,srow,g,C,[k],rfl,I,J4,ak,aT,fun H5 ms J5 k5 pm pw=>⟨fun D j hd nD hD=>?_,fun hd=>?_⟩⟩
   ·have an:H0 D=none:=J4.sm.free nD
    obtain ⟨a1,a2,a3,a4⟩:=J4.away nD
    have L:∀ x∈ms.take j,x < N+M/\mayB cs C x=true:=fun x hx=>by
     have:=aa7.mp (pm.mem_iff.mp (ak1 hx));exact ⟨aa1.mp this.1,this.2⟩
    have bm:(ms.take j).length<=8:=by
     have h1:=ac0 (mayB cs C) (List.range (N+M));rw [zS,← pm.length_eq] at h1;rw [ag0];omega
    have a8:∀ x∈ms.take j,x < N+M/\(cs.getD x none).isSome=true/\(cs.getD x none).getD 0<=1000000:=fun x hx=>by
     obtain ⟨h1,h2⟩:=L x hx;unfold mayB at h2;exact ⟨h1,(ac8 _ _ ▸ h2).1,a9 x⟩
    refine ⟨_,rfl,rfl,_,rfl,?_⟩;refine ite2 (fun y=>absurd (zN y) (fun z=>by cases z)) (fun _=>?_)
    refine ⟨_,rfl,R.A,dx,_,rfl,J5.sm _ _ hA,rfl,_,rfl,H0,R,r,w,n,M,N,k,l,cs,srow,g,C,rfl,I,J5,hk,?_⟩
    have b0:=J5.asl
    refine kP (fun H6=>Same H5 H6/\¬ (mayB cs C k=true/\ckO cs k<=sumC cs (ms.take j))) (fun Z=>by
     cases hy:mayB cs C k with
     | true =>
      refine ⟨_,rfl,ite2 (fun _=>?_) (fun y=>absurd rfl y)⟩
      have ev:valO (cs.getD k none)=.int (ckO cs k):=by
       unfold mayB at hy;unfold ckO
       cases hv:cs.getD k none with
       | none=>rw [hv] at hy;cases hy
       | some b=>rfl
      have gi:=aC (bj (cb (os:=cs) (k:=k) (by rw [I.csl];exact hk)))
      rw [ev] at gi;refine ⟨_,rfl,R.A,_,_,_,_,rfl,J5.sm _ _ hA,T.cl_Asking,T.no_Asking_costs,du _ _ _ _ _,_,rfl,R.cl,_,_,_,rfl,rfl,SqL.of (J5.sm _ _ I.cost),gi,_,rfl,R.A,dx,_,rfl,J5.sm _ _ hA,rfl,_,rfl,H0,R,D,r,w,n,M,N,l,cs,srow,g,C,ms.take j,rfl,I,J5,SqL.of hD,bm,a8,fun H6 s6=>?_⟩;refine ⟨_,_,rfl,rfl,_,rfl,?_⟩;refine iteR (fun hc=>?_) (fun hc=>?_)
      ·exact Z H6 ⟨s6,fun z=>hc (zZ z.2)⟩
      ·have J6:=J5.same s6
       refine ⟨_,rfl,R.A,dx,_,rfl,J6.sm _ _ hA,rfl,_,rfl,H0,R,r,w,n,M,N,k,l,cs,srow,g,C,rfl,I,J6,hk,fun H7 J7=>?_⟩;refine ⟨(N+M) - (tk cs srow g C k).2.length,?_,_,_,_,rfl,rfl,J7,oU J1.osl ad G hk,fun S U b h=>O _ _ _ (.own hz pm pw hd hy (zN hc) h)⟩
       have:=J7.asl;rw [lx hy] at this ⊢;omega
     | false =>
      refine ⟨_,rfl,ite2 (fun y=>absurd y (by decide)) (fun _=>?_)⟩
      refine ite2 (fun y=>absurd y (by decide)) (fun _=>?_)
      exact Z H5 ⟨Same.refl _,fun z=>absurd z.1 (by rw [hy];decide)⟩) ?_
    rintro H6 ⟨s6,a0⟩
    have J6:=J5.same s6;refine ⟨_,rfl,R.A,dx,_,rfl,J6.sm _ _ hA,rfl,_,rfl,?_⟩;refine ⟨upd H0 D (.lst (rowV (ms.take j))),R,D,r,w,n,M,N,l,cs,srow,g,C,ms.take j,rfl,I.ext an a1 a2 a3 a4,J6.ext (s6 _ _ hD),SqL.of ab,fun x hx=>(L x hx).1,fun H7 J7=>?_⟩
    have J8:=J7.rebs (Same.new an);refine ⟨(N+M) - (bx cs srow (ms.take j) g C).2.length,?_,_,_,_,rfl,rfl,J8,gg ad _ _ _ J1.osl (fun x hx=>(L x hx).1) G,fun S U b h=>O _ _ _ (.way hz pm pw hd a0 h)⟩
    have a5:∃ m0 rest,ms.take j=m0 :: rest:=by
     cases e:ms.take j with
     | nil =>
      have:=hd.2.1;rw [e] at this
      have h2:[k].all (fx r w M N l (knO g))=true:=this;rw [aw,hz] at h2
      cases h2
     | cons m0 rest=>exact ⟨m0,rest,rfl⟩
    obtain ⟨m0,rest,e0⟩:=a5
    have h1:=kO (srow:=srow) (ks:=rest) (os:=g) (L m0 (by rw [e0];exact .head _)).2
    have h2:=J8.asl;rw [e0] at h2 ⊢;omega
   ·refine ⟨_,rfl,rfl,_,rfl,?_⟩
    refine ite2 (fun _=>?_) (fun y=>absurd rfl y)
    have:=q H5 g C false (O _ _ _ (.none hz pm pw hd)) G J5;rw [if_neg (by decide)] at this
    exact this
def dRow (row:List Nat):Dt:=.lst (row.map fun n=>.int ((n:Nat):Int))
theorem dz (h:H p=some (.lst (rowV row))):Sees K H (.ref p) (dRow row):=by
 unfold dRow;rw [Sees];refine ⟨p,_,rfl,SqL.of h,jI (by rw [aj,zM]) fun i v d h1 h2=>?_⟩
 obtain ⟨x,ex,rfl⟩:=aQ h1;rw [zO,ex] at h2
 have:=zX h2;subst this;rw [Sees]
theorem jP (row:List Nat):depD (dRow row)<=60:=by
 unfold dRow;rw [depD]
 have:dH (row.map fun n=>Dt.int ((n:Nat):Int))<=0:=jJ fun d hd=>by
  obtain ⟨n,_,rfl⟩:=ae2.mp hd;rw [depD]
  ·exact ab1 _
  all_goals (intro _ h;cases h)
 omega
def dOpt:Option Nat->Dt
 | none=>.non
 | some n=>.int ((n:Nat):Int)
def fW (os:List (Option Nat)):Dt:=.lst (os.map dOpt)
theorem fX (h:H p=some (.lst (rowO os))):Sees K H (.ref p) (fW os):=by
 unfold fW;rw [Sees];refine ⟨p,_,rfl,SqL.of h,jI (by rw [aP,zM]) fun i v d h1 h2=>?_⟩
 unfold rowO at h1;rw [zO] at h1 h2
 cases ho:os[i]? with
 | none=>rw [ho] at h1;cases h1
 | some o =>
  rw [ho] at h1 h2
  have h1:=zX h1
  have h2:=zX h2;subst h1;subst h2
  cases o with
  | none=>show Sees K H .non .non;rw [Sees]
  | some n=>show Sees K H (.int _) (.int _);rw [Sees]
theorem oX (os:List (Option Nat)):depD (fW os)<=60:=by
 unfold fW;rw [depD]
 have:dH (os.map dOpt)<=0:=jJ fun d hd=>by
  obtain ⟨n,_,rfl⟩:=ae2.mp hd
  cases n with
  | none=>
   show depD .non<=0
   rw [depD]
   ·exact ab1 _
   all_goals (intro _ h;cases h)
  | some n =>
   show depD (.int _)<=0
   rw [depD]
   ·exact ab1 _
   all_goals (intro _ h;cases h)
 omega
structure OkA (R:Nat) (cs srow os:List (Option Nat)) (as:List Nat):Prop where
 osl:os.length=R
 there:∀ k∈as,(cs.getD k none).isSome=true
 is:∀ k,k < R->os.getD k none=if k∈as then srow.getD k none else none
theorem oY {k:Nat} (h:OkA R cs srow os as) (hk:k < R):OkA R cs srow (tk cs srow os as k).1 (tk cs srow os as k).2:=by
 unfold tk
 by_cases hm:mayB cs as k=true
 ·rw [if_pos hm]
  refine ⟨by rw [ae6,h.osl],fun j hj=>?_,fun j hj=>?_⟩
  ·rcases ab5.mp hj with z | z
   ·exact h.there j z
   ·rw [aa6.mp z]
    unfold mayB at hm;exact (ac8 _ _ ▸ hm).1
  ·by_cases z:j=k
   ·subst z
    rw [zK,ah0 (by rw [h.osl];exact hj),if_pos (ac6 _ (.head _))]
    rfl
   ·rw [zK,af7 (ad3 z),← zK,h.is j hj]
    by_cases y:j∈as
    ·rw [if_pos y,if_pos (ai6 _ y)]
    ·rw [if_neg y,if_neg (fun e=>by
      rcases ab5.mp e with e | e
      ·exact y e
      ·exact z (aa6.mp e))]
 ·rw [if_neg hm]
  exact h
theorem eN {R:Nat}{cs srow:List (Option Nat)}:∀ (ks:List Nat) (os:List (Option Nat)) (as:List Nat),(∀ k∈ks,k < R)->OkA R cs srow os as->OkA R cs srow (bx cs srow ks os as).1 (bx cs srow ks os as).2
 | [],_,_,_,h=>h
 | k :: ks,os,as,hk,h=>by
  have h1:=oY h (hk k (.head _));unfold bx
  split
  ·exact eN ks _ _ (fun j hj=>hk j (.tail _ hj)) h1
  ·exact h1
theorem rc {f:Nat->Bool} (pm:ms.Perm ((List.range R).filter f)):∀ x∈ms.take j,x < R:=fun x hx=>aa1.mp (aa7.mp (pm.mem_iff.mp (ak1 hx))).1
variable {os':List (Option Nat)}{as':List Nat}
theorem xV {k:Nat} (hk:k < N+M) (h:RdS r w M N l cs srow k os as os' as' b):OkA (N+M) cs srow os as->OkA (N+M) cs srow os' as':=by
 induction h with
 | fixed _=>exact id
 | none _ _ _ _=>exact id
 | own _ _ _ _ _ _ _ ih=>exact fun z=>ih (oY z hk)
 | way _ pm _ _ _ _ ih=>exact fun z=>ih (eN _ _ _ (rc pm) z)
theorem mB {k:Nat}:∀ as:List Nat,as.Nodup->(rowV as).countP (fun z=>eqV z (.int (k:Nat)))<=1
 | [],_=>ab1 _
 | x :: as,nd=>by
  have nd':=al3.mp nd
  have ih:=mB (k:=k) as nd'.2;unfold rowV at ih ⊢;rw [ad8,List.countP_cons]
  by_cases z:x=k
  ·subst z
   have:(List.map (fun n:Nat=>V.int (n:Int)) as).countP (fun z=>eqV z (.int (x:Nat)))=0:=by
    rw [List.countP_eq_zero];intro v hv;obtain ⟨y,hy,rfl⟩:=ae2.mp hv
    have ne:((y:Nat):Int)≠((x:Nat):Int):=fun e=>nd'.1 (by have e2:y=x:=(by omega);rw [<- e2];exact hy)
    show ¬ (((y:Nat):Int) == ((x:Nat):Int))=true
    rw [ad7.mpr ne]
    decide
   rw [this]
   split <;> omega
  ·have ne:((x:Nat):Int)≠((k:Nat):Int):=by omega
   have:(eqV (V.int (x:Nat)) (.int (k:Nat)))=false:=by
    show (((x:Nat):Int) == ((k:Nat):Int))=false
    exact ad7.mpr ne
   rw [if_neg (by rw [this];decide)]
   exact ih
def dueO (R:Nat) (srow:List (Option Nat)) (as:List Nat):List (Option Nat):=(List.range R).map fun k=>if k∈as then srow.getD k none else none
theorem wd {k:Nat} (hk:k < R):(dueO R srow as).set k (srow.getD k none)=dueO R srow (as++[k]):=by
 unfold dueO
 apply ad9
 intro i
 by_cases hi:i < R
 ·rw [zO,ab0 hi]
  by_cases z:i=k
  ·subst z
   rw [ah0 (by rw [zM,zS];exact hi),ae3,if_pos (ac6 _ (.head _))]
  ·rw [af7 (ad3 z),zO,ab0 hi,ae3,ae3]
   by_cases y:i∈as
   ·rw [if_pos y,if_pos (ai6 _ y)]
   ·rw [if_neg y,if_neg (fun e=>by
     rcases ab5.mp e with e | e
     ·exact y e
     ·exact z (aa6.mp e))]
 ·rw [zY (by rw [ae6,zM,zS];omega),zY (by rw [zM,zS];omega)]
theorem y8 (h:OkA R cs srow os as):dueO R srow as=os:=by
 unfold dueO
 apply ad9
 intro i
 by_cases hi:i < R
 ·rw [zO,ab0 hi,ae3,← h.is i hi]
  exact (cb (by rw [h.osl];exact hi)).symm
 ·rw [zY (by rw [zM,zS];omega),zY (by rw [h.osl];omega)]
theorem xW (R:Nat) (srow:List (Option Nat)):dueO R srow []=List.replicate R none:=by
 unfold dueO
 have:(fun k:Nat=>if k∈([]:List Nat) then srow.getD k none else none)=fun _=>none:=by
  funext k
  rw [if_neg ab9]
 rw [this,List.map_const',zS]
theorem xX (R:Nat):(List.replicate R [V.non]).flatten=rowO (List.replicate R none):=by
 unfold rowO;rw [List.map_replicate]
 induction R with
 | zero=>rfl
 | succ R ih=>rw [ag2,ai7,ih];rfl
inductive oZ (vs:List V) (H:Hp) (Q:VK) (E_3:XK):Prop
 | mk:∀ x:Int,vs=[.int x]->Q (.bl true) H->oZ vs H Q E_3
theorem we (T:Txt K mg a):FnO P wo K mg base 1 a.f54 ["_law_found"] oZ:=by
 refine T.x54.F.okA (k:=0) vQ (fun g A outer s H vs Q E hr h=>?_)
 ·obtain ⟨x,rfl,q⟩:=h
  exists xx
  exists xl (av (m3 (aA fz rfl T.n_isinstance boot_isinstance (aa (pv 0) (aa (gj (v:=.ty "int") rfl T.n_int (by decide +kernel) rfl) ac))) (ie (yC (aA fz rfl T.n_isinstance boot_isinstance (aa (pv 0) (aa (gj (v:=.ty "bool") rfl T.n_bool (by decide +kernel) rfl) ac)))))))
  refine ⟨_,rfl,_,_,_,_,rfl,.int _,gC _ _,_,rfl,iteT ?_⟩;exact ⟨_,rfl,_,_,_,_,rfl,.int _,nG _,_,rfl,q⟩
inductive uL (K:PySem.W.Frag) (a:Adr) (vs:List V) (H:Hp) (Q:VK) (E_3:XK):Prop
 | mk:∀ (H0:Hp) (R:AskR) (ch:Addr) (r w n M N:Nat) (l:Nat->Nat->Nat) (cs srow os:List (Option Nat)) (as:List Nat),vs=[.ref R.A,.ref R.z,.ref R.rw,.ref ch]->AskI a H0 R r w n M N l cs srow->AskM a H0 H R (N+M) os as->H ch=some (.lst (rowO cs))->OkA (N+M) cs srow os as->(∀ H',Same H H'->Q (.bl true) H')->uL K a vs H Q E_3
theorem xY (T:Txt K mg a):FnO P wo K mg base 1 a.f65 ["_law_asking", "_law_seen_here", "_law_row", "_law_costs_here"] (uL K a):=by
 refine T.x65.F.okA (k:=0) sc_seen (fun S A outer s H vs Q E hr h=>?_)
 ·obtain ⟨H0,R,ch,r,w,n,M,N,l,cs,g,os,as,rfl,I,J,C,ok,q⟩:=h
  obtain ⟨dx,hA⟩:=I.obj
  have n8:=I.W.n8
  have hA:=J.sm _ _ hA
  exists xx
  refine xq ?_
  refine xi (PW.pt (bC (bQ (bd (aA fz rfl T.n_isinstance boot_isinstance (aa (az (pv 0) rfl) (aa (gj (v:=.ty "list") rfl T.n_list (by decide +kernel) rfl) ac))))) (bC (au (kj hr.units) (az (pv 0) rfl) (pv 1) (ax _)) (bJ (au (kj hr.units) (az (pv 0) rfl) (pv 3) (ax _)))))) ?_
  exists xl (av dC)
  refine ⟨_,aF,?_⟩;intro u_
  exists xc (al (i:=4) sc_seen.nd rfl (Or.inl rfl) (aq ip (bq (aa aR ac)) (aA aB rfl T.n_len ab7 (aa (pv 2) ac))))
  refine xq ?_;refine xf PassesOwn.never rfl (aJ (pv 1)) (ar (i:=5) sc_seen.nd rfl (Or.inl rfl)) ?_;refine xq ?_;refine xi (PW.pt (bC (au cX (cn ac5 PySem.F.slot_list_count PySem.F.type_list_count vv (pv 1) (aa (pv 5) ac)) ai (ax _)) (bJ (au ig (aI aH (pv 3) (pv 5) (fun _ _=>rfl)) aR (ax _))))) ?_
  exists xl (av dC)
  refine ⟨_,aF,?_⟩;intro u_
  exists xl (de (aI aH (pv 2) (pv 5) (fun _ _=>rfl)) (dD (pv 4) (pv 5) cm))
  intro u_
  exists xl (av (m3 (aA fz rfl T.n_isinstance boot_isinstance (aa (az (pv 0) rfl) (aa (gj (v:=.ty "list") rfl T.n_list (by decide +kernel) rfl) ac))) (ie (dP (yM hr.units) (az (pv 0) rfl) (pv 4) (ax _)))))
  refine ⟨_,rfl,R.A,_,_,_,_,rfl,hA,T.cl_Asking,T.no_Asking_asked,gO _ _ _ _ _,_,_,_,_,rfl,.lst J.hs,gC _ _,_,rfl,?_⟩;refine ite2 (fun z=>absurd z (by decide)) (fun _=>?_)
  refine ⟨_,rfl,R.A,_,_,_,_,rfl,hA,T.cl_Asking,T.no_Asking_asked,gO _ _ _ _ _,_,rfl,dRow as,dRow as,dz J.hs,dz J.hz,rfl,rfl,⟨_,rfl⟩,jP as,_,rfl,?_⟩;refine ite2 (fun z=>absurd z (by rw [cP];decide)) (fun _=>?_)
  refine ⟨_,rfl,R.A,_,_,_,_,rfl,hA,T.cl_Asking,T.no_Asking_costs,du _ _ _ _ _,_,rfl,fW cs,fW cs,fX (J.sm _ _ I.cost),fX C,rfl,rfl,⟨_,rfl⟩,oX cs,_,rfl,?_⟩;refine ite2 (fun z=>absurd z (by rw [cP];decide)) (fun _=>?_)
  have G:=J.sm _ _ I.row;refine ⟨(show 1<=sizeLine by decide),fun p1 n1=>?_⟩
  refine ⟨_,rfl,R.rw,_,rfl,.inl (SqL.of ((Same.new n1) _ _ G)),p1,_,_,rfl,rfl,ab,by rw [aP,I.srl];omega,by rw [aP,I.srl];omega,?_,fun D nD=>?_⟩
  ·rw [aP,I.srl,ac2]
   show 1 * (N+M)<=sizeLine
   exact zR (by omega:1 * (N+M)<=30) (by decide)
  have s1:Same H (upd (upd H p1 (.lst [V.non])) D (.lst (List.replicate (((rowO g).length:Nat):Int).toNat [V.non]).flatten)):=(Same.new n1).trans (Same.new nD)
  have hD:(upd (upd H p1 (.lst [V.non])) D (.lst (List.replicate (((rowO g).length:Nat):Int).toNat [V.non]).flatten)) D=some (.lst (rowO (dueO (N+M) g (as.take 0)))):=by
   rw [ab,aP,I.srl,ac2,xX]
   show _=some (HO.lst (rowO (dueO (N+M) g [])))
   rw [xW]
  have L:H D=none:=(Same.new n1).free nD;generalize (upd (upd H p1 (.lst [V.non])) D (.lst (List.replicate (((rowO g).length:Nat):Int).toNat [V.non]).flatten))=H1 at s1 hD;refine ⟨_,rfl,R.z,rfl,⟨_,SqL.of (s1 _ _ J.hz)⟩,?_⟩;refine let I_:Nat->L2.St->Hp->Prop:=fun i σ H'=>L2.A3 ((∃ v5:Option V,σ=[some (.ref R.A),some (.ref R.z),some (.ref R.rw),some (.ref ch),some (.ref D),v5])) (Same H H') (H' D=some (.lst (rowO (dueO (N+M) g (as.take i)))));bR (xs:=rowV as) I_ ⟨⟨none,rfl⟩,s1,hD⟩ ?_ ?_ ?_
  ·rintro i σ H' _ ⟨_,sm,_⟩
   exact SqL.of (sm _ _ J.hz)
  ·rintro i x σ H' hx ⟨⟨v5,rfl⟩,sm,h1⟩
   obtain ⟨k,ek,rfl⟩:=aQ hx
   have B:=aa0 ek
   have hk:=J.lt k B;refine ⟨_,rfl,.inl ⟨rfl,_,SqL.of (sm _ _ J.hz)⟩,_,rfl,R.z,_,_,rfl,rfl,sm _ _ J.hz,rfl,fun z hz=>?_,_,_,rfl,rfl,_,rfl,?_⟩
   ·obtain ⟨y,_,rfl⟩:=jF hz
    rfl
   have U:=mB (k:=k) as J.nd;refine ite2 (fun z=>absurd (zN z) (by omega)) (fun _=>?_)
   refine ⟨_,rfl,_,rfl,ch,_,_,_,rfl,rfl,SqL.of (sm _ _ C),aC (bj (cb (by rw [I.csl];exact hk))),rfl,_,rfl,?_⟩
   have O:=ok.there k B;refine ite2 (fun z=>?_) (fun _=>?_)
   ·have:=fq (cs.getD k none)
    rw [z,O] at this
    cases this
   refine ⟨_,rfl,_,rfl,R.rw,_,_,_,rfl,rfl,SqL.of (sm _ _ G),aC (bj (cb (by rw [I.srl];exact hk))),_,rfl,_,rfl,D,_,_,k,rfl,rfl,h1,da (by rw [aP];unfold dueO;rw [zM,zS];exact hk),?_⟩
   rw [gP,wd hk,← dy ek];exact ⟨⟨_,rfl⟩,sm.up L,ab⟩
  ·rintro σ H' ⟨⟨v5,rfl⟩,sm,h1⟩
   rw [aj,ai1,y8 ok] at h1;refine ⟨_,rfl,R.A,_,_,_,_,rfl,sm _ _ hA,T.cl_Asking,T.no_Asking_row,fJ _ _ _ _ _,_,_,_,_,rfl,.lst (sm _ _ J.hr),gC _ _,_,rfl,iteT ?_⟩;refine ⟨_,rfl,R.A,_,_,_,_,rfl,sm _ _ hA,T.cl_Asking,T.no_Asking_row,fJ _ _ _ _ _,_,rfl,fW os,fW os,fX (sm _ _ J.hr),fX h1,rfl,rfl,⟨_,rfl⟩,oX os,?_⟩;rw [cP];exact q H' sm
def aL (xs:List Addr) (H:Hp):Hp:=fun b=>if b∈xs then none else H b
theorem fh (xs:List Addr) (H:Hp):Same (aL xs H) H:=fun b o e=>by
 unfold aL at e
 split at e
 ·cases e
 ·exact e
theorem bM {xs:List Addr}{b:Addr} (h:b∈xs):aL xs H b=none:=by unfold aL;rw [if_pos h]
theorem cT {xs:List Addr}{b:Addr} (h:b∉xs):aL xs H b=H b:=by unfold aL;rw [if_neg h]
theorem sf {G:Hp}{xs:List Addr} (s:Same G H) (h:∀ x∈xs,G x=none):Same G (aL xs H):=fun b o e=>by
 rw [cT (fun z=>by rw [h b z] at e;cases e)]
 exact s b o e
def gapP (cs srow:List (Option Nat)) (k:Nat):Bool:=(cs.getD k none).isNone || (srow.getD k none).isNone
theorem wf (ks:List Bool) (k:Nat) (hk:k < ks.length):∀ way:List Nat,(knW ks way).getD k false=(ks.getD k false || way.contains k):=fun way=>by
 induction way generalizing ks with
 | nil=>show ks.getD k false=_;simp
 | cons x way ih =>
  show (knW (ks.set x true) way).getD k false=_
  rw [ih (ks.set x true) (by rw [ae6];exact hk),List.contains_cons]
  by_cases z:x=k
  ·subst z
   rw [zK,ah0 hk]
   simp
  ·rw [zK,af7 z,← zK,ad7.mpr (ad3 z),al9]
theorem o0 (ok:OkA R cs srow os as) (hm:∀ k,k < R->mayB cs as k=true->k∈ms):dJ (knW (knO os) ms)<=(List.range R).countP (gapP cs srow):=by
 have hl:(knW (knO os) ms).length=R:=by rw [dM,bg,ok.osl]
 rw [dj,hl];refine am0 fun k hk h=>?_
 have hk:=aa1.mp hk
 have g:k < (knO os).length:=by rw [bg,ok.osl];exact hk
 rw [wf _ _ g] at h;unfold gapP
 cases h1:cs.getD k none with
 | none=>rfl
 | some c =>
  cases h2:srow.getD k none with
  | none=>rfl
  | some b =>
   exfalso
   by_cases z:k∈as
   ·have:=ok.is k hk
    rw [if_pos z,h2] at this;rw [zK,oI (by rw [ok.osl];exact hk) this] at h
    simp at h
   ·have l:mayB cs as k=true:=by
     unfold mayB;rw [h1]
     simp [z]
    have:=hm k hk l;rw [ab8.mpr this,am8] at h
    cases h
theorem uM {k:Nat} (g:GF.Good r w) (W:Wts w M N plainL) (hks:ks.length=N+M) (hk:k < N+M) (h:dJ ks<=M):fx r w M N plainL ks k=true:=by
 unfold fx
 cases z:ks.getD k false with
 | true=>rfl
 | false=>rw [mo g W.m1 W.m2 W.n8 hks hk z,zZ h];rfl
theorem wg {k:Nat} (g:GF.Good r w) (W:Wts w M N plainL) (hk:k < N+M) (hg:(List.range (N+M)).countP (gapP cs srow)<=M) (h:RdS r w M N plainL cs srow k os as os' as' b):OkA (N+M) cs srow os as->b=true:=by
 induction h with
 | fixed _=>exact fun _=>rfl
 | none hz pm _ hd =>
  intro ok
  have hm:∀ j,j < N+M->mayB cs _ j=true->j∈_:=fun j hj hy=>pm.mem_iff.mpr (aa7.mpr ⟨aa1.mpr hj,hy⟩)
  have h1:=o0 ok hm
  have h2:=hd _ (zQ _);rw [ai1,aj3,List.all_nil,ai5,uM g W (by rw [dM,bg,ok.osl]) hk (zR h1 hg)] at h2
  cases h2
 | own _ _ _ _ _ _ _ ih=>exact fun z=>ih (oY z hk)
 | way _ pm _ _ _ _ ih=>exact fun z=>ih (eN _ _ _ (rc pm) z)
theorem AskM.up {a:Adr}{H0 H:Hp}{R:AskR}{n:Nat}{os:List (Option Nat)}{as:List Nat}{x:Addr}{xs:List V}{o:HO} (J:AskM a H0 H R n os as) (n0:H0 x=none) (hx:H x=some (.lst xs)) (h1:R.rl≠x) (h2:R.sl≠x) (h3:R.z≠x):AskM a H0 (upd H x o) R n os as :=
 ⟨J.sm.up n0,by rw [ae h1];exact J.hr,by rw [ae h2];exact J.hs,by rw [ae h3];exact J.hz,J.tab.up hx,J.osl,J.nd,J.lt⟩
theorem wj (ys:List Addr) {G H3 H5:Hp}{x dx c bp fp f cl rl sl rw z:Addr}{r w n M N:Nat}{l:Nat->Nat->Nat}{cs srow:List (Option Nat)} (sG:Same G H3) (code:CodeAt a G c bp fp r w n M N l) (full:GF.Full r w) (n16:n<=16) (W:Wts w M N l) (row:G rw=some (.lst (rowO srow))) (srl:srow.length=N+M) (nzG:G z=none) (ntG:G a.t38=none) (ask:AskerAt H3 f rw z) (hz:H3 z=some (.lst (rowV []))) (tab:TabS H3 a.t38 posL qL) (csl:cs.length=N+M)
  (nx:H3 x=none) (ndx:H3 dx=none) (k5:∀ b o,b≠x->(upd (upd H3 dx (.own x)) x (.ins a.C_Asking dx [])) b=some o->H5 b=some o) (hx5:H5 x=some (.ins a.C_Asking dx (af c f cl rl sl))) (ncl:(upd (upd H3 dx (.own x)) x (.ins a.C_Asking dx [])) cl=none) (nrl:(upd (upd H3 dx (.own x)) x (.ins a.C_Asking dx [])) rl=none) (nsl:(upd (upd H3 dx (.own x)) x (.ins a.C_Asking dx [])) sl=none) (d1:cl≠rl) (d2:cl≠sl) (d3:rl≠sl) (hcl:H5 cl=some (.lst (rowO cs))) (hrl:H5 rl=some (.lst (rowO (List.replicate (N+M) none)))) (hsl:H5 sl=some (.lst (rowV []))) (hys:∀ y∈ys,G y=none/\((∃ xs,H3 y=some (.lst xs))\/∃ ps,H3 y=some (.tbl ps))) :
  AskI a (aL (z :: rl :: sl :: a.t38 :: ys) H5) ⟨x,c,bp,fp,f,cl,rl,sl,rw,z⟩ r w n M N l cs srow/\AskM a (aL (z :: rl :: sl :: a.t38 :: ys) H5) H5 ⟨x,c,bp,fp,f,cl,rl,sl,rw,z⟩ (N+M) (List.replicate (N+M) none) []/\Same G (aL (z :: rl :: sl :: a.t38 :: ys) H5)/\Same H3 H5:=by
 have fr:∀ {b:Addr},(upd (upd H3 dx (.own x)) x (.ins a.C_Asking dx [])) b=none->H3 b=none:=fun {b} e=>by
  by_cases z1:b=x
  ·rw [z1];exact nx
  rw [ae z1] at e
  by_cases z2:b=dx
  ·rw [z2];exact ndx
  rwa [ae z2] at e
 have g:Same H3 H5:=fun b o e=>k5 b o (am e nx) (by rw [ae (am e nx),ae (am e ndx)];exact e)
 have s:=fr ncl
 have h:=fr nrl
 have B:=fr nsl;obtain ⟨ps,hp,_⟩:=id tab
 have E:=g _ _ hp
 have D:=g _ _ hz
 have J:∀ {b:Addr}{o:HO},H3 b=some o->(∀ xs,o≠.lst xs)->(∀ xs,o≠.tbl xs)->b∉(z :: rl :: sl :: a.t38 :: ys):=fun {b o} e n1 n2 hb=>by
  rcases aa5.mp hb with y | hb
  ·rw [y,hz] at e;exact n1 _ (zX e).symm
  rcases aa5.mp hb with y | hb
  ·rw [y,h] at e;cases e
  rcases aa5.mp hb with y | hb
  ·rw [y,B] at e;cases e
  rcases aa5.mp hb with y | hb
  ·rw [y,hp] at e;exact n2 _ (zX e).symm
  ·obtain ⟨_,⟨xs,hy⟩ | ⟨xs,hy⟩⟩:=hys b hb
   ·rw [hy] at e;exact n1 _ (zX e).symm
   ·rw [hy] at e;exact n2 _ (zX e).symm
 have C:Same G (aL (z :: rl :: sl :: a.t38 :: ys) H5):=sf (sG.trans g) fun b hb=>by
  rcases aa5.mp hb with y | hb
  ·rw [y];exact nzG
  rcases aa5.mp hb with y | hb
  ·rw [y];exact sG.free h
  rcases aa5.mp hb with y | hb
  ·rw [y];exact sG.free B
  rcases aa5.mp hb with y | hb
  ·rw [y];exact ntG
  ·exact (hys b hb).1
 have hx:x∉(z :: rl :: sl :: a.t38 :: ys):=fun hb=>by
  rcases aa5.mp hb with y | hb
  ·rw [y,D] at hx5;cases hx5
  rcases aa5.mp hb with y | hb
  ·rw [y,hrl] at hx5;cases hx5
  rcases aa5.mp hb with y | hb
  ·rw [y,hsl] at hx5;cases hx5
  rcases aa5.mp hb with y | hb
  ·rw [y,E] at hx5;cases hx5
  ·obtain ⟨_,⟨xs,hy⟩ | ⟨xs,hy⟩⟩:=hys x hb <;> rw [nx] at hy <;> cases hy
 have hc:cl∉(z :: rl :: sl :: a.t38 :: ys):=fun hb=>by
  rcases aa5.mp hb with y | hb
  ·rw [y,hz] at s;cases s
  rcases aa5.mp hb with y | hb
  ·exact d1 y
  rcases aa5.mp hb with y | hb
  ·exact d2 y
  rcases aa5.mp hb with y | hb
  ·rw [y,E] at hcl;cases hcl
  ·obtain ⟨_,⟨xs,hy⟩ | ⟨xs,hy⟩⟩:=hys cl hb <;> rw [s] at hy <;> cases hy
 obtain ⟨c',c1,c2,H,pm,I,a1,a2,a3,a4,a5⟩:=ask.ex
 have ex:∀ {b:Addr}{φ:Heap->Prop},H3 b=some (.ext φ)->aL (z :: rl :: sl :: a.t38 :: ys) H5 b=some (.ext φ):=fun {b φ} e=>by
  rw [cT (J e (fun _ y=>by cases y) (fun _ y=>by cases y))]
  exact g _ _ e
 refine ⟨⟨code.same C,full,n16,W,⟨dx,?_⟩,?_,csl,⟨c',c1,c2,H,pm,I,ex a1,ex a2,ex a3,ex a4,a5⟩,C _ _ row,srl,bM (by simp),bM (by simp),bM (by simp),bM (by simp),d3,am hz h |>.symm,am hz B |>.symm⟩,⟨fh _ _,hrl,hsl,D,tab.keep g,ah8,List.nodup_nil,fun k hk=>absurd hk ab9⟩,C,g⟩
 ·rw [cT hx];exact hx5
 ·rw [cT hc];exact hcl
theorem o3 (R k:Nat):(List.replicate R (none:Option Nat)).getD k none=none:=by
 rw [zK,List.getElem?_replicate]
 split <;> rfl
theorem re (R:Nat) (cs srow:List (Option Nat)):OkA R cs srow (List.replicate R none) []:=⟨ah8,fun k hk=>absurd hk ab9,fun k _=>by
 rw [o3,if_neg ab9]⟩
theorem uN (R:Nat) (X:List Nat):bH R (List.replicate R none) X:=fun j _ b hb=>by
 rw [o3] at hb
 cases hb
theorem TabS.kp {t':Addr}{p:Pos}{ps:Array Value} (h:TabS H t p q) (ne:t≠t') (ht:H t'=some (.tbl ps)) (k:∀ b o,b≠t'->H b=some o->H' b=some o):TabS H' t p q:=by
 obtain ⟨g,h1,h2⟩:=h;refine ⟨g,k _ _ ne h1,?_⟩;rcases h2 with h2 | ⟨c',e,h2⟩
 ·exact .inl h2
 ·exact .inr ⟨c',e,k _ _ (aN h2 ht (fun y=>by cases y)) h2⟩
theorem xZ (r w n M N:Nat) (l:Nat->Nat->Nat) (bs:List Nat) (g:GF.Good r w) (W:Wts w M N l) (hb:bs.length=N):isMk r w n M N l (cu r w n M N l bs)=true:=by
 unfold isMk cu;rw [ab4];intro t ht
 have ht:=aa1.mp ht
 apply zZ
 rw [qK,List.zip_append (by rw [aD,hb]),GF.sumB_append]
 have h1:=GF.sumB_unit g.rule g.w1 (n:=n) (t:=t) M 0 ((List.range M).map fun t=>GF.sumB r w n ((rowT N l t).zip bs)) (by rw [zM,zS]) fun b hb=>by
  obtain ⟨j,hj,rfl⟩:=ae2.mp hb;exact GF.sumB_lt g.rule (fm fun k hk=>W.lt j k (aa1.mp hj) hk)
 simp only [Nat.add_zero] at h1;rw [h1,if_pos (by omega),Nat.sub_zero,zK,zO,ab0 ht]
 exact ai4 _
theorem o4 (r w n M N:Nat) (l:Nat->Nat->Nat) (bs:List Nat) (hb:bs.length=N):(cu r w n M N l bs).length=N+M:=by
 unfold cu;rw [ab6,zM,zS,hb]
theorem yd {bs:List Nat} (g:GF.Good r w) (W:Wts w M N l) (hlt:∀ b∈bs,b < (2 ^ w) ^ n):∀ b∈cu r w n M N l bs,b < (2 ^ w) ^ n:=fun b hb=>by
 unfold cu at hb;rcases ab5.mp hb with h | h
 ·exact hlt b h
 ·obtain ⟨j,hj,rfl⟩:=ae2.mp h
  exact GF.sumB_lt g.rule (fm fun k hk=>W.lt j k (aa1.mp hj) hk)
theorem cx {l:Addr}{f:Nat->V}{k:Nat}{cs:L2.St} (hl:SqL K H1 l (rowV rs)) (hD:H1 D=none) (hk:k=cs.length) (hn:rs.length<=1000)
  (he:∀ x H (R:V->Hp->Prop),x∈rs->Same H1 H->(∀ H4,Same H H4->R (f x) H4)->te (cs++[some (.int (x:Nat))]) H R)
  (hQ:∀ H,Same H1 H->H D=some (.lst (rs.map f))->Q H):bt (Itl K l) (be k) bL te (cs++[none]) H1 D Q:=by
 refine bV (xs:=rowV rs) (f:=fun i=>f (rs.getD i 0)) hl hD hk (by rw [aj];exact zR hn (by decide)) (fun i u H R hu sm hR=>?_) (fun H sm h=>hQ H sm ?_)
 ·obtain ⟨x,ex,rfl⟩:=aQ hu
  have eg:rs.getD i 0=x:=by rw [zK,ex];rfl
  rw [eg] at hR;exact he x H R (aa0 ex) sm hR
 ·rw [h,aj]
  refine congrArg (fun z=>some (HO.lst z)) ?_
  apply ad9
  intro i;rw [zO,zO]
  by_cases hi:i < rs.length
  ·rw [ab0 hi,zL hi,ae3,zK,zL hi]
   rfl
  ·rw [zY (by rw [zS];omega),zY (by omega)]
   rfl
def tch (l:Nat->Nat->Nat) (t k:Nat):Bool:=decide (l t k≠0)
def aG (nk:List Nat) (nb:Nat->Nat):List (Key × V):=nk.map fun k=>(Sum.inl ((k:Nat):Int),V.int ((nb k:Nat):Int))
def srtN (N:Nat) (nk:List Nat):List Nat:=(List.range N).filter fun k=>nk.contains k
variable {nk:List Nat}
theorem bu {k:Nat} (lt:∀ k∈nk,k < N):k∈srtN N nk ↔ k∈nk:=by
 unfold srtN;rw [aa7,aa1,ab8];exact ⟨fun h=>h.2,fun h=>⟨lt k h,h⟩⟩
theorem cz:(srtN N nk).length<=N:=by
 have:=ac0 (fun k=>nk.contains k) (List.range N)
 rwa [zS] at this
theorem bN (nk:List Nat) (nb:Nat->Nat):(aG nk nb).map (·.1)=(nk.map fun k=>((k:Nat):Int)).map Sum.inl:=by
 unfold aG;rw [ac4,ac4];rfl
theorem cU (nd:nk.Nodup) (lt:∀ k∈nk,k < N) {ns:List Int} (p:ns.Perm (nk.map fun k=>((k:Nat):Int))) (s:ns.Pairwise fun x y=>x<=y):ns.map V.int=rowV (srtN N nk):=by
 have e:ns=(srtN N nk).map fun k=>((k:Nat):Int):=by
  refine List.Perm.eq_of_pairwise (le:=fun x y=>x<=y) (fun a b _ _ h1 h2=>Int.le_antisymm h1 h2) s ?_ (p.trans (List.Perm.map _ ?_))
  ·rw [List.pairwise_map]
   exact (af2 _ List.pairwise_lt_range).imp fun h=>by omega
  ·refine (List.perm_ext_iff_of_nodup nd (af2 _ ai0)).mpr fun k=>?_
   exact (bu lt).symm
 rw [e];unfold rowV;rw [ac4];rfl
theorem bT (nk:List Nat) (nb:Nat->Nat) (k:Nat):valV (aG nk nb) (Sum.inl ((k:Nat):Int))=if k∈nk then some (.int ((nb k:Nat):Int)) else none:=by
 unfold aG
 induction nk with
 | nil=>rfl
 | cons x nk ih =>
  rw [ad8]
  by_cases e:x=k
  ·subst e
   rw [gG rfl,if_pos ac9]
  ·rw [gH (fun y=>e (by have:=Sum.inl.inj y;omega)),ih]
   by_cases m:k∈nk
   ·rw [if_pos m,if_pos (ac3 _ m)]
   ·rw [if_neg m,if_neg (fun y=>by rcases aa5.mp y with y | y;exact e y.symm;exact m y)]
inductive mC (a:Adr) (vs:List V) (H:Hp) (Q:VK) (E_3:XK):Prop
 | mk:∀ (c bp fp:Addr) (r w n M N t k:Nat) (l:Nat->Nat->Nat),vs=[.ref c,.int t,.int k]->CodeAt a H c bp fp r w n M N l->t < M->k < N->Q (.bl (tch l t k)) H->mC a vs H Q E_3
theorem fY (T:Txt K mg a):FnO P wo K mg base 1 a.f29 ["self", "total", "role"] (mC a):=by
 refine T.x29.F.okA (k:=0) kB (fun g A outer s H vs Q E hr h=>?_)
 ·obtain ⟨c,bp,fp,r,w,n,M,N,t,k,l,rfl,hC,ht,hk,q⟩:=h
  obtain ⟨dx,Lp,qs,h1,h2,h3⟩:=id hC.ins
  exists xx
  refine xq ?_;refine xi (PW.pt (bC (au d8 (pv 1) ai (ax _)) (bJ (au jY (pv 1) (az (pv 0) rfl) (ax _))))) ?_
  exists xl bo
  refine ⟨_,aF,?_⟩;intro u_;refine xq ?_;refine xi (PW.pt (bC (au d8 (pv 2) ai (ax _)) (bJ (au jY (pv 2) (az (pv 0) rfl) (ax _))))) ?_
  exists xl bo
  refine ⟨_,aF,?_⟩;intro u_
  exists xl (av (dP eW (aI aH (aI aH (az (pv 0) rfl) (pv 1) (fun _ _=>rfl)) (pv 2) (fun _ _=>rfl)) ai (ax _)))
  refine ⟨_,rfl,_,_,rfl,rfl,_,rfl,?_⟩;refine ite2 (fun y=>absurd (zN y) (by omega)) (fun _=>?_)
  refine ⟨_,rfl,_,rfl,c,_,_,_,_,rfl,h1,T.cl_Code,T.no_Code_sums,qM bp M N Lp,_,_,rfl,rfl,_,rfl,?_⟩;refine ite2 (fun y=>absurd (zN y) (by omega)) (fun _=>?_)
  refine ⟨_,rfl,_,_,rfl,rfl,_,rfl,?_⟩;refine ite2 (fun y=>absurd (zN y) (by omega)) (fun _=>?_)
  refine ⟨_,rfl,_,rfl,c,_,_,_,_,rfl,h1,T.cl_Code,T.no_Code_data,d6 bp M N Lp,_,_,rfl,rfl,_,rfl,?_⟩;refine ite2 (fun y=>absurd (zN y) (by omega)) (fun _=>?_)
  obtain ⟨p,ep,hp⟩:=h3.get ht
  have gi:=aC (bw (row:=rowT (N+M) (eqn N l) t) (i:=k) (by rw [aD];omega))
  rw [bi (by omega:k < N+M),show eqn N l t k=l t k by unfold eqn;rw [if_pos hk]] at gi
  refine ⟨_,rfl,c,_,_,_,_,rfl,h1,T.cl_Code,T.no_Code_lines,gL bp M N Lp,_,rfl,Lp,_,_,_,rfl,rfl,SqL.of h2,aC (aZ ep),_,rfl,p,_,_,_,rfl,rfl,SqL.of hp,gi,rfl,?_⟩
  have ed:(!decide (V.int ((l t k:Nat):Int)=V.int 0))=tch l t k:=by
   unfold tch
   by_cases x:l t k=0
   ·rw [x];rfl
   ·rw [aa9 (fun e=>x (by have:=V.int.inj e;omega)),zZ x];rfl
  rw [ed];exact q
inductive mD (K:PySem.W.Frag) (a:Adr) (vs:List V) (H:Hp) (Q:VK) (E_3:XK):Prop
 | mk:∀ (c bp fp tl:Addr) (r w n M N k:Nat) (l:Nat->Nat->Nat) (ts:List Nat),vs=[.ref c,.ref tl,.int k]->CodeAt a H c bp fp r w n M N l->SqL K H tl (rowV ts)->ts.length<=8->((∀ t∈ts,t < M))->k < N->(∀ H',Same H H'->Q (.bl (ts.any fun t=>tch l t k)) H')->mD K a vs H Q E_3
theorem kQ (T:Txt K mg a):FnO P wo K mg base 2 a.f43 ["code", "totals", "role"] (mD K a):=by
 refine T.x43.F.okA (k:=1) rX (fun C A outer s H vs Q E hr h=>?_)
 ·obtain ⟨c,bp,fp,tl,r,w,n,M,N,k,l,ts,rfl,hC,g,h8,B,hk,q⟩:=h
  exists xx
  exists xl (av (aA (l4 rfl) rfl T.n_any boot_any (aa (bb (CompOk.of (cap:=[2,0]) (own:=["total"]) (by kernel_rfl)) rfl (aJ (pv 1)) (fun _ _ _ _ _=>(ar (i:=2) (zN (by kernel_rfl)) rfl (Or.inl rfl))) (fun _ _ _ _ _=>aV) (fun _ _ _ _ _=>by exact (aE (pv 1) T.cl_Code T.x29.me (fY T) hr.u T.x29.b .nil ao (aa (pv 2) (aa (pv 0) ac))))) ac)))
  refine ⟨_,rfl,tl,rfl,⟨_,g⟩,fun D nD=>?_⟩;refine cx (f:=fun t=>.bl (tch l t k)) (cs:=[some (.int (k:Nat)),some (.ref c)]) g nD rfl (by omega) (fun t Hx Rx ht sx hR=>?_) (fun H2 s2 hD=>?_)
  ·obtain ⟨dx,Lp,qs,h1,h2,h3⟩:=id hC.ins
   exact ⟨_,rfl,c,dx,_,rfl,sx _ _ h1,rfl,_,rfl,_,rfl,c,bp,fp,r,w,n,M,N,t,k,l,rfl,hC.same sx,B t ht,hk,hR _ (Same.refl _)⟩
  ·refine ⟨D,ts.map fun t=>tch l t k,rfl,SqL.of (by rw [hD,ac4];rfl),?_⟩
   rw [List.any_map];exact q H2 s2
def totL (M N:Nat) (l:Nat->Nat->Nat) (cs:List (Option Nat)) (rs:List Nat):List Nat:=((List.range M).filter fun t=>(cs.getD (N+t) none).isSome).filter fun t=>rs.any (tch l t)
def bh (N:Nat) (l:Nat->Nat->Nat) (ts nk:List Nat):List Nat:=(List.range N).filter fun k=>!nk.contains k && ts.any fun t=>tch l t k
def chgL (N:Nat) (l:Nat->Nat->Nat) (ts rs:List Nat):List Nat:=(rs.filter fun k=>ts.any fun t=>tch l t k)++ts.map fun t=>N+t
theorem ye {t:Nat} (h:t∈totL M N l cs rs):t < M:=aa1.mp (aa7.mp (aa7.mp h).1).1
theorem wk:(totL M N l cs rs).length<=M:=by
 have h1:=ac0 (fun t=>rs.any (tch l t)) ((List.range M).filter fun t=>(cs.getD (N+t) none).isSome)
 have h2:=ac0 (fun t=>(cs.getD (N+t) none).isSome) (List.range M);rw [zS] at h2;exact zR h1 h2
inductive uO (a:Adr) (vs:List V) (H:Hp) (Q:VK) (E_3:XK):Prop
 | mk:∀ (H0:Hp) (R:AskR) (nd:Addr) (r w n M N:Nat) (l:Nat->Nat->Nat) (cs srow os:List (Option Nat)) (as nk:List Nat) (nb:Nat->Nat),vs=[.ref R.A,.ref nd]->AskI a H0 R r w n M N l cs srow->AskM a H0 H R (N+M) os as->H nd=some (.dK (aG nk nb))->nk.Nodup->((∀ k∈nk,k < N))->(∀ D H',Same H H'->H D=none->H' D=some (.lst (rowV (totL M N l cs (srtN N nk))))->Q (.ref D) H')->uO a vs H Q E_3
theorem jQ (T:Txt K mg a):FnO P wo K mg base 2 a.f44 ["asking", "news"] (uO a):=by
 refine T.x44.F.okA (k:=1) sc_sums_to_write (fun ad A outer s H vs Q E hr h=>?_)
 ·obtain ⟨H0,R,nd,r,w,n,M,N,l,cs,Z,os,as,nk,nb,rfl,I,J,S,C,B,q⟩:=h
  obtain ⟨dx,hA⟩:=I.obj
  have hA:=J.sm _ _ hA
  have hC:=I.code.same J.sm;obtain ⟨dc,Lp,qs,hc,_,_⟩:=id hC.ins
  have n8:=I.W.n8
  exists xx
  exists xc (al (i:=2) sc_sums_to_write.nd rfl (Or.inr rfl) (az (pv 0) rfl))
  exists xc (b9 (i:=3) sc_sums_to_write.nd rfl (Or.inl rfl) (CompOk.of (cap:=[0,2]) (own:=["total"]) (by kernel_rfl)) rfl (aW rfl T.n_range (aa (az (pv 2) rfl) ac)) (fun _ _ _ _ _=>(ar (i:=2) (zN (by kernel_rfl)) rfl (Or.inl rfl))) (fun _ _ _ _ _=>(cE (au bZ (aI (bI (K:=K) rfl) (dU (K:=K) rfl (pv 0) rfl) (aq aO (dU (K:=K) rfl (pv 1) rfl) (pv 2)) (fun _ _=>rfl)) aR (ax _)))) (fun _ _ _ _ _=>by exact (pv 2)))
  exists xl (av (vw (CompOkC.of (cap:=[2,1]) (y:="total") (by kernel_rfl)) rfl (aJ (pv 3)) (fun _ _ _ _ _=>(ar (i:=2) (zN (by kernel_rfl)) rfl (Or.inr rfl) (Or.inl (af1 _)))) (fun _ _ _ _ _=>by exact (cE (bd (aA (rV (K:=K) rfl rfl) rfl T.n_any boot_any (aa (bb (CompOk.of (cap:=[2,0]) (own:=["role"]) (by kernel_rfl)) rfl (vM (K:=K) rfl (aA (cQ rfl) rfl T.n_sorted ah3 (aa (pv 1) ac))) (fun _ _ _ _ _=>(ar (i:=2) (zN (by kernel_rfl)) rfl (Or.inl rfl))) (fun _ _ _ _ _=>aV) (fun _ _ _ _ _=>by exact (aE (pv 1) T.cl_Code T.x29.me (fY T) hr.u T.x29.b .nil ao (aa (pv 0) (aa (pv 2) ac))))) ac))))) (fun _ _ _ _ _=>by exact (pv 2))))
  refine ⟨_,rfl,R.A,_,_,_,_,rfl,hA,T.cl_Asking,T.no_Asking_code,cF _ _ _ _ _,?_⟩;refine ⟨_,rfl,R.c,_,_,_,_,rfl,hc,T.cl_Code,T.no_Code_sums,qM R.bp M N Lp,_,rfl,by omega,by omega,fun tl U=>?_⟩
  rw [ac2];refine di (n:=M) (f:=fun k=>.int ((k:Nat):Int)) (b:=fun t=>(cs.getD (N+t) none).isSome) (cs:=[some (.ref R.A),some (.ref R.c)]) U rfl (zR (by omega:M<=8) (by decide)) (fun t H2 R2 ht s2 hR=>?_) (fun t H2 R2 ht hb s2 hR=>⟨_,rfl,hR _ (Same.refl _)⟩) (fun H2 s2 g=>?_)
  ·have gi:=aC (bj (cb (os:=cs) (k:=N+t) (by rw [I.csl];omega)))
   refine ⟨_,rfl,R.A,_,_,_,_,rfl,s2 _ _ hA,T.cl_Asking,T.no_Asking_costs,du _ _ _ _ _,_,rfl,R.c,_,_,_,_,rfl,s2 _ _ hc,T.cl_Code,T.no_Code_data,d6 R.bp M N Lp,_,rfl,_,_,rfl,rfl,R.cl,_,_,_,rfl,congrArg V.int (show (N:Int)+(t:Int)=((N+t:Nat):Int) by omega),SqL.of ((J.sm.trans s2) _ _ I.cost),gi,rfl,_,rfl,?_⟩
   rw [fq];exact hR _ (Same.refl _)
  have g:H2 tl=some (.lst (rowV ((List.range M).filter fun t=>(cs.getD (N+t) none).isSome))):=g
  have Y:((List.range M).filter fun t=>(cs.getD (N+t) none).isSome).length<=M:=by
   have:=ac0 (fun t=>(cs.getD (N+t) none).isSome) (List.range M)
   rwa [zS] at this
  refine ⟨_,rfl,tl,rfl,⟨_,SqL.of g⟩,fun D nD=>?_⟩;refine fg (rs:=(List.range M).filter fun t=>(cs.getD (N+t) none).isSome) (b:=fun t=>(srtN N nk).any (tch l t)) (cs:=[some (.ref R.c),some (.ref nd)]) (SqL.of g) nD rfl (zR (by omega:_<=8) (by decide)) (fun t Hx Rx ht sx hR=>?_) (fun t Hx Rx ht _ sx hR=>⟨_,rfl,hR _ (Same.refl _)⟩) (fun H3 s3 hD=>?_)
  ·have G:=aa1.mp (aa7.mp ht).1
   have sx:=s2.trans sx
   have nl:nk.length<=8:=zR (bF N nk C B) (by omega)
   refine ⟨_,rfl,nd,_,nk.map fun k=>((k:Nat):Int),rfl,sx _ _ S,bN nk nb,by rw [zM];omega,fun L ns nL pm pw=>?_⟩
   rw [cU C B pm pw]
   have sL:=Same.new (o:=.lst (rowV (srtN N nk))) nL
   have hL:=ab (H:=Hx) (a:=L) (o:=.lst (rowV (srtN N nk)));generalize (upd Hx L (.lst (rowV (srtN N nk))))=Hy at sL hL;refine ⟨L,rfl,⟨_,SqL.of hL⟩,fun D2 X=>?_⟩;refine cx (f:=fun k=>.bl (tch l t k)) (cs:=[some (.int (t:Nat)),some (.ref R.c)]) (SqL.of hL) X rfl (zR cz (by omega)) (fun k Hz Rz hk sz hR=>?_) (fun H4 s4 O=>?_)
   ·have sz:=(sx.trans sL).trans sz
    exact ⟨_,rfl,R.c,dc,_,rfl,sz _ _ hc,rfl,_,rfl,_,rfl,R.c,R.bp,R.fp,r,w,n,M,N,t,k,l,rfl,hC.same sz,G,B k ((bu B).mp hk),hR _ (Same.refl _)⟩
   ·refine ⟨D2,(srtN N nk).map fun k=>tch l t k,rfl,SqL.of (by rw [O,ac4];rfl),_,rfl,?_⟩
    rw [List.any_map];exact hR _ (sL.trans s4)
  ·exact q D H3 (s2.trans s3) (s2.free nD) hD
inductive o5 (K:PySem.W.Frag) (a:Adr) (vs:List V) (H:Hp) (Q:VK) (E_3:XK):Prop
 | mk:∀ (c bp fp tl nd:Addr) (r w n M N:Nat) (l:Nat->Nat->Nat) (ts nk:List Nat) (nb:Nat->Nat),vs=[.ref c,.ref tl,.ref nd]->CodeAt a H c bp fp r w n M N l->N<=8->SqL K H tl (rowV ts)->ts.length<=8->((∀ t∈ts,t < M))->H nd=some (.dK (aG nk nb))->(∀ D H',Same H H'->H D=none->H' D=some (.lst (rowV (bh N l ts nk)))->Q (.ref D) H')->o5 K a vs H Q E_3
theorem sg (T:Txt K mg a):FnO P wo K mg base 3 a.f45 ["code", "totals", "news"] (o5 K a):=by
 refine T.x45.F.okA (k:=2) rY (fun G A outer s H vs Q E hr h=>?_)
 ·obtain ⟨c,bp,fp,tl,nd,r,w,n,M,N,l,ts,nk,nb,rfl,hC,n8,B,h8,C,g,q⟩:=h
  obtain ⟨dc,Lp,qs,hc,_,_⟩:=id hC.ins
  exists xx
  exists xl (av (bb (CompOk.of (cap:=[2,0,1]) (own:=["role"]) (by kernel_rfl)) rfl (aW rfl T.n_range (aa (az (pv 0) rfl) ac)) (fun _ _ _ _ _=>(ar (i:=3) (zN (by kernel_rfl)) rfl (Or.inl rfl))) (fun _ _ _ _ _=>(cE (PW.pt (jV (mZ (tZ (cI hr) (pv 3) (pv 0))) (iR (bd (ay (kQ T) hr.u rfl T.x43.m T.x43.k T.x43.b .nil ao (aa (pv 1) (aa (pv 2) (aa (pv 3) ac)))))))))) (fun _ _ _ _ _=>by exact (pv 3))))
  refine ⟨_,rfl,c,_,_,_,_,rfl,hc,T.cl_Code,T.no_Code_data,d6 bp M N Lp,_,rfl,by omega,by omega,fun D nD=>?_⟩
  rw [ac2];refine di (n:=N) (f:=fun k=>.int ((k:Nat):Int)) (b:=fun k=>!nk.contains k && ts.any fun t=>tch l t k) (cs:=[some (.ref nd),some (.ref c),some (.ref tl)]) nD rfl (zR n8 (by decide)) (fun k H2 R2 hk s2 hR=>?_) (fun k H2 R2 hk hb s2 hR=>⟨_,rfl,hR _ (Same.refl _)⟩) (fun H2 s2 hD=>q D H2 s2 nD hD)
  refine ⟨_,rfl,_,rfl,nd,_,rfl,DGet.k (k:=Sum.inl ((k:Nat):Int)) (s2 _ _ g),_,rfl,?_⟩;rw [bT]
  by_cases m:k∈nk
  ·rw [if_pos m]
   rw [show nk.contains k=true from ab8.mpr m] at hR;exact ite2 (fun y=>absurd y (fun z=>by cases z)) (fun _=>hR _ (Same.refl _))
  ·rw [if_neg m]
   rw [show nk.contains k=false from by
    cases e:nk.contains k with
    | false=>rfl
    | true=>exact absurd (ab8.mp e) m] at hR
   refine ite2 (fun _=>?_) (fun y=>absurd rfl y);exact ⟨_,rfl,_,rfl,_,rfl,c,bp,fp,tl,r,w,n,M,N,k,l,ts,rfl,hC.same s2,s2.seq B,h8,C,hk,fun H' s'=>⟨_,rfl,hR _ s'⟩⟩
inductive kR (a:Adr) (vs:List V) (H:Hp) (Q:VK) (E_3:XK):Prop
 | mk:∀ (c bp fp tl nd:Addr) (r w n M N:Nat) (l:Nat->Nat->Nat) (ts nk:List Nat) (nb:Nat->Nat),vs=[.ref c,.ref tl,.ref nd]->CodeAt a H c bp fp r w n M N l->N<=8->H tl=some (.lst (rowV ts))->ts.length<=8->((∀ t∈ts,t < M))->H nd=some (.dK (aG nk nb))->nk.Nodup->((∀ k∈nk,k < N))->(∀ D H',Same H H'->H D=none->H' D=some (.lst (rowV (chgL N l ts (srtN N nk))))->Q (.ref D) H')->kR a vs H Q E_3
theorem o6 (T:Txt K mg a):FnO P wo K mg base 3 a.f46 ["code", "totals", "news"] (kR a):=by
 refine T.x46.F.okA (k:=2) om (fun U A outer s H vs Q E hr h=>?_)
 ·obtain ⟨c,bp,fp,tl,nd,r,w,n,M,N,l,ts,nk,nb,rfl,hC,n8,B,h8,S,J,I,g,q⟩:=h
  obtain ⟨dc,Lp,qs,hc,_,_⟩:=id hC.ins
  have nl:nk.length<=8:=zR (bF N nk I g) n8
  exists xx
  exists xl (av (aq sY (bb (CompOk.of (cap:=[0,1]) (own:=["role"]) (by kernel_rfl)) rfl (aJ (aA (cQ rfl) rfl T.n_sorted ah3 (aa (pv 2) ac))) (fun _ _ _ _ _=>(ar (i:=2) (zN (by kernel_rfl)) rfl (Or.inl rfl))) (fun _ _ _ _ _=>(cE (bd (ay (kQ T) hr.u rfl T.x43.m T.x43.k T.x43.b .nil ao (aa (pv 0) (aa (pv 1) (aa (pv 2) ac))))))) (fun _ _ _ _ _=>by exact (pv 2))) (bb (CompOk.of (cap:=[0]) (own:=["total"]) (by kernel_rfl)) rfl (aJ (pv 1)) (fun _ _ _ _ _=>(ar (i:=1) (zN (by kernel_rfl)) rfl (Or.inl rfl))) (fun _ _ _ _ _=>aV) (fun _ _ _ _ _=>by exact (aq aO (dU (K:=K) rfl (pv 0) rfl) (pv 1))))))
  refine ⟨_,rfl,nd,_,nk.map fun k=>((k:Nat):Int),rfl,J,bN nk nb,by rw [zM];omega,fun L ns nL pm pw=>?_⟩
  rw [cU I g pm pw]
  have sL:=Same.new (o:=.lst (rowV (srtN N nk))) nL
  have hL:=ab (H:=H) (a:=L) (o:=.lst (rowV (srtN N nk)));generalize (upd H L (.lst (rowV (srtN N nk))))=H1 at sL hL;refine ⟨L,rfl,⟨_,SqL.of hL⟩,fun D nD=>?_⟩;refine fg (rs:=srtN N nk) (b:=fun k=>ts.any fun t=>tch l t k) (cs:=[some (.ref c),some (.ref tl)]) (SqL.of hL) nD rfl (zR cz (zR n8 (by decide))) (fun k Hx Rx hk sx hR=>?_) (fun k Hx Rx hk _ sx hR=>⟨_,rfl,hR _ (Same.refl _)⟩) (fun H2 s2 hD=>?_)
  ·have sx:=sL.trans sx
   exact ⟨_,rfl,_,rfl,_,rfl,c,bp,fp,tl,r,w,n,M,N,k,l,ts,rfl,hC.same sx,SqL.of (sx _ _ B),h8,S,g k ((bu g).mp hk),fun H' s'=>⟨_,rfl,hR _ s'⟩⟩
  have G:=sL.trans s2;refine ⟨_,rfl,tl,rfl,⟨_,SqL.of (G _ _ B)⟩,fun D2 O=>?_⟩;refine cx (f:=fun t=>.int ((N+t:Nat):Int)) (cs:=[some (.ref c)]) (SqL.of (G _ _ B)) O rfl (by omega) (fun t Hx Rx ht sx hR=>?_) (fun H3 s3 C=>?_)
  ·refine ⟨_,rfl,c,_,_,_,_,rfl,(G.trans sx) _ _ hc,T.cl_Code,T.no_Code_data,d6 bp M N Lp,_,rfl,_,_,rfl,rfl,?_⟩
   have e:V.int ((N:Int)+(t:Int))=V.int ((N+t:Nat):Int):=congrArg V.int (by omega)
   rw [<- e] at hR;exact hR _ (Same.refl _)
  have C:H3 D2=some (.lst (rowV (ts.map fun t=>N+t))):=by rw [C];unfold rowV;rw [ac4];rfl
  refine ⟨D,D2,_,_,rfl,rfl,s3 _ _ hD,C,?_,fun p np=>?_⟩
  ·rw [aj,aj,zM]
   have:=ac0 (fun k=>ts.any fun t=>tch l t k) (srtN N nk)
   have:=cz (N:=N) (nk:=nk);exact zR (by omega:_<=16) (by decide)
  refine q p _ (((sL.trans s2).trans s3).up ?_) ?_ ?_
  ·exact ((sL.trans s2).trans s3).free np
  ·exact ((sL.trans s2).trans s3).free np
  ·rw [ab,gf]
   rfl
def pick {α:Type} (f:α->Int):List α->Option α
 | []=>none
 | x :: xs=>match pick f xs with
  | none=>some x
  | some y=>if f y < f x then some y else some x
theorem fZ {α:Type}{f:α->Int}{d:α}:∀ {xs:List α},0 < xs.length->∃ i x,xs[i]?=some x/\pick f xs=some x/\Least (fun i=>f (xs.getD i d)) xs.length i
 | [],h=>absurd h (ad4 0)
 | x :: xs,_=>by
  by_cases hx:0 < xs.length
  ·obtain ⟨i,y,h1,h2,h3⟩:=fZ (f:=f) (d:=d) hx
   have ei:xs.getD i d=y:=by rw [zK,h1];rfl
   unfold pick;rw [h2];dsimp only
   by_cases z:f y < f x
   ·rw [if_pos z]
    refine ⟨i+1,y,h1,rfl,fun j hj=>?_⟩
    cases j with
    | zero =>
     show f (xs.getD i d)<=f x/\_
     rw [ei];exact ⟨by omega,fun _=>by show f (xs.getD i d) < f x;rw [ei];exact z⟩
    | succ j =>
     have:=h3 j (by simpa using hj)
     exact ⟨this.1,fun e=>this.2 (by omega)⟩
   ·rw [if_neg z]
    refine ⟨0,x,rfl,rfl,fun j hj=>⟨?_,fun e=>absurd e (af5 j)⟩⟩
    cases j with
    | zero=>exact Int.le_refl _
    | succ j =>
     have:=(h3 j (by simpa using hj)).1
     show f x<=f (xs.getD j d)
     have h4:f (xs.getD i d)<=f (xs.getD j d):=this;rw [ei] at h4;omega
  ·have e:xs=[]:=List.eq_nil_of_length_eq_zero (by omega)
   subst e;refine ⟨0,x,rfl,rfl,fun j hj=>⟨?_,fun e=>absurd e (af5 j)⟩⟩;obtain rfl:j=0:=by simpa using hj
   exact Int.le_refl _
theorem uP {kf:Nat->Int} (hi:i < n) (hj:j < n) (h1:Least kf n i) (h2:Least kf n j):i=j:=by
 have a:=h1 j hj
 have b:=h2 i hi;rcases Nat.lt_trichotomy i j with z | z | z
 ·have:=b.2 z;omega
 ·exact z
 ·have:=a.2 z;omega
theorem rg {α:Type}{f:α->Int}{d:α}{xs:List α}{x:α} (h:xs[i]?=some x) (l:Least (fun i=>f (xs.getD i d)) xs.length i):pick f xs=some x:=by
 have hi:=(zV.mp h).1;obtain ⟨j,y,h1,h2,h3⟩:=fZ (f:=f) (d:=d) (xs:=xs) (by omega)
 obtain rfl:=uP hi (zV.mp h1).1 l h3;rw [h] at h1;rw [h2,← h1]
theorem o7 {α:Type}{f:α->Int}{xs:List α}{x:α} (h:pick f xs=some x):x∈xs:=by
 cases xs with
 | nil=>cases h
 | cons y ys =>
  obtain ⟨j,z,h1,h2,_⟩:=fZ (f:=f) (d:=y) (xs:=y :: ys) (Nat.zero_lt_succ _);rw [h] at h2
  cases h2;exact aa0 h1
theorem mE {α:Type}{f:α->Int}{xs:List α} (h:pick f xs=none):xs=[]:=by
 cases xs with
 | nil=>rfl
 | cons y ys =>
  obtain ⟨j,z,h1,h2,_⟩:=fZ (f:=f) (d:=y) (xs:=y :: ys) (Nat.zero_lt_succ _);rw [h] at h2
  cases h2
section
variable (r w M N:Nat) (l:Nat->Nat->Nat) (cs:List (Option Nat)) (as:List Nat) (ks:List Bool) (ms:List Nat)
def unfL (L:List Nat):List Nat:=L.filter fun k=>!fx r w M N l ks k
def bz (L:List Nat):List (Int × List Nat):=if (unfL r w M N l ks L).all (mayB cs as)=true then [(gQ cs (unfL r w M N l ks L),unfL r w M N l ks L)] else []
def detO (L:List Nat):Option (List Nat):=((List.range (ms.length+1)).find? fun j=>L.all (fx r w M N l (knW ks (ms.take j)))).map fun j=>ms.take j
def cL (L L':List Nat):List (List Nat):=(detO r w M N l ks ms L).toList++(detO r w M N l ks ms L').toList
def fi (L L':List Nat):List (Int × List Nat):=bz r w M N l cs as ks L++bz r w M N l cs as ks L'++((pick (fun d=>((d.length:Nat):Int)) (cL r w M N l ks ms L L')).toList.map fun d=>(gQ cs d,d))
def fj (L L':List Nat):Option (List Nat):=(pick (fun p=>p.1) (fi r w M N l cs as ks ms L L')).map (·.2)
end
variable {L:List Nat}
theorem rh (h:gR r w M N l ks L ms j):detO r w M N l ks ms L=some (ms.take j):=by
 unfold detO
 have:(List.range (ms.length+1)).find? (fun j=>L.all (fx r w M N l (knW ks (ms.take j))))=some j:=by
  rw [List.find?_range_eq_some];exact ⟨h.2.1,aa1.mpr (Nat.lt_succ_of_le h.1),fun i hi=>by rw [h.2.2 i hi];rfl⟩
 rw [this];rfl
theorem rj (h:jO r w M N l ks L ms):detO r w M N l ks ms L=none:=by
 unfold detO
 have:(List.range (ms.length+1)).find? (fun j=>L.all (fx r w M N l (knW ks (ms.take j))))=none:=by
  rw [List.find?_eq_none];intro i hi;rw [h i (Nat.le_of_lt_succ (aa1.mp hi))]
  decide
 rw [this];rfl
theorem wm {ck:Nat->Int}{m:Nat} (h1:klt ck m n) (h2:klt ck n m):m=n:=by
 unfold klt at h1 h2;omega
theorem uQ {ck:Nat->Int}{f:Nat->Bool}{ms':List Nat} (p1:ms.Perm ((List.range R).filter f)) (w1:ms.Pairwise (klt ck)) (p2:ms'.Perm ((List.range R).filter f)) (w2:ms'.Pairwise (klt ck)):ms'=ms:=List.Perm.eq_of_pairwise (le:=klt ck) (fun _ _ _ _ h1 h2=>wm h1 h2) w2 w1 (p2.trans p1.symm)
variable {way:List Nat}
theorem o9 (h:detO r w M N l ks ms L=some way):∃ j,way=ms.take j:=by
 unfold detO at h;rw [al1] at h;obtain ⟨j,_,e⟩:=h;exact ⟨j,e.symm⟩
def posW:Pos:=⟨93,25,93,43⟩
def qW:Str:="next_way" ++ Str.ofString ".<locals>." ++ Str.ofString "<lambda>"
def Kp (H H':Hp):Prop:=∀ b o,(∀ ps,o≠HO.tbl ps)->H b=some o->H' b=some o
theorem Kp.of (s:Same H H'):Kp H H':=fun b o _ e=>s b o e
theorem Kp.tab {ps:Array Value} (h:H t=some (.tbl ps)) (k:∀ b o,b≠t->H b=some o->H' b=some o):Kp H H':=fun b o n e=>k b o (aN e h (n _)) e
theorem iP:∀ ps,HO.lst xs≠.tbl ps:=fun _ y=>by cases y
theorem pb:∀ ps,HO.tup xs≠.tbl ps:=fun _ y=>by cases y
def WaysAt (Hb H:Hp) (W:Addr) (ws:List (Int × List Nat)):Prop:=∃ ts:List Addr,H W=some (.lst (ts.map V.ref))/\ts.length=ws.length/\∀ (i:Nat) (t:Addr) (cw:Int × List Nat),ts[i]?=some t->ws[i]?=some cw->∃ D,H t=some (.tup [.int cw.1,.ref D])/\H D=some (.lst (rowV cw.2))/\Hb D=none/\D≠W
variable {Hb:Hp}
theorem WaysAt.keep {W:Addr}{ws:List (Int × List Nat)} (h:WaysAt Hb H W ws) (k:Kp H H'):WaysAt Hb H' W ws:=by
 obtain ⟨ts,h1,h2,h3⟩:=h;refine ⟨ts,k _ _ iP h1,h2,fun i t cw e1 e2=>?_⟩;obtain ⟨D,a1,a2,a3⟩:=h3 i t cw e1 e2;exact ⟨D,k _ _ pb a1,k _ _ iP a2,a3⟩
theorem WaysAt.push {W:Addr}{ws:List (Int × List Nat)}{c:Int} (h:WaysAt Hb H W ws) (hp:H p=some (.tup [.int c,.ref D])) (hD:H D=some (.lst (rowV way))) (hb:Hb D=none) (dW:D≠W):∃ ts:List Addr,H W=some (.lst (ts.map V.ref))/\ts.length=ws.length/\WaysAt Hb (upd H W (.lst (ts.map V.ref++[.ref p]))) W (ws++[(c,way)]):=by
 obtain ⟨ts,h1,h2,h3⟩:=h;refine ⟨ts,h1,h2,ts++[p],by rw [ab,ad6];rfl,by rw [ab6,ab6,h2];rfl,fun i t cw e1 e2=>?_⟩
 have ht:∀ {t:Addr}{x y:V},H t=some (.tup [x,y])->t≠W:=fun {t x y} e=>aN e h1 (fun z=>by cases z)
 by_cases hi:i < ts.length
 ·rw [ae8 hi] at e1
  rw [ae8 (by omega)] at e2
  obtain ⟨D',a1,a2,a3,a4⟩:=h3 i t cw e1 e2;exact ⟨D',by rw [ae (ht a1)];exact a1,by rw [ae a4];exact a2,a3,a4⟩
 ·rw [af6 (by omega)] at e1
  rw [af6 (by omega),← h2] at e2
  cases z:i - ts.length with
  | zero =>
   rw [z] at e1 e2
   cases zX e1
   cases zX e2;exact ⟨D,by rw [ae (ht hp)];exact hp,by rw [ae dW];exact hD,hb,dW⟩
  | succ m=>rw [z] at e1;cases e1
def DetV (Hb H:Hp) (W:Addr) (v:V) (o:Option (List Nat)):Prop:=match o with
 | none=>v=.non
 | some way=>∃ D,v=.ref D/\H D=some (.lst (rowV way))/\Hb D=none/\D≠W
theorem DetV.keep {W:Addr}{o:Option (List Nat)} (h:DetV Hb H W v o) (k:Kp H H'):DetV Hb H' W v o:=by
 cases o with
 | none=>exact h
 | some way =>
  obtain ⟨D,a1,a2,a3⟩:=h;exact ⟨D,a1,k _ _ iP a2,a3⟩
theorem uR {a:Addr}{b:Nat->Bool}{k:Nat}{tt:TT}{cs:L2.St} (hl:H1 a=some (.tup xs)) (hD:H1 D=none) (hk:k=cs.length) (hn:xs.length<=1000)
  (ht:∀ i H (R:Bool->Hp->Prop),i < xs.length->Same H1 H->(∀ H4,Same H H4->R (b i) H4)->tt (cs++[some (xs.getD i .non)]) H R)
  (he:∀ i H (R:V->Hp->Prop),i < xs.length->b i=true->Same H1 H->(∀ H4,Same H H4->R (xs.getD i .non) H4)->te (cs++[some (xs.getD i .non)]) H R)
  (hQ:∀ H,Same H1 H->H D=some (.lst (((List.range xs.length).filter b).map fun i=>xs.getD i .non))->Q H):bt (Itt K a) (be k) tt te (cs++[none]) H1 D Q:=by
 have g:∀ i,i < xs.length->xs[i]?=some (xs.getD i .non):=fun i hi=>by rw [zK,zL hi];rfl
 refine ga (n:=xs.length) (src:=fun i=>xs.getD i .non) hD hk (zR hn (by decide)) (fun H sm=>⟨_,SqT.of (sm _ _ hl),zQ _⟩) (fun i H hi sm=>⟨_,_,SqT.of (sm _ _ hl),g i hi⟩) (fun i H x H' hi sm y=>?_) ht he hQ
 obtain ⟨e,y⟩:=y;exact ⟨zX ((y _ (SqT.of (sm _ _ hl))).symm.trans (g i hi)),e⟩
def y9 (Hb H:Hp) (W:Addr) (as:List Addr) (ds:List (List Nat)):Prop:=as.length=ds.length/\∀ (i:Nat) (p:Addr) (d:List Nat),as[i]?=some p->ds[i]?=some d->H p=some (.lst (rowV d))/\Hb p=none/\p≠W
theorem yf {W:Addr}{v1 v2:V}{o1 o2:Option (List Nat)} (h1:DetV Hb H W v1 o1) (h2:DetV Hb H W v2 o2):∃ as:List Addr,(((List.range 2).filter fun i=>!decide ([v1,v2].getD i .non=.non)).map fun i=>[v1,v2].getD i .non)=as.map V.ref/\y9 Hb H W as (o1.toList++o2.toList):=by
 have n0:∀ D,(!decide (V.ref D=V.non))=true:=fun D=>by rw [aa9 (fun z=>by cases z)];rfl
 cases o1 with
 | none =>
  have h1:v1=.non:=h1;subst h1
  cases o2 with
  | none =>
   have h2:v2=.non:=h2;subst h2;exact ⟨[],rfl,rfl,fun i p d e=>by simp at e⟩
  | some d2 =>
   obtain ⟨D2,rfl,a2⟩:=h2;refine ⟨[D2],?_,rfl,fun i p d e1 e2=>?_⟩
   ·rfl
   ·match i,e1,e2 with
    | 0,e1,e2=>cases e1;cases e2;exact a2
    | i+1,e1,_=>cases e1
 | some d1 =>
  obtain ⟨D1,rfl,a1⟩:=h1
  cases o2 with
  | none =>
   have h2:v2=.non:=h2;subst h2;refine ⟨[D1],?_,rfl,fun i p d e1 e2=>?_⟩
   ·rfl
   ·match i,e1,e2 with
    | 0,e1,e2=>cases e1;cases e2;exact a1
    | i+1,e1,_=>cases e1
  | some d2 =>
   obtain ⟨D2,rfl,a2⟩:=h2;refine ⟨[D1,D2],?_,rfl,fun i p d e1 e2=>?_⟩
   ·rfl
   ·match i,e1,e2 with
    | 0,e1,e2=>cases e1;cases e2;exact a1
    | 1,e1,e2=>cases e1;cases e2;exact a2
    | i+2,e1,_=>cases e1
theorem uS {F:V->Prop} (Pz:V->Prop) (h:(∀ v,Pz v->F v)->G) (key:∀ v,Pz v->F v):G:=h key
theorem zJ {F:Option V->Hp->Prop} (Pz:Hp->Prop) (h:(∀ v H,Pz H->F v H)->G) (key:∀ v H,Pz H->F v H):G:=h key
theorem AskM.kpw {R:AskR}{ps:Array Value} (J:AskM a H0 H R n os as) (ne:a.t38≠t) (n0:H0 t=none) (ht:H t=some (.tbl ps)) (k:∀ b o,b≠t->H b=some o->H' b=some o):AskM a H0 H' R n os as :=
 ⟨fun b o e=>k b o (fun z=>by rw [z,n0] at e;cases e) (J.sm b o e),k _ _ (aN J.hr ht (fun z=>by cases z)) J.hr,k _ _ (aN J.hs ht (fun z=>by cases z)) J.hs,k _ _ (aN J.hz ht (fun z=>by cases z)) J.hz,J.tab.kp ne ht k,J.osl,J.nd,J.lt⟩
inductive uT (a:Adr) (vs:List V) (H:Hp) (Q:VK) (E_3:XK):Prop
 | mk:∀ (H0:Hp) (R:AskR) (RS CH:Addr) (r w n M N:Nat) (l:Nat->Nat->Nat) (cs srow os:List (Option Nat)) (as rest chg:List Nat),vs=[.ref R.A,.ref RS,.ref CH]->AskI a H0 R r w n M N l cs srow->AskM a H0 H R (N+M) os as->TabS H a.t47 posW qW->H0 a.t47=none->H0 RS=some (.lst (rowV rest))->H0 CH=some (.lst (rowV chg))->rest.length<=8->((∀ k∈rest,k < N+M))->chg.length<=8->((∀ k∈chg,k < N+M))->((∀ k,(cs.getD k none).getD 0<=1000000))->(∀ H' ms,AskM a H0 H' R (N+M) os as->TabS H' a.t47 posW qW->ms.Perm ((List.range (N+M)).filter (mayB cs as))->ms.Pairwise (klt (ckO cs))->(∀ D way,fj r w M N l cs as (knO os) ms rest chg=some way->H D=none->H' D=some (.lst (rowV way))->Q (.ref D) H')/\(fj r w M N l cs as (knO os) ms rest chg=none->Q .non H'))->uT a vs H Q E_3
theorem pG (T:Txt K mg a) (B:Tb base mg a):FnO P wo K mg base 12 a.f47 ["asking", "rest", "change"] (uT a):=by
 refine T.x47.F.okA (k:=11) sc_next_way (fun A outer s H vs Q E hr h=>?_)
 ·obtain ⟨H0,R,RS,CH,r,w,n,M,N,l,cs,O,os,as,rest,g,rfl,I,J,TW,dF,b4,ce,r8,aT,c8,a7,cp,q⟩:=h
  obtain ⟨dx,hA⟩:=I.obj
  exists xx
  exists xc (al (i:=3) sc_next_way.nd rfl (Or.inl rfl) (bq ac))
  refine xq ?_;refine xf PassesOwn.never rfl (sF (eD (aa (pv 1) (aa (pv 2) ac)))) (ar (i:=4) sc_next_way.nd rfl (Or.inl rfl)) ?_
  exists xc (al (i:=5) sc_next_way.nd rfl (Or.inl rfl) (aE (pv 0) T.cl_Asking T.x42.me (kM T) hr.u T.x42.b .nil ao (aa (pv 4) ac)))
  refine x1 ?_;refine xi (au bZ (pv 5) aR (ax _)) ?_
  exists xl (aS (cn ac5 ad1 ad2 bc (pv 3) (aa (eD (aa (pv 5) (aa (aE (pv 0) T.cl_Asking T.x41.me (eS T) hr.u T.x41.b .nil ao (aa (pv 4) ac)) ac))) ac)))
  refine ⟨_,aF,?_⟩;intro u_;intro u_
  exists xc (b9 (i:=6) sc_next_way.nd rfl (Or.inl rfl) (CompOk.of (cap:=[]) (own:=["way"]) (by kernel_rfl)) rfl (sF (eD (aa (aE (pv 0) T.cl_Asking T.x39.me (dv T B) hr.u T.x39.b .nil ao (aa (pv 1) ac)) (aa (aE (pv 0) T.cl_Asking T.x39.me (dv T B) hr.u T.x39.b .nil ao (aa (pv 2) ac)) ac)))) (fun _ _ _ _ _=>(ar (i:=0) (zN (by kernel_rfl)) rfl (Or.inl rfl))) (fun _ _ _ _ _=>(cE (au bZ (pv 0) aR (ax _)))) (fun _ _ _ _ _=>by exact (pv 0)))
  refine xq ?_;refine xi (au cX (aA aB rfl T.n_len ab7 (aa (pv 6) ac)) ai (ax _)) ?_
  exists xc (al (i:=7) sc_next_way.nd rfl (Or.inl rfl) (t9 rfl rfl T.n_min rfl T.n_len (pv 6)))
  exists xl (aS (cn ac5 ad1 ad2 bc (pv 3) (aa (eD (aa (aE (pv 0) T.cl_Asking T.x37.me (cS T) hr.u T.x37.b .nil ao (aa (pv 7) ac)) (aa (pv 7) ac))) ac)))
  refine ⟨_,aF,?_⟩;intro u_;refine xq ?_;refine xi (au bU (aA aB rfl T.n_len ab7 (aa (pv 3) ac)) ai (ax _)) ?_
  exists xl (av aR)
  refine ⟨_,aF,?_⟩;intro u_
  exists xl (av (aI io (xG (k:=0) (p:="way") (T.x47.F.tab B.b_next_way B.n_next_way) rfl rfl hr.u rfl T.n_min (pv 3) ⟨rfl,rfl,rfl,by decide +kernel,rfl,by decide +kernel,by decide +kernel⟩ (by decide +kernel) (fun _ _ _ _=>rfl) (fun _ _ _ _ _ _ hr=>(aI (xo (K:=K) rfl) (pv 0) ai (fun _ _=>rfl)))) ai (fun _ _=>rfl)))
  refine ⟨ab1 _,fun W nW=>?_⟩
  have sW:=Same.new (o:=.lst []) nW
  have w0:WaysAt H (upd H W (.lst [])) W []:=⟨[],ab,rfl,fun i t cw e=>by simp at e⟩
  generalize (upd H W (.lst []))=H1 at sW w0;refine ⟨_,rfl,_,rfl,(show 2<=sizeLine by decide),fun tp c4=>?_⟩
  have sT:=Same.new (o:=.tup [.ref RS,.ref CH]) c4
  have a6:=ab (H:=H1) (a:=tp) (o:=.tup [.ref RS,.ref CH])
  have w1:=w0.keep (Kp.of sT)
  have s1:=sW.trans sT;generalize (upd H1 tp (.tup [.ref RS,.ref CH]))=H2 at sT a6 w1 s1;refine ⟨tp,rfl,⟨_,SqT.of a6⟩,?_⟩;refine let I_:Nat->L2.St->Hp->Prop:=fun i σ H'=>L2.A4 ((∃ v4 v5:Option V,σ=[some (.ref R.A),some (.ref RS),some (.ref CH),some (.ref W),v4,v5,none,none])) (Same H H') (H' tp=some (.tup [.ref RS,.ref CH])) (WaysAt H H' W (([rest,g].take i).flatMap (bz r w M N l cs as (knO os))));wU (xs:=[.ref RS,.ref CH]) I_ ⟨⟨none,none,rfl⟩,s1,a6,w1⟩ ?_ ?_ ?_
  ·rintro i σ H' _ ⟨_,_,h,_⟩
   exact SqT.of h
  ·rintro i x σ H' hx ⟨⟨v4,v5,rfl⟩,sm,ht,ww⟩
   obtain ⟨LA,L,hL,L8,cc,rfl,eL⟩:∃ LA L,H0 LA=some (.lst (rowV L))/\L.length<=8/\(∀ k∈L,k < N+M)/\x=.ref LA/\[rest,g][i]?=some L:=by
    match i,hx with
    | 0,hx=>cases hx;exact ⟨RS,rest,b4,r8,aT,rfl,rfl⟩
    | 1,hx=>cases hx;exact ⟨CH,g,ce,c8,a7,rfl,rfl⟩
    | i+2,hx=>cases hx
   have J1:=J.same sm;refine ⟨_,rfl,R.A,dx,_,rfl,J1.sm _ _ hA,rfl,_,rfl,H0,R,LA,r,w,n,M,N,l,cs,O,os,as,L,rfl,I,J1,SqL.of (J1.sm _ _ hL),L8,cc,cp,fun H3 s3=>?_⟩
   have ef:([rest,g].take (i+1)).flatMap (bz r w M N l cs as (knO os))=([rest,g].take i).flatMap (bz r w M N l cs as (knO os))++bz r w M N l cs as (knO os) L:=by
    rw [am2,eL,List.flatMap_append]
    simp
   have wl:(([rest,g].take i).flatMap (bz r w M N l cs as (knO os))).length<=2:=by
    have c1:∀ L,(bz r w M N l cs as (knO os) L).length<=1:=fun L=>by
     unfold bz
     split
     ·exact zQ _
     ·exact ab1 _
    have hi:=(zV.mp eL).1
    match i,hi with
    | 0,_=>exact ab1 _
    | 1,_=>simpa using zR (c1 rest) (by decide)
   have a5:=sm.trans s3
   have J3:=J1.same s3
   have w3:=ww.keep (Kp.of s3);unfold oQ
   cases hz:(L.filter fun k=>!fx r w M N l (knO os) k).all (mayB cs as) with
   | false =>
    rw [if_neg (by decide)]
    refine ⟨_,rfl,rfl,_,rfl,ite2 (fun y=>absurd y (by decide)) (fun _=>?_)⟩
    have e0:bz r w M N l cs as (knO os) L=[]:=by unfold bz unfL;rw [hz,if_neg (by decide)]
    exact ⟨⟨_,_,rfl⟩,a5,s3 _ _ ht,by rw [ef,e0,ai8];exact w3⟩
   | true =>
    rw [if_pos rfl];refine ⟨_,rfl,rfl,_,rfl,ite2 (fun _=>?_) (fun y=>absurd (by rw [aa9 (fun z=>by cases z)];rfl) y)⟩
    have e1:bz r w M N l cs as (knO os) L=[(gQ cs (L.filter fun k=>!fx r w M N l (knO os) k),L.filter fun k=>!fx r w M N l (knO os) k)]:=by unfold bz unfL;rw [hz,if_pos rfl]
    obtain ⟨en,cv,_⟩:=id w3;refine ⟨_,rfl,.inl ⟨rfl,_,SqL.of cv⟩,_,rfl,_,rfl,R.A,dx,_,rfl,J3.sm _ _ hA,rfl,_,rfl,H0,R,LA,r,w,n,M,N,l,cs,O,os,as,L,rfl,I,J3,SqL.of (J3.sm _ _ hL),L8,cc,fun D H4 s4 nD hD=>?_⟩;refine ⟨(show 2<=sizeLine by decide),fun p np=>?_⟩
    have s5:=Same.new (o:=.tup [.int (gQ cs (L.filter fun k=>!fx r w M N l (knO os) k)),.ref D]) np
    have hp:=ab (H:=H4) (a:=p) (o:=.tup [.int (gQ cs (L.filter fun k=>!fx r w M N l (knO os) k)),.ref D]);generalize (upd H4 p (.tup [.int (gQ cs (L.filter fun k=>!fx r w M N l (knO os) k)),.ref D]))=H5 at s5 hp
    have a1:=s4.trans s5;obtain ⟨ts,hW,hl,w6⟩:=(w3.keep (Kp.of a1)).push hp (s5 _ _ hD) (a5.free nD) (am cv nD).symm;refine ⟨W,_,_,rfl,rfl,hW,?_,⟨_,_,rfl⟩,(a5.trans a1).up nW,?_,by rw [ef,e1];exact w6⟩
    ·rw [zM,hl]
     exact ae7 wl (by decide)
    ·rw [ae (aN (a1 _ _ (s3 _ _ ht)) hW (fun y=>by cases y))]
     exact a1 _ _ (s3 _ _ ht)
  ·rintro σ H' ⟨⟨v4,v5,rfl⟩,sm,_,ww⟩
   have J1:=J.same sm
   have b6:=TW.keep sm
   have ew:([rest,g].take [V.ref RS,V.ref CH].length).flatMap (bz r w M N l cs as (knO os))=bz r w M N l cs as (knO os) rest++bz r w M N l cs as (knO os) g:=by simp
   rw [ew] at ww;try dsimp only [L2.start,List.set,List.map,List.append,List.replicate,HAppend.hAppend,Append.append,List.length,Nat.reduceAdd,Nat.reduceSub]
   refine ⟨_,rfl,R.A,dx,_,rfl,J1.sm _ _ hA,rfl,_,rfl,H0,R,RS,r,w,n,M,N,l,cs,O,os,as,rest,rfl,I,J1,J1.sm _ _ b4,aT,fun Ha ms Ja ka pm pw=>?_⟩
   have q:=fun H' Jx Tx=>q H' ms Jx Tx pm pw;obtain ⟨eb,a4,_⟩:=id J1.tab
   have dV:=Kp.tab a4 ka
   have wa:=ww.keep dV
   have b5:∀ {D:Addr},H' D=none->H D=none:=fun {D} e=>sm.free e
   have dc:=ww.choose_spec.1;obtain ⟨em,d4,_⟩:=id b6
   have db:=b6.kp (ad3 B.d_Asking_order_next_way) a4 ka
   refine uS (fun v=>DetV H Ha W v (detO r w M N l (knO os) ms rest)) (fun G=>by
    refine ⟨fun D j hd nD hD=>?_,fun a3=>?_⟩
    ·obtain ⟨v,hv⟩:∃ v,v=V.ref D:=⟨_,rfl⟩
     rw [<- hv];exact G v (by rw [rh hd];exact ⟨D,hv,hD,b5 nD,(am dc nD).symm⟩)
    ·exact G .non (by rw [rj a3];rfl)) ?_
   intro v1 aw;refine ⟨_,rfl,R.A,dx,_,rfl,Ja.sm _ _ hA,rfl,_,rfl,H0,R,CH,r,w,n,M,N,l,cs,O,os,as,g,rfl,I,Ja,Ja.sm _ _ ce,a7,fun Hc eg Jc kc c5 dd=>?_⟩
   cases uQ pm pw c5 dd;obtain ⟨el,Y,_⟩:=id Ja.tab
   have cr:=Kp.tab Y kc
   have wc:=wa.keep cr
   have aw:=aw.keep cr
   have dW:∀ {D:Addr},Ha D=none->H D=none:=fun {D} e=>by
    cases z:H' D with
    | none=>exact b5 z
    | some o =>
     by_cases y:D=a.t38
     ·rw [y,Y] at e;cases e
     ·rw [ka D o y z] at e;cases e
   have ds:=wa.choose_spec.1
   have dB:=db.kp (ad3 B.d_Asking_order_next_way) Y kc
   refine uS (fun v=>DetV H Hc W v (detO r w M N l (knO os) ms g)) (fun G=>by
    refine ⟨fun D j hd nD hD=>?_,fun a3=>?_⟩
    ·obtain ⟨v,hv⟩:∃ v,v=V.ref D:=⟨_,rfl⟩
     rw [<- hv];exact G v (by rw [rh hd];exact ⟨D,hv,hD,dW nD,(am ds nD).symm⟩)
    ·exact G .non (by rw [rj a3];rfl)) ?_
   intro v2 ck;obtain ⟨U,a8,Z⟩:=yf aw ck;refine ⟨(show 2<=sizeLine by decide),fun tq dk=>?_⟩
   have sq:=Same.new (o:=.tup [v1,v2]) dk
   have b0:=ab (H:=Hc) (a:=tq) (o:=.tup [v1,v2]);generalize (upd Hc tq (.tup [v1,v2]))=Hd at sq b0;refine ⟨tq,rfl,⟨_,SqT.of b0⟩,fun DL c7=>?_⟩;refine uR (b:=fun i=>!decide ([v1,v2].getD i .non=.non)) (cs:=[]) b0 c7 rfl (show 2<=1000 by decide) (fun i Hx Rx hi sx hR=>⟨_,rfl,rfl,_,rfl,hR _ (Same.refl _)⟩) (fun i Hx Rx hi _ sx hR=>⟨_,rfl,hR _ (Same.refl _)⟩) (fun He se ak=>?_)
   have ak:He DL=some (.lst (U.map V.ref)):=by rw [ak,← a8];rfl
   have ad:=sq.trans se
   have We:=wc.keep (Kp.of ad)
   have Je:=Jc.same ad
   have b3:=dB.keep ad
   have X:=Z.1
   have ch:∀ (i:Nat) (p:Addr) (d:List Nat),U[i]?=some p->(cL r w M N l (knO os) ms rest g)[i]?=some d->He p=some (.lst (rowV d))/\H p=none/\p≠W:=fun i p d e1 e2=>by
    obtain ⟨h1,h2⟩:=Z.2 i p d e1 e2;exact ⟨ad _ _ h1,h2⟩
   have X:U.length=(cL r w M N l (knO os) ms rest g).length:=X
   have c2:∀ d∈cL r w M N l (knO os) ms rest g,∃ j,d=ms.take j:=fun d hd=>by
    unfold cL at hd;rcases ab5.mp hd with y | y
    ·exact o9 (am4.mp y)
    ·exact o9 (am4.mp y)
   have c0:(bz r w M N l cs as (knO os) rest++bz r w M N l cs as (knO os) g).length<=2:=by
    have c1:∀ L,(bz r w M N l cs as (knO os) L).length<=1:=fun L=>by
     unfold bz
     split
     ·exact zQ _
     ·exact ab1 _
    rw [ab6];exact Nat.add_le_add (c1 rest) (c1 g)
   clear aw ck Z a8;try dsimp only [L2.start,List.set,List.map,List.append,List.replicate,HAppend.hAppend,Append.append,List.length,Nat.reduceAdd,Nat.reduceSub]
   refine ⟨_,rfl,DL,_,rfl,.inl (SqL.of ak),_,_,rfl,rfl,_,rfl,?_⟩
   refine zJ (fun Hf=>AskM a H0 Hf R (N+M) os as/\TabS Hf a.t47 posW qW/\WaysAt H Hf W (fi r w M N l cs as (knO os) ms rest g)) (fun G=>by
    by_cases hz:0 < U.length
    ·refine ite2 (fun _=>?_) (fun y=>absurd (zZ (by rw [zM];omega)) y)
     refine ⟨_,rfl,DL,U,fun i=>((cL r w M N l (knO os) ms rest g).getD i []).length,rfl,ak,hz,fun i p hp=>?_,fun i p Hm hp hl S=>?_⟩
     ·have hi:i < (cL r w M N l (knO os) ms rest g).length:=by rw [<- X];exact (zV.mp hp).1
      obtain ⟨h1,_⟩:=ch i p _ hp (zL hi);exact ⟨_,h1,by rw [aj];show _=((cL r w M N l (knO os) ms rest g).getD i []).length;rw [zK,zL hi];rfl⟩
     have hi:i < (cL r w M N l (knO os) ms rest g).length:=by rw [<- X];exact (zV.mp hp).1
     obtain ⟨d,ed⟩:∃ d,(cL r w M N l (knO os) ms rest g)[i]?=some d:=⟨_,zL hi⟩;obtain ⟨h1,h2,h3⟩:=ch i p d hp ed;rw [X] at hl
     have ep:=rg (f:=fun d:List Nat=>((d.length:Nat):Int)) (d:=[]) ed hl;obtain ⟨jd,b1⟩:=c2 d (aa0 ed)
     have Jm:=Je.same S
     have Wm:=We.keep (Kp.of S)
     have ml:ms.length<=8:=by
      rw [pm.length_eq]
      have:=ac0 (mayB cs as) (List.range (N+M));rw [zS] at this
      have:=I.W.n8;omega
     have c3:d.length<=8:=by rw [b1,ag0];omega
     have df:∀ k∈d,k < N+M/\(cs.getD k none).isSome=true/\(cs.getD k none).getD 0<=1000000:=fun k hk=>by
      rw [b1] at hk
      have:=aa7.mp (pm.mem_iff.mp (ak1 hk))
      have h2:=this.2;unfold mayB at h2;exact ⟨aa1.mp this.1,(ac8 _ _ ▸ h2).1,cp k⟩
     obtain ⟨eh,c6,_⟩:=id Wm;refine ⟨_,rfl,.inl ⟨rfl,_,SqL.of c6⟩,_,rfl,R.A,dx,_,rfl,Jm.sm _ _ hA,rfl,_,rfl,H0,R,p,r,w,n,M,N,l,cs,O,os,as,d,rfl,I,Jm,SqL.of (S _ _ h1),c3,df,fun Hn sn=>?_⟩;refine ⟨_,rfl,(show 2<=sizeLine by decide),fun pt c9=>?_⟩
     have so:=Same.new (o:=.tup [.int ((d.map fun k=>(((cs.getD k none).getD 0:Nat):Int)).sum),.ref p]) c9
     have b2:=ab (H:=Hn) (a:=pt) (o:=.tup [.int ((d.map fun k=>(((cs.getD k none).getD 0:Nat):Int)).sum),.ref p]);generalize (upd Hn pt (.tup [.int ((d.map fun k=>(((cs.getD k none).getD 0:Nat):Int)).sum),.ref p]))=Ho at so b2
     have an:=sn.trans so;obtain ⟨ts,hW,C,wp⟩:=(Wm.keep (Kp.of an)).push b2 ((S.trans an) _ _ h1) h2 h3;refine ⟨W,_,_,rfl,rfl,hW,?_,?_⟩
     ·rw [zM,C]
      exact ae7 c0 (by decide)
     have Jo:=(Jm.same an).up (x:=W) (o:=.lst (ts.map V.ref++[.ref pt])) (J.sm.free nW) hW (am J.hr nW) (am J.hs nW) (am J.hz nW)
     have To:=(b3.keep (S.trans an)).up (o:=.lst (ts.map V.ref++[.ref pt])) hW;generalize (upd Ho W (.lst (ts.map V.ref++[.ref pt])))=Hq at wp Jo To;try dsimp only [L2.start,List.set,List.map,List.append,List.replicate,HAppend.hAppend,Append.append,List.length,Nat.reduceAdd,Nat.reduceSub]
     obtain ⟨o,ho⟩:∃ o:Option V,o=some (V.ref p):=⟨_,rfl⟩;rw [<- ho];refine G o Hq ⟨Jo,To,?_⟩;unfold fi;rw [ep];exact wp
    ·refine ite2 (fun y=>absurd (zN y) (by rw [zM];omega)) (fun _=>?_)
     unfold wD;try dsimp only [L2.start,List.set,List.map,List.append,List.replicate,HAppend.hAppend,Append.append,List.length,Nat.reduceAdd,Nat.reduceSub]
     have e0:cL r w M N l (knO os) ms rest g=[]:=List.eq_nil_of_length_eq_zero (by omega)
     refine G none He ⟨Je,b3,?_⟩;unfold fi;rw [e0]
     simpa [pick] using We) ?_
   rintro v7 Hf ⟨Jf,bm,Wf⟩;obtain ⟨ts,cy,C,a9⟩:=id Wf;refine ⟨_,rfl,W,_,rfl,.inl (SqL.of cy),rfl,_,rfl,?_⟩;rw [zM,C]
   cases hws:fi r w M N l cs as (knO os) ms rest g with
   | nil =>
    refine ite2 (fun _=>?_) (fun y=>absurd rfl y);exact (q Hf Jf bm).2 (by unfold fj;rw [hws];rfl)
   | cons w0 ws0 =>
    refine ite2 (fun y=>absurd (V.int.inj (zN y)) (by rw [ac7];omega)) (fun _=>?_)
    rw [hws] at C a9;refine ⟨_,rfl,?_⟩;refine oN (q:=qW) (pos:=posW) bm fun Hg c' fa ea er eq kg tg ng eo ec ej=>?_;obtain ⟨ek,a2,_⟩:=id bm
    have a0:=Kp.tab a2 kg
    have Jg:=Jf.kpw B.d_Asking_order_next_way dF a2 kg
    have dl:=a0 _ _ iP cy;refine ⟨W,ts.map V.ref,fun i=>((w0 :: ws0).getD i (0,[])).1,rfl,dl,by rw [zM,C];exact Nat.zero_lt_succ _,fun i y Hh hy sh=>?_,fun i y Hh hy hl sh=>?_⟩
    ·obtain ⟨t,et,rfl⟩:=fK hy
     have hi:i < (w0 :: ws0).length:=by rw [<- C];exact (zV.mp et).1
     obtain ⟨D,h1,h2,h3,h4⟩:=a9 i t _ et (zL hi)
     have e:((w0 :: ws0).getD i (0,[])).1=(w0 :: ws0)[i].1:=by rw [zK,zL hi];rfl
     rw [<- e] at h1;exact ⟨_,rfl,t,_,_,_,rfl,rfl,SqT.of (sh _ _ (a0 _ _ pb h1)),aC (j:=0) rfl,rfl,Same.refl _⟩
    ·obtain ⟨t,et,rfl⟩:=fK hy
     rw [zM,C] at hl
     have hi:i < (w0 :: ws0).length:=by rw [<- C];exact (zV.mp et).1
     have ei:=zL hi;obtain ⟨D,h1,h2,h3,h4⟩:=a9 i t _ et ei;refine ⟨t,_,_,_,rfl,rfl,SqT.of (sh _ _ (a0 _ _ pb h1)),aC (j:=1) rfl,?_⟩;refine (q Hh (Jg.same sh) (tg.keep sh)).1 D _ ?_ h3 (sh _ _ (a0 _ _ iP h2));unfold fj;rw [hws,rg (d:=((0:Int),([]:List Nat))) ei hl];rfl
inductive wQ (a:Adr) (vs:List V) (H:Hp) (Q:VK) (E_3:XK):Prop
 | mk:∀ (c bp fp:Addr) (r w n M N:Nat) (l:Nat->Nat->Nat),vs=[.ref c]->CodeAt a H c bp fp r w n M N l->M<=8->(∀ D qs H',H D=none->Same H H'->H' D=some (.lst (List.map V.ref qs))->TabAt H' qs M (rowT (N+M) (eqn N l))->(∀ p∈qs,H p=none)->D∉qs->Q (.ref D) H')->wQ a vs H Q E_3
theorem eU (T:Txt K mg a):FnO P wo K mg base 1 a.f28 ["self"] (wQ a):=by
 refine T.x28.F.okA (k:=0) i3 (fun G A outer s H vs Q E hr h=>?_)
 ·obtain ⟨c,bp,fp,r,w,n,M,N,l,rfl,hC,m8,q⟩:=h
  obtain ⟨dx,Lp,qs,h1,h2,h3⟩:=id hC.ins
  have el:(qs.map V.ref).length=M:=by rw [zM,h3.len]
  exists xx
  exists xl (av (bb (CompOk.of (cap:=[]) (own:=["line"]) (by kernel_rfl)) rfl (aJ (az (pv 0) rfl)) (fun _ _ _ _ _=>(ar (i:=0) (zN (by kernel_rfl)) rfl (Or.inl rfl))) (fun _ _ _ _ _=>aV) (fun _ _ _ _ _=>by exact (bP (mM (K:=K) rfl) rfl T.n_list (by decide +kernel) (aa (pv 0) ac)))))
  refine ⟨_,rfl,c,_,_,_,_,rfl,h1,T.cl_Code,T.no_Code_lines,gL bp M N Lp,Lp,rfl,⟨_,SqL.of h2⟩,fun D nD=>?_⟩;refine rN (xs:=qs.map V.ref) (row:=fun i=>rowV (rowT (N+M) (eqn N l) i)) (cs:=[]) (SqL.of h2) nD rfl (by rw [el];exact zR m8 (by decide)) (fun i u H4 R4 hu s4 hR=>?_) (fun gs H7 s4 hG g B C=>?_)
  ·obtain ⟨p,ep,hp⟩:=h3.get (i:=i) (by rw [<- el];exact (zV.mp hu).1)
   rw [aZ ep] at hu
   cases zX hu;exact ⟨_,rfl,p,_,rfl,.inl (SqL.of (s4 _ _ hp)),fun d nd=>hR d _ nd (Same.new nd) ab⟩
  ·rw [el] at g
   exact q D gs H7 nD s4 hG ⟨g.len,fun i p e=>g.on i p e⟩ B C
theorem pc (F:Nat->Nat) (N:Nat):∀ M,GF.xsum (N+M) F=GF.xsum N F ^^^ GF.xsum M (fun i=>F (N+i))
 | 0=>(ae5 _).symm
 | M+1=>by
  show GF.xsum (N+M) F ^^^ F (N+M)=GF.xsum N F ^^^ (GF.xsum M (fun i=>F (N+i)) ^^^ F (N+M))
  rw [pc F N M,ag1]
def dr (r w n N:Nat) (l:Nat->Nat->Nat) (t:Nat) (nv:Nat->Nat):Nat:=GF.xsum N fun k=>GF.sc r w n (l t k) (nv k)
def newV (nk:List Nat) (nb:Nat->Nat) (X:List Nat) (k:Nat):Nat:=if k∈nk then nb k else X.getD k 0
theorem za {t:Nat} (g:GF.Good r w) (hX:X.length=N+M) (hlt:∀ b∈X,b < (2 ^ w) ^ n) (h:isMk r w n M N l X=true) (ht:t < M):X.getD (N+t) 0=dr r w n N l t fun k=>X.getD k 0:=by
 have e:=(uB hX).mp h t ht;rw [pc] at e
 have e1:GF.xsum N (fun j=>GF.sc r w n (eqn N l t j) (X.getD j 0))=dr r w n N l t fun k=>X.getD k 0:=GF.xsum_congr N fun k hk=>by
  unfold eqn;rw [if_pos hk]
 have e2:GF.xsum M (fun i=>GF.sc r w n (eqn N l t (N+i)) (X.getD (N+i) 0))=X.getD (N+t) 0:=by
  rw [GF.xsum_single ht fun i hi ne=>?_]
  ·unfold eqn
   rw [if_neg (by omega),if_pos (by omega)]
   refine GF.sc_one g.rule g.w1 (hlt _ ?_);rw [zK,zL (by omega)]
   exact ae1 _
  ·unfold eqn
   rw [if_neg (by omega),if_neg (by omega),GF.sc_zero]
 rw [e1,e2] at e;exact (oH e).symm
theorem wn {t:Nat}{nv:Nat->Nat}:GF.sumB r w n ((((List.range N).filter fun k=>tch l t k).map fun k=>l t k).zip (((List.range N).filter fun k=>tch l t k).map nv))=dr r w n N l t nv:=by
 rw [List.zip_map',GF.sumB_filter];refine GF.xsum_congr N fun k hk=>?_
 by_cases z:l t k=0
 ·rw [if_neg (by unfold tch;rw [aa9 (by simpa using z)];decide),z,GF.sc_zero]
 ·rw [if_pos (by unfold tch;exact zZ z)]
variable {nb:Nat->Nat}
theorem yg {t:Nat} (g:GF.Good r w) (hl:∀ k,k < N->l t k < 2 ^ w):(dr r w n N l t fun k=>X.getD k 0) ^^^ GF.sumB r w n ((((srtN N nk).filter fun k=>tch l t k).map fun k=>l t k).zip (((srtN N nk).filter fun k=>tch l t k).map fun k=>X.getD k 0 ^^^ nb k))=dr r w n N l t (newV nk nb X):=by
 unfold srtN;rw [List.filter_filter,List.zip_map',GF.sumB_filter];unfold dr;rw [<- GF.xsum_xor];refine GF.xsum_congr N fun k hk=>?_;unfold newV
 by_cases m:k∈nk
 ·rw [if_pos m]
  have mc:nk.contains k=true:=ab8.mpr m
  by_cases z:l t k=0
  ·rw [z,GF.sc_zero,GF.sc_zero,GF.sc_zero]
   split <;> rfl
  ·rw [if_pos (by rw [mc,ai5];unfold tch;exact zZ z),GF.sc_xor g.rule (hl k hk),← ag1,ai4,ae4]
 ·rw [if_neg m,if_neg (fun y=>m (ab8.mp (ac8 _ _ ▸ y).2)),ae5]
theorem uU {t k:Nat} (hk:k < N):(!decide (V.int ((eqn N l t k:Nat):Int)=V.int 0))=tch l t k:=by
 unfold tch eqn;rw [if_pos hk]
 by_cases x:l t k=0
 ·rw [x];rfl
 ·rw [aa9 (fun e=>x (by have:=V.int.inj e;omega)),zZ x];rfl
structure MkX (r w n M N:Nat) (l:Nat->Nat->Nat) (os:List (Option Nat)) (X:List Nat):Prop where
 len:X.length=N+M
 lt:∀ b∈X,b < (2 ^ w) ^ n
 ism:isMk r w n M N l X=true
 ag:bH (N+M) os X
inductive uV (a:Adr) (vs:List V) (H:Hp) (Q:VK) (E_3:XK):Prop
 | mk:∀ (H0:Hp) (R:AskR) (nd:Addr) (r w n M N t:Nat) (l:Nat->Nat->Nat) (cs srow os:List (Option Nat)) (as X nk:List Nat) (nb:Nat->Nat),vs=[.ref R.A,.ref nd,.int t]->AskI a H0 R r w n M N l cs srow->AskM a H0 H R (N+M) os as->H nd=some (.dK (aG nk nb))->t < M->MkX r w n M N l os X->((∀ k,k < N->tch l t k=true->k∉nk->fx r w M N l (knO os) k=true))->(∀ H',Same H H'->Q (.int ((dr r w n N l t (newV nk nb X):Nat):Int)) H')->uV a vs H Q E_3
theorem lz (T:Txt K mg a):FnO P wo K mg base 10 a.f48 ["asking", "news", "total"] (uV a):=by
 refine T.x48.F.okA (k:=9) sc_sum_by_rest (fun a4 A outer s H vs Q E hr h=>?_)
 ·obtain ⟨H0,R,nd,r,w,n,M,N,t,l,cs,ad,os,as,X,nk,nb,rfl,I,J,U,ht,mx,a1,q⟩:=h
  obtain ⟨dx,hA⟩:=I.obj
  have hA:=J.sm _ _ hA
  have hC:=I.code.same J.sm;obtain ⟨dc,Lp,qs,hc,_,_⟩:=id hC.ins;obtain ⟨dB,hB⟩:=hC.blk.ins
  have n8:=I.W.n8
  exists xx
  exists xc (al (i:=3) sc_sum_by_rest.nd rfl (Or.inl rfl) (az (pv 0) rfl))
  exists xc (al (i:=4) sc_sum_by_rest.nd rfl (Or.inr rfl) (aI aH (cN (pv 3) T.cl_Code T.x28.me (eU T) hr.u T.x28.b .nil ao) (pv 2) (fun _ _=>rfl)))
  exists xc (b9 (i:=5) sc_sum_by_rest.nd rfl (Or.inl rfl) (CompOk.of (cap:=[4]) (own:=["role"]) (by kernel_rfl)) rfl (aW rfl T.n_range (aa (az (pv 3) rfl) ac)) (fun _ _ _ _ _=>(ar (i:=1) (zN (by kernel_rfl)) rfl (Or.inl rfl))) (fun _ _ _ _ _=>(cE (au eW (aI (bI (K:=K) rfl) (pv 0) (pv 1) (fun _ _=>rfl)) ai (ax _)))) (fun _ _ _ _ _=>by exact (pv 1)))
  exists xc (b9 (i:=6) sc_sum_by_rest.nd rfl (Or.inl rfl) (CompOk.of (cap:=[1,0]) (own:=["role"]) (by kernel_rfl)) rfl (aJ (pv 5)) (fun _ _ _ _ _=>(ar (i:=2) (zN (by kernel_rfl)) rfl (Or.inl rfl))) (fun _ _ _ _ _=>aV) (fun _ _ _ _ _=>by exact (jt (mZ (nY (cI hr) (pv 2) (pv 0))) (iY (cI hr) (pv 0) (pv 2) (fun _ _=>rfl)) (aE (pv 1) T.cl_Asking T.x40.me (bW T) hr.u T.x40.b .nil ao (aa (pv 2) ac)))))
  exists xl (av (aE (by exact (az (pv 3) rfl)) T.cl_Blocks T.x18.me (dt T) hr.u T.x18.b .nil ao (aa (bb (CompOk.of (cap:=[4]) (own:=["role"]) (by kernel_rfl)) rfl (aJ (pv 5)) (fun _ _ _ _ _=>(ar (i:=1) (zN (by kernel_rfl)) rfl (Or.inl rfl))) (fun _ _ _ _ _=>aV) (fun _ _ _ _ _=>by exact (aI (bI (K:=K) rfl) (pv 0) (pv 1) (fun _ _=>rfl)))) (aa (pv 6) ac))))
  refine ⟨_,rfl,R.A,_,_,_,_,rfl,hA,T.cl_Asking,T.no_Asking_code,cF _ _ _ _ _,?_⟩;refine ⟨_,rfl,R.c,dc,_,rfl,hc,rfl,R.c,R.bp,R.fp,r,w,n,M,N,l,rfl,hC,by omega,fun EL es H1 a3 s1 an ak _ _=>?_⟩
  obtain ⟨lp,a0,S⟩:=ak.get ht;refine ⟨_,rfl,EL,_,_,_,rfl,rfl,SqL.of an,aC (aZ a0),?_⟩
  have gi:∀ k,k < N->atI (rowV (rowT (N+M) (eqn N l) t)) (k:Int)=some (.int ((eqn N l t k:Nat):Int)):=fun k hk=>by
   have:=aC (bw (row:=rowT (N+M) (eqn N l) t) (i:=k) (by rw [aD];omega))
   rwa [bi (by omega:k < N+M)] at this
  refine ⟨_,rfl,R.c,_,_,_,_,rfl,s1 _ _ hc,T.cl_Code,T.no_Code_data,d6 R.bp M N Lp,_,rfl,by omega,by omega,fun rl nrl=>?_⟩
  rw [ac2];refine di (n:=N) (f:=fun k=>.int ((k:Nat):Int)) (b:=fun k=>tch l t k) (cs:=[some (.ref lp)]) nrl rfl (zR (by omega:N<=8) (by decide)) (fun k H2 R2 hk s2 hR=>?_) (fun k H2 R2 hk hb s2 hR=>⟨_,rfl,hR _ (Same.refl _)⟩) (fun H2 s2 g=>?_)
  ·refine ⟨_,rfl,_,rfl,lp,_,_,_,rfl,rfl,SqL.of (s2 _ _ S),gi k hk,rfl,_,rfl,?_⟩
   rw [uU hk];exact hR _ (Same.refl _)
  have g:H2 rl=some (.lst (rowV ((List.range N).filter fun k=>tch l t k))):=g
  have a2:((List.range N).filter fun k=>tch l t k).length<=8:=by
   have:=ac0 (fun k=>tch l t k) (List.range N);rw [zS] at this;omega
  have B:∀ k∈((List.range N).filter fun k=>tch l t k),k < N/\tch l t k=true:=fun k hk=>⟨aa1.mp (aa7.mp hk).1,(aa7.mp hk).2⟩
  have O:=s1.trans s2;refine ⟨_,rfl,rl,rfl,⟨_,SqL.of g⟩,fun so aT=>?_⟩;refine cx (f:=fun k=>.int ((newV nk nb X k:Nat):Int)) (cs:=[some (.ref nd),some (.ref R.A)]) (SqL.of g) aT rfl (by omega) (fun k Hx Rx hk sx hR=>?_) (fun H3 s3 G=>?_)
  ·obtain ⟨C,Z⟩:=B k hk
   have sx:=O.trans sx;refine ⟨_,rfl,_,rfl,nd,_,rfl,DGet.k (k:=Sum.inl ((k:Nat):Int)) (sx _ _ U),_,rfl,?_⟩;rw [bT];unfold newV at hR
   by_cases m:k∈nk
   ·rw [if_pos m] at hR
    rw [if_pos m];refine ite2 (fun _=>?_) (fun y=>absurd rfl y)
    have dg:=DGet.k (k:=Sum.inl ((k:Nat):Int)) (sx _ _ U);rw [bT,if_pos m] at dg;exact ⟨_,rfl,_,rfl,nd,_,rfl,dg,hR _ (Same.refl _)⟩
   ·rw [if_neg m] at hR
    rw [if_neg m];refine ite2 (fun y=>absurd y (by decide)) (fun _=>?_)
    refine ⟨_,rfl,R.A,dx,_,rfl,sx _ _ hA,rfl,_,rfl,H0,R,r,w,n,M,N,k,l,cs,ad,os,as,X,rfl,I,J.same sx,by omega,mx.len,mx.lt,mx.ism,mx.ag,fun H' s'=>?_⟩
    rw [if_pos (a1 k C Z m)];exact hR _ s'
  have L:=O.trans s3
  have G:H3 so=some (.lst (rowV (((List.range N).filter fun k=>tch l t k).map (newV nk nb X)))):=by rw [G];unfold rowV;rw [ac4];rfl
  refine ⟨_,rfl,R.c,_,_,_,_,rfl,L _ _ hc,T.cl_Code,T.no_Code_blocks,eK R.bp M N Lp,R.bp,dB,_,rfl,L _ _ hB,rfl,?_⟩;refine ⟨_,rfl,rl,rfl,⟨_,SqL.of (s3 _ _ g)⟩,fun fl aw=>?_⟩;refine cx (f:=fun k=>.int ((l t k:Nat):Int)) (cs:=[some (.ref lp)]) (SqL.of (s3 _ _ g)) aw rfl (by omega) (fun k Hx Rx hk sx hR=>?_) (fun H4 s4 D=>?_)
  ·obtain ⟨C,Z⟩:=B k hk
   have g2:=gi k C;rw [show eqn N l t k=l t k by unfold eqn;rw [if_pos C]] at g2
   exact ⟨_,rfl,_,rfl,lp,_,_,_,rfl,rfl,SqL.of ((s2.trans (s3.trans sx)) _ _ S),g2,hR _ (Same.refl _)⟩
  have D:H4 fl=some (.lst (rowV (((List.range N).filter fun k=>tch l t k).map fun k=>l t k))):=by rw [D];unfold rowV;rw [ac4];rfl
  have Y:=L.trans s4;refine ⟨_,rfl,R.bp,R.fp,fl,so,r,w,n,_,_,rfl,hC.blk.same Y,I.full.toGood,I.n16,SqL.of D,SqL.of (s4 _ _ G),by rw [zM,zM],fun f hf=>?_,fun H' s'=>?_⟩
  ·obtain ⟨k,hk,rfl⟩:=ae2.mp hf
   exact I.W.lt t k ht (B k hk).1
  ·rw [wn]
   exact q H' (Y.trans s')
inductive uW (a:Adr) (vs:List V) (H:Hp) (Q:VK) (E_3:XK):Prop
 | mk:∀ (H0:Hp) (R:AskR) (nd:Addr) (r w n M N t:Nat) (l:Nat->Nat->Nat) (cs srow os:List (Option Nat)) (as X nk:List Nat) (nb:Nat->Nat),vs=[.ref R.A,.ref nd,.int t]->AskI a H0 R r w n M N l cs srow->AskM a H0 H R (N+M) os as->H nd=some (.dK (aG nk nb))->nk.Nodup->((∀ k∈nk,k < N))->t < M->MkX r w n M N l os X->((∀ k∈nk,tch l t k=true->fx r w M N l (knO os) k=true))->fx r w M N l (knO os) (N+t)=true->(∀ H',Same H H'->Q (.int ((dr r w n N l t (newV nk nb X):Nat):Int)) H')->uW a vs H Q E_3
theorem jR (T:Txt K mg a):FnO P wo K mg base 10 a.f49 ["asking", "news", "total"] (uW a):=by
 refine T.x49.F.okA (k:=9) sc_sum_by_change (fun b2 A outer s H vs Q E hr h=>?_)
 ·obtain ⟨H0,R,nd,r,w,n,M,N,t,l,cs,Y,os,as,X,nk,nb,rfl,I,J,aT,a1,B,ht,mx,a8,a7,q⟩:=h
  obtain ⟨dx,hA⟩:=I.obj
  have hA:=J.sm _ _ hA
  have hC:=I.code.same J.sm;obtain ⟨dc,Lp,qs,hc,_,_⟩:=id hC.ins;obtain ⟨dB,hB⟩:=hC.blk.ins
  have n8:=I.W.n8
  have nl:nk.length<=8:=zR (bF N nk a1 B) (by omega)
  exists xx
  exists xc (al (i:=3) sc_sum_by_change.nd rfl (Or.inl rfl) (az (pv 0) rfl))
  exists xc (al (i:=4) sc_sum_by_change.nd rfl (Or.inr rfl) (aI aH (cN (pv 3) T.cl_Code T.x28.me (eU T) hr.u T.x28.b .nil ao) (pv 2) (fun _ _=>rfl)))
  exists xc (b9 (i:=5) sc_sum_by_change.nd rfl (Or.inl rfl) (CompOk.of (cap:=[4]) (own:=["role"]) (by kernel_rfl)) rfl (aJ (aA (cQ rfl) rfl T.n_sorted ah3 (aa (pv 1) ac))) (fun _ _ _ _ _=>(ar (i:=1) (zN (by kernel_rfl)) rfl (Or.inl rfl))) (fun _ _ _ _ _=>(cE (au eW (aI (bI (K:=K) rfl) (pv 0) (pv 1) (fun _ _=>rfl)) ai (ax _)))) (fun _ _ _ _ _=>by exact (pv 1)))
  exists xc (b9 (i:=6) sc_sum_by_change.nd rfl (Or.inl rfl) (CompOk.of (cap:=[1,0]) (own:=["role"]) (by kernel_rfl)) rfl (aJ (pv 5)) (fun _ _ _ _ _=>(ar (i:=2) (zN (by kernel_rfl)) rfl (Or.inl rfl))) (fun _ _ _ _ _=>aV) (fun _ _ _ _ _=>by exact (aq dE (aE (pv 1) T.cl_Asking T.x40.me (bW T) hr.u T.x40.b .nil ao (aa (pv 2) ac)) (iY (cI hr) (pv 0) (pv 2) (fun _ _=>rfl)))))
  exists xl (av (aq dE (aE (pv 0) T.cl_Asking T.x40.me (bW T) hr.u T.x40.b .nil ao (aa (aq aO (az (pv 3) rfl) (pv 2)) ac)) (aE (by exact (az (pv 3) rfl)) T.cl_Blocks T.x18.me (dt T) hr.u T.x18.b .nil ao (aa (bb (CompOk.of (cap:=[4]) (own:=["role"]) (by kernel_rfl)) rfl (aJ (pv 5)) (fun _ _ _ _ _=>(ar (i:=1) (zN (by kernel_rfl)) rfl (Or.inl rfl))) (fun _ _ _ _ _=>aV) (fun _ _ _ _ _=>by exact (aI (bI (K:=K) rfl) (pv 0) (pv 1) (fun _ _=>rfl)))) (aa (pv 6) ac)))))
  refine ⟨_,rfl,R.A,_,_,_,_,rfl,hA,T.cl_Asking,T.no_Asking_code,cF _ _ _ _ _,?_⟩;refine ⟨_,rfl,R.c,dc,_,rfl,hc,rfl,R.c,R.bp,R.fp,r,w,n,M,N,l,rfl,hC,by omega,fun EL es H1 b1 s1 a3 a2 _ _=>?_⟩
  obtain ⟨lp,a6,S⟩:=a2.get ht;refine ⟨_,rfl,EL,_,_,_,rfl,rfl,SqL.of a3,aC (aZ a6),?_⟩
  have gi:∀ k,k < N->atI (rowV (rowT (N+M) (eqn N l) t)) (k:Int)=some (.int ((eqn N l t k:Nat):Int)):=fun k hk=>by
   have:=aC (bw (row:=rowT (N+M) (eqn N l) t) (i:=k) (by rw [aD];omega))
   rwa [bi (by omega:k < N+M)] at this
  refine ⟨_,rfl,nd,_,nk.map fun k=>((k:Nat):Int),rfl,s1 _ _ aT,bN nk nb,by rw [zM];omega,fun sl ns nsl pm pw=>?_⟩
  rw [cU a1 B pm pw]
  have sS:=Same.new (o:=.lst (rowV (srtN N nk))) nsl
  have Z:=ab (H:=H1) (a:=sl) (o:=.lst (rowV (srtN N nk)));generalize (upd H1 sl (.lst (rowV (srtN N nk))))=H1' at sS Z
  have s1:=s1.trans sS
  have S:=sS _ _ S
  have D:∀ k∈srtN N nk,k < N/\k∈nk:=fun k hk=>⟨B k ((bu B).mp hk),(bu B).mp hk⟩;refine ⟨sl,rfl,⟨_,SqL.of Z⟩,fun rl nrl=>?_⟩;refine fg (rs:=srtN N nk) (b:=fun k=>tch l t k) (cs:=[some (.ref lp)]) (SqL.of Z) nrl rfl (zR cz (zR (by omega:N<=8) (by decide))) (fun k H2 R2 hk s2 hR=>?_) (fun k H2 R2 hk hb s2 hR=>⟨_,rfl,hR _ (Same.refl _)⟩) (fun H2 s2 O=>?_)
  ·have g:=(D k hk).1
   refine ⟨_,rfl,_,rfl,lp,_,_,_,rfl,rfl,SqL.of (s2 _ _ S),gi k g,rfl,_,rfl,?_⟩;rw [uU g];exact hR _ (Same.refl _)
  have bm:((srtN N nk).filter fun k=>tch l t k).length<=8:=zR (ac0 _ _) (zR cz (by omega))
  have L:∀ k∈((srtN N nk).filter fun k=>tch l t k),k < N/\k∈nk/\tch l t k=true:=fun k hk=>⟨(D k (aa7.mp hk).1).1,(D k (aa7.mp hk).1).2,(aa7.mp hk).2⟩
  have an:=s1.trans s2;refine ⟨_,rfl,rl,rfl,⟨_,SqL.of O⟩,fun so a5=>?_⟩;refine cx (f:=fun k=>.int ((X.getD k 0 ^^^ nb k:Nat):Int)) (cs:=[some (.ref nd),some (.ref R.A)]) (SqL.of O) a5 rfl (by omega) (fun k Hx Rx hk sx hR=>?_) (fun H3 s3 ak=>?_)
  ·obtain ⟨g,aw,a9⟩:=L k hk
   have sx:=an.trans sx;refine ⟨_,rfl,R.A,dx,_,rfl,sx _ _ hA,rfl,_,rfl,H0,R,r,w,n,M,N,k,l,cs,Y,os,as,X,rfl,I,J.same sx,by omega,mx.len,mx.lt,mx.ism,mx.ag,fun H' s'=>?_⟩
   rw [if_pos (a8 k aw a9)]
   have dg:=DGet.k (k:=Sum.inl ((k:Nat):Int)) ((sx.trans s') _ _ aT);rw [bT,if_pos aw] at dg;refine ⟨_,rfl,_,rfl,nd,_,rfl,dg,_,_,rfl,rfl,?_⟩
   show Rx (V.int (Builtin.bitXor _ _)) H'
   rw [bK];exact hR _ s'
  have U:=an.trans s3
  have ak:H3 so=some (.lst (rowV (((srtN N nk).filter fun k=>tch l t k).map fun k=>X.getD k 0 ^^^ nb k))):=by rw [ak];unfold rowV;rw [ac4];rfl
  refine ⟨_,rfl,R.A,dx,_,rfl,U _ _ hA,rfl,_,rfl,R.c,_,_,_,_,rfl,U _ _ hc,T.cl_Code,T.no_Code_data,d6 R.bp M N Lp,_,rfl,_,_,rfl,rfl,?_⟩;refine ⟨H0,R,r,w,n,M,N,N+t,l,cs,Y,os,as,X,congrArg (fun z=>[V.ref R.A,V.int z]) (show (N:Int)+(t:Int)=((N+t:Nat):Int) by omega),I,J.same U,by omega,mx.len,mx.lt,mx.ism,mx.ag,fun b0 C=>?_⟩
  rw [if_pos a7]
  have G:=U.trans C;refine ⟨_,rfl,R.c,_,_,_,_,rfl,G _ _ hc,T.cl_Code,T.no_Code_blocks,eK R.bp M N Lp,R.bp,dB,_,rfl,G _ _ hB,rfl,?_⟩;refine ⟨_,rfl,rl,rfl,⟨_,SqL.of ((s3.trans C) _ _ O)⟩,fun fl a4=>?_⟩;refine cx (f:=fun k=>.int ((l t k:Nat):Int)) (cs:=[some (.ref lp)]) (SqL.of ((s3.trans C) _ _ O)) a4 rfl (by omega) (fun k Hx Rx hk sx hR=>?_) (fun H4 s4 ad=>?_)
  ·have g:=(L k hk).1
   have g2:=gi k g;rw [show eqn N l t k=l t k by unfold eqn;rw [if_pos g]] at g2
   exact ⟨_,rfl,_,rfl,lp,_,_,_,rfl,rfl,SqL.of ((s2.trans ((s3.trans C).trans sx)) _ _ S),g2,hR _ (Same.refl _)⟩
  have ad:H4 fl=some (.lst (rowV (((srtN N nk).filter fun k=>tch l t k).map fun k=>l t k))):=by rw [ad];unfold rowV;rw [ac4];rfl
  have a0:=G.trans s4;refine ⟨_,rfl,R.bp,R.fp,fl,so,r,w,n,_,_,rfl,hC.blk.same a0,I.full.toGood,I.n16,SqL.of ad,SqL.of ((C.trans s4) _ _ ak),by rw [zM,zM],fun f hf=>?_,fun H' s'=>?_⟩
  ·obtain ⟨k,hk,rfl⟩:=ae2.mp hf
   exact I.W.lt t k ht (L k hk).1
  ·refine ⟨_,_,rfl,rfl,?_⟩
   show Q (V.int (Builtin.bitXor _ _)) H'
   rw [bK,za I.full.toGood mx.len mx.lt mx.ism ht,yg I.full.toGood fun k hk=>I.W.lt t k ht hk];exact q H' (a0.trans s')
def bD (N:Nat) (cs:List (Option Nat)) (ts nk:List Nat):List Nat:=((srtN N nk).filter fun k=>(cs.getD k none).isSome)++ts.map fun t=>N+t
def laidV (r w n N:Nat) (l:Nat->Nat->Nat) (nk:List Nat) (nb:Nat->Nat) (X:List Nat) (k:Nat):Nat:=if k < N then nb k else dr r w n N l (k - N) (newV nk nb X)
variable {f:Nat->Nat}
theorem dA {ks:List Nat}{k:Nat} (h:k∉ks):putK (aG ks f) (Sum.inl ((k:Nat):Int)) (.int ((f k:Nat):Int))=aG (ks++[k]) f:=by
 rw [vI _ (by rw [bT,if_neg h])]
 unfold aG;rw [ad6];rfl
theorem cV (ks:List Nat) (f:Nat->Nat):(aG ks f).length=ks.length:=by unfold aG;rw [zM]
theorem jS {xs:List Nat} (nd:xs.Nodup) {i k:Nat} (e:xs[i]?=some k):k∉xs.take i:=fun h=>by
 have hi:=zV.mp e
 have n2:(xs.take i++xs.drop i).Nodup:=by rw [List.take_append_drop];exact nd
 refine (List.nodup_append.mp n2).2.2 k h k ?_ rfl;rw [List.drop_eq_getElem_cons hi.1,hi.2];exact ac9
inductive rm (a:Adr) (vs:List V) (H:Hp) (Q:VK) (E_3:XK):Prop
 | mk:∀ (H0:Hp) (R:AskR) (nd tl:Addr) (b:Bool) (r w n M N:Nat) (l:Nat->Nat->Nat) (cs srow os:List (Option Nat)) (as X nk ts:List Nat) (nb:Nat->Nat),vs=[.ref R.A,.ref nd,.ref tl,.bl b]->AskI a H0 R r w n M N l cs srow->AskM a H0 H R (N+M) os as->H nd=some (.dK (aG nk nb))->nk.Nodup->((∀ k∈nk,k < N))->H tl=some (.lst (rowV ts))->ts.Nodup->((∀ t∈ts,t < M))->MkX r w n M N l os X->((b=true->∀ t∈ts,∀ k,k < N->tch l t k=true->k∉nk->fx r w M N l (knO os) k=true))->((b=false->∀ t∈ts,(∀ k∈nk,tch l t k=true->fx r w M N l (knO os) k=true)/\fx r w M N l (knO os) (N+t)=true))->(∀ D H',Same H H'->H D=none->H' D=some (.dK (aG (bD N cs ts nk) (laidV r w n N l nk nb X)))->Q (.ref D) H')->rm a vs H Q E_3
theorem uX (T:Txt K mg a):FnO P wo K mg base 11 a.f50 ["asking", "news", "totals", "by_rest"] (rm a):=by
 refine T.x50.F.okA (k:=10) sc_to_lay (fun a4 A outer s H vs Q E hr h=>?_)
 ·obtain ⟨H0,R,nd,tl,b,r,w,n,M,N,l,cs,L,os,as,X,nk,ts,nb,rfl,I,J,C,U,B,Y,ad,ak,mx,a1,a0,q⟩:=h
  obtain ⟨dx,hA⟩:=I.obj
  have hA:=J.sm _ _ hA
  have hC:=I.code.same J.sm;obtain ⟨dc,Lp,qs,hc,_,_⟩:=id hC.ins
  have n8:=I.W.n8
  have nl:nk.length<=8:=zR (bF N nk U B) (by omega)
  have a5:ts.length<=M:=bF M ts ad ak
  exists xx
  exists xc (al (i:=4) sc_to_lay.nd rfl (Or.inl rfl) gJ)
  refine xq ?_;refine xf PassesOwn.never rfl (aJ (aA (cQ rfl) rfl T.n_sorted ah3 (aa (pv 1) ac))) (ar (i:=5) sc_to_lay.nd rfl (Or.inl rfl)) ?_;refine x1 ?_;refine xi (au bZ (aI aH (az (pv 0) rfl) (pv 5) (fun _ _=>rfl)) aR (ax _)) ?_
  exists xl (gp (cI hr) (pv 4) (pv 5) (iY (cI hr) (pv 1) (pv 5) (fun _ _=>rfl)) rfl)
  refine ⟨_,aF,?_⟩;intro u_;intro u_;refine xq ?_;refine xf PassesOwn.never rfl (aJ (pv 2)) (ar (i:=6) sc_to_lay.nd rfl (Or.inl rfl)) ?_
  exists xc (al (i:=5) sc_to_lay.nd rfl (Or.inl rfl) (aq aO (az (az (pv 0) rfl) rfl) (pv 6)))
  exists xl (gp (cI hr) (pv 4) (pv 5) (jt (bd (pv 3)) (ay (lz T) hr.u rfl T.x48.m T.x48.k T.x48.b .nil ao (aa (pv 0) (aa (pv 1) (aa (pv 6) ac)))) (ay (jR T) hr.u rfl T.x49.m T.x49.k T.x49.b .nil ao (aa (pv 0) (aa (pv 1) (aa (pv 6) ac))))) rfl)
  intro u_
  exists xl (av (pv 4))
  refine fun D nD=>?_
  have sD:=Same.new (o:=.dK []) nD
  have hD:=ab (H:=H) (a:=D) (o:=.dK []);generalize (upd H D (.dK []))=H1 at sD hD;refine ⟨_,rfl,nd,_,nk.map fun k=>((k:Nat):Int),rfl,sD _ _ C,bN nk nb,by rw [zM];omega,fun sl ns nsl pm pw=>?_⟩
  rw [cU U B pm pw]
  have sS:=Same.new (o:=.lst (rowV (srtN N nk))) nsl
  have O:=ab (H:=H1) (a:=sl) (o:=.lst (rowV (srtN N nk)))
  have aT:sl≠D:=(am hD nsl).symm;generalize (upd H1 sl (.lst (rowV (srtN N nk))))=H2 at sS O
  have a2:=sS _ _ hD
  have s2:=sD.trans sS;refine ⟨sl,rfl,⟨_,SqL.of O⟩,?_⟩;refine let I_:Nat->L2.St->Hp->Prop:=fun i σ H'=>L2.A4 ((∃ v5:Option V,σ=[some (.ref R.A),some (.ref nd),some (.ref tl),some (.bl b),some (.ref D),v5,none])) (Same H H') (H' sl=some (.lst (rowV (srtN N nk)))) (H' D=some (.dK (aG (((srtN N nk).take i).filter fun k=>(cs.getD k none).isSome) (laidV r w n N l nk nb X))));bR (xs:=rowV (srtN N nk)) I_ ⟨⟨none,rfl⟩,s2,O,a2⟩ ?_ ?_ ?_
  ·rintro i σ H' _ ⟨_,_,h,_⟩
   exact SqL.of h
  ·rintro i x σ H' hx ⟨⟨v5,rfl⟩,sm,Z,g⟩
   obtain ⟨k,ek,rfl⟩:=aQ hx
   have aw:=(bu B).mp (aa0 ek)
   have a3:=B k aw
   have gi:=aC (bj (cb (os:=cs) (k:=k) (by rw [I.csl];omega)))
   have sx:=sm;refine ⟨_,rfl,R.A,_,_,_,_,rfl,sx _ _ hA,T.cl_Asking,T.no_Asking_costs,du _ _ _ _ _,_,rfl,R.cl,_,_,_,rfl,rfl,SqL.of ((J.sm.trans sx) _ _ I.cost),gi,rfl,_,rfl,?_⟩;rw [fq]
   have et:((srtN N nk).take (i+1)).filter (fun k=>(cs.getD k none).isSome)=((srtN N nk).take i).filter (fun k=>(cs.getD k none).isSome)++(if (cs.getD k none).isSome=true then [k] else []):=by
    rw [dy ek,aj5]
    congr 1
    by_cases z:(cs.getD k none).isSome=true
    ·rw [if_pos z,ak4 (p:=fun k=>(cs.getD k none).isSome) z,aj0]
    ·rw [if_neg z,ak5 (p:=fun k=>(cs.getD k none).isSome) z,aj0]
   cases hz:(cs.getD k none).isSome with
   | false =>
    refine ite2 (fun y=>absurd y (by decide)) (fun _=>?_)
    exact ⟨⟨_,rfl⟩,sm,Z,by rw [et,hz,if_neg (by decide),ai8];exact g⟩
   | true =>
    refine ite2 (fun _=>?_) (fun y=>absurd rfl y)
    have dg:=DGet.k (k:=Sum.inl ((k:Nat):Int)) (sx _ _ C);rw [bT,if_pos aw] at dg
    have G:k∉((srtN N nk).take i).filter fun k=>(cs.getD k none).isSome:=fun y=>jS (af2 _ ai0:(srtN N nk).Nodup) ek (aa7.mp y).1;refine ⟨_,rfl,_,rfl,nd,_,rfl,dg,_,rfl,_,rfl,D,_,rfl,DPut.k (k:=Sum.inl ((k:Nat):Int)) g ?_,?_⟩
    ·rw [cV]
     exact ae7 (zR (ac0 _ _) (zR (by rw [ag0];exact Nat.min_le_right _ _) (zR cz (by omega:N<=8)))) (by decide)
    refine ⟨⟨_,rfl⟩,sm.up nD,by rw [ae aT];exact Z,?_⟩
    rw [ab,et,hz,if_pos rfl]
    have ev:laidV r w n N l nk nb X k=nb k:=by unfold laidV;rw [if_pos a3]
    rw [<- dA G,ev]
  ·rintro σ H' ⟨⟨v5,rfl⟩,sm,_,g⟩
   rw [aj,ai1] at g;refine ⟨_,rfl,tl,rfl,⟨_,SqL.of (sm _ _ Y)⟩,?_⟩;refine let I_:Nat->L2.St->Hp->Prop:=fun i σ H'=>L2.A3 ((∃ v5 v6:Option V,σ=[some (.ref R.A),some (.ref nd),some (.ref tl),some (.bl b),some (.ref D),v5,v6])) (Same H H') (H' D=some (.dK (aG (((srtN N nk).filter fun k=>(cs.getD k none).isSome)++(ts.take i).map fun t=>N+t) (laidV r w n N l nk nb X))));bR (xs:=rowV ts) I_ ⟨⟨_,_,rfl⟩,sm,by rw [g];simp⟩ ?_ ?_ ?_
   ·rintro i σ H' _ ⟨_,sm,_⟩
    exact SqL.of (sm _ _ Y)
   ·rintro i x σ H' hx ⟨⟨v5,v6,rfl⟩,sm,g⟩
    obtain ⟨t,et,rfl⟩:=aQ hx
    have S:=aa0 et
    have an:=ak t S;refine ⟨_,rfl,R.A,_,_,_,_,rfl,sm _ _ hA,T.cl_Asking,T.no_Asking_code,cF _ _ _ _ _,R.c,_,_,_,_,rfl,sm _ _ hc,T.cl_Code,T.no_Code_data,d6 R.bp M N Lp,_,rfl,_,_,rfl,rfl,?_⟩
    have G:N+t∉((srtN N nk).filter fun k=>(cs.getD k none).isSome)++(ts.take i).map fun t=>N+t:=fun y=>by
     rcases ab5.mp y with y | y
     ·have:=B _ ((bu B).mp (aa7.mp y).1)
      omega
     ·obtain ⟨t',h1,h2⟩:=ae2.mp y
      have:t'=t:=by omega
      subst this;exact jS ad et h1
    have len:(aG (((srtN N nk).filter fun k=>(cs.getD k none).isSome)++(ts.take i).map fun t=>N+t) (laidV r w n N l nk nb X)).length < sizeLine:=by
     rw [cV,ab6,zM]
     have h1:=ac0 (fun k=>(cs.getD k none).isSome) (srtN N nk)
     have h2:=cz (N:=N) (nk:=nk)
     have h3:(ts.take i).length<=ts.length:=by rw [ag0];exact Nat.min_le_right _ _
     exact ae7 (by omega:_<=8) (by decide)
    have ev:laidV r w n N l nk nb X (N+t)=dr r w n N l t (newV nk nb X):=by unfold laidV;rw [if_neg (by omega),ak8]
    have fin:∀ H2,Same H' H2->Same H (upd H2 D (.dK (aG (((srtN N nk).filter fun k=>(cs.getD k none).isSome)++(ts.take (i+1)).map fun t=>N+t) (laidV r w n N l nk nb X)))):=fun H2 s2=>(sm.trans s2).up nD
    have ed:(((srtN N nk).filter fun k=>(cs.getD k none).isSome)++(ts.take i).map fun t=>N+t)++[N+t]=((srtN N nk).filter fun k=>(cs.getD k none).isSome)++(ts.take (i+1)).map fun t=>N+t:=by
     rw [dy et,ad6,am1];rfl
    try dsimp only
    rw [show (N:Int)+(t:Int)=((N+t:Nat):Int) by omega]
    refine ⟨_,rfl,_,rfl,?_⟩
    cases b with
    | true =>
     refine ite2 (fun _=>?_) (fun y=>absurd rfl y);refine ⟨_,rfl,_,rfl,_,rfl,H0,R,nd,r,w,n,M,N,t,l,cs,L,os,as,X,nk,nb,rfl,I,J.same sm,sm _ _ C,an,mx,a1 rfl t S,fun H2 s2=>?_⟩;refine ⟨_,rfl,_,rfl,D,_,rfl,DPut.k (k:=Sum.inl ((N+t:Nat):Int)) (s2 _ _ g) len,?_⟩;rw [<- ev,dA G,ed];exact ⟨⟨_,_,rfl⟩,fin H2 s2,ab⟩
    | false =>
     refine ite2 (fun y=>absurd y (by decide)) (fun _=>?_)
     obtain ⟨f1,f2⟩:=a0 rfl t S;refine ⟨_,rfl,_,rfl,_,rfl,H0,R,nd,r,w,n,M,N,t,l,cs,L,os,as,X,nk,nb,rfl,I,J.same sm,sm _ _ C,U,B,an,mx,f1,f2,fun H2 s2=>?_⟩;refine ⟨_,rfl,_,rfl,D,_,rfl,DPut.k (k:=Sum.inl ((N+t:Nat):Int)) (s2 _ _ g) len,?_⟩;rw [<- ev,dA G,ed];exact ⟨⟨_,_,rfl⟩,fin H2 s2,ab⟩
   ·rintro σ H' ⟨⟨v5,v6,rfl⟩,sm,g⟩
    rw [aj,ai1] at g;exact ⟨_,rfl,q D H' sm nD g⟩
section
variable (r w M N:Nat) (l:Nat->Nat->Nat) (cs srow:List (Option Nat)) (L L':List Nat)
inductive WrS:List (Option Nat)->List Nat->List (Option Nat)->List Nat->Bool->Prop
 | done {os as:_}:(L.all (fx r w M N l (knO os)) || L'.all (fx r w M N l (knO os)))=true->WrS os as os as true
 | none {os as ms:_}:L.all (fx r w M N l (knO os))=false->L'.all (fx r w M N l (knO os))=false->ms.Perm ((List.range (N+M)).filter (mayB cs as))->ms.Pairwise (klt (ckO cs))->fj r w M N l cs as (knO os) ms L L'=none->WrS os as os as false
 | step {os as ms way os' as' b:_}:L.all (fx r w M N l (knO os))=false->L'.all (fx r w M N l (knO os))=false->ms.Perm ((List.range (N+M)).filter (mayB cs as))->ms.Pairwise (klt (ckO cs))->fj r w M N l cs as (knO os) ms L L'=some way->WrS (bx cs srow way os as).1 (bx cs srow way os as).2 os' as' b->WrS os as os' as' b
end
variable {L':List Nat}
theorem jT (h1:L.all (fx r w M N l (knO os))=false) (h2:L'.all (fx r w M N l (knO os))=false) (pm:ms.Perm ((List.range (N+M)).filter (mayB cs as))) (hL:∀ k∈L,k < N+M) (hL':∀ k∈L',k < N+M) (h:fj r w M N l cs as (knO os) ms L L'=some way):(∀ k∈way,k < N+M/\mayB cs as k=true)/\∃ k rest,way=k :: rest:=by
 have kw:knW (knO os) []=knO os:=rfl
 have g:∀ {L:List Nat}{p:Int × List Nat},L.all (fx r w M N l (knO os))=false->(∀ k∈L,k < N+M)->p∈bz r w M N l cs as (knO os) L->(∀ k∈p.2,k < N+M/\mayB cs as k=true)/\∃ k rest,p.2=k :: rest:=fun {L p} h1 hL h=>by
  unfold bz at h
  split at h
  ·next hz =>
   rw [aa6.mp h];refine ⟨fun k hk=>⟨hL k (aa7.mp hk).1,ab4.mp hz k hk⟩,?_⟩
   cases e:unfL r w M N l (knO os) L with
   | cons k rest=>exact ⟨k,rest,rfl⟩
   | nil =>
    have:L.all (fx r w M N l (knO os))=true:=ab4.mpr fun k hk=>by
     cases hf:fx r w M N l (knO os) k with
     | true=>rfl
     | false =>
      have:k∈unfL r w M N l (knO os) L:=aa7.mpr ⟨hk,by rw [hf];rfl⟩
      rw [e] at this
      cases this
    rw [h1] at this
    cases this
  ·cases h
 have B:∀ {L d:List Nat},L.all (fx r w M N l (knO os))=false->detO r w M N l (knO os) ms L=some d->(∀ k∈d,k < N+M/\mayB cs as k=true)/\∃ k rest,d=k :: rest:=fun {L d} h1 h=>by
  unfold detO at h
  cases hf:(List.range (ms.length+1)).find? fun j=>L.all (fx r w M N l (knW (knO os) (ms.take j))) with
  | none=>rw [hf] at h;cases h
  | some j =>
   rw [hf] at h
   have hd:ms.take j=d:=zX h;subst hd;refine ⟨fun k hk=>?_,?_⟩
   ·have:=aa7.mp (pm.mem_iff.mp (ak1 hk))
    exact ⟨aa1.mp this.1,this.2⟩
   ·cases e:ms.take j with
    | cons k rest=>exact ⟨k,rest,rfl⟩
    | nil =>
     have:=List.find?_some hf;rw [e,kw,h1] at this
     cases this
 unfold fj at h
 cases hp:pick (fun p=>p.1) (fi r w M N l cs as (knO os) ms L L') with
 | none=>rw [hp] at h;cases h
 | some p =>
  rw [hp] at h
  have hd:p.2=way:=zX h;subst hd
  have hm:=o7 hp;unfold fi at hm;rcases ab5.mp hm with hm | hm
  ·rcases ab5.mp hm with hm | hm
   ·exact g h1 hL hm
   ·exact g h2 hL' hm
  ·obtain ⟨d,hd,rfl⟩:=ae2.mp hm
   have s:=o7 (am4.mp hd);unfold cL at s;rcases ab5.mp s with y | y
   ·exact B h1 (am4.mp y)
   ·exact B h2 (am4.mp y)
def knL (os:List (Option Nat)) (L:List Nat):List Bool:=(List.range os.length).map fun k=>(os.getD k none).isSome || L.contains k
variable {ts:List Nat}
theorem restL_mem {k:Nat}:k∈bh N l ts nk ↔ k < N/\k∉nk/\∃ t∈ts,tch l t k=true:=by
 unfold bh;rw [aa7,aa1,ac8,am3,ak7];refine ⟨fun ⟨a,b,c⟩=>⟨a,fun z=>?_,c⟩,fun ⟨a,b,c⟩=>⟨a,?_,c⟩⟩
 ·rw [ab8.mpr z] at b
  cases b
 ·cases z:nk.contains k with
  | false=>rfl
  | true=>exact absurd (ab8.mp z) b
theorem rn (ht:∀ t∈ts,t < M):∀ k∈chgL N l ts (srtN N nk),k < N+M:=fun k hk=>by
 unfold chgL at hk;rcases ab5.mp hk with h | h
 ·have:=aa1.mp (aa7.mp (aa7.mp h).1).1
  omega
 ·obtain ⟨t,h1,rfl⟩:=ae2.mp h
  have:=ht t h1;omega
theorem AskM.has {R:AskR} (J:AskM a H0 H R n os as) (hD:H D=some o):Same H0 (upd H0 D o):=fun b u e=>by
 by_cases z:b=D
 ·subst z
  rw [ab,← hD];exact J.sm b u e
 ·rw [ae z];exact e
theorem AskI.extH {R:AskR}{n':Nat} (I:AskI a H0 R r w n M N l cs srow) (J:AskM a H0 H R n' os as) (hD:H D=some o) (h1:R.rl≠D) (h2:R.sl≠D) (h3:R.z≠D) (h4:a.t38≠D):AskI a (upd H0 D o) R r w n M N l cs srow:=by
 have s:=J.has hD;obtain ⟨dx,hA⟩:=I.obj;exact ⟨I.code.same s,I.full,I.n16,I.W,⟨dx,s _ _ hA⟩,s _ _ I.cost,I.csl,I.asker.same s,s _ _ I.row,I.srl,by rw [ae h1];exact I.nrl,by rw [ae h2];exact I.nsl,by rw [ae h3];exact I.nz,by rw [ae h4];exact I.nt,I.d1,I.d2,I.d3⟩
theorem wq {R:AskR}{n':Nat}{p:Pos} (I:AskI a H0 R r w n M N l cs srow) (J:AskM a H0 H R n' os as) (h:TabS H t p q) (ne:a.t38≠t):∃ H1,Same H0 H1/\AskI a H1 R r w n M N l cs srow/\AskM a H1 H R n' os as/\TabS H1 t p q:=by
 obtain ⟨ps,h1,h2⟩:=h
 have I1:=I.extH J h1 (aN J.hr h1 (fun y=>by cases y)) (aN J.hs h1 (fun y=>by cases y)) (aN J.hz h1 (fun y=>by cases y)) ne
 have J1:=J.ext h1
 have s1:=J.has h1;rcases h2 with h2 | ⟨c',e,h2⟩
 ·exact ⟨_,s1,I1,J1,ps,ab,.inl h2⟩
 ·obtain ⟨po,g,_⟩:=id J.tab
  have nt:t≠c':=aN h1 h2 (fun y=>by cases y)
  refine ⟨_,s1.trans (J1.has h2),I1.extH J1 h2 (aN J.hr h2 (fun y=>by cases y)) (aN J.hs h2 (fun y=>by cases y)) (aN J.hz h2 (fun y=>by cases y)) (aN g h2 (fun y=>by cases y)),J1.ext h2,ps,?_,.inr ⟨c',e,ab⟩⟩
  rw [ae nt];exact ab
inductive uY (a:Adr) (vs:List V) (H:Hp) (Q:VK) (E_3:XK):Prop
 | mk:∀ (H0:Hp) (R:AskR) (nd:Addr) (r w n M N:Nat) (l:Nat->Nat->Nat) (cs srow os:List (Option Nat)) (as X nk:List Nat) (nb:Nat->Nat),vs=[.ref R.A,.ref nd]->AskI a H0 R r w n M N l cs srow->AskM a H0 H R (N+M) os as->TabS H a.t47 posW qW->H0 a.t47=none->H0 nd=some (.dK (aG nk nb))->nk.Nodup->((∀ k∈nk,k < N))->((∀ k,(cs.getD k none).getD 0<=1000000))->MkX r w n M N l os X->bH (N+M) srow X->(∀ H' os' as' b,WrS r w M N l cs srow (bh N l (totL M N l cs (srtN N nk)) nk) (chgL N l (totL M N l cs (srtN N nk)) (srtN N nk)) os as os' as' b->bH (N+M) os' X->AskM a H0 H' R (N+M) os' as'->TabS H' a.t47 posW qW->(b=true->(srtN N nk).all (fx r w M N l (knL os' (bD N cs (totL M N l cs (srtN N nk)) nk)))=true->∀ D,H0 D=none->H' D=some (.dK (aG (bD N cs (totL M N l cs (srtN N nk)) nk) (laidV r w n N l nk nb X)))->Q (.ref D) H')/\((b && (srtN N nk).all (fx r w M N l (knL os' (bD N cs (totL M N l cs (srtN N nk)) nk))))=false->Q .non H'))->uY a vs H Q E_3
theorem ic (T:Txt K mg a) (B:Tb base mg a):FnO P wo K mg base 13 a.f51 ["asking", "news"] (uY a):=by
 refine T.x51.F.okA (k:=12) sc_new_blocks (fun dd A outer s H vs Q E hr h=>?_)
 ·obtain ⟨H0,R,nd,r,w,n,M,N,l,cs,srow,os,as,X,nk,nb,rfl,I,J,TW,c8,ad,ak,O,c6,mx,c1,q⟩:=h
  obtain ⟨dx,hA⟩:=I.obj
  have n8:=I.W.n8
  exists xx
  exists xc (al (i:=2) sc_new_blocks.nd rfl (Or.inl rfl) (az (pv 0) rfl))
  exists xc (al (i:=3) sc_new_blocks.nd rfl (Or.inl rfl) (ay (jQ T) hr.u rfl T.x44.m T.x44.k T.x44.b .nil ao (aa (pv 0) (aa (pv 1) ac))))
  exists xc (al (i:=4) sc_new_blocks.nd rfl (Or.inl rfl) (ay (sg T) hr.u rfl T.x45.m T.x45.k T.x45.b .nil ao (aa (pv 2) (aa (pv 3) (aa (pv 1) ac)))))
  exists xc (al (i:=5) sc_new_blocks.nd rfl (Or.inl rfl) (ay (o6 T) hr.u rfl T.x46.m T.x46.k T.x46.b .nil ao (aa (pv 2) (aa (pv 3) (aa (pv 1) ac)))))
  refine xq ?_;refine xw PassesOwn.never (PW.pt (jV (bQ (bd (aE (pv 0) T.cl_Asking T.x36.me (cK T) hr.u T.x36.b .nil ao (aa (pv 4) ac)))) (iR (bQ (bd (aE (pv 0) T.cl_Asking T.x36.me (cK T) hr.u T.x36.b .nil ao (aa (pv 5) ac))))))) ?_
  exists xc (al (i:=6) sc_new_blocks.nd rfl (Or.inl rfl) (ay (pG T B) hr.u rfl T.x47.m T.x47.k T.x47.b .nil ao (aa (pv 0) (aa (pv 4) (aa (pv 5) ac)))))
  refine xq ?_;refine xi (au ig (pv 6) aR (ax _)) ?_
  exists xl (av aR)
  refine ⟨_,aF,?_⟩;intro u_
  exists xl (aS (aE (pv 0) T.cl_Asking T.x34.me (dL T) hr.u T.x34.b .nil ao (aa (pv 6) ac)))
  intro u_
  exists xc (al (i:=7) sc_new_blocks.nd rfl (Or.inr rfl) (ay (uX T) hr.u rfl T.x50.m T.x50.k T.x50.b .nil ao (aa (pv 0) (aa (pv 1) (aa (pv 3) (aa (aE (pv 0) T.cl_Asking T.x36.me (cK T) hr.u T.x36.b .nil ao (aa (pv 4) ac)) ac))))))
  exists xc (b9 (i:=8) sc_new_blocks.nd rfl (Or.inl rfl) (CompOk.of (cap:=[7]) (own:=["role", "is_known"]) (by kernel_rfl)) rfl (iW rfl T.n_enumerate (aa (cN (pv 0) T.cl_Asking T.x35.me (cJ T) hr.u T.x35.b .nil ao) ac)) (fun _ _ _ _ _=>(k9 (n:=2) (K:=K) rfl rfl (aU (ar (i:=1) (zN (by kernel_rfl)) rfl (Or.inl rfl)) (aU (ar (i:=2) (zN (by kernel_rfl)) rfl (Or.inl rfl)) cB)))) (fun _ _ _ _ _=>aV) (fun _ _ _ _ _=>by exact (wC (pv 2) (ie (yB (nY (cI hr) (pv 1) (pv 0)))))))
  refine xq ?_;refine xi (bQ (bd (ay (fI T) hr.u rfl T.x30.m T.x30.k T.x30.b .nil ao (aa (pv 2) (aa (pv 8) (aa (aA (cQ rfl) rfl T.n_sorted ah3 (aa (pv 1) ac)) ac)))))) ?_
  exists xl (av aR)
  refine ⟨_,aF,?_⟩;intro u_
  exists xl (av (pv 7))
  refine ⟨_,rfl,R.A,_,_,_,_,rfl,J.sm _ _ hA,T.cl_Asking,T.no_Asking_code,cF _ _ _ _ _,?_⟩;refine ⟨_,rfl,_,rfl,H0,R,nd,r,w,n,M,N,l,cs,srow,os,as,nk,nb,rfl,I,J,J.sm _ _ ad,ak,O,fun TL H1 s1 c4 S=>?_⟩
  have Z:∀ t∈totL M N l cs (srtN N nk),t < M:=fun t h=>ye h
  have ck:(totL M N l cs (srtN N nk)).length<=8:=zR wk (by omega)
  have cr:(totL M N l cs (srtN N nk)).Nodup:=af2 _ (af2 _ ai0);generalize df:totL M N l cs (srtN N nk)=ts at *
  have J1:=J.same s1;refine ⟨_,rfl,_,rfl,_,rfl,R.c,R.bp,R.fp,TL,nd,r,w,n,M,N,l,ts,nk,nb,rfl,I.code.same J1.sm,by omega,SqL.of S,ck,Z,J1.sm _ _ ad,fun RS H2 s2 cw b3=>?_⟩
  have J2:=J1.same s2
  have cc:=s1.trans s2;refine ⟨_,rfl,_,rfl,_,rfl,R.c,R.bp,R.fp,TL,nd,r,w,n,M,N,l,ts,nk,nb,rfl,I.code.same J2.sm,by omega,s2 _ _ S,ck,Z,J2.sm _ _ ad,ak,O,fun CH H3 s3 a5 c3=>?_⟩
  have J3:=J2.same s3
  have c7:=cc.trans s3
  have t3:=TW.keep c7
  have aw:∀ {D:Addr},H D=none->H0 D=none/\(R.rl≠D/\R.sl≠D/\R.z≠D/\a.t38≠D)/\a.t47≠D:=fun {D} e=>by
   obtain ⟨pt,cy,_⟩:=id TW;exact ⟨J.sm.free e,J.away e,am cy e⟩
  obtain ⟨z1,⟨z2,z3,z4,z5⟩,z6⟩:=aw c4;obtain ⟨y1,⟨y2,y3,y4,y5⟩,y6⟩:=aw (s1.free cw);obtain ⟨x1,⟨x2,x3,x4,x5⟩,x6⟩:=aw (cc.free a5)
  have d1:RS≠TL:=(am S cw).symm
  have d2:CH≠TL:=(am (s2 _ _ S) a5).symm
  have d3:CH≠RS:=(am b3 a5).symm
  have e1:(upd H0 TL (.lst (rowV ts))) RS=none:=by rw [ae d1];exact y1
  have e2:(upd (upd H0 TL (.lst (rowV ts))) RS (.lst (rowV (bh N l ts nk)))) CH=none:=by rw [ae d3,ae d2];exact x1
  have I3:=((I.ext (o:=.lst (rowV ts)) z1 z2 z3 z4 z5).ext (o:=.lst (rowV (bh N l ts nk))) e1 y2 y3 y4 y5).ext (o:=.lst (rowV (chgL N l ts (srtN N nk)))) e2 x2 x3 x4 x5
  have K3:=((J3.ext ((s2.trans s3) _ _ S)).ext (s3 _ _ b3)).ext c3
  have sb:Same H0 (upd (upd (upd H0 TL (.lst (rowV ts))) RS (.lst (rowV (bh N l ts nk)))) CH (.lst (rowV (chgL N l ts (srtN N nk))))):=(Same.new z1).trans ((Same.new e1).trans (Same.new e2))
  have b5:(upd (upd (upd H0 TL (.lst (rowV ts))) RS (.lst (rowV (bh N l ts nk)))) CH (.lst (rowV (chgL N l ts (srtN N nk))))) a.t47=none:=by rw [ae x6,ae y6,ae z6];exact c8
  have b2:(upd (upd (upd H0 TL (.lst (rowV ts))) RS (.lst (rowV (bh N l ts nk)))) CH (.lst (rowV (chgL N l ts (srtN N nk))))) TL=some (.lst (rowV ts)):=by rw [ae (ad3 d2),ae (ad3 d1)];exact ab
  have a0:(upd (upd (upd H0 TL (.lst (rowV ts))) RS (.lst (rowV (bh N l ts nk)))) CH (.lst (rowV (chgL N l ts (srtN N nk))))) RS=some (.lst (rowV (bh N l ts nk))):=by rw [ae (ad3 d3)];exact ab
  have bm:(upd (upd (upd H0 TL (.lst (rowV ts))) RS (.lst (rowV (bh N l ts nk)))) CH (.lst (rowV (chgL N l ts (srtN N nk))))) CH=some (.lst (rowV (chgL N l ts (srtN N nk)))):=ab;generalize (upd (upd (upd H0 TL (.lst (rowV ts))) RS (.lst (rowV (bh N l ts nk)))) CH (.lst (rowV (chgL N l ts (srtN N nk)))))=Hb at I3 K3 sb b5 b2 a0 bm
  have c0:(bh N l ts nk).length<=8:=zR (ac0 _ _) (by rw [zS];omega)
  have aT:∀ k∈bh N l ts nk,k < N+M:=fun k h=>by have:=(restL_mem.mp h).1;omega
  have c2:(chgL N l ts (srtN N nk)).length<=8:=by
   unfold chgL;rw [ab6,zM]
   have h1:=ac0 (fun k=>ts.any fun t=>tch l t k) (srtN N nk)
   have h2:=cz (N:=N) (nk:=nk)
   have h3:=bF M ts cr Z;omega
  have b0:=rn (N:=N) (l:=l) (nk:=nk) Z;try dsimp only [L2.start,List.set,List.map,List.append,List.replicate,HAppend.hAppend,Append.append,List.length,Nat.reduceAdd,Nat.reduceSub]
  refine ⟨fun m σ H'=>∃ (g:List (Option Nat)) (C:List Nat) (v6:Option V),m=(N+M) - C.length/\σ=[some (.ref R.A),some (.ref nd),some (.ref R.c),some (.ref TL),some (.ref RS),some (.ref CH),v6,none,none]/\AskM a Hb H' R (N+M) g C/\TabS H' a.t47 posW qW/\bH (N+M) g X/\∀ a7 a9 b,WrS r w M N l cs srow (bh N l ts nk) (chgL N l ts (srtN N nk)) g C a7 a9 b->WrS r w M N l cs srow (bh N l ts nk) (chgL N l ts (srtN N nk)) os as a7 a9 b,
   ⟨_,os,as,none,rfl,rfl,K3,t3,mx.ag,fun _ _ _ h=>h⟩,?_⟩
  rintro m σ H' ⟨g,C,v6,rfl,rfl,J4,t4,an,a6⟩;obtain ⟨U,Y⟩:=I3.obj;refine ⟨_,rfl,R.A,U,_,rfl,J4.sm _ _ Y,rfl,_,rfl,Hb,R,RS,r,w,n,M,N,l,cs,srow,g,C,bh N l ts nk,rfl,I3,J4,SqL.of (J4.sm _ _ a0),aT,fun H5 s5=>?_⟩
  have J5:=J4.same s5
  have t5:=t4.keep s5
  refine kP (fun H6=>Same H' H6/\((bh N l ts nk).all (fx r w M N l (knO g)) || (chgL N l ts (srtN N nk)).all (fx r w M N l (knO g)))=true) (fun ce=>by
   cases hz:(bh N l ts nk).all (fx r w M N l (knO g)) with
   | true =>
    refine ⟨_,rfl,ite2 (fun y=>absurd y (by decide)) (fun _=>?_)⟩
    refine ite2 (fun y=>absurd y (by decide)) (fun _=>?_)
    exact ce H5 ⟨s5,by rw [hz];rfl⟩
   | false =>
    refine ⟨_,rfl,ite2 (fun _=>?_) (fun y=>absurd rfl y)⟩;refine ⟨_,rfl,R.A,U,_,rfl,J5.sm _ _ Y,rfl,_,rfl,Hb,R,CH,r,w,n,M,N,l,cs,srow,g,C,chgL N l ts (srtN N nk),rfl,I3,J5,SqL.of (J5.sm _ _ bm),b0,fun H6 s6=>?_⟩
    have J6:=J5.same s6
    have t6:=t5.keep s6
    cases hy:(chgL N l ts (srtN N nk)).all (fx r w M N l (knO g)) with
    | true =>
     refine ⟨_,rfl,ite2 (fun y=>absurd y (by decide)) (fun _=>?_)⟩
     exact ce H6 ⟨s5.trans s6,by rw [hz,hy];rfl⟩
    | false =>
     refine ⟨_,rfl,ite2 (fun _=>⟨_,fun _ _ z=>z,?_⟩) (fun y=>absurd rfl y)⟩;refine ⟨_,rfl,_,rfl,_,rfl,Hb,R,RS,CH,r,w,n,M,N,l,cs,srow,g,C,bh N l ts nk,chgL N l ts (srtN N nk),rfl,I3,J6,t6,b5,a0,bm,c0,aT,c2,b0,c6,fun H7 ms J7 t7 pm pw=>⟨fun D way hn nD hD=>?_,fun hn=>?_⟩⟩
     ·obtain ⟨L,k0,b1,e0⟩:=jT hz hy pm aT b0 hn
      refine ⟨_,rfl,rfl,_,rfl,?_⟩;refine ite2 (fun y=>absurd (zN y) (fun z=>by cases z)) (fun _=>?_)
      have ch:Hb D=none:=J6.sm.free nD;obtain ⟨a1,a2,a3,a4⟩:=J6.away nD;refine ⟨_,rfl,R.A,U,_,rfl,J7.sm _ _ Y,rfl,_,rfl,?_⟩;obtain ⟨Hc,sc,Ic,Jc,Tc⟩:=wq (I3.ext ch a1 a2 a3 a4) (J7.ext hD) t7 B.d_Asking_order_next_way;refine ⟨Hc,R,D,r,w,n,M,N,l,cs,srow,g,C,way,rfl,Ic,Jc,SqL.of (sc _ _ ab),fun x hx=>(L x hx).1,fun H8 J8=>?_⟩
      have J9:=J8.rebs ((Same.new ch).trans sc);refine ⟨(N+M) - (bx cs srow way g C).2.length,?_,_,_,_,rfl,rfl,J9,Tc.keep J8.sm,gg c1 _ _ _ J4.osl (fun x hx=>(L x hx).1) an,fun a7 a9 b h=>a6 _ _ _ (.step hz hy pm pw hn h)⟩
      have h1:=kO (srow:=srow) (ks:=b1) (os:=g) (L k0 (by rw [e0];exact .head _)).2
      have h2:=J9.asl;rw [e0] at h2 ⊢;omega
     ·refine ⟨_,rfl,rfl,_,rfl,?_⟩
      refine ite2 (fun _=>?_) (fun y=>absurd rfl y)
      exact (q H7 g C false (a6 _ _ _ (.none hz hy pm pw hn)) an (J7.rebs sb) t7).2 rfl) ?_
  rintro H6 ⟨s6,G⟩
  have J6:=J4.same s6
  have t6:=t4.keep s6;refine ⟨_,rfl,_,rfl,_,rfl,_,rfl,R.A,U,_,rfl,J6.sm _ _ Y,rfl,_,rfl,Hb,R,RS,r,w,n,M,N,l,cs,srow,g,C,bh N l ts nk,rfl,I3,J6,SqL.of (J6.sm _ _ a0),aT,fun H7 s7=>?_⟩
  have J7:=J6.same s7;refine ⟨Hb,R,nd,TL,(bh N l ts nk).all (fx r w M N l (knO g)),r,w,n,M,N,l,cs,srow,g,C,X,nk,ts,nb,rfl,I3,J7,(sb.trans J7.sm) _ _ ad,ak,O,J7.sm _ _ b2,cr,Z,⟨mx.len,mx.lt,mx.ism,an⟩,fun hb t ht k hk a8 c5=>?_,fun hb t ht=>⟨fun k hk a8=>?_,?_⟩,fun D H8 s8 nD hD=>?_⟩
  ·exact ab4.mp hb k (restL_mem.mpr ⟨hk,c5,t,ht,a8⟩)
  ·rw [hb,al9] at G
   refine ab4.mp G k (ab5.mpr (.inl (aa7.mpr ⟨(bu O).mpr hk,ak7.mpr ⟨t,ht,a8⟩⟩)))
  ·rw [hb,al9] at G
   exact ab4.mp G _ (ab5.mpr (.inr (ae2.mpr ⟨t,ht,rfl⟩)))
  have J8:=J7.same s8;try dsimp only [L2.start,List.set,List.map,List.append,List.replicate,HAppend.hAppend,Append.append,List.length,Nat.reduceAdd,Nat.reduceSub]
  refine ⟨_,rfl,R.A,U,_,rfl,J8.sm _ _ Y,rfl,Hb,R,r,w,n,M,N,l,cs,srow,g,C,rfl,I3,J8,fun KL H9 s9 dc cp=>?_⟩
  have b4:=s9 _ _ hD
  have J9:=J8.same s9;refine ⟨KL,_,rfl,SqL.of cp,fun KN c9=>?_⟩
  have o8:g.length<=8:=by rw [J4.osl];exact n8
  have kl:(knV (knO g)).length=g.length:=by unfold knV;rw [zM,bg]
  refine rQ (xs:=knV (knO g)) (f:=fun i=>.bl ((g.getD i none).isSome || (bD N cs ts nk).contains i)) (cs:=[some (.ref D)]) (SqL.of cp) c9 rfl (by rw [kl];exact zR o8 (by decide)) (fun i u H2 R2 hu s2 hR=>?_) (fun HA sA cv=>?_)
  ·have hi:i < g.length:=by rw [<- kl];exact (zV.mp hu).1
   have eu:u=.bl (g.getD i none).isSome:=by
    rw [<- uJ,zO,ab0 hi] at hu;exact (zX hu).symm
   subst eu
   have dg:=DGet.k (k:=Sum.inl ((i:Nat):Int)) (s2 _ _ b4);rw [bT] at dg
   cases ho:(g.getD i none).isSome with
   | true =>
    rw [ho,Bool.true_or] at hR;refine ⟨_,rfl,_,rfl,ite2 (fun _=>hR _ (Same.refl _)) (fun y=>absurd rfl y)⟩
   | false =>
    rw [ho,al9] at hR;refine ⟨_,rfl,_,rfl,ite2 (fun y=>absurd y (by decide)) (fun _=>?_)⟩
    refine ⟨_,rfl,_,rfl,D,_,rfl,dg,?_⟩
    have ec:(if i∈bD N cs ts nk then some (V.int ((laidV r w n N l nk nb X i:Nat):Int)) else none).isSome=(bD N cs ts nk).contains i:=by
     by_cases z:i∈bD N cs ts nk
     ·rw [if_pos z,ab8.mpr z];rfl
     ·rw [if_neg z]
      cases e:(bD N cs ts nk).contains i with
      | false=>rfl
      | true=>exact absurd (ab8.mp e) z
    rw [ec];exact hR _ (Same.refl _)
  have ek:(List.range (knV (knO g)).length).map (fun i=>V.bl ((g.getD i none).isSome || (bD N cs ts nk).contains i))=knV (knL g (bD N cs ts nk)):=by
   unfold knL;rw [kl];unfold knV;rw [ac4];rfl
  rw [ek] at cv
  have JA:=J9.same sA
  have nl:nk.length<=8:=zR (bF N nk ak O) (by omega)
  refine ⟨_,rfl,_,rfl,_,rfl,nd,_,nk.map fun k=>((k:Nat):Int),rfl,(sb.trans JA.sm) _ _ ad,bN nk nb,by rw [zM];omega,fun sl ns nsl pm pw=>?_⟩
  rw [cU ak O pm pw]
  have sS:=Same.new (o:=.lst (rowV (srtN N nk))) nsl
  have b6:=ab (H:=HA) (a:=sl) (o:=.lst (rowV (srtN N nk)));generalize (upd HA sl (.lst (rowV (srtN N nk))))=HB at sS b6
  have JB:=JA.same sS;refine ⟨R.c,R.bp,R.fp,KN,sl,r,w,n,M,N,l,knL g (bD N cs ts nk),srtN N nk,rfl,I.code.same (sb.trans JB.sm),I.full,I.W,sS _ _ cv,by unfold knL;rw [zM,zS,J4.osl],SqL.of b6,fun k hk=>?_,fun HC sC=>?_⟩
  ·have:=O k ((bu O).mp hk)
   omega
  have JC:=JB.same sC
  have db:=s7.trans (s8.trans (s9.trans (sA.trans (sS.trans sC))));obtain ⟨qa,qb⟩:=q HC g C true (a6 _ _ _ (.done G)) an (JC.rebs sb) (t6.keep db)
  cases hz:(srtN N nk).all (fx r w M N l (knL g (bD N cs ts nk))) with
  | true =>
   refine ⟨_,rfl,ite2 (fun y=>absurd y (by decide)) (fun _=>?_)⟩
   exact ⟨_,rfl,qa rfl hz D (sb.free (J7.sm.free nD)) ((sA.trans (sS.trans sC)) _ _ b4)⟩
  | false =>
   refine ⟨_,rfl,ite2 (fun _=>?_) (fun y=>absurd rfl y)⟩;exact qb (by rw [hz];rfl)
inductive uZ (K:PySem.W.Frag) (vs:List V) (H:Hp) (Q:VK) (E_3:XK):Prop
 | mk:∀ (s:Addr) (ns:List Int) (R M:Nat),vs=[.ref s,.int R,.int M]->SqL K H s (ns.map V.int)->ns.length<=63->2<=R->R<=8->M<=2->(∀ D H' (gs:List Nat),Same H H'->H D=none->H' D=some (.lst (rowV gs))->gs.length<=M->(∀ g∈gs,g < R)->Q (.ref D) H')->uZ K vs H Q E_3
theorem yj (T:Txt K mg a):FnO P wo K mg base 2 a.f66 ["_law_script", "_law_roles", "_law_sums"] (uZ K):=by
 refine T.x66.F.okA (k:=1) sc_gaps (fun G A outer s H vs Q E hr h=>?_)
 ·obtain ⟨sa,ns,R,M,rfl,hS,hn,I,D,J,q⟩:=h
  exists xx
  exists xc (al (i:=3) sc_gaps.nd rfl (Or.inl rfl) (aq aX (ay (ca T) hr.u rfl T.x53.m T.x53.k T.x53.b .nil ao (aa (pv 0) (aa ai ac))) (pv 1)))
  exists xc (al (i:=4) sc_gaps.nd rfl (Or.inl rfl) (aq aX (aq aO (aq aO (pv 3) ai) (aq aX (ay (ca T) hr.u rfl T.x53.m T.x53.k T.x53.b .nil ao (aa (pv 0) (aa ai ac))) (aq eC (pv 1) ai))) (pv 1)))
  exists xl (av (jv kY (bq (aa (pv 3) (aa (pv 4) ac))) kW (kX (aq aX (ay (ca T) hr.u rfl T.x53.m T.x53.k T.x53.b .nil ao (aa (pv 0) (aa ai ac))) (aq aO (pv 2) ai)))))
  have r:(0:Int) < (R:Int):=by omega
  refine ⟨_,rfl,sa,ns,4,rfl,hS,by decide,hn,fun c4=>?_⟩
  obtain ⟨g1,C,e1⟩:=modN c4 (n:=R) (by omega)
  refine ⟨_,rfl,_,_,rfl,rfl,p0 r,?_⟩;try dsimp only
  rw [e1];refine ⟨_,rfl,_,_,rfl,rfl,_,rfl,sa,ns,5,rfl,hS,by decide,hn,fun c5=>?_⟩
  refine ⟨_,rfl,_,_,rfl,rfl,_,_,rfl,rfl,p0 (by omega),_,_,rfl,rfl,_,rfl,_,_,rfl,rfl,p0 r,?_⟩
  try dsimp only
  obtain ⟨g2,B,e2⟩:=modN ((g1:Int)+1+c5 % ((R:Int) - 1)) (n:=R) (by omega)
  rw [e2];refine ⟨_,rfl,_,rfl,(by show 2<=sizeLine;decide),fun p1 n1=>?_⟩
  have l:(upd H p1 (.lst [V.int (g1:Nat),V.int (g2:Nat)])) p1=some (.lst (rowV [g1,g2])):=ab
  have s1:=Same.new (o:=.lst [V.int (g1:Nat),V.int (g2:Nat)]) n1;generalize (upd H p1 (.lst [V.int (g1:Nat),V.int (g2:Nat)]))=H1 at l s1;refine ⟨_,rfl,sa,ns,6,rfl,s1.seq hS,by decide,hn,fun c6=>?_⟩
  obtain ⟨m,hm,em⟩:=modN c6 (n:=M+1) (by omega)
  have em:c6 % ((M:Int)+1)=(m:Int):=em;refine ⟨_,rfl,_,_,rfl,rfl,_,_,rfl,rfl,p0 (by omega),?_⟩
  try dsimp only
  rw [em];refine ⟨_,rfl,p1,_,rfl,SqL.of l,fun p np=>?_⟩;rw [vS (row:=[g1,g2]) (by show m<=2;omega)]
  refine q p _ ([g1,g2].take m) (s1.trans (Same.new np)) (s1.free np) ab ?_ fun g hg=>?_
  ·rw [ag0]
   omega
  ·have:=ak1 hg
   rcases aa5.mp this with y | y
   ·rw [y];exact C
   ·rw [aa6.mp y];exact B
theorem ym {k:Nat}:cutV xs none (some (k:Int))=xs.take k:=by
 unfold cutV;rw [HT.sIx_none,HT.sIx_nat,List.drop_zero,Nat.sub_zero];rw [List.take_eq_take_iff];omega
def noN (cs:List (Option Nat)) (R:Nat):Nat:=(List.range R).countP fun j=>(cs.getD j none).isNone
inductive rp (vs:List V) (H:Hp) (Q:VK) (E_3:XK):Prop
 | mk:∀ (N M:Nat),vs=[.int N,.int M]->1<=M->M<=2->N<=8->(∀ D H' ps,Same H H'->H' D=some (.lst (List.map V.ref ps))->TabAt H' ps M (rowT N plainL)->Q (.ref D) H')->rp vs H Q E_3
theorem wr (T:Txt K mg a):FnO P wo K mg base 1 a.f60 ["_law_data", "_law_sums"] rp:=by
 refine T.x60.F.okA (k:=0) sc_plain (fun L A outer s H vs Q E hr h=>?_)
 ·obtain ⟨N,M,rfl,m1,m2,n8,q⟩:=h
  exists xx
  exists xc (al (i:=2) sc_plain.nd rfl (Or.inl rfl) (bq (aa (aq ip (bq (aa ai ac)) (pv 0)) (aa (bb (CompOk.of (cap:=[]) (own:=["_law_role"]) (by kernel_rfl)) rfl (aW rfl T.n_range (aa (pv 0) ac)) (fun _ _ _ _ _=>(ar (i:=0) (zN (by kernel_rfl)) rfl (Or.inl rfl))) (fun _ _ _ _ _=>aV) (fun _ _ _ _ _=>by exact (aq aO (pv 0) ai))) ac))))
  exists xl (av (jv kY (pv 2) kW (kX (pv 1))))
  refine ⟨(show 1<=sizeLine by decide),fun p1 n1=>⟨_,rfl,p1,_,_,rfl,rfl,ab,by omega,by omega,?_,fun p2 n2=>?_⟩⟩
  ·rw [ac2]
   show 1 * N<=sizeLine
   exact zR (by omega:1 * N<=30) (by decide)
  have e0:rowT N plainL 0=List.replicate N 1:=by
   unfold rowT
   show ((List.range N).map fun _=>1)=_
   rw [List.map_const',zS]
  have eR:(List.replicate ((N:Int)).toNat [V.int 1]).flatten=rowV (rowT N plainL 0):=by
   rw [ac2,e0];exact lq N 1
  rw [eR]
  have sP:=(Same.new (o:=.lst [V.int 1]) n1).trans (Same.new (o:=.lst (rowV (rowT N plainL 0))) n2)
  have g:(upd (upd H p1 (.lst [V.int 1])) p2 (.lst (rowV (rowT N plainL 0)))) p2=some (.lst (rowV (rowT N plainL 0))):=ab;generalize (upd (upd H p1 (.lst [V.int 1])) p2 (.lst (rowV (rowT N plainL 0))))=Hp at sP g;refine ⟨_,rfl,_,rfl,by omega,by omega,fun cp I=>?_⟩
  rw [ac2];refine je (n:=N) (f:=fun i=>.int ((plainL 1 i:Nat):Int)) (cs:=[]) I rfl (zR n8 (by decide)) (fun i Hx Rx hi sx hR=>?_) (fun Hq sQ B=>?_)
  ·refine ⟨_,rfl,_,_,rfl,rfl,?_⟩
   have e:(i:Int)+1=((plainL 1 i:Nat):Int):=by
    unfold plainL;rw [if_neg (by decide)]
    omega
   try dsimp only
   rw [e];exact hR _ (Same.refl _)
  have G:((List.range N).map fun i=>V.int ((plainL 1 i:Nat):Int))=rowV (rowT N plainL 1):=by
   unfold rowV rowT;rw [ac4];rfl
  rw [G] at B;refine ⟨(show 2<=sizeLine by decide),fun LL J=>?_⟩
  have sL:=Same.new (o:=.lst [V.ref p2,V.ref cp]) J
  have l:(upd Hq LL (.lst [V.ref p2,V.ref cp])) LL=some (.lst (List.map V.ref [p2,cp])):=ab
  have r:=sP.trans (sQ.trans sL)
  have h2:=sL _ _ (sQ _ _ g)
  have h3:=sL _ _ B;generalize (upd Hq LL (.lst [V.ref p2,V.ref cp]))=Hl at r l h2 h3;refine ⟨_,rfl,_,rfl,_,rfl,LL,_,rfl,SqL.of l,fun sl nsl=>?_⟩;rw [ym,← List.map_take]
  have sS:=Same.new (o:=.lst (([p2,cp].take M).map V.ref)) nsl
  have C:(upd Hl sl (.lst (([p2,cp].take M).map V.ref))) sl=some (.lst (([p2,cp].take M).map V.ref)):=ab
  have D:TabAt (upd Hl sl (.lst (([p2,cp].take M).map V.ref))) ([p2,cp].take M) M (rowT N plainL):=⟨by rw [ag0];show min M 2=M;omega,fun i p e=>by
   rw [List.getElem?_take] at e
   split at e
   ·match i,e with
    | 0,e=>cases zX e;exact sS _ _ h2
    | 1,e=>cases zX e;exact sS _ _ h3
   ·cases e⟩
  exact q sl _ _ (r.trans sS) C D
theorem mF (t k:Nat):tch plainL t k=true:=by
 unfold tch plainL;refine zZ ?_
 split <;> omega
theorem mG (h:ts≠[]) (k:Nat):(ts.any fun t=>tch plainL t k)=true:=by
 cases ts with
 | nil=>exact absurd rfl h
 | cons t ts=>rw [al8,mF,Bool.true_or]
theorem yo (nlt:∀ k∈nk,k < N) (h:nk≠[]):srtN N nk≠[]:=fun e=>by
 cases nk with
 | nil=>exact h rfl
 | cons k nk =>
  have:=(bu nlt).mpr (.head nk);rw [e] at this
  cases this
def thrL (M N:Nat) (cs:List (Option Nat)):List Nat:=(List.range M).filter fun t=>(cs.getD (N+t) none).isSome
theorem mH (nlt:∀ k∈nk,k < N) (h:nk≠[]):totL M N plainL cs (srtN N nk)=thrL M N cs:=by
 unfold totL thrL;refine List.filter_eq_self.mpr fun t _=>?_;obtain ⟨k,hk⟩:=List.exists_mem_of_ne_nil _ (yo nlt h);exact ak7.mpr ⟨k,hk,mF t k⟩
theorem thr_mem {x:Nat}:x∈thrL M N cs ↔ x < M/\(cs.getD (N+x) none).isSome=true:=by
 unfold thrL;rw [aa7,aa1]
theorem si (h:ts≠[]):bh N plainL ts nk=(List.range N).filter fun k=>!nk.contains k:=by
 unfold bh;refine List.filter_congr fun k _=>?_;rw [mG h,ai5]
theorem u0 (h:ts≠[]):chgL N plainL ts rs=rs++ts.map fun t=>N+t:=by
 unfold chgL
 congr 1
 exact List.filter_eq_self.mpr fun k _=>mG h k
theorem gS {k:Nat} (g:GF.Good r w) (W:Wts w M N plainL) (hks:ks.length=N+M) (hk:k < N+M):fx r w M N plainL ks k=(ks.getD k false || decide (dJ ks<=M)):=by
 unfold fx
 cases z:ks.getD k false with
 | true=>rfl
 | false=>rw [al9,al9,mo g W.m1 W.m2 W.n8 hks hk z]
theorem dN (os:List (Option Nat)) (L:List Nat):(knL os L).length=os.length:=by unfold knL;rw [zM,zS]
theorem gT {k:Nat} (hk:k < os.length):(knL os L).getD k false=((knO os).getD k false || L.contains k):=by
 unfold knL knO;rw [zK,zO,ab0 hk,ae3,Option.getD_some,zK,zK,zO,zL hk];rfl
theorem kT (g:GF.Good r w) (W:Wts w M N plainL) (hos:os.length=N+M) (hno:noN cs (N+M)<=M) {rs:List Nat} (hrs:∀ k∈rs,k < N+M)
  (h:(∀ k∈rs,k∈L)\/∀ x,x < N+M->(knO os).getD x false=false->x∉L->(cs.getD x none).isNone=true):rs.all (fx r w M N plainL (knL os L))=true:=by
 refine ab4.mpr fun k hk=>?_
 have l:=hrs k hk;rw [gS g W (by rw [dN];exact hos) l]
 rcases h with h | h
 ·rw [gT (by omega),ab8.mpr (h k hk),am8,Bool.true_or]
 ·have:dJ (knL os L)<=M:=by
   rw [dj,dN,hos];refine zR (am0 fun x hx y=>?_) hno
   have hx:=aa1.mp hx;rw [gT (by omega)] at y
   rw [am3,Bool.or_eq_false_iff] at y;refine h x hx y.1 fun z=>?_;rw [ab8.mpr z] at y
   cases y.2
  rw [zZ this,am8]
theorem wt (hno:noN cs (N+M)<=M) (h:thrL M N cs=[]):∀ k,k < N->(cs.getD k none).isSome=true:=fun k hk=>by
 cases e:(cs.getD k none).isSome with
 | true=>rfl
 | false =>
  have h1:∀ t,t < M->(cs.getD (N+t) none).isNone=true:=fun t ht=>by
   cases z:cs.getD (N+t) none with
   | none=>rfl
   | some b =>
    have:t∈thrL M N cs:=thr_mem.mpr ⟨ht,by rw [z];rfl⟩
    rw [h] at this
    cases this
  have h2:M+1<=noN cs (N+M):=by
   unfold noN;rw [List.range_add,List.countP_append,List.countP_map]
   have a1:(List.range M).countP ((fun j=>(cs.getD j none).isNone) ∘ fun x=>N+x)=M:=by
    have:=List.countP_eq_length (l:=List.range M) (p:=(fun j=>(cs.getD j none).isNone) ∘ fun x=>N+x);rw [zS] at this;exact this.mpr fun t ht=>h1 t (aa1.mp ht)
   have a2:0 < (List.range N).countP fun j=>(cs.getD j none).isNone:=List.countP_pos_iff.mpr ⟨k,aa1.mpr hk,by
    cases z:cs.getD k none with
    | none=>rfl
    | some b=>rw [z] at e;cases e⟩
   grind
  grind
theorem gU {x:Nat} (nlt:∀ k∈nk,k < N):x∈bD N cs ts nk ↔ (x∈nk/\(cs.getD x none).isSome=true)\/∃ t∈ts,N+t=x:=by
 unfold bD;rw [ab5,aa7,ae2,bu nlt]
theorem wu (e:(L.all (fx r w M N l (knO os)) || L'.all (fx r w M N l (knO os)))=true) (h:WrS r w M N l cs srow L L' os as os' as' b):os'=os/\as'=as/\b=true:=by
 cases h with
 | done _=>exact ⟨rfl,rfl,rfl⟩
 | none e1 e2=>rw [e1,e2] at e;cases e
 | step e1 e2=>rw [e1,e2] at e;cases e
theorem u3 (g:GF.Good r w) (W:Wts w M N plainL) (hos:os.length=N+M) (hg:dJ (knO os)<=M) (hrs:∀ k∈rs,k < N+M):rs.all (fx r w M N plainL (knL os L))=true:=by
 refine ab4.mpr fun k hk=>?_;rw [gS g W (by rw [dN];exact hos) (hrs k hk)]
 have:dJ (knL os L)<=M:=by
  refine zR ?_ hg;rw [dj,dj,dN,bg];refine am0 fun x hx y=>?_
  have hx:=aa1.mp hx;rw [gT hx,am3,Bool.or_eq_false_iff] at y;rw [y.1];rfl
 rw [zZ this,am8]
inductive u4 (K:PySem.W.Frag) (vs:List V) (H:Hp) (Q:VK) (E_3:XK):Prop
 | mk:∀ (s:Addr) (ns:List Int) (c:Int) (st N L:Nat),vs=[.ref s,.int st,.int c,.int N,.int L]->SqL K H s (ns.map V.int)->ns.length<=63->st+N<=99->1<=N->N<=8->0 < L->L<=2 ^ 128->(∀ D H' nk nb,Same H H'->H D=none->H' D=some (.dK (aG nk nb))->nk=srtN N nk->nk≠[]->(∀ k∈nk,k < N/\nb k < L)->Q (.ref D) H')->u4 K vs H Q E_3
theorem yp (T:Txt K mg a):FnO P wo K mg base 4 a.f63 ["_law_script", "_law_start", "_law_mask", "_law_data", "_law_limit"] (u4 K):=by
 refine T.x63.F.okA (k:=3) sc_news (fun a6 A outer s H vs Q E hr h=>?_)
 ·obtain ⟨sa,ns,c,st,N,L,rfl,hS,S,ak,n1,n8,Y,an,q⟩:=h
  exists xx
  exists xc (al (i:=5) sc_news.nd rfl (Or.inl rfl) (aq aO ai (aq aX (pv 2) (aq eC (aq jX ai (pv 3)) ai))))
  exists xc (al (i:=6) sc_news.nd rfl (Or.inl rfl) (ay (qU T) hr.u rfl T.x59.m T.x59.k T.x59.b .nil ao (aa (pv 0) (aa (pv 1) (aa (pv 3) (aa (pv 4) ac))))))
  exists xc (al (i:=7) sc_news.nd rfl (Or.inl rfl) gJ)
  refine xq ?_;refine xf PassesOwn.never rfl (aW rfl T.n_range (aa (pv 3) ac)) (ar (i:=8) sc_news.nd rfl (Or.inl rfl)) ?_;refine xq ?_;refine xi (au bU (aq aX (pv 5) ai) ai (ax _)) ?_
  exists xl (gp (cI hr) (pv 7) (pv 8) (aI aH (pv 6) (pv 8) (fun _ _=>rfl)) rfl)
  refine ⟨_,aF,?_⟩;intro u_
  exists xl (al (i:=5) sc_news.nd rfl (Or.inl rfl) (aq cC (pv 5) ai))
  intro u_
  exists xl (av (pv 7))
  have a5:(2:Nat) ^ 1<=2 ^ N:=af8 (by decide) n1
  have a1:(2:Nat) ^ N<=2 ^ 8:=af8 (by decide) n8
  have e1:(1:Int) * 2 ^ ((N:Int)).toNat - 1=((2 ^ N - 1:Nat):Int):=by rw [jE];grind
  obtain ⟨m0,a7,hm⟩:∃ m0:Nat,m0 < 2 ^ N - 1/\c % ((2 ^ N - 1:Nat):Int)=m0:=by
   have h1:=Int.emod_nonneg c (b:=((2 ^ N - 1:Nat):Int)) (by grind)
   have h2:=Int.emod_lt_of_pos c (b:=((2 ^ N - 1:Nat):Int)) (by grind)
   exact ⟨(c % ((2 ^ N - 1:Nat):Int)).toNat,by grind,by grind⟩
  refine ⟨_,rfl,_,rfl,_,_,rfl,rfl,⟨by grind,by grind,by decide⟩,_,_,rfl,rfl,?_⟩
  try dsimp only
  rw [e1];refine ⟨_,_,rfl,rfl,by grind,_,_,rfl,rfl,?_⟩
  try dsimp only
  rw [hm,show (1:Int)+(m0:Int)=((1+m0:Nat):Int) by grind]
  refine ⟨_,rfl,_,rfl,_,rfl,_,rfl,sa,ns,st,N,L,rfl,hS,S,ak,n8,Y,an,fun SL H1 xs s1 a8 O a4 U=>?_⟩;refine fun D nD=>?_
  have sD:=Same.new (o:=.dK []) nD
  have hD:=ab (H:=H1) (a:=D) (o:=.dK [])
  have C:=sD _ _ O
  have a0:SL≠D:=am O nD
  have s2:=s1.trans sD;generalize (upd H1 D (.dK []))=H2 at sD hD C s2;refine ⟨_,rfl,_,rfl,by grind,by grind,?_⟩
  rw [ac2];refine let I_:Nat->L2.St->Hp->Prop:=fun i σ H'=>L2.E3 fun (lf:Nat) (nk:List Nat) (v8:Option V)=>L2.A8 (σ=[some (.ref sa),some (.int (st:Nat)),some (.int c),some (.int (N:Nat)),some (.int (L:Nat)),some (.int (lf:Nat)),some (.ref SL),some (.ref D),v8]) (Same H H') (H' SL=some (.lst (rowV xs))) (H' D=some (.dK (aG nk fun k=>xs.getD k 0))) (nk.Pairwise (· < ·)) ((∀ k∈nk,k < i)) (lf * 2 ^ i<=1+m0) ((nk=[]->lf * 2 ^ i=1+m0));bO (lo:=0) (n:=N) I_ ⟨1+m0,[],none,rfl,s2,C,hD,List.Pairwise.nil,fun k hk=>absurd hk ab9,by grind,fun _=>by grind⟩ ?_ ?_
  ·rintro i σ H' hi ⟨lf,nk,v8,rfl,sm,r,B,l,g,J,I⟩
   rw [show (0:Int)+(i:Nat)=((i:Nat):Int) by grind]
   have X:(rowV xs)[i]?=some (.int ((xs.getD i 0:Nat):Int)):=by
    unfold rowV;rw [zO,zL (by grind),zK,zL (by grind)]
    rfl
   have em:(lf:Int) % 2=((lf % 2:Nat):Int):=by grind
   have ed:(lf:Int) / 2=((lf / 2:Nat):Int):=by grind
   have e2:2 ^ (i+1)=2 * 2 ^ i:=by rw [ag4];grind
   have G:lf / 2 * 2 ^ (i+1)<=1+m0:=by
    rw [e2]
    have h1:lf / 2 * (2 * 2 ^ i)=(lf / 2 * 2) * 2 ^ i:=by rw [Nat.mul_assoc]
    rw [h1];exact zR (Nat.mul_le_mul_right _ (by grind)) J
   refine ⟨_,rfl,_,_,rfl,rfl,(by show (0:Int) < 2;decide),?_⟩
   try dsimp only
   rw [em];refine ⟨rfl,_,rfl,?_⟩;refine ite2 (fun y=>?_) (fun y=>?_)
   ·have a3:lf % 2=1:=by
     have:=V.int.inj (zN y)
     grind
    have aw:i∉nk:=fun h=>ad4 _ (g i h)
    have ad:nk.length<=8:=zR (bF i nk (l.imp fun h=>aa4 h) g) (by grind)
    refine ⟨_,rfl,_,rfl,SL,_,_,_,rfl,rfl,SqL.of r,aC X,_,rfl,_,rfl,D,_,rfl,DPut.k (k:=Sum.inl ((i:Nat):Int)) B (by rw [cV];exact ae7 ad (by decide)),?_⟩
    rw [show V.int ((xs.getD i 0:Nat):Int)=V.int (((fun k=>xs.getD k 0) i:Nat):Int) from rfl,dA aw];refine ⟨_,rfl,_,_,rfl,rfl,⟨by decide,by decide⟩,?_⟩
    refine ⟨lf / 2,nk++[i],some (.int (i:Nat)),?_,sm.up (s1.free nD),by rw [ae a0];exact r,ab,?_,fun k hk=>?_,G,fun e=>?_⟩
    ·rw [<- ed];rfl
    ·exact List.pairwise_append.mpr ⟨l,List.pairwise_singleton _ _,fun x hx y hy=>by rw [aa6.mp hy];exact g x hx⟩
    ·rcases ab5.mp hk with h | h
     ·exact ad0 (g k h)
     ·rw [aa6.mp h];exact ab3 _
    ·exact absurd (List.append_eq_nil_iff.mp e).2 (fun z=>by cases z)
   ·have a2:lf % 2=0:=by
     have h1:¬ lf % 2=1:=fun z=>y (zZ (by rw [z];rfl))
     grind
    refine ⟨_,rfl,_,_,rfl,rfl,⟨by decide,by decide⟩,?_⟩
    refine ⟨lf / 2,nk,some (.int (i:Nat)),?_,sm,r,B,l,fun k hk=>ad0 (g k hk),G,fun e=>?_⟩
    ·rw [<- ed];rfl
    ·rw [<- I e,e2,← Nat.mul_assoc]
     congr 1
     grind
  ·rintro σ H' ⟨lf,nk,v8,rfl,sm,r,B,l,g,J,I⟩
   have aT:nk.Nodup:=l.imp fun h=>aa4 h
   have Z:nk=srtN N nk:=by
    refine List.Perm.eq_of_pairwise (le:=fun x y:Nat=>x < y) (fun x y _ _ h1 h2=>by grind) l (af2 _ List.pairwise_lt_range) ?_
    exact (List.perm_ext_iff_of_nodup aT (af2 _ ai0)).mpr fun x=>(bu g).symm
   refine ⟨_,rfl,q D H' nk (fun k=>xs.getD k 0) sm (s1.free nD) B Z (fun e=>?_) fun k hk=>⟨g k hk,?_⟩⟩
   ·have h1:=I e
    have h2:lf=0\/1<=lf:=by grind
    rcases h2 with h2 | h2
    ·rw [h2] at h1;grind
    ·have:=Nat.mul_le_mul_right (2 ^ N) h2
     grind
   ·have hk:=g k hk
    rw [zK,zL (by grind)]
    exact U _ (ae1 _)
def dueB (N:Nat) (cs:List (Option Nat)) (nk:List Nat) (k:Nat):Bool:=(cs.getD k none).isSome && (nk.contains k || decide (N<=k))
def bX (N:Nat) (nk:List Nat) (nb:Nat->Nat) (X:List Nat):List Nat:=(List.range N).map (newV nk nb X)
inductive wR (K:PySem.W.Frag) (vs:List V) (H:Hp) (Q:VK) (E_3:XK):Prop
 | mk:∀ (mk nd ch wl:Addr) (ps:List Addr) (r w n M N:Nat) (l:Nat->Nat->Nat) (cs:List (Option Nat)) (nk X:List Nat) (nb:Nat->Nat),vs=[.ref mk,.ref nd,.ref ch,.ref wl,.int r]->GF.Good r w->1<=M->M<=2->N+M<=8->((∀ i k,i < M->k < N->l i k < 2 ^ w))->H mk=some (.lst (rowV X))->X.length=N+M->((∀ b∈X,b < (2 ^ w) ^ n))->H nd=some (.dK (aG nk nb))->((∀ k∈nk,nb k < (2 ^ w) ^ n))->H ch=some (.lst (rowO cs))->cs.length=N+M->H wl=some (.lst (ps.map V.ref))->TabAt H ps M (rowT N l)->(∀ D H',Same H H'->H D=none->H' D=some (.dK (aG ((List.range (N+M)).filter (dueB N cs nk)) fun k=>(cu r w n M N l (bX N nk nb X)).getD k 0))->Q (.ref D) H')->wR K vs H Q E_3
theorem zb (T:Txt K mg a):FnO P wo K mg base 4 a.f67 ["_law_make_here", "_law_news_here", "_law_costs_here", "_law_weights", "_law_rule_here"] (wR K):=by
 refine T.x67.F.okA (k:=3) sc_due (fun b6 A outer s H vs Q E hr h=>?_)
 ·obtain ⟨mk,nd,ch,wl,ps,r,w,n,M,N,l,cs,nk,X,nb,rfl,g,m1,m2,n8,hl,bm,hX,a0,O,a2,a7,b5,U,S,q⟩:=h
  exists xx
  exists xc (al (i:=5) sc_due.nd rfl (Or.inl rfl) (aA aB rfl T.n_len ab7 (aa (aI aH (pv 3) ai (fun _ _=>rfl)) ac)))
  exists xc (b9 (i:=6) sc_due.nd rfl (Or.inl rfl) (CompOk.of (cap:=[1,0]) (own:=["_law_role"]) (by kernel_rfl)) rfl (aW rfl T.n_range (aa (pv 5) ac)) (fun _ _ _ _ _=>(ar (i:=2) (zN (by kernel_rfl)) rfl (Or.inl rfl))) (fun _ _ _ _ _=>aV) (fun _ _ _ _ _=>by exact (vK (cI hr) (pv 0) (pv 2) (aI (bI (K:=K) rfl) (pv 1) (pv 2) (fun _ _=>rfl)) ⟨rfl,rfl,rfl,rfl⟩)))
  exists xc (al (i:=7) sc_due.nd rfl (Or.inl rfl) gJ)
  refine xq ?_;refine xf PassesOwn.never rfl (iW rfl T.n_enumerate (aa (ay (qS T) hr.u rfl T.x58.m T.x58.k T.x58.b .nil ao (aa (pv 6) (aa (pv 3) (aa (pv 4) ac)))) ac)) (eA rfl (aU (ar (i:=8) sc_due.nd rfl (Or.inl rfl)) (aU (ar (i:=9) sc_due.nd rfl (Or.inl rfl)) cB))) ?_;refine x1 ?_;refine xi (PW.pt (jV (au bZ (aI aH (pv 2) (pv 8) (fun _ _=>rfl)) aR (ax _)) (iR (PW.pt (bC (mZ (nY (cI hr) (pv 8) (pv 1))) (bJ (au jY (pv 8) (pv 5) (ax _)))))))) ?_
  exists xl (gp (cI hr) (pv 7) (pv 8) (pv 9) rfl)
  refine ⟨_,aF,?_⟩;intro u_;intro u_
  exists xl (av (pv 7))
  have b3:=S.len
  have an:ps[0]?=some (ps.getD 0 0):=by rw [zK,zL (by omega)];rfl
  have a6:=S.on 0 _ an
  have a4:(rowV (rowT N l 0)).length=N:=by rw [aj,aD]
  refine ⟨_,rfl,wl,_,_,_,rfl,rfl,SqL.of U,aC (j:=0) (by rw [zO,an];rfl),?_⟩
  refine ⟨_,_,rfl,.inl (SqL.of a6),?_⟩;rw [a4];refine ⟨_,rfl,_,rfl,by omega,by omega,fun SL b2=>?_⟩
  rw [ac2];refine je (n:=N) (f:=fun k=>.int ((newV nk nb X k:Nat):Int)) (cs:=[some (.ref nd),some (.ref mk)]) b2 rfl (zR (by omega:N<=8) (by decide)) (fun k H2 R2 hk s2 hR=>?_) (fun H1 s1 L=>?_)
  ·have dg:=DGet.k (k:=Sum.inl ((k:Nat):Int)) (s2 _ _ O)
   rw [bT] at dg
   have a5:(rowV X)[k]?=some (.int ((X.getD k 0:Nat):Int)):=by
    unfold rowV;rw [zO,zL (by omega),zK,zL (by omega)]
    rfl
   refine ⟨_,rfl,nd,rfl,.inl ⟨_,.inl (s2 _ _ O)⟩,_,rfl,_,rfl,_,rfl,mk,_,_,_,rfl,rfl,SqL.of (s2 _ _ bm),aC a5,_,dg,?_⟩
   have ev:(if k∈nk then some (V.int ((nb k:Nat):Int)) else none).getD (V.int ((X.getD k 0:Nat):Int))=V.int ((newV nk nb X k:Nat):Int):=by
    unfold newV
    by_cases z:k∈nk
    ·rw [if_pos z,if_pos z];rfl
    ·rw [if_neg z,if_neg z];rfl
   rw [ev];exact hR _ (Same.refl _)
  have L:H1 SL=some (.lst (rowV (bX N nk nb X))):=by
   rw [L];unfold bX rowV;rw [ac4];rfl
  have Z:(bX N nk nb X).length=N:=by unfold bX;rw [zM,zS]
  have aT:∀ x∈bX N nk nb X,x < (2 ^ w) ^ n:=fun x hx=>by
   obtain ⟨k,hk,rfl⟩:=ae2.mp hx
   have hk:=aa1.mp hk;unfold newV
   split
   ·next z=>exact a2 k z
   ·rw [zK,zL (by omega)]
    exact a0 _ (ae1 _)
  refine fun D nD=>?_
  have sD:=Same.new (o:=.dK []) nD
  have hD:=ab (H:=H1) (a:=D) (o:=.dK []);generalize (upd H1 D (.dK []))=H2 at sD hD
  have s2:=s1.trans sD;refine ⟨_,rfl,_,rfl,_,rfl,SL,wl,ps,r,w,n,M,N,l,bX N nk nb X,rfl,g,sD _ _ L,Z,by omega,m2,aT,s2 _ _ U,S.same s2,hl,fun ML H3 s3 b4 aw=>?_⟩
  have a9:(cu r w n M N l (bX N nk nb X)).length=N+M:=o4 _ _ _ _ _ _ _ Z;generalize cc:cu r w n M N l (bX N nk nb X)=Y at *
  have b0:=s2.trans s3;refine ⟨ML,_,rfl,SqL.of aw,?_⟩;refine let I_:Nat->L2.St->Hp->Prop:=fun i σ H'=>L2.A4 ((∃ v8 v9:Option V,σ=[some (.ref mk),some (.ref nd),some (.ref ch),some (.ref wl),some (.int (r:Nat)),some (.int (N:Nat)),some (.ref SL),some (.ref D),v8,v9])) (Same H H') (H' ML=some (.lst (rowV Y))) (H' D=some (.dK (aG ((List.range i).filter (dueB N cs nk)) fun k=>Y.getD k 0)));nK (l:=ML) (xs:=rowV Y) I_ ⟨⟨none,none,rfl⟩,b0,aw,s3 _ _ hD⟩ ?_ ?_ ?_
  ·rintro i σ H' _ ⟨_,_,h,_⟩
   exact SqL.of h
  ·rintro i u TP σ H' hi hu a8 ⟨⟨v8,v9,rfl⟩,sm,a3,I⟩
   rw [aj] at hi;obtain ⟨y,ey,rfl⟩:=aQ hu
   have eY:Y.getD i 0=y:=by rw [zK,ey];rfl
   have sT:=Same.new (o:=.tup [.int (i:Nat),.int (y:Nat)]) a8;refine ⟨TP,_,rfl,SqT.of ab,rfl,_,_,rfl,_,_,rfl,rfl,?_⟩
   have C:=sm.trans sT
   have B:=sT _ _ a3
   have G:=sT _ _ I;generalize (upd H' TP (.tup [.int (i:Nat),.int (y:Nat)]))=H4 at C B G
   have gi:=aC (bj (cb (os:=cs) (k:=i) (by omega)))
   have J:(List.range (i+1)).filter (dueB N cs nk)=(List.range i).filter (dueB N cs nk)++(if dueB N cs nk i=true then [i] else []):=by
    rw [af9,aj5]
    congr 1
    by_cases z:dueB N cs nk i=true
    ·rw [if_pos z,ak4 z,aj0]
    ·rw [if_neg z,ak5 z,aj0]
   have dg:=DGet.k (k:=Sum.inl ((i:Nat):Int)) (C _ _ O);rw [bT] at dg;refine ⟨_,rfl,_,rfl,ch,_,_,_,rfl,rfl,SqL.of (C _ _ a7),gi,rfl,_,rfl,?_⟩;rw [fq]
   refine kP (fun H5=>H5=H4/\dueB N cs nk i=true) (fun ak=>by
    cases hc:(cs.getD i none).isSome with
    | false =>
     refine ite2 (fun y=>absurd y (by decide)) (fun _=>?_)
     refine ite2 (fun y=>absurd y (by decide)) (fun _=>?_)
     have e:dueB N cs nk i=false:=by unfold dueB;rw [hc];rfl
     exact ⟨⟨_,_,rfl⟩,C,B,by rw [J,e,if_neg (by decide),ai8];exact G⟩
    | true =>
     refine ite2 (fun _=>?_) (fun y=>absurd rfl y);refine ⟨_,rfl,_,rfl,nd,_,rfl,dg,_,rfl,?_⟩
     by_cases hn:i∈nk
     ·rw [if_pos hn]
      refine ite2 (fun _=>?_) (fun y=>absurd rfl y);refine ite2 (fun _=>?_) (fun y=>absurd rfl y);exact ak H4 ⟨rfl,by unfold dueB;rw [hc,ab8.mpr hn];rfl⟩
     ·rw [if_neg hn]
      refine ite2 (fun y=>absurd y (by decide)) (fun _=>?_)
      refine ⟨_,rfl,_,rfl,_,_,rfl,rfl,_,rfl,?_⟩
      have ad:nk.contains i=false:=by
       cases e:nk.contains i with
       | false=>rfl
       | true=>exact absurd (ab8.mp e) hn
      refine ite2 (fun z=>?_) (fun z=>?_)
      ·have z:=zN z
       exact ak H4 ⟨rfl,by unfold dueB;rw [hc,ad,zZ (by omega:N<=i)];rfl⟩
      ·have z:¬ N<=i:=fun q=>z (zZ (by omega))
       have e:dueB N cs nk i=false:=by unfold dueB;rw [hc,ad,aa9 z];rfl
       exact ⟨⟨_,_,rfl⟩,C,B,by rw [J,e,if_neg (by decide),ai8];exact G⟩) ?_
   rintro H5 ⟨rfl,a1⟩
   have b1:i∉(List.range i).filter (dueB N cs nk):=fun h=>ad4 _ (aa1.mp (aa7.mp h).1);refine ⟨_,rfl,_,rfl,_,rfl,D,_,rfl,DPut.k (k:=Sum.inl ((i:Nat):Int)) G ?_,?_⟩
   ·rw [cV]
    have:=ac0 (dueB N cs nk) (List.range i);rw [zS] at this;exact ae7 (by omega:_<=8) (by decide)
   rw [<- eY,dA (f:=fun k=>Y.getD k 0) b1];exact ⟨⟨_,_,rfl⟩,C.up (s1.free nD),by rw [ae (aN B G (fun y=>by cases y))];exact B,by rw [ab,J,if_pos a1]⟩
  ·rintro σ H' ⟨⟨v8,v9,rfl⟩,sm,_,I⟩
   rw [aj,a9] at I;exact ⟨_,rfl,q D H' sm (s1.free nD) I⟩
theorem pH {ks:List Nat}{f':Nat->Nat} (h:∀ k∈ks,f k=f' k):aG ks f=aG ks f':=by
 unfold aG;exact af4 fun k hk=>by rw [h k hk]
theorem fk (ks:List Nat) (f:Nat->Nat):fL (aG ks f)=true:=by
 unfold fL aG;rw [List.all_map];exact ab4.mpr fun _ _=>rfl
theorem gW {ks:List Nat}{f:Nat->Nat}:∀ {rs:List Nat},(∀ k∈rs,k∈ks)->iZ (aG ks f) (aG rs f)=true
 | [],_=>rfl
 | k :: rs,h=>by
  have e:aG (k :: rs) f=(Sum.inl ((k:Nat):Int),V.int ((f k:Nat):Int)) :: aG rs f:=rfl;rw [e];unfold iZ;rw [bT,if_pos (h k (.head _))];dsimp only;rw [gW fun x hx=>h x (.tail _ hx),ai5];exact af1 _
theorem wv (ks:List Nat) (f:Nat->Nat):eqKV (aG ks f) (aG ks f)=true:=by
 unfold eqKV;rw [gW fun _ h=>h,ai5];exact af1 _
theorem wx (nlt:∀ k∈nk,k < N):aG (bD N cs (thrL M N cs) nk) (laidV r w n N l nk nb X)=aG ((List.range (N+M)).filter (dueB N cs nk)) fun k=>(cu r w n M N l (bX N nk nb X)).getD k 0:=by
 have e1:(List.range (N+M)).filter (dueB N cs nk)=bD N cs (thrL M N cs) nk:=by
  unfold bD thrL srtN;rw [List.range_add,aj5,List.filter_map,List.filter_filter]
  congr 1
  ·refine List.filter_congr fun k hk=>?_
   have hk:=aa1.mp hk;unfold dueB;rw [aa9 (by omega:¬ N<=k),Bool.or_false]
  ·congr 1
   refine List.filter_congr fun t _=>?_
   show dueB N cs nk (N+t)=_
   unfold dueB;rw [zZ (by omega:N<=N+t),am8,ai5]
 rw [e1];refine pH fun k hk=>?_
 have sl:(bX N nk nb X).length=N:=by unfold bX;rw [zM,zS]
 unfold laidV cu;rcases (gU nlt).mp hk with ⟨h1,_⟩ | ⟨t,ht,rfl⟩
 ·have g:=nlt k h1
  rw [if_pos g,zK,ae8 (by omega)]
  unfold bX;rw [zO,ab0 g]
  show nb k=newV nk nb X k
  unfold newV;rw [if_pos h1]
 ·have h:=(thr_mem.mp ht).1
  rw [if_neg (by omega),zK,af6 (by omega),sl,ak8,zO,ab0 h]
  show dr r w n N l t (newV nk nb X)=GF.sumB r w n ((rowT N l t).zip (bX N nk nb X))
  unfold dr bX rowT;rw [GF.sumB_range]
theorem u5 (h:X.length=R):bH R (X.map some) X:=fun j hj b hb=>by
 rw [zK,zO,zL (by rw [h];exact hj)] at hb
 cases hb;rw [zK,zL (by rw [h];exact hj)]
 rfl
theorem gY {p p':Nat->Bool}{g:Nat} (h:∀ k,p' k=true->p k=true\/k=g):∀ R,(List.range R).countP p'<=(List.range R).countP p+if g < R then 1 else 0
 | 0=>ab1 _
 | R+1=>by
  have ih:=gY h R;rw [af9,List.countP_append,List.countP_append,List.countP_singleton,List.countP_singleton]
  by_cases z:R=g
  ·subst z
   rw [if_neg (ad4 R)] at ih;rw [if_pos (ab3 R)]
   split <;> split <;> omega
  ·have e:(if g < R+1 then 1 else 0)=if g < R then 1 else 0:=by
    split <;> split <;> omega
   rw [e]
   have hR:=h R
   by_cases y:p' R=true
   ·rcases hR y with y2 | y2
    ·rw [if_pos y,if_pos y2];omega
    ·exact absurd y2 z
   ·rw [if_neg y]
    omega
variable {g:Nat}
theorem yq (hg:g < R):(List.range R).countP (gapP cs (srow.set g none))<=(List.range R).countP (gapP cs srow)+1:=by
 have:=gY (p:=gapP cs srow) (p':=gapP cs (srow.set g none)) (g:=g) (fun k hk=>by
  by_cases z:k=g
  ·exact .inr z
  ·refine .inl ?_
   unfold gapP at hk ⊢;rw [zK (l:=srow.set g none),af7 (ad3 z),← zK] at hk
   exact hk) R
 rw [if_pos hg] at this;exact this
theorem wy (hg:g < R):(List.range R).countP (gapP (cs.set g none) srow)<=(List.range R).countP (gapP cs srow)+1:=by
 have:=gY (p:=gapP cs srow) (p':=gapP (cs.set g none) srow) (g:=g) (fun k hk=>by
  by_cases z:k=g
  ·exact .inr z
  ·refine .inl ?_
   unfold gapP at hk ⊢;rw [zK (l:=cs.set g none),af7 (ad3 z),← zK] at hk
   exact hk) R
 rw [if_pos hg] at this;exact this
theorem pd {b:Nat} (h:(os.set g none).getD j none=some b):os.getD j none=some b:=by
 by_cases z:j=g
 ·subst z
  by_cases y:j < os.length
  ·rw [zK,ah0 y] at h
   cases h
  ·rw [zK,zY (by rw [ae6];omega)] at h
   cases h
 ·rw [zK,af7 (ad3 z),← zK] at h
  exact h
theorem mI (xs:List Nat):rowV xs=rowO (xs.map some):=by
 unfold rowV rowO;rw [ac4];rfl
theorem yr (hL:∀ k∈L,k < N+M) (hL':∀ k∈L',k < N+M) (h:WrS r w M N l cs srow L L' os as os' as' b):OkA (N+M) cs srow os as->OkA (N+M) cs srow os' as':=by
 induction h with
 | done _=>exact id
 | none _ _ _ _ _=>exact id
 | step e1 e2 pm _ hn _ ih=>exact fun z=>ih (eN _ _ _ (fun k hk=>((jT e1 e2 pm hL hL' hn).1 k hk).1) z)
theorem wz (g:GF.Good r w) (W:Wts w M N plainL) (hg:(List.range (N+M)).countP (gapP cs srow)<=M) (hL:∀ k∈L,k < N+M) (hL':∀ k∈L',k < N+M) (h:WrS r w M N plainL cs srow L L' os as os' as' b):OkA (N+M) cs srow os as->b=true/\(L.all (fx r w M N plainL (knO os')) || L'.all (fx r w M N plainL (knO os')))=true:=by
 induction h with
 | done e=>exact fun _=>⟨rfl,e⟩
 | none e1 e2 pm pw hn =>
  intro ok
  exfalso
  rename_i os as ms
  have hm:∀ j,j < N+M->mayB cs as j=true->j∈ms:=fun j hj hy=>pm.mem_iff.mpr (aa7.mpr ⟨aa1.mpr hj,hy⟩)
  have h1:=o0 ok hm
  have l:L.all (fx r w M N plainL (knW (knO os) ms))=true:=ab4.mpr fun k hk=>uM g W (by rw [dM,bg,ok.osl]) (hL k hk) (zR h1 hg)
  unfold fj at hn
  cases hp:pick (fun p:Int × List Nat=>p.1) (fi r w M N plainL cs as (knO os) ms L L') with
  | some p=>rw [hp] at hn;cases hn
  | none =>
   have e:=mE hp;unfold fi at e
   have e:=List.map_eq_nil_iff.mp (List.append_eq_nil_iff.mp e).2
   cases hd:pick (fun d:List Nat=>((d.length:Nat):Int)) (cL r w M N plainL (knO os) ms L L') with
   | some d=>rw [hd] at e;cases e
   | none =>
    have e:=mE hd;unfold cL at e
    have e:=(List.append_eq_nil_iff.mp e).1;unfold detO at e
    cases hf:(List.range (ms.length+1)).find? fun j=>L.all (fx r w M N plainL (knW (knO os) (ms.take j))) with
    | some j=>rw [hf] at e;cases e
    | none =>
     have:=List.find?_eq_none.mp hf ms.length (aa1.mpr (ab3 _));rw [ai1] at this;exact this l
 | step e1 e2 pm _ hn _ ih=>exact fun z=>ih (eN _ _ _ (fun k hk=>((jT e1 e2 pm hL hL' hn).1 k hk).1) z)
theorem yt:noN cs R<=(List.range R).countP (gapP cs srow) :=
 am0 fun k _ h=>by unfold gapP;rw [h];rfl
theorem zc (g:GF.Good r w) (W:Wts w M N plainL) (hos:os.length=N+M) (hno:noN cs (N+M)<=M) (nlt:∀ k∈nk,k < N)
  (e:((bh N plainL (thrL M N cs) nk).all (fx r w M N plainL (knO os)) || (chgL N plainL (thrL M N cs) (srtN N nk)).all (fx r w M N plainL (knO os)))=true):(srtN N nk).all (fx r w M N plainL (knL os (bD N cs (thrL M N cs) nk)))=true:=by
 have h:∀ k∈srtN N nk,k < N+M:=fun k hk=>by
  have:=nlt k ((bu nlt).mp hk);omega
 by_cases ht:thrL M N cs=[]
 ·refine kT g W hos hno h (.inl fun k hk=>?_)
  have hk:=(bu nlt).mp hk;exact (gU nlt).mpr (.inl ⟨hk,wt hno ht k (nlt k hk)⟩)
 by_cases hg:dJ (knO os)<=M
 ·exact u3 g W hos hg h
 have kn:∀ k,k < N+M->fx r w M N plainL (knO os) k=true->(knO os).getD k false=true:=fun k hk z=>by
  rw [gS g W (by rw [bg];exact hos) hk,aa9 hg,Bool.or_false] at z
  exact z
 rw [si ht,u0 ht] at e;rcases ai9 _ _ ▸ e with e | e
 ·refine kT g W hos hno h (.inr fun x hx B l=>?_)
  cases hc:cs.getD x none with
  | none=>rfl
  | some c =>
   exfalso
   have hs:(cs.getD x none).isSome=true:=by rw [hc];rfl
   by_cases hxN:x < N
   ·by_cases hxk:x∈nk
    ·exact l ((gU nlt).mpr (.inl ⟨hxk,hs⟩))
    ·have:=kn x hx (ab4.mp e x (aa7.mpr ⟨aa1.mpr hxN,by
      cases z:nk.contains x with
      | false=>rfl
      | true=>exact absurd (ab8.mp z) hxk⟩))
     rw [B] at this
     cases this
   ·refine l ((gU nlt).mpr (.inr ⟨x - N,thr_mem.mpr ⟨by omega,?_⟩,by omega⟩))
    rw [show N+(x - N)=x by omega]
    exact hs
 ·refine ab4.mpr fun k hk=>?_
  have s:=h k hk;rw [gS g W (by rw [dN];exact hos) s,gT (by omega),kn k s (ab4.mp e k (ab5.mpr (.inl hk)))]
  rfl
theorem wA {nk':List Nat} (h:∀ k,k∈nk' ↔ k∈nk):srtN N nk'=srtN N nk:=by
 unfold srtN;refine List.filter_congr fun k _=>?_
 cases e:nk.contains k with
 | true=>exact ab8.mpr ((h k).mpr (ab8.mp e))
 | false =>
  cases e':nk'.contains k with
  | false=>rfl
  | true=>rw [ab8.mpr ((h k).mp (ab8.mp e'))] at e;cases e
theorem wB {nk':List Nat} (h:∀ k,k∈nk' ↔ k∈nk):newV nk' nb X=newV nk nb X:=by
 funext k
 unfold newV
 by_cases z:k∈nk
 ·rw [if_pos z,if_pos ((h k).mpr z)]
 ·rw [if_neg z,if_neg (fun y=>z ((h k).mp y))]
theorem u7 {ks ks':List Nat} (h:∀ k,k∈ks' ↔ k∈ks) (hl:ks'.length=ks.length):eqKV (aG ks' f) (aG ks f)=true:=by
 unfold eqKV;rw [gW fun k hk=>(h k).mp hk,ai5,cV,cV,hl];exact af1 _
theorem gZ (ks:List Nat):(ks.map fun k:Nat=>((k:Nat):Int)).map V.int=rowV ks:=by
 unfold rowV;rw [ac4];rfl
theorem u8 {ks:List Nat}{k:Key} (h:(aG ks f)[i]?=some (k,v)):∃ y:Nat,v=.int ((y:Nat):Int):=by
 unfold aG at h;rw [zO] at h;obtain ⟨x,_,e⟩:=al1.mp h
 cases e;exact ⟨_,rfl⟩
inductive u9 (vs:List V) (H:Hp) (Q:VK) (E_3:XK):Prop
 | mk:∀ (FD DD:Addr) (ks:List Nat) (f:Nat->Nat),vs=[.ref FD,.ref DD]->H FD=some (.dK (aG ks f))->H DD=some (.dK (aG ks f))->(∀ H',Same H H'->Q (.bl true) H')->u9 vs H Q E_3
theorem rq (T:Txt K mg a):FnO P wo K mg base 2 a.f68 ["_law_found", "_law_due_here"] u9:=by
 refine T.x68.F.okA (k:=1) sc_dict (fun C A outer s H vs Q E hr h=>?_)
 ·obtain ⟨FD,DD,ks,f,rfl,hF,hD,q⟩:=h
  exists xx
  refine xq ?_
  refine xi (PW.pt (bC (bQ (bd (aA fz rfl T.n_isinstance boot_isinstance (aa (pv 0) (aa (gj (v:=.ty "dict") rfl T.n_dict (by decide +kernel) rfl) ac))))) (bC (au (ub hr.units) (pv 0) (pv 1) (ax _)) (bJ (au (kj hr.units) (bP (eZ rfl) rfl T.n_list (by decide +kernel) (aa (pv 0) ac)) (bP (eZ rfl) rfl T.n_list (by decide +kernel) (aa (pv 1) ac)) (ax _)))))) ?_
  exists xl (av dC)
  refine ⟨_,aF,?_⟩;intro u_;refine xq ?_;refine xft PassesOwn.never rfl (xJ (eE PySem.F.plainAttrs_dict PySem.F.slot_dict_values PySem.F.type_dict_values vO (pv 0))) (ar (i:=2) sc_dict.nd rfl (Or.inl rfl)) ?_;refine x1 ?_;refine xi (bQ (bd (ay (we T) hr.u rfl T.x54.m T.x54.k T.x54.b .nil ao (aa (pv 2) ac)))) ?_
  exists xl (av dC)
  refine ⟨_,aF,?_⟩;intro u_;intro u_
  exists xl (av dC)
  refine ⟨_,rfl,_,_,_,_,rfl,.dK hF,gC _ _,_,rfl,?_⟩;refine ite2 (fun z=>absurd z (by decide)) (fun _=>?_)
  refine ⟨_,rfl,_,rfl,FD,DD,_,_,rfl,rfl,hF,hD,fk _ _,fk _ _,_,rfl,?_⟩;rw [wv];refine ite2 (fun z=>absurd z (by decide)) (fun _=>?_)
  refine ⟨_,rfl,FD,_,_,rfl,hF,bN _ _,fun l1 n1=>?_⟩
  have s1:=Same.new (o:=.lst (rowV ks)) n1;rw [gZ]
  have h1:=ab (H:=H) (a:=l1) (o:=.lst (rowV ks));generalize (upd H l1 (.lst (rowV ks)))=H1 at s1 h1;refine ⟨_,rfl,DD,_,_,rfl,s1 _ _ hD,bN _ _,fun l2 n2=>?_⟩
  have s2:=Same.new (o:=.lst (rowV ks)) n2;rw [gZ]
  have h2:=ab (H:=H1) (a:=l2) (o:=.lst (rowV ks));generalize (upd H1 l2 (.lst (rowV ks)))=H2 at s2 h2;refine ⟨dRow ks,dRow ks,dz (s2 _ _ h1),dz h2,rfl,rfl,⟨_,rfl⟩,jP ks,_,rfl,?_⟩;refine ite2 (fun z=>absurd z (by rw [cP];decide)) (fun _=>?_)
  have g:=s1.trans s2;refine ⟨_,rfl,.inr (.inr (.inl ⟨rfl,.inl ⟨_,g _ _ hF⟩⟩)),FD,_,rfl,rfl,g _ _ hF,fun v nv=>?_⟩
  have s3:=Same.new (o:=.ext (i0 v FD)) nv
  have h3:=ab (H:=H2) (a:=v) (o:=.ext (i0 v FD));generalize (upd H2 v (.ext (i0 v FD)))=H3 at s3 h3
  have l:=g.trans s3
  have B:=l _ _ hF;refine ⟨v,FD,_,rfl,h3,B,fun o=>?_⟩
  have h4:=ab (H:=H3) (a:=FD) (o:=.frz o (.dK (aG ks f)))
  have r:Same H (upd (upd H3 FD (.frz o (.dK (aG ks f)))) FD (.dK (aG ks f))):=fun b u e=>by
   by_cases z:b=FD
   ·subst z
    rw [ab,← hF];exact e
   ·rw [ae z,ae z]
    exact l b u e
  generalize (upd H3 FD (.frz o (.dK (aG ks f))))=H4 at h4 r;refine let I_:Nat->L2.St->Hp->Prop:=fun i σ H'=>L2.A2 ((∃ v2:Option V,σ=[some (.ref FD),some (.ref DD),v2])) (H'=H4);vP (d:=FD) (o:=o) (kvs:=aG ks f) I_ ⟨⟨none,rfl⟩,rfl⟩ ?_ ?_ ?_
  ·rintro i σ H' _ ⟨_,rfl⟩
   exact h4
  ·rintro i k x σ H' hx ⟨⟨v2,rfl⟩,rfl⟩
   obtain ⟨y,rfl⟩:=u8 hx;refine ⟨_,rfl,_,rfl,_,rfl,?_⟩;refine ite2 (fun z=>absurd z (by decide)) (fun _=>?_)
   exact ⟨⟨_,rfl⟩,rfl⟩
  ·rintro σ H' ⟨⟨v2,rfl⟩,rfl⟩
   refine ⟨FD,o,_,h4,fun o u e=>?_,q _ r⟩
   have e:H FD=some (.frz o u):=e;rw [hF] at e
   cases e
theorem CodeAt.hide {bp:Addr}{xs:List Addr} (h:CodeAt a H c bp fp r w n M N l) (hx:∀ x∈xs,∃ ps,H x=some (.tbl ps)):CodeAt a (aL xs H) c bp fp r w n M N l:=by
 have k:∀ {b:Addr}{o:HO},H b=some o->(∀ ps,o≠.tbl ps)->aL xs H b=some o:=fun {b o} e n=>by
  rw [cT fun z=>?_]
  ·exact e
  ·obtain ⟨ps,y⟩:=hx b z
   rw [y] at e;exact n ps (zX e).symm
 obtain ⟨dx,Lp,qs,h1,h2,h3⟩:=h.ins;obtain ⟨⟨db,hb⟩,⟨dF,hF⟩⟩:=h.blk;exact ⟨⟨dx,Lp,qs,k h1 (fun _ y=>by cases y),k h2 (fun _ y=>by cases y),⟨h3.len,fun i p e=>k (h3.on i p e) (fun _ y=>by cases y)⟩⟩,⟨⟨db,k hb (fun _ y=>by cases y)⟩,⟨dF,k hF (fun _ y=>by cases y)⟩⟩⟩
theorem TabS.upD {p:Pos}{ks:List (Key × V)} (h:TabS H t p q) (hx:H x=some (.dK ks)):TabS (upd H x o) t p q:=by
 obtain ⟨ps,h1,h2⟩:=h;refine ⟨ps,by rw [ae (aN h1 hx (fun y=>by cases y))];exact h1,?_⟩
 rcases h2 with h2 | ⟨c',e,h2⟩
 ·exact .inl h2
 ·exact .inr ⟨c',e,by rw [ae (aN h2 hx (fun y=>by cases y))];exact h2⟩
theorem AskM.upD {a:Adr}{H0 H:Hp}{R:AskR}{n:Nat}{os:List (Option Nat)}{as:List Nat}{x:Addr}{ks:List (Key × V)}{o:HO} (J:AskM a H0 H R n os as) (n0:H0 x=none) (hx:H x=some (.dK ks)):AskM a H0 (upd H x o) R n os as :=
 ⟨J.sm.up n0,by rw [ae (aN J.hr hx (fun y=>by cases y))];exact J.hr,by rw [ae (aN J.hs hx (fun y=>by cases y))];exact J.hs,by rw [ae (aN J.hz hx (fun y=>by cases y))];exact J.hz,J.tab.upD hx,J.osl,J.nd,J.lt⟩
theorem CodeAt.hideZ {bp z:Addr} (h:CodeAt a H c bp fp r w n M N l) (m1:1<=M) (hz:H z=some (.lst [])):CodeAt a (aL [z] H) c bp fp r w n M N l:=by
 have k:∀ {b:Addr}{o:HO},H b=some o->o≠.lst []->aL [z] H b=some o:=fun {b o} e m=>by
  rw [cT fun y=>?_]
  ·exact e
  ·rw [aa6.mp y,hz] at e
   exact m (zX e).symm
 obtain ⟨dx,Lp,qs,h1,h2,h3⟩:=h.ins;obtain ⟨⟨db,hb⟩,⟨dF,hF⟩⟩:=h.blk;refine ⟨⟨dx,Lp,qs,k h1 (fun y=>by cases y),k h2 (fun y=>?_),⟨h3.len,fun i p e=>k (h3.on i p e) (fun y=>?_)⟩⟩,⟨⟨db,k hb (fun y=>by cases y)⟩,⟨dF,k hF (fun y=>by cases y)⟩⟩⟩
 ·have y:=congrArg (fun o=>match o with | HO.lst xs=>xs.length | _=>0) y
  have:qs.length=0:=by simpa using y
  have:=h3.len;omega
 ·have y:=congrArg (fun o=>match o with | HO.lst xs=>xs.length | _=>0) y
  have:N+M=0:=by simpa [rowV,rowT] using y
  omega
inductive iQ (K:PySem.W.Frag) (ts:List Addr) (vs:List V) (H:Hp) (Q:VK) (E_3:XK):Prop
 | mk:∀ (s:Addr) (ns:List Int),vs=[.ref s]->SqL K H s (ns.map V.int)->ns.length<=63->((∀ p∈ts,H p=some (.tbl #[])))->(∀ H',Q (.bl true) H')->iQ K ts vs H Q E_3
theorem zd (T:Txt K mg a) (B:Tb base mg a):FnO P wo K mg base 14 a.f69 ["_law_script"] (iQ K [a.t38,a.t47,a.t64]):=by
 refine T.x69.F.okA (k:=13) sc_law (fun p7 A outer s H vs Q E hr h=>?_)
 ·obtain ⟨sa,ns,rfl,hS,O,hT,q⟩:=h
  have ov:=hT a.t38 (.head _)
  have nL:=hT a.t47 (.tail _ (.head _))
  have pa:=hT a.t64 (.tail _ (.tail _ (.head _)))
  exists xx
  exists xc (de (ay (vW T) hr.u rfl T.x61.m T.x61.k T.x61.b .nil ao (aa (ay (ca T) hr.u rfl T.x53.m T.x53.k T.x53.b .nil ao (aa (pv 0) (aa ai ac))) ac)) (eA rfl (aU (ar (i:=1) sc_law.nd rfl (Or.inl rfl)) (aU (ar (i:=2) sc_law.nd rfl (Or.inl rfl)) cB))))
  exists xc (al (i:=3) sc_law.nd rfl (Or.inl rfl) (ay (xN T) hr.u rfl T.x55.m T.x55.k T.x55.b .nil ao (aa (ay (ca T) hr.u rfl T.x53.m T.x53.k T.x53.b .nil ao (aa (pv 0) (aa ai ac))) ac)))
  exists xc (al (i:=4) sc_law.nd rfl (Or.inl rfl) (aq aO ai (aq aX (ay (ca T) hr.u rfl T.x53.m T.x53.k T.x53.b .nil ao (aa (pv 0) (aa ai ac))) ai)))
  exists xc (al (i:=5) sc_law.nd rfl (Or.inl rfl) (aq jX ai (aq cM (aq eC (eE aj2 ag5 ag6 eG (pv 3)) ai) (pv 4))))
  exists xc (al (i:=6) sc_law.nd rfl (Or.inl rfl) (ay (wr T) hr.u rfl T.x60.m T.x60.k T.x60.b .nil ao (aa (pv 1) (aa (pv 2) ac))))
  exists xc (al (i:=7) sc_law.nd rfl (Or.inl rfl) (ay (qS T) hr.u rfl T.x58.m T.x58.k T.x58.b .nil ao (aa (ay (qU T) hr.u rfl T.x59.m T.x59.k T.x59.b .nil ao (aa (pv 0) (aa ai (aa (pv 1) (aa (pv 5) ac))))) (aa (pv 6) (aa (pv 3) ac)))))
  exists xc (al (i:=8) sc_law.nd rfl (Or.inl rfl) (bP b7 rfl T.n_list (by decide +kernel) (aa (pv 7) ac)))
  exists xc (al (i:=9) sc_law.nd rfl (Or.inl rfl) (ay (vX T) hr.u rfl T.x62.m T.x62.k T.x62.b .nil ao (aa (ay (ca T) hr.u rfl T.x53.m T.x53.k T.x53.b .nil ao (aa (pv 0) (aa ai ac))) (aa (aq aO (pv 1) (pv 2)) ac))))
  exists xc (al (i:=10) sc_law.nd rfl (Or.inl rfl) (aq aX (ay (ca T) hr.u rfl T.x53.m T.x53.k T.x53.b .nil ao (aa (pv 0) (aa ai ac))) ai))
  refine xq ?_;refine xf PassesOwn.never rfl (aJ (ay (yj T) hr.u rfl T.x66.m T.x66.k T.x66.b .nil ao (aa (pv 0) (aa (aq aO (pv 1) (pv 2)) (aa (pv 2) ac))))) (ar (i:=11) sc_law.nd rfl (Or.inl rfl)) ?_;refine xq ?_;refine xi (au bU (aq aX (pv 10) ai) ai (ax _)) ?_
  exists xl (de aR (dD (pv 8) (pv 11) cm))
  exists xl (de aR (dD (pv 9) (pv 11) cm))
  intro u_
  exists xl (al (i:=10) sc_law.nd rfl (Or.inl rfl) (aq cC (pv 10) ai))
  intro u_
  exists xc (al (i:=12) sc_law.nd rfl (Or.inl rfl) (ay (yp T) hr.u rfl T.x63.m T.x63.k T.x63.b .nil ao (aa (pv 0) (aa ai (aa (ay (ca T) hr.u rfl T.x53.m T.x53.k T.x53.b .nil ao (aa (pv 0) (aa ai ac))) (aa (pv 1) (aa (pv 5) ac)))))))
  exists xc (al (i:=13) sc_law.nd rfl (Or.inl rfl) (bP (eZ rfl) rfl T.n_list (by decide +kernel) (aa (pv 12) ac)))
  refine xq ?_;refine xi (au bU (aq aX (aq cC (ay (ca T) hr.u rfl T.x53.m T.x53.k T.x53.b .nil ao (aa (pv 0) (aa ai ac))) ai) ai) ai (ax _)) ?_
  exists xl (aS (eE ac5 PySem.F.slot_list_reverse PySem.F.type_list_reverse rG (pv 13)))
  refine ⟨_,aF,?_⟩;intro u_
  exists xc (al (i:=14) sc_law.nd rfl (Or.inl rfl) gJ)
  refine xq ?_;refine xf PassesOwn.never rfl (aJ (pv 13)) (ar (i:=11) sc_law.nd rfl (Or.inl rfl)) ?_
  exists xl (gp (cI hr) (pv 14) (pv 11) (iY (cI hr) (pv 12) (pv 11) (fun _ _=>rfl)) rfl)
  intro u_
  exists xc (al (i:=15) sc_law.nd rfl (Or.inl rfl) (bq ac))
  exists xc (al (i:=16) sc_law.nd rfl (Or.inl rfl) (iT T.mk_Asking (lw T) hr.u rfl T.m_Asking T.x31.b .nil ao (aa (iT T.mk_Code (oG T) hr.u rfl T.m_Code T.x22.b .nil ao (aa (iT T.mk_Blocks (lm T) hr.u rfl T.m_Blocks T.x14.b .nil ao (aa (iT T.mk_Field (mS T) hr.u rfl T.m_Field T.x0.b .nil ao (aa (pv 3) ac)) (aa (pv 4) ac))) (aa (pv 6) ac))) (aa (ay (vY T B) hr.u rfl T.x64.m T.x64.k T.x64.b .nil ao (aa (pv 8) (aa (pv 15) ac))) (aa (pv 9) ac)))))
  exists xc (al (i:=17) sc_law.nd rfl (Or.inl rfl) (ay (ic T B) hr.u rfl T.x51.m T.x51.k T.x51.b .nil ao (aa (pv 16) (aa (pv 14) ac))))
  exists xc (al (i:=18) sc_law.nd rfl (Or.inl rfl) (ay (zb T) hr.u rfl T.x67.m T.x67.k T.x67.b .nil ao (aa (pv 7) (aa (pv 12) (aa (pv 9) (aa (pv 6) (aa (pv 3) ac)))))))
  refine xq ?_;refine xi (PW.pt (bC (bQ (bd (ay (rq T) hr.u rfl T.x68.m T.x68.k T.x68.b .nil ao (aa (pv 17) (aa (pv 18) ac))))) (bC (au (ub hr.units) (pv 14) (pv 12) (ax _)) (bJ (au (kj hr.units) (bP (eZ rfl) rfl T.n_list (by decide +kernel) (aa (pv 14) ac)) (pv 13) (ax _)))))) ?_
  exists xl (av dC)
  refine ⟨_,aF,?_⟩;intro u_
  exists xc (aS (eE PySem.F.plainAttrs_dict PySem.F.slot_dict_clear PySem.F.type_dict_clear xI (pv 17)))
  exists xc (al (i:=19) sc_law.nd rfl (Or.inl rfl) (aA aB rfl T.n_len ab7 (aa (pv 15) ac)))
  refine xq ?_;refine xi (PW.pt (bC (bQ (bd (ay (rq T) hr.u rfl T.x68.m T.x68.k T.x68.b .nil ao (aa (ay (ic T B) hr.u rfl T.x51.m T.x51.k T.x51.b .nil ao (aa (pv 16) (aa (pv 14) ac))) (aa (pv 18) ac))))) (bJ (au eW (aA aB rfl T.n_len ab7 (aa (pv 15) ac)) (pv 19) (ax _))))) ?_
  exists xl (av dC)
  refine ⟨_,aF,?_⟩;intro u_;refine xq ?_;refine xf PassesOwn.never rfl (aW rfl T.n_range (aa (aq aO (pv 1) (pv 2)) ac)) (ar (i:=11) sc_law.nd rfl (Or.inl rfl)) ?_;refine x1 ?_;refine xi (au eW (ay (oW T B) hr.u rfl T.x52.m T.x52.k T.x52.b .nil ao (aa (pv 16) (aa (pv 11) ac))) (aI aH (pv 7) (pv 11) (fun _ _=>rfl)) (ax _)) ?_
  exists xl (av dC)
  refine ⟨_,aF,?_⟩;intro u_;intro u_
  exists xl (av (ay (xY T) hr.u rfl T.x65.m T.x65.k T.x65.b .nil ao (aa (pv 16) (aa (pv 15) (aa (pv 8) (aa (pv 9) ac))))))
  refine ⟨_,rfl,sa,ns,0,rfl,hS,by decide,O,fun c0=>⟨_,rfl,fun tp H1 N M m1 m2 n1 n8 p1 s1 oi=>?_⟩⟩
  refine ⟨tp,_,rfl,SqT.of oi,rfl,_,_,rfl,_,_,rfl,rfl,?_⟩
  have op:=s1.seq hS;refine ⟨_,rfl,sa,ns,1,rfl,op,by decide,O,fun c1=>⟨_,rfl,fun r H2 R s2=>?_⟩⟩
  generalize r.log2=w at R
  have n3:=R.top16
  have pp:=R.top256
  have hH:=s1.trans s2
  have W:Wts w M N plainL:=uC n3 m1 m2 n1 n8;refine ⟨_,rfl,sa,ns,2,rfl,hH.seq hS,by decide,O,fun c2=>?_⟩
  obtain ⟨m0,qa,f9⟩:=modN c2 (n:=16) (by decide)
  have f9:c2 % 16=(m0:Int):=f9;obtain ⟨n,hn⟩:∃ n,n=1+m0:=⟨_,rfl⟩;refine ⟨_,_,rfl,rfl,p0 (by decide),_,_,rfl,rfl,?_⟩
  try dsimp only
  rw [f9,show (1:Int)+(m0:Int)=(n:Int) by omega]
  have n7:1<=n:=by omega
  have dV:n<=16:=by omega
  have ng:w<=8:=R.w8
  have p9:4<=w:=R.w4
  have o8:w * n<=128:=Nat.mul_le_mul ng dV
  have ew:((Builtin.Int.intBits (r:Int):Nat):Int) - 1=(w:Int):=by
   rw [cD R.rule.lo R.rule.hi];omega
  have g5:(w:Int) * (n:Int)=((w * n:Nat):Int):=by simp
  have eL:(1:Int) * 2 ^ ((w:Int) * (n:Int)).toNat=(((2 ^ w) ^ n:Nat):Int):=by rw [g5,jE,Nat.pow_mul]
  have hX:0 < (2 ^ w) ^ n:=Nat.pow_pos (af0 w)
  have hO:(2 ^ w) ^ n<=2 ^ 128:=by
   rw [<- Nat.pow_mul];exact af8 (by decide) o8
  refine ⟨_,rfl,rfl,_,rfl,rfl,_,_,rfl,rfl,?_⟩;try dsimp only
  rw [ew];refine ⟨_,rfl,_,_,rfl,rfl,.inl ⟨by omega,by omega⟩,_,_,rfl,rfl,⟨by rw [g5];omega,by rw [g5];omega,by decide⟩,?_⟩
  try dsimp only
  rw [eL];refine ⟨_,rfl,_,rfl,N,M,rfl,m1,m2,by omega,fun WL H3 ps s3 eY el=>?_⟩
  have kb:=hH.trans s3;refine ⟨_,rfl,_,rfl,_,rfl,sa,ns,9,N,(2 ^ w) ^ n,rfl,kb.seq hS,O,by omega,by omega,hX,hO,fun SL H8 xs s8 q9 od fr hu=>?_⟩
  have nP:=kb.trans s8;refine ⟨_,rfl,_,rfl,SL,WL,ps,r,w,n,M,N,plainL,xs,rfl,R.toGood,od,fr,by omega,m2,hu,s8 _ _ eY,el.same s8,W.lt,fun ML H9 s9 q6 e4=>?_⟩
  have jd:=nP.trans s9
  have gt:=s8.trans s9;obtain ⟨X,en⟩:∃ X,X=cu r w n M N plainL xs:=⟨_,rfl⟩;rw [<- en] at e4
  have an:X.length=N+M:=by rw [en];exact o4 _ _ _ _ _ _ _ fr
  have b4:∀ b∈X,b < (2 ^ w) ^ n:=by rw [en];exact yd R.toGood W hu
  have d4:isMk r w n M N plainL X=true:=by rw [en];exact xZ _ _ _ _ _ _ _ R.toGood W fr
  try dsimp only [L2.start,List.set,List.map,List.append,List.replicate,HAppend.hAppend,Append.append,List.length,Nat.reduceAdd,Nat.reduceSub]
  refine ⟨_,rfl,ML,_,rfl,.inl (SqL.of e4),fun RL kf=>?_⟩
  have dd:=Same.new (o:=.lst (rowV X)) kf
  have cw:(upd H9 RL (.lst (rowV X))) RL=some (.lst (rowV X)):=ab;generalize (upd H9 RL (.lst (rowV X)))=H10 at dd cw
  have dF:=jd.trans dd;refine ⟨_,rfl,sa,ns,3,rfl,dF.seq hS,by decide,O,fun c3=>?_⟩
  refine ⟨_,rfl,_,rfl,_,_,rfl,rfl,?_⟩;try dsimp only
  rw [show (N:Int)+(M:Int)=((N+M:Nat):Int) by omega]
  refine ⟨c3,N+M,rfl,n8,fun CL qs i8 cy ij fa h9 ox=>?_⟩
  have ha:=dd.trans cy
  have ed:=dF.trans cy;refine ⟨_,rfl,sa,ns,7,rfl,ed.seq hS,by decide,O,fun c7=>?_⟩
  obtain ⟨kd,p6,fC⟩:=modN c7 (n:=4) (by decide)
  have fC:c7 % 4=(kd:Int):=fC;refine ⟨_,_,rfl,rfl,p0 (by decide),?_⟩
  try dsimp only
  rw [fC];refine ⟨_,rfl,_,rfl,_,rfl,_,_,rfl,rfl,?_⟩;refine ⟨_,rfl,sa,ns,N+M,M,congrArg (fun z=>[V.ref sa,V.int z,V.int (M:Nat)]) (show (N:Int)+(M:Int)=((N+M:Nat):Int) by omega),ed.seq hS,O,by omega,n8,m2,fun GL q2 gs e1 eo f6 np nv=>⟨GL,rfl,⟨_,SqL.of f6⟩,?_⟩⟩
  have g4:RL≠CL:=am cw ij
  have gx:H9 RL=none:=kf
  have f0:H9 CL=none:=dd.free ij
  have gk:=ha.trans e1
  have hQ:GL≠RL:=fun y=>by rw [y,cy _ _ cw] at eo;cases eo
  have kk:GL≠CL:=fun y=>by rw [y,fa] at eo;cases eo
  refine let I_:Nat->L2.St->Hp->Prop:=fun i σ H'=>L2.E4 fun (cs D:List (Option Nat)) (kd:Nat) (aT:Option V)=>L2.A10 (σ=[some (.ref sa),some (.int (N:Nat)),some (.int (M:Nat)),some (.int (r:Nat)),some (.int (n:Nat)),some (.int (((2 ^ w) ^ n:Nat):Int)),some (.ref WL),some (.ref ML),some (.ref RL),some (.ref CL),some (.int (kd:Nat)),aT,none,none,none,none,none,none,none,none]) (Same H9 H') (H' GL=some (.lst (rowV gs))) (H' RL=some (.lst (rowO D))) (H' CL=some (.lst (rowO cs))) (D.length=N+M) (cs.length=N+M) (bH (N+M) D X) ((∀ j,(cs.getD j none).getD 0<=1000000)) ((List.range (N+M)).countP (gapP cs D)<=i);bR (xs:=rowV gs) I_ ⟨i8.map some,X.map some,kd,none,rfl,gk,f6,by rw [<- mI];exact e1 _ _ (cy _ _ cw),by rw [<- mI];exact e1 _ _ fa,by rw [zM,an],by rw [zM,h9],u5 an,?_,?_⟩ ?_ ?_ ?_
  ·intro j
   rw [zK,zO]
   cases e:i8[j]? with
   | none=>exact ab1 _
   | some x =>
    have:=ox x (aa0 e)
    show x<=1000000
    omega
  ·rw [Nat.le_zero_eq,List.countP_eq_zero]
   intro k hk
   have hk:=aa1.mp hk;unfold gapP;rw [zK,zO,zL (by rw [h9];exact hk),zK,zO,zL (by rw [an];exact hk)]
   exact aa3
  ·rintro i σ H' _ ⟨cs,D,kd,aT,_,_,eu,_⟩
   exact SqL.of eu
  ·rintro i x σ H' hx ⟨cs,D,kd,aT,rfl,sm,eu,eq,eh,c4,U,a8,a6,df⟩
   obtain ⟨g,eg,rfl⟩:=aQ hx
   have hg:=nv g (aa0 eg)
   have f3:((kd:Int) / 2)=((kd / 2:Nat):Int):=by omega
   refine ⟨_,rfl,_,_,rfl,rfl,p0 (by decide),rfl,_,rfl,?_⟩
   refine ite2 (fun _=>?_) (fun _=>?_)
   ·refine ⟨_,rfl,_,rfl,RL,_,_,g,rfl,rfl,eq,da (by rw [aP,c4];exact hg),?_⟩
    refine ⟨_,rfl,_,_,rfl,rfl,⟨by decide,by decide⟩,?_⟩
    try dsimp only
    rw [f3,show (V.non:V)=valO none from rfl,gP];exact ⟨cs,D.set g none,kd / 2,_,rfl,sm.up gx,by rw [ae hQ];exact eu,ab,by rw [ae (ad3 g4)];exact eh,by rw [ae6,c4],U,fun j hj b hb=>a8 j hj b (pd hb),a6,zR (yq hg) (Nat.add_le_add_right df 1)⟩
   ·refine ⟨_,rfl,_,rfl,CL,_,_,g,rfl,rfl,eh,da (by rw [aP,U];exact hg),?_⟩
    refine ⟨_,rfl,_,_,rfl,rfl,⟨by decide,by decide⟩,?_⟩
    try dsimp only
    rw [f3,show (V.non:V)=valO none from rfl,gP];refine ⟨cs.set g none,D,kd / 2,_,rfl,sm.up f0,by rw [ae kk];exact eu,by rw [ae g4];exact eq,ab,c4,by rw [ae6,U],a8,fun j=>?_,zR (wy hg) (Nat.add_le_add_right df 1)⟩
    cases e:(cs.set g none).getD j none with
    | none=>exact ab1 _
    | some b =>
     have:=a6 j;rw [pd e] at this;exact this
  rintro σ p4 ⟨cs,D,kd,aT,rfl,sm,_,eq,eh,c4,U,a8,a6,df⟩;rw [aj] at df
  have gV:(List.range (N+M)).countP (gapP cs D)<=M:=zR df np
  have dW:=jd.trans sm;clear dd cw dF cy fa ha ed e1 f6 gk g4 hQ kk gx f0;refine ⟨_,rfl,_,rfl,sa,ns,8,rfl,dW.seq hS,by decide,O,fun c8=>?_⟩
  refine ⟨_,rfl,_,rfl,sa,ns,c8,16,N,(2 ^ w) ^ n,rfl,dW.seq hS,O,by omega,n1,by omega,hX,hO,fun ND Y nk nb a7 q3 em i2 oL hG=>?_⟩
  have g2:=dW.trans a7
  have f8:=a7 _ _ eq
  have g6:=a7 _ _ eh
  have h0:∀ k∈nk,k < N:=fun k hk=>(hG k hk).1
  have k2:nk.Nodup:=by rw [i2];exact af2 _ ai0
  try dsimp only [L2.start,List.set,List.map,List.append,List.replicate,HAppend.hAppend,Append.append,List.length,Nat.reduceAdd,Nat.reduceSub]
  refine ⟨_,rfl,ND,_,_,rfl,em,bN _ _,fun OL h7=>?_⟩;rw [gZ]
  have ez:=Same.new (o:=.lst (rowV nk)) h7
  have c5:=ab (H:=Y) (a:=OL) (o:=.lst (rowV nk))
  have f5:∀ o,upd (upd Y OL (.lst (rowV nk))) OL o=upd Y OL o:=fun o=>by
   funext b
   by_cases z:b=OL
   ·rw [z,ab,ab]
   ·rw [ae z,ae z,ae z]
  have oe:(upd Y OL (.lst (rowV nk)))=upd Y OL (.lst (rowV nk)):=rfl;generalize m8:(upd Y OL (.lst (rowV nk)))=H15 at ez c5 f5;refine ⟨_,rfl,sa,ns,7,rfl,(g2.trans ez).seq hS,by decide,O,fun c9=>?_⟩
  refine ⟨_,_,rfl,rfl,⟨by decide,by decide⟩,_,_,rfl,rfl,p0 (by decide),rfl,_,rfl,?_⟩
  refine kP (fun H'=>∃ C:List Nat,(∀ k,k∈C ↔ k∈nk)/\C.length=nk.length/\C.Nodup/\H' OL=some (.lst (rowV C))/\Same Y H') (fun ks=>by
   refine ite2 (fun _=>?_) (fun _=>?_)
   ·refine ⟨_,rfl,.inl ⟨rfl,_,SqL.of c5⟩,OL,_,rfl,rfl,c5,?_⟩
    rw [f5];refine ks _ ⟨nk.reverse,fun k=>List.mem_reverse,List.length_reverse,(List.pairwise_reverse.mpr (k2.imp fun h=>ad3 h)),?_,Same.new h7⟩;rw [ab];unfold rowV;rw [List.map_reverse]
   ·exact ks H15 ⟨nk,fun k=>Iff.rfl,rfl,k2,c5,ez⟩) ?_
  rintro j2 ⟨C,a4,ce,f1,mu,iv⟩;clear oe f5 c5 ez m8
  have a1:∀ k∈C,k < N:=fun k hk=>h0 k ((a4 k).mp hk)
  have hL:C≠[]:=fun e=>by
   rw [e] at ce;exact oL (List.length_eq_zero_iff.mp ce.symm)
  refine fun HD e7=>?_
  have k3:=iv.trans (Same.new (o:=.dK []) e7)
  have eb:=ab (H:=j2) (a:=HD) (o:=.dK [])
  have cp:=(Same.new (o:=.dK []) e7) _ _ mu;generalize (upd j2 HD (.dK []))=H17 at k3 eb cp
  have hA:Y HD=none:=iv.free e7
  have n2:OL≠HD:=aN cp eb (fun y=>by cases y)
  try dsimp only [L2.start,List.set,List.map,List.append,List.replicate,HAppend.hAppend,Append.append,List.length,Nat.reduceAdd,Nat.reduceSub]
  refine ⟨_,rfl,OL,rfl,⟨_,SqL.of cp⟩,?_⟩;refine let I_:Nat->L2.St->Hp->Prop:=fun i σ H'=>L2.A4 ((∃ aT:Option V,σ=[some (.ref sa),some (.int (N:Nat)),some (.int (M:Nat)),some (.int (r:Nat)),some (.int (n:Nat)),some (.int (((2 ^ w) ^ n:Nat):Int)),some (.ref WL),some (.ref ML),some (.ref RL),some (.ref CL),some (.int (kd:Nat)),aT,some (.ref ND),some (.ref OL),some (.ref HD),none,none,none,none,none])) (Same Y H') (H' OL=some (.lst (rowV C))) (H' HD=some (.dK (aG (C.take i) nb)));bR (xs:=rowV C) I_ ⟨⟨_,rfl⟩,k3,cp,eb⟩ ?_ ?_ ?_
  ·rintro i σ H' _ ⟨_,_,h,_⟩
   exact SqL.of h
  ·rintro i y σ H' hy ⟨⟨n4,rfl⟩,sm,h1,h2⟩
   obtain ⟨k,ek,rfl⟩:=aQ hy
   have o2:=aa0 ek
   have dg:=DGet.k (k:=Sum.inl ((k:Nat):Int)) (sm _ _ em);rw [bT,if_pos ((a4 k).mp o2)] at dg
   have nq:k∉C.take i:=jS f1 ek;refine ⟨_,rfl,_,rfl,ND,_,rfl,dg,_,rfl,_,rfl,HD,_,rfl,DPut.k (k:=Sum.inl ((k:Nat):Int)) h2 ?_,?_⟩
   ·rw [cV]
    have h3:nk.length<=N:=by
     rw [i2];exact cz
    exact ae7 (by rw [ag0];omega:_<=8) (by decide)
   refine ⟨⟨_,rfl⟩,sm.up hA,by rw [ae n2];exact h1,?_⟩
   rw [ab,dA nq,← dy ek]
  rintro σ g3 ⟨⟨n4,rfl⟩,a5,e6,ea⟩;rw [aj,ai1] at ea
  have lk:=g2.trans a5;refine ⟨ab1 _,fun z nz=>?_⟩
  have cv:=Same.new (o:=.lst []) nz
  have e5:(upd g3 z (.lst [])) z=some (.lst (rowV [])):=ab
  have mx:=nz;generalize (upd g3 z (.lst []))=H19 at cv e5
  have b0:=a5.trans cv
  have ln:=lk.trans cv;try dsimp only [L2.start,List.set,List.map,List.append,List.replicate,HAppend.hAppend,Append.append,List.length,Nat.reduceAdd,Nat.reduceSub]
  refine ⟨_,rfl,fun x dx nx oT qq=>⟨x,dx,r,w,rfl,ab,R.toGood,rfl,?_⟩⟩
  have s5:=ur (a:=a) (r:=r) (w:=w) (Same.refl H19) nx oT
  have hF:FieldAt a.C_Field (upd (upd (upd H19 dx (.own x)) x (.ins a.C_Field dx [])) x (.ins a.C_Field dx (ff r w))) x r w:=⟨dx,ab⟩;generalize (upd (upd (upd H19 dx (.own x)) x (.ins a.C_Field dx [])) x (.ins a.C_Field dx (ff r w)))=H20 at s5 hF;refine ⟨_,rfl,fun b db gi kw q7=>⟨b,db,x,r,w,n,rfl,ab,?_,?_,R.toGood,n7,dV,rfl,?_⟩⟩
  ·obtain ⟨d,e⟩:=hF
   exact ⟨d,by rw [ae (am e gi),ae (am e kw)];exact e⟩
  ·obtain ⟨d,e⟩:=hF
   exact (am e gi).symm
  have s6:=rZ (a:=a) (fp:=x) (w:=w) (n:=n) (Same.refl H20) gi kw
  have hB:BlocksAt a (upd (upd (upd H20 db (.own b)) b (.ins a.C_Blocks db [])) b (.ins a.C_Blocks db (bf x w n))) b x r w n:=⟨⟨db,ab⟩,hF.same s6⟩;generalize (upd (upd (upd H20 db (.own b)) b (.ins a.C_Blocks db [])) b (.ins a.C_Blocks db (bf x w n)))=H21 at s6 hB
  have eH:=s5.trans s6
  have cc:=(((gt.trans sm).trans a7).trans b0).trans eH;refine ⟨_,rfl,fun c dc nc n0 p8=>?_⟩
  have s7:Same H21 (upd (upd H21 dc (.own c)) c (.ins a.C_Code dc [])):=fun y o e=>by
   rw [ae (am e nc),ae (am e n0)];exact e
  refine ⟨c,dc,b,x,WL,r,w,n,M,N,ps,plainL,rfl,ab,hB.same s7,R.toGood,s7 _ _ (cc _ _ eY),el.same (cc.trans s7),W,fun l ot m6=>⟨rfl,?_⟩⟩
  have ch:Same H21 l:=fun y o e=>ot y o (am e nc) (s7 _ _ e)
  have S:=eH.trans ch
  have dl:=ln.trans S
  have b6:=b0.trans S
  have ho:=dl _ _ ov
  have a3:=dl _ _ pa
  have hm:=dl _ _ nL
  have ds:=S _ _ e5
  have lp:=((((sm.trans a7).trans b0).trans S)) _ _ e4
  have mA:=(cc.trans ch) _ _ eY
  have g1:=el.same (cc.trans ch)
  have ms:=b6 _ _ f8
  have mb:=b6 _ _ g6
  have lf:=b6 _ _ em
  have ls:=(cv.trans S) _ _ e6
  have mc:=(cv.trans S) _ _ ea
  have q1:=m1
  have hK:l z=some (.lst []):=ds
  have ik:=m6.hideZ m1 hK
  have sz:Same (aL [z] l) l:=fh _ _
  have e2:∀ {p:Addr}{o:HO},l p=some o->p≠z->aL [z] l p=some o:=fun {p o} e n=>by
   rw [cT fun y=>n (aa6.mp y)];exact e
  have zt:∀ {p:Addr}{ps:Array Value},l p=some (.tbl ps)->aL [z] l p=some (.tbl ps):=fun {p ps} e=>e2 e (aN e hK (fun y=>by cases y))
  have ec:∀ p∈[a.t38,a.t47,a.t64],∃ ps,aL [z] l p=some (.tbl ps):=fun p hp=>by
   rcases aa5.mp hp with y | y
   ·rw [y];exact ⟨_,zt ho⟩
   rcases aa5.mp y with y | y
   ·rw [y];exact ⟨_,zt hm⟩
   ·rw [aa6.mp y];exact ⟨_,zt a3⟩
  have hc:=ik.hide ec
  have hR:aL [z] l z=none:=bM (.head _)
  have hk:∀ {p:Addr}{o:HO},l p=some o->p≠z->(∀ ps,o≠.tbl ps)->aL [a.t38,a.t47,a.t64] (aL [z] l) p=some o:=fun {p o} e n m=>by
   rw [cT fun y=>?_]
   ·exact e2 e n
   ·obtain ⟨ps,y⟩:=ec p y
    rw [e2 e n] at y;exact m ps (zX y)
  have Z:∀ {p:Addr}{o:HO},g3 p=some o->p≠z:=fun {p o} e=>am e mx
  have a9:∀ {xs:List V} (ps:Array Value),HO.lst xs≠.tbl ps:=fun _ y=>by cases y
  have k5:∀ {xs:List (Key × V)} (ps:Array Value),HO.dK xs≠.tbl ps:=fun _ y=>by cases y
  have dB:=(sm.trans a7).trans a5
  have e8:=hk lp (Z (dB _ _ e4)) a9
  have kc:=hk mA (Z ((gt.trans dB) _ _ eY)) a9
  have h4:TabAt (aL [a.t38,a.t47,a.t64] (aL [z] l)) ps M (rowT N plainL):=⟨g1.len,fun i p e=>hk (g1.on i p e) (Z ((gt.trans dB) _ _ (el.on i p e))) a9⟩
  have k1:=hk ms (Z (a5 _ _ f8)) a9
  have b1:=hk mb (Z (a5 _ _ g6)) a9
  have f2:=hk lf (Z (a5 _ _ em)) k5
  have hM:=hk ls (Z e6) a9
  have c6:=hk mc (Z ea) k5
  have sG:Same (aL [a.t38,a.t47,a.t64] (aL [z] l)) l:=(fh _ _).trans sz
  have ko:aL [a.t38,a.t47,a.t64] (aL [z] l) z=none:=(fh _ _).free hR
  have k0:aL [a.t38,a.t47,a.t64] (aL [z] l) a.t38=none:=bM (by simp)
  have j1:aL [a.t38,a.t47,a.t64] (aL [z] l) a.t64=none:=bM (by simp)
  have i1:aL [a.t38,a.t47,a.t64] (aL [z] l) a.t47=none:=bM (by simp)
  have T1:TabS l a.t38 posL qL:=⟨_,ho,.inl rfl⟩
  have T2:TabS l a.t64 (posD inA) qA:=⟨_,a3,.inl rfl⟩
  have T3:TabS l a.t47 posW qW:=⟨_,hm,.inl rfl⟩;generalize aL [a.t38,a.t47,a.t64] (aL [z] l)=G at hc e8 kc h4 k1 b1 f2 hM c6 sG ko k0 j1 i1 hk;clear hk e2 zt ec Z ik sz hR;refine ⟨_,rfl,_,rfl,RL,z,rfl,T2,fun h5 f ej p2 nf hf pu=>?_⟩
  have t1:=T1.kp B.d_Asking_order_asker a3 ej
  have t3:=T3.kp B.d_next_way_asker a3 ej
  have js:Same G h5:=fun b o e=>ej b o (fun y=>by rw [y,j1] at e;cases e) (sG b o e)
  have mt:=ej _ _ (aN ds a3 (fun y=>by cases y)) ds
  refine ⟨_,rfl,fun ak dk kS hq p5=>?_⟩
  have hW:Same G (upd (upd h5 dk (.own ak)) ak (.ins a.C_Asking dk [])):=fun b o e=>by
   have e3:=js b o e;rw [ae (am e3 kS),ae (am e3 hq)];exact e3
  refine ⟨ak,dk,c,b,x,f,CL,r,w,n,M,N,plainL,cs,rfl,ab,hc.same hW,W,SqL.of (hW _ _ b1),by rw [U];exact n8,fun hN cl rl sl no ly n6 nrl nsl d1 d2 d3 le na oc=>?_⟩
  obtain ⟨p3,n5,_⟩:=id t3;obtain ⟨I,J,ey,hw⟩:=wj [a.t47] js hc R dV W k1 c4 ko k0 hf mt t1 U kS hq no ly n6 nrl nsl d1 d2 d3 le na oc (fun y hy=>by rw [aa6.mp hy];exact ⟨i1,.inr ⟨_,n5⟩⟩)
  have nT:=t3.keep hw
  have nW:aL [z,rl,sl,a.t38,a.t47] hN a.t47=none:=bM (by simp)
  refine ⟨rfl,?_⟩;generalize aL [z,rl,sl,a.t38,a.t47] hN=H0 at I J ey nW
  have hC:∀ k∈bh N plainL (thrL M N cs) C,k < N+M:=fun k hk=>by
   have:=(restL_mem.mp hk).1;omega
  have kg:∀ k∈chgL N plainL (thrL M N cs) (srtN N C),k < N+M:=rn fun t h=>(thr_mem.mp h).1;try dsimp only [L2.start,List.set,List.map,List.append,List.replicate,HAppend.hAppend,Append.append,List.length,Nat.reduceAdd,Nat.reduceSub]
  refine ⟨_,rfl,_,rfl,H0,_,HD,r,w,n,M,N,plainL,cs,D,_,[],X,C,nb,rfl,I,J,nT,nW,ey _ _ c6,f1,a1,a6,⟨an,b4,d4,uN _ _⟩,a8,fun q8 os as b' he eT es ob=>?_⟩;rw [mH a1 hL] at he ⊢
  have lD:=yr hC kg he (re _ _ _);obtain ⟨hb,eR⟩:=wz R.toGood W gV hC kg he (re _ _ _);subst hb
  have ef:=zc R.toGood W es.osl (zR yt gV) a1 eR
  have hP:aG (bD N cs (thrL M N cs) C) (laidV r w n N plainL C nb X)=aG ((List.range (N+M)).filter (dueB N cs nk)) fun k=>(cu r w n M N plainL (bX N nk nb X)).getD k 0:=by
   rw [<- wx h0];unfold bD laidV;rw [wA a4,wB a4]
  rw [hP];refine ⟨fun _ _ LD nm ht=>?_,fun y=>absurd y (by rw [ef];decide)⟩
  have ad:=ey.trans es.sm;refine ⟨_,rfl,_,rfl,_,rfl,_,rfl,_,rfl,ML,ND,CL,WL,ps,r,w,n,M,N,plainL,cs,nk,X,nb,rfl,R.toGood,m1,m2,n8,W.lt,ad _ _ e8,an,b4,ad _ _ f2,fun k hk=>(hG k hk).2,ad _ _ b1,U,ad _ _ kc,h4.same ad,fun DD qn ka ge il=>?_⟩;generalize (fun k=>(cu r w n M N plainL (bX N nk nb X)).getD k 0)=fv at *;generalize (List.range (N+M)).filter (dueB N cs nk)=kv at *;try dsimp only [L2.start,List.set,List.map,List.append,List.replicate,HAppend.hAppend,Append.append,List.length,Nat.reduceAdd,Nat.reduceSub]
  refine ⟨_,rfl,_,rfl,LD,DD,kv,fv,rfl,ka _ _ ht,il,fun kl hY=>⟨_,rfl,?_⟩⟩;refine ite2 (fun y=>absurd y (by decide)) (fun _=>?_)
  have ep:=ka.trans hY
  have b3:=ad.trans ep;refine ⟨_,rfl,_,rfl,HD,ND,_,_,rfl,rfl,b3 _ _ c6,b3 _ _ f2,fk _ _,fk _ _,_,rfl,?_⟩;rw [u7 a4 ce];refine ite2 (fun y=>absurd y (by decide)) (fun _=>?_)
  refine ⟨_,rfl,HD,_,_,rfl,b3 _ _ c6,bN _ _,fun l1 nH=>?_⟩;rw [gZ]
  have et:=Same.new (o:=.lst (rowV C)) nH
  have hv:=ab (H:=kl) (a:=l1) (o:=.lst (rowV C));generalize (upd kl l1 (.lst (rowV C)))=H28 at et hv
  have ck:=ep.trans et
  have ml:=b3.trans et;refine ⟨_,rfl,dRow C,dRow C,dz hv,dz (ml _ _ hM),rfl,rfl,⟨_,rfl⟩,jP C,_,rfl,?_⟩;refine ite2 (fun y=>absurd y (by rw [cP];decide)) (fun _=>?_)
  have a0:=ck _ _ ht;refine ⟨_,rfl,.inr (.inr (.inl ⟨rfl,.inl ⟨_,a0⟩⟩)),LD,_,rfl,rfl,a0,?_⟩
  have aw:=(es.same ck).upD (o:=.dK []) nm a0
  have f4:=(ob.keep ck).upD (o:=.dK []) a0
  have L:(upd H28 LD (.dK [])) DD=some (.dK (aG kv fv)):=by
   rw [ae (fun y=>by rw [y,ht] at ge;cases ge)]
   exact (hY.trans et) _ _ il
  generalize (upd H28 LD (.dK []))=H29 at aw f4 L;refine ⟨_,rfl,z,_,rfl,.inl (SqL.of aw.hz),?_⟩
  have lb:H0 DD=none:=es.sm.free ge;obtain ⟨pt,oD,_⟩:=id aw.tab
  have I':=I.extH aw L (aN aw.hr L (fun y=>by cases y)) (aN aw.hs L (fun y=>by cases y)) (aN aw.hz L (fun y=>by cases y)) (aN oD L (fun y=>by cases y))
  have fl:=aw.ext L
  have cr:=ey.trans (Same.new (o:=.dK (aG kv fv)) lb)
  have gX:=ab (H:=H0) (a:=DD) (o:=.dK (aG kv fv))
  have kz:(upd H0 DD (.dK (aG kv fv))) a.t47=none:=by
   obtain ⟨pw,nn,_⟩:=id f4;rw [ae (aN nn L (fun y=>by cases y))]
   exact nW
  generalize (upd H0 DD (.dK (aG kv fv)))=Hb at I' fl cr gX kz;try dsimp only [L2.start,List.set,List.map,List.append,List.replicate,HAppend.hAppend,Append.append,List.length,Nat.reduceAdd,Nat.reduceSub]
  refine ⟨_,rfl,_,rfl,Hb,_,HD,r,w,n,M,N,plainL,cs,D,os,as,X,C,nb,rfl,I',fl,f4,kz,cr _ _ c6,f1,a1,a6,⟨an,b4,d4,eT⟩,a8,fun q0 fy ei b2 fb pl h8 qb=>?_⟩;rw [mH a1 hL] at fb ⊢;obtain ⟨rfl,rfl,rfl⟩:=wu eR fb;rw [hP];refine ⟨fun _ _ ou pL l2=>?_,fun y=>absurd y (by rw [ef];decide)⟩
  refine ⟨_,rfl,ou,DD,kv,fv,rfl,l2,h8.sm _ _ gX,fun ra ph=>⟨_,rfl,?_⟩⟩;refine ite2 (fun y=>absurd y (by decide)) (fun _=>?_)
  have h6:=h8.same ph;refine ⟨_,rfl,z,_,rfl,.inl (SqL.of h6.hz),_,rfl,rfl,_,rfl,?_⟩;refine ite2 (fun y=>absurd y (oy rfl)) (fun _=>?_);refine ⟨_,rfl,_,rfl,_,_,rfl,rfl,((N+M:Nat):Int),congrArg (fun z=>[V.int z]) (show (N:Int)+(M:Int)=((N+M:Nat):Int) by omega),by omega,by omega,?_⟩
  refine let I_:Nat->L2.St->Hp->Prop:=fun i σ H'=>L2.E3 fun (aT:Option V) (a2:List (Option Nat)) (bm:List Nat)=>L2.A4 (σ=[some (.ref sa),some (.int (N:Nat)),some (.int (M:Nat)),some (.int (r:Nat)),some (.int (n:Nat)),some (.int (((2 ^ w) ^ n:Nat):Int)),some (.ref WL),some (.ref ML),some (.ref RL),some (.ref CL),some (.int (kd:Nat)),aT,some (.ref ND),some (.ref OL),some (.ref HD),some (.ref z),some (.ref ak),some (.ref LD),some (.ref DD),some (.int ((rowV ei).length:Nat))]) (AskM a Hb H' ⟨ak,c,b,x,f,cl,rl,sl,RL,z⟩ (N+M) a2 bm) (OkA (N+M) cs D a2 bm) (bH (N+M) a2 X);bO (lo:=0) (n:=N+M) I_ ⟨_,fy,ei,rfl,h6,lD,eT⟩ ?_ ?_
  ·rintro i σ o1 hi ⟨ny,a2,bm,rfl,er,b5,f7⟩
   rw [show (0:Int)+(i:Nat)=((i:Nat):Int) by omega]
   refine ⟨_,rfl,_,rfl,Hb,_,r,w,n,M,N,i,plainL,cs,D,a2,bm,X,rfl,I',er,hi,a6,an,b4,d4,a8,f7,fun q4 fy ei b kn l0 ih=>?_⟩
   have ld:=xV hi kn b5
   have hb:=wg R.toGood W hi gV kn b5;subst hb;rw [if_pos rfl]
   have eX:(rowV X)[i]?=some (.int ((X.getD i 0:Nat):Int)):=bw (by rw [an];exact hi)
   refine ⟨_,rfl,_,rfl,ML,_,_,_,rfl,rfl,SqL.of ((cr.trans ih.sm) _ _ e8),aC eX,rfl,_,rfl,?_⟩;refine ite2 (fun y=>absurd y (oy rfl)) (fun _=>?_);exact ⟨_,fy,ei,rfl,ih,ld,l0⟩
  ·rintro σ o1 ⟨ny,a2,bm,rfl,er,b5,f7⟩
   exact ⟨_,rfl,_,rfl,_,rfl,_,rfl,Hb,_,CL,r,w,n,M,N,plainL,cs,D,a2,bm,rfl,I',er,(cr.trans er.sm) _ _ b1,b5,fun H' _=>q H'⟩
theorem walk {l:PySem.W.OpenLaw}{q:Program}{loose:List Str}{XP:(Str->Option Value)->Heap->Prop}{YP:World->Heap->Prop}{d:DefRec}{K:Params->PySem.W.Frag}{ts:List Addr} (hn:l.most=some 63) (hdf:d.params.defaults=[])
  (hY:∀ (w:World) (h:Heap),YP w h->(K w.params).In h/\∀ p∈ts,h.get? p=some (PySem.W.tabObj #[]))
  (F:∀ (w:World) (mg:Str->Option Value) (fa:Addr) (h:Heap),(K w.params).In h->h.Ns mainGlobals mg->mg d.name=some (.ref fa) →
   ∃ fd:FuncData,(∀ (s:Shared) (u:Value),BindsTo s fd ⟨[u],[]⟩ [("_law_script",u)])∧(∀ p∈ts,(K w.params).lookup p=none)∧(∀ p∈ts,∃ c,PySem.W.codeHdIn (K w.params) c p=true) ∧ ∀ base:Heap,(K w.params).In base→base.Ns mainGlobals mg→(∀ p∈ts,mainGlobals≠p∧base.BuiltinsAt mg p)→FnOk l.prog w (K w.params) mg base CX0 14 fa fd ["_law_script"] (iQ (K w.params) ts)) :
  PySem.W.WalkO q loose XP YP l.row.toRowW d [] (fun f vs=>PySem.call f vs) :=
 L2.walk_ofT (n:=63) (k:=14) (x:="_law_script") (CX:=fun _=>CX0) (sp:=fun w=>iQ (K w.params) ts) hn (by decide) hdf ⟨rfl,by decide,by decide,rfl⟩ hY F (fun _ _ a ns hl hS hT=>⟨a,ns,rfl,hS,hl,hT,fun _=>rfl⟩) fun _ _ _ _ _ z=>z
end My
namespace My
open PySem L2 PyProof.Rows
theorem txt_ex {K:PySem.W.Frag}{mg:Str->Option Value}{ts:List Addr}{z0 z1 z2 z3 z4 z5 z6 z7 z8 z9 z10 z11 z12 z13 z14 z15 z16 z17 z18 z19 z20 z21 z22 z23 z24 z25 z26 z27 z28 z29 z30 z31 z32 z33 z34 z35 z36 z37 z38 z39 z40 z41 z42 z43 z44 z45 z46 z47 z48 z49 z50 z51 z52 z53 z54 z55 z56 z57 z58 z59 z60 z61 z62 z63 z64 z65 z66 z67 z68 z69 z70 z71 z72 z73 z74 z75 z76 z77 z78 z79:Addr}{z80 z81 z82 z83 z84:Tok} (T:Txt K mg ⟨z0,z1,z2,z3,z4,z5,z6,z7,z8,z9,z10,z11,z12,z13,z14,z15,z16,z17,z18,z19,z20,z21,z22,z23,z24,z25,z26,z27,z28,z29,z30,z31,z32,z33,z34,z35,z36,z37,z38,z39,z40,z41,z42,z43,z44,z45,z46,z47,z48,z49,z50,z51,z52,z53,z54,z55,z56,z57,z58,z59,z60,z61,z62,z63,z64,z65,z66,z67,z68,z69,z70,z71,z72,z73,z74,z75,z76,z77,z78,z79,z80,z81,z82,z83,z84⟩) (E:ts.Perm [z75,z77,z79]):∃ a:Adr,Txt K mg a/\ts.Perm [a.t38,a.t47,a.t64]:=⟨_,T,E⟩
theorem fin {P:Program}{w:World}{K:PySem.W.Frag}{mg:Str→Option Value}{fa:Addr}{h:Heap}{ts:List Addr} (_:K.In h) (hmg:mg "law" = some (.ref fa)) (nd:ts.Nodup) (T:∃ a:Adr,Txt K mg a∧ts.Perm [a.t38,a.t47,a.t64]) :
  ∃ fd:FuncData,(∀ (s:Shared) (u:Value),BindsTo s fd ⟨[u],[]⟩ [("_law_script",u)])∧(∀ p∈ts,K.lookup p=none)∧(∀ p∈ts,∃ c,PySem.W.codeHdIn K c p=true) ∧ ∀ base:Heap,K.In base→base.Ns mainGlobals mg→(∀ p∈ts,mainGlobals≠p∧base.BuiltinsAt mg p)→FnOk P w K mg base CX0 14 fa fd ["_law_script"] (iQ K ts):=by
 obtain ⟨a,T,hp⟩:=T
 cases hmg.symm.trans T.x69.m;refine ⟨fd K a.f69,fun s v=>?_,fun p z=>?_,fun p z=>?_,fun base kb nb hB=>(zd T ⟨(hB _ (hp.mem_iff.mpr (by simp))).2,(hB _ (hp.mem_iff.mpr (by simp))).1,(hB _ (hp.mem_iff.mpr (by simp))).2,(hB _ (hp.mem_iff.mpr (by simp))).1,(hB _ (hp.mem_iff.mpr (by simp))).2,(hB _ (hp.mem_iff.mpr (by simp))).1,(by have:=hp.nodup_iff.mp nd;simp at this;simp [this]),(by have:=hp.nodup_iff.mp nd;simp at this;simp [this]),(by have:=hp.nodup_iff.mp nd;simp at this;simp [this])⟩).imp fun vs H Q E ⟨s,n,e,y,l,t,q⟩=>⟨s,n,e,y,l,fun p z=>t p (hp.mem_iff.mpr z),q⟩⟩
 ·obtain ⟨_,_,_,_,_,_,_,_,_,e,_⟩:=T.x69.F.ex
  rw [e];exact .of_eq rfl
 ·have z:=hp.mem_iff.mp z
  simp at z
  rcases z with z | z | z
  ·rw [z];exact T.x38.nl
  ·rw [z];exact T.x47.nl
  ·rw [z];exact T.x64.nl
 ·have z:=hp.mem_iff.mp z
  simp at z
  rcases z with z | z | z
  ·rw [z];exact ⟨_,T.x38.F.hd⟩
  ·rw [z];exact ⟨_,T.x47.F.hd⟩
  ·rw [z];exact ⟨_,T.x64.F.hd⟩
end My
open PySem PySem.W PyProof.Rows
-- names the tactics below would else use for second copies of large terms;nothing uses these
def PySem.W.Fast.tw4445428543364776888:Nat:=0
def PySem.W.Fast.tw195249357753984825:Nat:=0
def PySem.W.Fast.tw2553821337726899342:Nat:=0
def PySem.W.Fast.tw1886339419407210527:Nat:=0
def PySem.W.Fast.tw1114052906100699590:Nat:=0
def PySem.W.Fast.tw17792154880344886772:Nat:=0
def PySem.W.Fast.tw660560256900020642:Nat:=0
def PySem.W.Fast.tw1684396360425829167:Nat:=0
def PySem.W.Fast.tw14609305554598084108:Nat:=0
def PySem.W.Fast.tw7047136146981654263:Nat:=0
def PySem.W.Fast.tw1039289776702650508:Nat:=0
def PySem.W.Fast.tw7943583157015507819:Nat:=0
def PySem.W.Fast.tw12256177026689341466:Nat:=0
def PySem.W.Fast.tw3775196870468402016:Nat:=0
def PySem.W.Fast.tw12730270131286435205:Nat:=0
def PySem.W.Fast.tw15657881660548225316:Nat:=0
def PySem.W.Fast.tw17539253587779201764:Nat:=0
def PySem.W.Fast.tw3360104181203641624:Nat:=0
def PySem.W.Fast.tw1161964959719933442:Nat:=0
def PySem.W.Fast.tw2306962870774274366:Nat:=0
def PySem.W.Fast.tw12092754237676876320:Nat:=0
def PySem.W.Fast.tw703371230303171362:Nat:=0
def PySem.W.Fast.tw3721247189537671153:Nat:=0
def PySem.W.Fast.tw3752305651921837172:Nat:=0
def PySem.W.Fast.tw5394117449275054559:Nat:=0
def PySem.W.Fast.tw11866433632741181360:Nat:=0
def PySem.W.Fast.tw2450100497462254773:Nat:=0
def PySem.W.Fast.tw10173051422471146434:Nat:=0
def PySem.W.Fast.tw17083160000267089759:Nat:=0
def PySem.W.Fast.tw15385665571508717606:Nat:=0
def PySem.W.Fast.tw17792819114015718914:Nat:=0
def PySem.W.Fast.tw1989781278889462010:Nat:=0
def PySem.W.Fast.tw14516518787947717338:Nat:=0
def PySem.W.Fast.tw1226808751000978136:Nat:=0
def PySem.W.Fast.tw2692079884303470827:Nat:=0
def PySem.W.Fast.tw5561090168916861532:Nat:=0
def PySem.W.Fast.tw8246670934914699919:Nat:=0
def PySem.W.Fast.tw15322630103383155118:Nat:=0
def PySem.W.Fast.tw17528867200987796732:Nat:=0
def PySem.W.Fast.tw2227934303100179191:Nat:=0
def PySem.W.Fast.tw12122488039805313776:Nat:=0
def PySem.W.Fast.tw12992883825379203246:Nat:=0
def PySem.W.Fast.tw10058923079873672581:Nat:=0
def PySem.W.Fast.tw17684690421865296524:Nat:=0
def PySem.W.Fast.tw14350474486169604377:Nat:=0
def PySem.W.Fast.tw1123114783414007414:Nat:=0
def PySem.W.Fast.tw10735164353229759483:Nat:=0
def PySem.W.Fast.tw15778591345326805583:Nat:=0
def PySem.W.Fast.tw879326405402906219:Nat:=0
def PySem.W.Fast.tw16254570667146996825:Nat:=0
def PySem.W.Fast.tw5575364830188396323:Nat:=0
def PySem.W.Fast.tw8656263574395087770:Nat:=0
def PySem.W.Fast.tw15774012395038301578:Nat:=0
def PySem.W.Fast.tw9111682260825349812:Nat:=0
def PySem.W.Fast.tw16846024230887115961:Nat:=0
def PySem.W.Fast.tw307079834160071740:Nat:=0
def PySem.W.Fast.tw9978071642811329587:Nat:=0
def PySem.W.Fast.tw12784237574349680592:Nat:=0
def PySem.W.Fast.tw2822923200629602653:Nat:=0
def PySem.W.Fast.tw2406280271940394821:Nat:=0
def PySem.W.Fast.tw17229766027323929188:Nat:=0
def PySem.W.Fast.tw11273213782689996216:Nat:=0
def PySem.W.Fast.tw16485932933933222704:Nat:=0
def PySem.W.Fast.tw7636774092239110891:Nat:=0
def PySem.W.Fast.tw4812128794507978746:Nat:=0
def PySem.W.Fast.tw6812779218386047963:Nat:=0
def PySem.W.Fast.tw4187000068049538997:Nat:=0
def PySem.W.Fast.tw9075370786357797330:Nat:=0
def PySem.W.Fast.tw8616489635523704182:Nat:=0
def PySem.W.Fast.tw12645747572488850319:Nat:=0
def PySem.W.Fast.tw12122930012760361737:Nat:=0
def PySem.W.Fast.tw6412999079717586212:Nat:=0
def PySem.W.Fast.tw14169407851186714394:Nat:=0
def PySem.W.Fast.tw17098184030121530549:Nat:=0
def PySem.W.Fast.tw7814664725873448835:Nat:=0
def PySem.W.Fast.tw5913385576215407276:Nat:=0
def PySem.W.Fast.tw18319148979109856101:Nat:=0
def PySem.W.Fast.tw5713772289216648149:Nat:=0
def PySem.W.Fast.tw18131989976989686404:Nat:=0
def PySem.W.Fast.tw5962290324117126290:Nat:=0
def PySem.W.Fast.tw5546073101783494635:Nat:=0
def PySem.W.Fast.tw16377101299179133531:Nat:=0
def PySem.W.Fast.tw13589403422504939447:Nat:=0
def PySem.W.Fast.tw17434906308454762297:Nat:=0
set_option maxRecDepth 100000 in
set_option maxHeartbeats 0 in
theorem PySem.Challenge.cw_spareplank_k45_new_blocks_and_sums_holds : PySem.Challenge.rw_spareplank_k45_new_blocks_and_sums.Holds := by
 w_on;o_law;k_head;(case hw=>w_witness2)
 k_fill
 refine My.walk (l := PySem.Challenge.rw_spareplank_k45_new_blocks_and_sums) rfl rfl (fun w h Y=>⟨PySem.W.km_in_of Y,PySem.W.km_tabs_of Y⟩) ?F
 case F =>
  intro w mg fa h KX G g;refine My.fin KX g (by decide) ?X
  refine' My.txt_ex ?T ?E
  case T =>
   constructor
   all_goals (try dsimp only)
   all_goals first
    | (refine' L2.gd_mk KX G ?ya ?yl ?yc ?yk ?yb;(case ya=>k_is);(case yl=>k_is);(case yc=>k_is);(case yk=>k_is);(case yb=>first | (refine fun _ _ _ _ _ _ us hl=>L2.ln0 us hl ?_;exact rfl) | (refine fun _ _ _ _ _ _ us hl=>L2.ln1 us hl ?_;exact fun _=>rfl) | (refine fun _ _ _ _ _ _ us hl=>L2.ln2 us hl ?_;exact fun _ _=>rfl) | (refine fun _ _ _ _ _ _ us hl=>L2.ln3 us hl ?_;exact fun _ _ _=>rfl) | (refine fun _ _ _ _ _ _ us hl=>L2.ln4 us hl ?_;exact fun _ _ _ _=>rfl) | (refine fun _ _ _ _ _ _ us hl=>L2.ln5 us hl ?_;exact fun _ _ _ _ _=>rfl)))
    | (refine' L2.md_mk ?ya ?yi ?yl ?yc ?yk ?yb;(case ya=>k_is);(case yi=>k_is);(case yl=>k_is);(case yc=>k_is);(case yk=>k_is);(case yb=>first | (refine fun _ _ _ _ _ _ us hl=>L2.ln0 us hl ?_;exact rfl) | (refine fun _ _ _ _ _ _ us hl=>L2.ln1 us hl ?_;exact fun _=>rfl) | (refine fun _ _ _ _ _ _ us hl=>L2.ln2 us hl ?_;exact fun _ _=>rfl) | (refine fun _ _ _ _ _ _ us hl=>L2.ln3 us hl ?_;exact fun _ _ _=>rfl) | (refine fun _ _ _ _ _ _ us hl=>L2.ln4 us hl ?_;exact fun _ _ _ _=>rfl) | (refine fun _ _ _ _ _ _ us hl=>L2.ln5 us hl ?_;exact fun _ _ _ _ _=>rfl)))
    | (refine' L2.gt_mk KX G ?ya ?yl ?yc ?yx ?yy ?yh ?yn ?yk ?yb;(case ya=>k_is);(case yl=>k_is);(case yc=>k_is);(case yx=>k_is);(case yy=>first | rfl | k_is);(case yh=>first | rfl | k_is);(case yn=>first | rfl | k_is);(case yk=>k_is);(case yb=>first | (refine fun _ _ _ _ _ _ us hl=>L2.ln0 us hl ?_;exact rfl) | (refine fun _ _ _ _ _ _ us hl=>L2.ln1 us hl ?_;exact fun _=>rfl) | (refine fun _ _ _ _ _ _ us hl=>L2.ln2 us hl ?_;exact fun _ _=>rfl) | (refine fun _ _ _ _ _ _ us hl=>L2.ln3 us hl ?_;exact fun _ _ _=>rfl) | (refine fun _ _ _ _ _ _ us hl=>L2.ln4 us hl ?_;exact fun _ _ _ _=>rfl) | (refine fun _ _ _ _ _ _ us hl=>L2.ln5 us hl ?_;exact fun _ _ _ _ _=>rfl)))
    | (refine' L2.mt_mk ?ya ?yi ?yl ?yc ?yx ?yy ?yh ?yn ?yk ?yb;(case ya=>k_is);(case yi=>k_is);(case yl=>k_is);(case yc=>k_is);(case yx=>k_is);(case yy=>first | rfl | k_is);(case yh=>first | rfl | k_is);(case yn=>first | rfl | k_is);(case yk=>k_is);(case yb=>first | (refine fun _ _ _ _ _ _ us hl=>L2.ln0 us hl ?_;exact rfl) | (refine fun _ _ _ _ _ _ us hl=>L2.ln1 us hl ?_;exact fun _=>rfl) | (refine fun _ _ _ _ _ _ us hl=>L2.ln2 us hl ?_;exact fun _ _=>rfl) | (refine fun _ _ _ _ _ _ us hl=>L2.ln3 us hl ?_;exact fun _ _ _=>rfl) | (refine fun _ _ _ _ _ _ us hl=>L2.ln4 us hl ?_;exact fun _ _ _ _=>rfl) | (refine fun _ _ _ _ _ _ us hl=>L2.ln5 us hl ?_;exact fun _ _ _ _ _=>rfl)))
    | (refine' PySem.W.mg_of KX G ?_;k_is)
    | (refine' PySem.W.mg_none_of KX G ?_;k_is)
    | (refine' (show PySem.W.findIn _ _ _=some none from ?_);k_is)
    | (refine' L2.Cls.mk ?_ ?_ ?_ ?_ <;> k_is)
    | (refine' L2.Mk.mk ?_ ?_ ?_ ?_ <;> k_is)
    | rfl
    | (constructor <;> first | k_is | rfl)
  case E=>first | exact .refl _ | decide
#print axioms PySem.Challenge.cw_spareplank_k45_new_blocks_and_sums_holds
