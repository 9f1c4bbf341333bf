import PyProof.Rows.All
import Wide.All
import OpenK.AllK
import Wide.FinOn
import Lean
import PyProof.EqAt
import PyProof.EqKinds
import PyProof.TupleCall
import PyProof.NeKinds
import PyProof.Rows.SetFrom
import PySem.Challenge.RW_spareplank_k57_a_stripe_asked
set_option Elab.async false
set_option linter.all false
set_option maxRecDepth 100000
set_option maxHeartbeats 1000000
namespace HK
open PySem PySem.W
def kp(o:Obj):Option Obj:=match o with|⟨_,_,.freed,_⟩=>none|o=>some o
theorem kg{h:Heap}{a:Addr}{o:Obj}(e:h.objs[a]?=some o):h.get? a=kp o:=by
 unfold Heap.get? kp;rw [e];split<;>rename_i z
 ·cases z;rfl
 ·split
  ·exact absurd rfl (z _ _ _)
  ·rfl
noncomputable def sl(l:List Obj):Nat->List Nat->List (Option Obj):=@List.rec Obj (fun _=>Nat->List Nat->List (Option Obj)) (fun _ _=>[]) (fun o _ ih i as=>@List.rec Nat (fun _=>List (Option Obj)) [] (fun a r _=>@Bool.rec (fun _=>List (Option Obj)) (ih (.succ i) (a::r)) (kp o::ih (.succ i) r) (Nat.beq a i)) as) l
theorem sa:∀(l:List Obj)(i:Nat)(K:List (Nat×Obj)),sl l i (K.map (·.1))=K.map (fun p=>some p.2)->∀p∈K,∃j o,p.1=i+j/\l[j]?=some o/\kp o=some p.2
 |[],i,K,h,p,m=>by
  cases K with
  |nil=>cases m
  |cons q K=>cases (h:[]=_::_)
 |o::l,i,K,h,p,m=>by
  cases K with
  |nil=>cases m
  |cons q K=>
   have h:@Bool.rec (fun _=>List (Option Obj)) (sl l (i+1) (q.1::K.map (·.1))) (kp o::sl l (i+1) (K.map (·.1))) (Nat.beq q.1 i)=some q.2::K.map (fun p=>some p.2):=h
   cases e:Nat.beq q.1 i with
   |true=>
    rw [e] at h;obtain ⟨h1,h2⟩:=List.cons.inj h
    cases m with
    |head=>exact ⟨0,o,Nat.eq_of_beq_eq_true e,rfl,h1⟩
    |tail _ m=>obtain ⟨j,o,e1,e2⟩:=sa l (i+1) K h2 p m;exact ⟨j+1,o,by omega,e2⟩
   |false=>rw [e] at h;obtain ⟨j,o,e1,e2⟩:=sa l (i+1) (q::K) h p m;exact ⟨j+1,o,by omega,e2⟩
theorem si{h:Heap}{K:Frag}{as:List Addr}(e:as=K.map (·.1))(x:sl h.objs.toList 0 as=K.map (fun p=>some p.2)):K.In h:=fun a o z=>by
 obtain ⟨j,o',e1,e2,e3⟩:=sa _ _ K (e▸x) (a,o) (mem_of_lookupK z);cases (Nat.zero_add j▸e1:a=j);exact (kg (Array.getElem?_toList.symm.trans e2)).trans e3
noncomputable def fh(K:Params->Frag)(as:List Addr)(e:∀P,as=(K P).map (·.1))(ts:List Addr):Hook where
 α:=List (Option Obj)×List (Option Obj)
 obs:=fun s=>(sl s.heap.objs.toList 0 as,ts.map s.heap.get?)
 val:=fun w=>((K w.params).map (fun p=>some p.2),ts.map fun _=>some (tabObj #[]))
 says:=fun w h=>InK K w h/\∀P∈ts,h.get? P=some (tabObj #[])
 of:=fun w s x=>⟨si (e _) (Prod.mk.inj x).1,List.map_inj_left.mp (Prod.mk.inj x).2⟩
 keeps:=fun w h h' x k=>⟨InK.keeps w h h' x.1 k,fun P hP=>k _ _ (x.2 P hP)⟩
theorem fo{K:Params->Frag}{as:List Addr}{e:∀P,as=(K P).map (·.1)}{ts:List Addr}{w:World}{h:Heap}(Y:(fh K as e ts).says w h):(K w.params).In h/\∀P∈ts,h.get? P=some (tabObj #[]):=Y
end HK
local macro_rules|`(tactic|o_head ($_ $K $A $e $t))=>`(tactic|o_head ((HK.fh $K $A $e $t):PySem.W.Hook))
-- names the tactics below would else use for second copies of large terms; nothing uses these
open Lean in
local macro_rules|`(command|#check_failure $s:str)=>do let k:=(s.getString.splitOn " ")[0]!;let b:=(s.getString.splitOn " ")[1]!.toList.toArray;let x:=(Array.range (5*b.size)).filter fun i=>(b[i/5]!.toNat-48).testBit (i%5);return mkNullNode (<-x.mapM fun i=>`(command|theorem $(mkIdent ((`PySem.W.Fast).str ("tw"++toString ((`zH).str (k++toString i)).hash))) : True:=⟨⟩))
#check_failure "heap_ 0000000@0200000000000000000000000000000000000000000000000000000000000000000000000000000000000000000000000000000000000000000000000000000000000000000000000000000000000000000000000000000000000000000000000000000000000000000000000000000000000000000000000000000000000000000000000000000000000000000000000000000000000000000000000000000000001"
#check_failure "tree_ 000000000400@00000000000000000@00@000020020020020008000010004000@00@0000000008000000@0000000000000000000004000000000000000210000000000040000000000000001000000000000000000@100000000000020000000000@0000000100000008000000002000040000000000001@0000000000000000000000000000000000000000@0000000000000000@000000000000000000200000000000000@"
#check_failure "view_ 0000000@"
#check_failure "sts_ 000000000@00010000000000000000010010004004004004000@0000200080000100100000000@0000000100000000000000000000000000000000000005000000000008000000000000000200000000000000000005000000000000400000000000100000020000000@0000000040000800000000000020100000000000000000000000000000000000000000000000000000000000000000000000000001"
#check_failure "o_ 000000008CJ?OMMNK?OMGGONNNNNKOOMMOMKMOG?OG?OG?OG?GOONMNOKGKO?O>OOMKOMKMOGONNNNJKKK??OMMNK?OMMMGONK?OMMGONOGGK?OMGGGONK?OMG3EGK?OMGONNNO?MGGGONK??OMGONNKKMMMGONK?OMMMGONKOOEGK?OMGONK?OOGGK?OMGONKOOMKMGONOKGK?OMGOONMNK?OMOGNNNK??GGONK?OMGOO;OMMNNGONK?OK?OMGONK?OMGONK?OMGONK?OMGONKOON>?OK?OMGOMGONK?OEONK?OMGONK?OMGONK3EONK?OMGONNK?OM"
#check_failure "env_ 000000002"
theorem PySem.W.Fast.tw9923166599559629132:True:=⟨⟩
theorem PySem.W.Fast.tw8445162365424225099:True:=⟨⟩
set_option maxHeartbeats 0 in
open PySem PySem.W PyProof.Rows in
open_top zH for PySem.Challenge.rw_spareplank_k57_a_stripe_asked
open List renaming getD_eq_getElem?_getD→v_,getElem?_eq_getElem→s_,length_map→o_,getElem?_map→FM,range→r_,getElem?_eq_some_iff→Gr,mem_cons→FC,replicate→FL,mem_of_getElem?→Gi,mem_singleton→Ge,length_range→Gf,size_toArray→Gk,getElem?_eq_none→Hj,mem_cons_of_mem→Hl,not_mem_nil→GH,length_append→Hr,mem_range→GG,mem_filter→G1,getElem?_range→Ib,mem_append→Hi,map_map→GB,mem_cons_self→Im,map_append→HU,lookup_cons→Ii,nodup_cons→HW,length_cons→Io,mem_map→G6,mem_append_right→JH,length_filter_le→JG,getElem?_append_left→Ky,map_cons→Ie,all_eq_true→IM,getElem_mem→IV,getElem?_append_right→Ld,replicate_succ→JZ,length_replicate→KR,ext_getElem?→JY,map_congr_left→KA,contains_iff_mem→K9,length_set→JJ,getElem?_of_mem→Lc,getElem?_replicate→LN,getElem?_set_self→LK,length_take→Kx,getElem?_set_ne→LG,getElem_of_mem→LH,flatten_cons→LL,mem_singleton_self→M5,take_of_length_le→M8,take_add_one→L5,set_append_right→M0,getElem_inj→L0,mem_or_eq_of_mem_set→OF,nodup_range→MB,take_length→MC,getElem_map→MA,mem_append_left→Oe,nodup_append→MR,pairwise_lt_range→OE,length_drop→MX,any_eq_true→MW,drop_eq_getElem_cons→Qk,append_nil→MZ,range_succ→M7,lookup→LI,getElem?_append→OD,eq_of_mem_replicate→Qh,filterMap_cons→OH,ext_getElem→Oh,nodup_nil→M_,range_succ_eq_map→PZ,of_mem_zip→N6,filter_nil→Og,find?_cons→NZ,length→Mx,perm_ext_iff_of_nodup→Rg,pairwise_iff_getElem→RR,getElem?_take_of_lt→R7,any_cons→Ob,filter_cons_of_pos→Rh,filter_cons_of_neg→Ru,take_sublist→P6,append_assoc→Qm,map_set→N4,getElem?_set→Qq,filter_cons→Qi,Pairwise→OP,eq_nil_of_length_eq_zero→Ss,mem_of_mem_take→Rm,map_const'→Qw,filter_append→Sd,getElem?_drop→Rp,getElem?_zip_eq_some→Uo,foldl_append→Ro,pairwise_map→Rf,all_cons→P7,map_take→Qs,pairwise_singleton→Uv,length_eq_zero_iff→SH,zipWith_cons_cons→UA,foldl_cons→RI,forIn_cons→Q9,length_singleton→Uj,getElem?_zipWith→TY,mem_of_mem_drop→Uz,zip_map'→RC,mem_filterMap→UG,zip_cons_cons→Us,map_replicate→SU,map_nil→RE,zipWith→Ri,all_map→RT,toArray→RJ,take→P2,drop→Qv,mem_reverse→SQ,drop_length→SJ,getElem_set→Su,zip_append→SV,length_nil→Tj,foldl→Rn,drop_zero→SW,map_drop→Sv,any_map→T9,map_id→SM
open PySem.W renaming Frag→m_,keepIn→Jt,fnOf→IF,findIn→Kh,kla_fn→Kg,codeIn→KQ,kia_one→Ln,emptyDict→L7,codeHdIn→LZ,instObj→Mw,kitOne→Mu,plainGet_of→OC,methodCall_KW→Qo,callWith_K→P1,isFn→N_,cellsFrom_some→Rt,tabObj→OM,plainGet→Qb,lookIn→Qy,methodObj→RF,hasDictIn→RH,specialIn→RV,kla_eval→Rj,takerIn→RA,kla_callFunE→TM,kla_codeExpr→SI,codeHd_of_K→Ua,mg_of→Sb,codeRec_of→UJ,plainOver→TB,kitx_list→TQ,kitx_dict→Tz,handedIn→Ui,kitx_own→SG,makesIn→Uc,takesIn→TU,kitMeta→UH,OpenLaw→SE,mroIn→S_,WalkO→Ut,nsIn→TZ
open PySem.Heap renaming get?_push_of_some→FZ,lt_size→FO,get?_push_size→G4,SameBut→LY,get?_push_ne→P3,size_push→Qz,size_update→RB,get?_update_other→UF,get?_update_ne→Tr,ExtBut→Uy
open Option.some renaming inj→FK,injEq→N5
open Nat renaming le_refl→B_,le_trans→FG,lt_of_lt_of_le→GU,ne_of_lt→F0,zero_le→GO,lt_succ_self→ID,lt_succ_of_lt→IL,lt_irrefl→Iu,mod_two_eq_zero_or_one→Lm,lt_of_le_of_lt→KM,not_lt_zero→JW,zero_xor→Jr,xor_zero→Js,testBit_xor→Ku,two_pow_pos→KJ,pow_succ→J_,add_sub_cancel_left→MY,xor_lt_two_pow→L4,xor_assoc→KO,mul_comm→Kt,strongRecOn→LM,eq_of_testBit_eq→M6,testBit_succ→L6,le_of_lt→K_,le_succ→Lb,pow_le_pow_right→Od,mod_lt→KP,xor_self→LO,le_add_right→MS,sub_self→LX,testBit_two_pow_mul_add→RM,pos_of_ne_zero→P4,testBit_mod_two_pow→R5,testBit_div_two_pow→RG,ne_of_gt→Of,testBit_zero→Qt,pow_pos→Oc,min_eq_left→Qx,div_lt_self→P9,zero_lt_succ→RO,add_zero→Qj,zero_add→Qn,not_lt→OL,lt_trans→P5,testBit_and→R8,mul_le_mul_right→SA,div_lt_of_lt_mul→SY,le_of_eq→RX,lt_of_succ_lt→Td,le_succ_of_le→Ul,mod_eq_of_lt→Tl,div_eq_of_lt→SC,min_le_right→TK,pow_mul→Q_,mul_add_mod→Ti,mul_add_div→Tf,div_add_mod→UO,succ_mul→Ue,xor_comm→Tw,min_self→UE,sub_zero→Uf
open PySem renaming wpAny_bind→E_,boot_len→G0,wpAny_pure→Ga,mem_of_lookup→Kr,wpAny_holding→JK,wpAny_mono→IT,wpAny_truthy_bool→LJ,wpAny_Call_Name_kw→M4,wpAny_pyIter_list→Na,wpAny_passesOwn→M3,wpAny_newList→MU,wpAny_tryCatch→NY,codeAny_mono→Nd,codeAny_builtin→OO,wpAny_execs_cons→Qf,wpAny_call→Nc,wpAny_newFunctionEnv→RY,wpAny_execs_nil→P8,wpAny_newFunctionEnv_cells→SD,wpAny_letGo→OR,wpAny_standAt→Qp,wpAny_comprehension_free→UP,wpAny_eqBool_int→Rq,wpAny_pyIter_enum→Ts,fastTable_eq_tree→Sx,IsItemIter→Ry,Within→QA,wpAny_pyNext_list_item→TX,wpAny_pyNext_range_end→Sz,wpAny_pyIter_rangeiter→T8,codeAny_compStart_list→SK,wpAny_pyIter_zip→Ug,wpAny_ite_false→Re,wpAny_updateSeq→Rv,wpAny_isTrue_Compare1→UI,wpAny_pyNext_list_end→Ta,codeAny_call_function→SO,wpAny_loadName_local→SR,wpAny_pyIter_revIter→Tg,codeAny_call_builtin→UN,wpAny_seqItems→Rb,wpAny_loadName_cell→UM,wpAny_pyIter_range→SN,wpAny_Return_some→Tv,wpAny_assign_Name→Te,wpAny_newObj_type→Uk,IsPair→Sa,wpAny_Name→RP,call→Rl,IsZip→SS
open Int renaming toNat_natCast→G5,toNat_of_nonneg→Oj,emod_nonneg→N7,natCast_mul→Oa,natCast_add→N2,zero_add→N8,mul_le_mul_of_nonneg_right→SL,natCast_emod→Qc,le_refl→N3,lt_trans→OG,natCast_nonneg→RW,emod_lt_of_pos→RN,natCast_ediv→Rr,toNat→OT,le_antisymm→Ud,add_emod→SF,mul_emod→T_
open Bool renaming false_ne_true→Hk,and_eq_true→IU,false_eq_true→N9,or_eq_true→Nb,eq_iff_iff→Oi,not_eq_true'→RL,false_or→Qa,false_and→R0,true_or→Q6,or_true→RZ,noConfusion→TD,and_false→Tk,and_true→Sy
open PySem.Str renaming ofString→Go,empty→Qd
open PySem.Value renaming ref→F_,none→Kw,type→KI,int→Kv,bool→OB,isInt→P0,str→OJ,float→R_,isStrOf→Tu,bytes→TV
open PySem.F renaming slot_list_append→JV,type_list_append→JU,plainAttrs_list→JX,plain_min_loop→MV,slot_dict_itemiterator_iter→Tn,entry_min_loop→Q7,slot_dict_items→Tq,slot_list_sort→Uq
open PySem.SeqAt renaming EqAt→GS,ne_of_list_tuple→Ux,RcNeAt→Sc,RcAt→Th
open Ne renaming symm→F5
open List.Pairwise renaming filter→Ll,map→ON,imp_of_mem→Um
open Option renaming map_some→Ks,isSome_iff_exists→OI,mem_toList→OQ,isSome_map→Rs,map_eq_some_iff→UB,getD_none→TF,none→R9
open PyProof.Rows.Boot renaming sorted→Mz
open PyProof.Rows renaming callWith_type1→M9
open Array renaming length_toList→MG,perm_iff_toList_perm→Qg,getElem?_eq_none→Q8,getD_eq_getD_getElem?→Ub,getD→OS,append_assoc→Uu,toList→Tp
open PySem.Heap.SameBut renaming update→MF
open PySem.Builtin.Range renaming rangeSize→Oz,rangeFitsLong→Qe,small→RQ
open PySem.Builtin renaming bitXor→Mv,divisionGoesByPylong→SZ,bitAnd→Uh
open List.Perm renaming eq_of_pairwise→Qu,map→SX
open PySem.Builtin.Int renaming intBits→P_
open PySem.Builtin.List renaming listTooLong→Rc
open PySem.Builtin.Builtins renaming bindParams→UL
open PySem.Calls renaming Name_function_global→TN,callWith_builtin→SB,call_len_list→UC
open PySem.SeqAt.RcAt renaming lists_lengths→UD,tuples→TC,lists→T6
open List.cons renaming inj→Qr
open Int.ofNat renaming inj→Ql
open PySem.Walks renaming list→OK,range→Ur
open PySem.SeqAt.EqAt renaming same→RU,int_str→T7,str_int→UK,of_refs→Sw
open Array.Perm renaming refl→RD
open Nat.succ renaming inj→Uw
open Lean in
def zqN:Name->String|.str (.str (.str .anonymous "Lean") "Parser") "Term"=>"\t!"|.str (.str (.str .anonymous "Lean") "Parser") "Tactic"=>"\t?"|.str p s=>zqN p++"\t"++s|_=>""
open Lean in
def zqE:Nat->Syntax->String|n+1,.node _ k a=>a.foldl (fun s x=>s++zqE n x) ""++"n"++toString a.size++zqN k++"\n"|_,.atom _ v=>"a"++v++"\n"|_,.ident _ _ v _=>"i"++zqN v++"\n"|_,_=>"m\n"
open Lean in
def zqM(s:String):Name:=((s.splitOn "\t").drop 1).foldl (fun n c=>if c=="!" then `Lean.Parser.Term else if c=="?" then `Lean.Parser.Tactic else .mkStr n c) .anonymous
open Lean in
def zqD(i:SourceInfo)(s:String):Syntax:=((s.splitOn "\n").foldl (fun (t:List Syntax) l=>let r:=(l.drop 1).toString;match l.front with|'a'=>.atom i r::t|'i'=>.ident i r.toRawSubstring (zqM r) []::t|'n'=>let n:=((r.splitOn "\t").head!).toNat!;.node i (zqM r) (t.take n).reverse.toArray::t.drop n|_=>if l=="m" then .missing::t else t) []).head!
open Lean in
def zqF(a:Array Syntax):Array (TSyntax `str):=(Array.range (a.size/32+1)).map fun i=>Syntax.mkStrLit ("\r".intercalate ((a.extract (32*i) (32*i+32)).toList.map (zqE 999)))
local macro_rules|`(include_str #[$t,*])=>let a:=zqF (t.getElems.map (·.raw));`(#[$a,*])
local macro_rules|`(include_str by first $[|$t]*)=>let a:=zqF (t.map (·.raw));`(#[$a,*])
open Lean in
def zqG(a:Array String)(i:Nat):MacroM Syntax:=return zqD (.fromRef (<-MonadRef.getRef)) ((a[i/32]!.splitOn "\r")[i%32]!)
def zqA:=include_str #[by omega,List V,Or.inl rfl,by decide,List Nat,w_ K mg a,λ_ A outer s H vs Q E hr h=>?_,Value,λ_=>?_,Shared,pv 0,⟨_,av,?_⟩,X.env,false,ap _,Inv X pins σ H s,List μ,pv 1,T.A00,outer,B_ _,model Ϡ X.w,List Addr,pv 2,s.heap.objs.size,⟨_,rfl⟩,T.A01,a.C_Rack,s.heap,List Str,pv 3,knO os,(by simp),Nat->Nat->Nat,T.A02,List ηu,PassesOwn.never,V.ref,s.heap.objs.size+1,model P w,Str->Option μ,List ζd,Around,ak ο rfl,X.prog,a_.refl _,World,Nat->Nat,⟨_,rfl,_,_,rfl,rfl,_,rfl,?_⟩,Value->Shared->Prop,Program,T.A04,.ref D,a.C_Asking,pv 5,λ_ _ _ _ _=>aR,List Env,Scope,λ_ _=>rfl,F4 r w,aa ω ab,I.hok,λy=>absurd ηv γ,a.C_Code,by kernel_rfl,.ref f,model prog w,(by decide +kernel),2 ^ w,g.rule,X.calm=true,V->Hp->Prop,z_ 76,hR.ins,xs.length,a.C_Row,bd I q ϒ,FuncData,List Int,T.A07,T.A08,aa Ψ ab,scope,pv 4,.ref c,λz=>absurd z ζ,A.in1,H1 D=none,a.C_Field,p.isList,a.C_Shape,aJ ep,hs.length,Array μ,Option Addr,a.C_Blocks,a.C_SparePlank,T.A05,(⟨_,rfl,_,_,rfl,rfl,by decide,rfl,_,rfl,b_ (λy=>absurd ((i5 y).symm.trans h) ζ) ν⟩),.inl rfl,Nat->Int,a_ H H',R.K.S,.lst xs,V.non,.ref p,R.K.rk,T.A09,k=cs.length,.lst ys,a.C_LostPlank,pv 6,.ref C,a.t47,ns.length,Nat->Nat->Option Int,s1.heap.objs.size,I.ok.hd hc,Gc P w H h,h.len,(λy=>by cases y),X.base,Str × V,Iu _,seqObj "list" #[] 0,fd K f,hC.ins,hR.shelf,R.on K',(by exact ιS),ah st,(⟨by decide,by decide⟩),.head _,λh=>absurd (of_decide_eq_true h) γ,cs++[none],GY Δ,e :: es,bj k,l_ N nk,V.int,aZ st,.lst [],some v,g.toGood,λ_ _ _ _ _=>(au (i:=2) (of_decide_eq_true γc) rfl ε),(Obj.mapSeq λ_=>(#[]:Array μ)),by rw[Gf];omega,List Γ9,List ρf,EP X pins σ Q,List (Key × V),ns.map δp,Nat->List Nat,Or.inr rfl,e_ N vs,x < 2 ^ w,List Bool,.ref ro,some u,Good r w,X.stack,ht.len,1 < w,a.C_Plank,R.K.L,T.A11,vs.toArray,R.N+R.M,s.toks,.int st,r.log2,R.ms a,be ab,JI.nd,F3 P w K mg base A Δ s H,It->Hp->Prop,n<=sizeLine,λh=>?_,.ref R.A,List α,JM x,J.osl,h'.objs.size,.tup xs,λy=>absurd rfl y,λ_ _ _ _ _=>(au (i:=1) (of_decide_eq_true γc) rfl ε),λz=>?_,.tbl ps,g.toArray,T.A15,(λ_ y=>by cases y),λ_ _=>False,d_ a H R e ss X,PE X e te,a_ H H',.ref a,I.bare,k_ y u,Pm n p,z_ 3,I.loc,0 < n,z.symm,m * R.K.L,Y st,sizeLine,a.C_SlowPlank,dD hr,⟨_,rfl,rfl,_,rfl,?_⟩,rowV δo,List ρh,⟨_,rfl,?_⟩,its.toArray,λ_=>q,List Expr,S.kind,Gg r w,a.t105,FO e,pv 7,T.A12,⟨_,_,rfl⟩,mainGlobals,λy=>absurd y ζ,by rfl,(by exact ϟ),s'.heap,(∀σ' H',N σ' H'->∃m',m' < m/\W (i+1) m' σ' H'),(x == ("__debug__" : Str)),(⟨by omega,by omega⟩),λz=>absurd rfl z,Array (Option μ),starEach es ρ,(by simpa using hi),Bool->Hp->Prop,ns.getD i 0,aP ω,I.ok.kind,PE X a ta,pl.isList,Option V,s1.toks,z_ 30,Gi ek,aA dz,String,a.t38,GF.n_,T.A22,NameKind.cell,aa ω γt,Option Nat,params,eqn N l,NameKind.free,.ref T,value,T.A19,Km.nd,FB cs as,I.free,I.full,aF aG rfl T.A03 G0 γt,(∀H4,a_ H H4->R (f i) H4),(∃m,W 0 m σ H),(by simp[Rw.ms]),upd H x o,aA ϐ,Option Int,Fy H t p q,List Stmt,rv.length,Pv 0 σ H,KV kvs vs,.ref nd,.int i,Hp->Prop,b / 2,aA aL,ID n,T.A24,Lh.nd,T.A17,X.env.qual++Go "<lambda>",.ref fa,aa γv ab,.ref ol,⟨_,rfl,hR _ ϡ⟩,⟨none,rfl⟩,p2.isList,⟨_,rfl,R.rk,dx,_,rfl,h1,rfl,_,rfl,R,e,i,ss,X,rfl,hR,hi,?_⟩,(∀i j,i < n->j < n->z i=z j->i=j),Obj.mapSeq (· ++ δQ),cH ϟ ω bU,seqObj "list" vs.toArray 0,.ref γI,I.hok.fresh Θ,λi=>ns.getD i 0,starEach [e] ρ,.ref γW,Jt K γd=true,Nat->St->Hp->Prop,PA X δm t,PI X tg iter wi,al N ps δg,FL δO .non,A.handled=none,Tb base mg a,F0 εG,a ^^^ b,.lst zs,aq e nx,j_ vs us,.ref l,.int n,List Dt,s_ hi,z_ 50,k_ v u,Gl X x,kindOf,W.Frag,I.kIn,X.K=K,T.A33,T.A31,GF.Lk,g.ins,T.A25,T.A27,Addr × Obj,of_decide_eq_true y,.dK kvs,(λz=>by cases z),⟨us,[]⟩,.ref R.rk,c_.of hL,.spare 0,bC P w,aa εH ab,ps.zip us,.ref L,Ga ?_,PW.pt (aY ρi (aS (am dP ω ϟ υ))),F7 Ϡ X.w X.K X.mg δ7 CX k f fd ps sp,((by show (1:Nat) < 1000;decide)),((by show (2:Nat) < 1000;decide)),seqObj "tuple" vs.toArray 0,λi u H2 R2 hu s2 hR=>?_,aQ ο ω rfl,(∀ps,o≠.tbl ps),t_ a H0 H R n os as,(by simpa using e),λH2 s2 hD=>?_,a == sysModules,Gj X.K fd ps ds,X.N[i]?=some x,JL r w N M L T,Ju N M T hs Z,s2.trans s4,hU hr.units,⟨rfl,?_⟩,⟨hd,?_⟩,FL n none,.frz o u,HL cvs H,IP w M N l,KB ms H H',PE X b tb,I.tok _,j_ dvs ds,fH CX X E,Arguments,Array Nat,.ref so,pos.line,Fv k X.A,callerA,x / 2,JW _,Jb z,F5 z,F5 g,I.len,T.A36,LS.nd,T.A37,L2.St,LW.nd,(("stripes" : Str),V.int (s':Int)),(("planks" : Str),V.int (p:Int)),(("slots" : Str),V.int (l:Int)),of_decide_eq_true z,T.A20,.own x,plainL,aa ϐ ab,aa ο ab,bn st,sizeLine_eq,pv 8,s₁.heap,ak ϟ rfl,.ListComp elt [⟨tg,iter,ifs,0⟩] sc pos,.frz o ηw,St->Hp->Prop,upd H a o,vs++dvs,p1.isList,.ref fp,IL hk,Lb _,(⟨λi m σ H=>m=xs.length - i/\i<=xs.length/\Pv i σ H,⟨γm,by simp,GO _,h0⟩,?_⟩),λ_ _ _ _ _=>(au (i:=0) (of_decide_eq_true γc) rfl ε),⟨rfl,I.turned (t':=δS) (λb o hb e=>eb b o hb e) f0 f1 f3 f4 f5⟩,aE (ao ο Γ T.x97.me (bD T) hr.u T.x97.b .nil aj γ8),⟨T',_,rfl,Gn.of ac,rfl,_,_,rfl,_,_,rfl,rfl,?_⟩,(∀vs H Q E,sp vs H Q E->vs.length=ps.length),(∀σ H,Pv γm σ H->D.nx σ H),⟨go i H hlt sm,λx H' y=>?_⟩,(∀i H,i < n->a_ H1 H->J.go i H),aD ax ω ai γ6,i_ X.N ρg sc cap own,λp=>p.2 == NameKind.cell,(∀H,a_ H1 H->J.stop n H),λi H R hi sm r=>?_,aQ ο Ψ rfl,.Tuple elts x1 tp,xs.length<=sizeLine,⟨none,none,rfl⟩,List (Key × Value),p.getD ιX 0,Iv a G H R ro e Pr,MP ρg x,⟨_,c_.of hL⟩,(∀k∈nk,k < N),2 ^ w - 1 - 1,newV nk nb X,ns.getD j 0,s1.trans s2,(at'+i) / N,⟨t,rfl⟩,hc1 x c e,aA Ψ,aP Ψ,it r w n,fin _ ?_,rowV row,Option Nat,X.N.Nodup,PS X st t,us.length,.dT kvs,Nat->Bool,Sem Bool,sc.names,Ia c v,Kq a G R,.bl b,FO e1,IE ck,z_ 54,z_ 33,T.x58.b,Fv k A,b8 T,I.obj,slice,p < N,k < n,Md.nd,Mh.nd,T.A41,hR.sl,J.tab,g.len,R.row,ak θC rfl,aD ax ϟ ω γ6,.ref c',ms.take j,st % R.m,.spare t,m - 1,GO _,aa Ψ θy,⟨_,G4 _ rfl,rfl,rfl⟩,aa ϟ ab,he g s σ H _ I h,.ref it,g i j,(("shelf" : Str),V.ref D),boot_isinstance,FZ _ e,λb o hb e=>(sb.2 b hb).trans e,.Name x pos,K νG,.ref x,pv 9,upd (upd (upd H0 TL (.lst (rowV ts))) RS (.lst (rowV νF))) CH (.lst (rowV ρd)),aE (ao ο Γ T.x99.me (bY T) hr.u T.x99.b .nil aj ζc),k == NameKind.free && X.env.scope.kind == .function && X.env.kindOf x == some .cell,⟨_,rfl,R.rk,dx,_,rfl,h1,rfl,_,rfl,_,rfl,R,e,i,j,ss,X,rfl,hR,hi,hj,?_⟩,(∀p H4,H p=none->a_ H H4->H4 p=some (.lst (row i))->R γR H4),A.deeper (envOfC qual δg Ω f cdv),PassesOwn Ξ X.A ρ X.xe,(.tup [.int ((en.1:Nat):Int),.ref pl]),Value->Value->Value->Value->FuncData,aD ax ω Ψ γ6,Gs P w Δ s H l I S j best s' H',am bx (ay aV ω ai) ai υ,am bx (ay aV Ψ ai) ai υ,((by show (3:Nat) < 1000;decide)),.lst (Ft Γb),List (Nat × List ρf),.builtin "object.__class__",by simp only[Gk] <;> omega,bM r w M N l cs as ϑ,⟨h.lt hn _,h.lt hn _,?_⟩,(cs++[some νH]),λi H x H' hi sm y=>?_,λk H2 R2 hk s2 hR=>?_,.ins δN dp (hf l),λk Hx Rx hk sx hR=>?_,upd H' D (.lst (cO ms)),(∀b∈fp,GZ X pins H b),H a=some Γh,fx r w M N l ϑ,(∀b∈fp,H' b=none),.lst Γi,(by simpa using hu),List (κ × Value),decide_eq_true z,os.getD k none,⟨_,_,_,rfl⟩,Nat->Option Int,pe.length - 1,⟨σ,H,I,h⟩,(.int (k:Nat)),(st * (j:Nat)),(by rw[<- g]),⟨rfl,rfl⟩,A_ H ps n row,(2 * (x:Int)),rs.getD i 0,I.full.toGood,pw r w x m,p.getD m 0,λy=>?_,GF.Good r w,Fv (k+1) A,FA w n b,λ_=>0,.ref R.c,aq q hn,PT X a tA,PE X l tl,PE X o ta,r'.length,a < 2 ^ w,b ^^^ c,f < 2 ^ w,FU d d',.int pl,c_.of g,2 ^ R.w,.own a,Operator,HN X.K C,g.length,List Key,JG _ _,e0.bare,g.top16,z_ 56,z_ 70,k < N+M,α->Int,I.sh.m0,Nat->HO,s.gens,I.cell,ID _,KJ w,y.symm,F5 j,cp (K:=K) rfl,g.shelf,aa ai ab,bL N l ts nk,w.params,(.int (i:Nat)),aa γX ab,X.A.in1,.lst (ps.map ϙ),ha g s σ H _ I h,some γd,R.K.dn :: rl :: sl :: a.t38 :: ys,Go "<lambda>",ak ω rfl,GA δR,kf i,(l_ N nk).filter λk=>(cs.getD k none).isSome,.lst (aM s' λ_=>some 0),.tail _ δi,.bool true,aF aG rfl T.A03 G0 θz,aD cI ϐ ai γ6,JH _ (JH _ (dC hb e)),be (aa aL ab),⟨[u],[]⟩,List Nat,I.ok.glob,e ▸ p,.lst ds,this.1,(upd H1 p (.ins γC dx [Γ5,Γ4,Γ3,Γ2])),⟨_,rfl,rfl,_,rfl,b_ (λz=>absurd θu δ6) (λ_=>?_)⟩,(⟨_,rfl,_,_,rfl,rfl,by decide,rfl,_,rfl,b_ ν (λy=>absurd (t5 h) y)⟩),aE (aW ο Γ T.x94.me (cD T) hr.u T.x94.b .nil aj),⟨_,rfl,L,_,rfl,.inl ηA,_,_,rfl,rfl,_,rfl,?_⟩,aW ο ϋ T.x35.me (c6 T) hr.u T.x35.b .nil aj,⟨_,rfl,_,_,rfl,rfl,δh,?_⟩,⟨_,rfl,_,_,rfl,rfl,p0 ζ,rfl,_,rfl,?_⟩,⟨_,rfl,R.rk,dx,_,rfl,h1,rfl,R,e,ss,X,rfl,hR,?_⟩,(∀H,a_ H1 H->H D=some (.lst ((r_ n).map f))->Q H),(λw hw=>g8 rx fx r fs w (by simpa using hw)),(∀b u,s.heap.get? b=some u->h'.get? b=some u),.Call (.Attribute o m apos) δm [] pos,((by show p∉([]++[]:List ηu);simp)),Gx R.M R.N R.l νQ (l_ R.N nk),Kj P w K mg base A Δ s H l I S xs f kf,(∀b u,h.get? b=some u->h'.get? b=some u),(⟨o,e,λv z=>by rw[d] at z;cases z⟩),ba rfl T.A06 μ1,aa ω ιZ,backToKw pos ρr,(.int (((2 ^ r.log2) ^ R.n:Nat):Int)),.Call (.Name x p) δm [] pos,λi σ H x H' R hi sm ho y q=>?_,aF aG rfl T.A03 G0 γ8,(λi=>((ns.getD i (0,0)).1:Int)),ForInStep.yield ((name,c) :: r),kvs.any λkv=>decide ρt,λf=>some (HO.lst (aM R.S f)),(λz=>n (by rw[z];exact M5 _)),λh=>⟨_,λ_ _ z=>z,?_⟩,aD ax Ψ ai γ6,(λ_ _ _ _ _=>by exact ω),(λ_ _ _ _ _=>by exact Ψ),aD cI γX ai γ6,((by show (4:Nat) < 1000;decide)),λy=>absurd y (no _ _ rfl),F2 a H0 R r w n M N l cs srow,Ik a H H' R e st X cs srow A,apos.endLine == cpos.line,Na ⟨o,e1,e2,nn,e4⟩ ?_,GK X.N ρg sc cap y,⟨_,_,g1,g2,ho,g4,g5,g6⟩,aa γv Γa,aa Ψ θz,.Compare a [op] [b] pos,(((2 ^ w - 1:Nat):Int)+1),laidV r w n N l nk nb X,Kf N at' S nb H H' D es i,R.on Γl,(by rw[ε5];exact hk),.ins γn dx (Ka R),λy hy=>absurd hy GH,.ref Ω,Mw C Ω,.builtin "isinstance",V->List V->Hp->VK->Prop,HQ K x qual st f fd c t,tupleKind_room_in1 hu,(Sum.inl ((s:Nat):Int)),V.int (c % 5)=V.int z,⟨.bl _,H,I,rfl,?_⟩,List (Str × NameKind),seqObj "list" #[] e1,aa Ψ (aa aL ab),I1.hok.fresh Θ,(by rw[hb];exact Hk),Str->Option NameKind,List Γ9,upd H2 D δr,cs++[some (src i)],Hs ε6 fd,.ref εu,σ.set i δs,h g s σ H _ I hw,hl g s σ H _ I h,List Γc,λb u e=>FZ _ e,starEach [] ρ,(p,w) :: P.zip vs,(by simpa using h1),(by simpa using h2),ForInStep.yield r,[]++fG fp s7.heap,.builtin "sorted",F0 (GU εG hx),X.A.units+1 < cLine,FG n8 ζ,FL δR .non,N_ K γd=true,V->V->Hp->VK->Prop,KQ K cdv qual=true,H x=some γP,A.units+1 < cLine,.inr ⟨o,hd⟩,⟨_,rfl,IC ?_⟩,beq_self_eq_true,(∀n∈ns,n < B),.ref δN,by simp;omega,cn σ cap own,List δ8,λb hb=>?_,eval o ρ,(.int (n:Int)),λj=>L j k,i < row.length,tks.getD i 0,.lst [γQ],KB R.ls H H',J0.sm _ _ hA,⟨_,e,rfl⟩,sm.trans s2,fo N ps γu,j_ (cO ns) vs,lj γ9 eb,Fw H ps M row,eqn N l 1 o,eqn N l 0 o,.ref γS,X.env.locals,h b o e hx,st :: rest,Oo r ta tb,I.ok.mod.kin,l.row.toRowW,(lo+(i:Int)),LD ck ns B,pm.length_eq,λh1=>?_,upd H0 D o,h.objs.size,X.mg x=none,K.In ύ,apos.atName,KT H kvs xs,a_.new nD,its.toList,its.length,⟨?_,e⟩,GG.mp hk,g_ N l i,r_ (N+M),.bool b,PT X c tc,PG X tg g,e0.frames,.type T,Gz R ha,ps++[p],.type c,eq_of_beq,U _ rfl,p'.isList,.ref kS,A.in1.in1,q :: qs,PE X o td,PE X i ty,.ref rl,Ll _ MB,.ref tl,OQ.mp y,.ref lp,.ref gl,.ref PL,.ref sa,I.ok.bsz,.inl h,r.length,Lg K a,g == k,P6 _ _,hr.depth,H D=none,KG 0 n,K8 X c P,Ia b v,ns.Nodup,.dK [],H p=none,boot_any,I.freeC,e0.funs,IL ht,IV hi,trivial,n - 1,k - l,pQ ry,T.x3.me,Kp H H',LT ms H,GC N l ts δo,.inr ρn,Nat × Nat,X.env.scope,κ × V,am bq ω ai υ,by rw[h];decide,row.length,ps.length,os.length,.inl y,λt=>eqn N l t k,ay bN ω ai,dQ q c',keywordEach [] ρ,bs.length,kv.1=k,(("gone" : Str),V.bl τ),(("slate" : Str),V.ref sl),(("left" : Str),γQ),by rw[aK];omega,.tbl (ps++more),(.int (x:Nat)),.tbl #[],IF x qual θA δq δg .none kV doc pm an cdv ct,by rw[Gk,θB];omega,aa ο γ8,am bq Ψ ai υ,(2 ^ r.log2) ^ R.n,HK δe s',xs.getD i .non,eval e ρ,G9 (ck n) n,xs.getD i d,items.toList,.ok .next,(l+r) / 2,.tail _ z,aP γ2,R.pl st k,cell ns 3,R.pl s k,.ref ta,us++ds,(upd H5 rk (HO.ins ό dx [θs,θr,θt,μ5,ρv,ρw,ρu])),(@ar _ _ 1 _ _ _ _ ζk rfl 0e2 Γm εM (by first | exact .inl rfl | exact .inr rfl)),(upd H3 rk (HO.ins ό dx (FD "shelf" 5e2 [θs,θr,θt]))),aX (aF iL rfl T.A26 μ6 (aa ιS (aa (bg (v:=.ref γW) rfl T.m_LostPlank rfl) ab))),(∀b∈ch,(b∈X.ex\/X.s₀.heap.objs.size<=b)/\b≠X.env.locals/\(∀x c,X.env.cells.lookup x=some c->c≠b)/\∀p∈X.pn++pins,p.1≠b),(upd H rk (.ins ό dx [θs,θr,θt])),(⟨_,rfl,R.rk,_,_,_,_,rfl,sn _ _ h1,Γ,γJ,aO R,_,rfl,R.sh,_,_,i,rfl,rfl,sn _ _ δd,cz (by rw[o_,hR.lp];exact hi),?_⟩),⟨_,rfl,R.rk,_,_,_,_,rfl,h1,Γ,γJ,aO R,_,rfl,R.sh,_,_,_,rfl,rfl,c_.of δd,aB γD,p,dp,_,rfl,hp,rfl,p,rfl,q⟩,upd (upd (upd (upd H4 dp θw) x (.ins δN dp [])) h νT) x Γo,(⟨.bl _,H,I.kept (t':=tk) λb o e=>kp b o (λz=>by rw[Ge.mp z] at e;exact absurd εG δ9) μ7,rfl,q⟩),((c+7919 * (k:Int)) % (L:Int) * ((2:Int) ^ (61:Int).toNat - 1)+(c+7919 * (k:Int)) % (L:Int) / 3+(k:Int)),(∀ps H,a_ H1 H->H D=some νK->A_ H ps n row->Γf->D∉ps->Q H),(upd (upd H tp (.tup [V.str (Go "look"),V.int (i:Int),V.int (j:Int)])) R.dn (.lst (ds++[V.ref tp]))),λr s'=>r=.ok (.ret νV)/\OldK θD s'.heap/\s'.os=s₁.os/\AllBare s'.gens,k == NameKind.free && env.scope.kind == .function && env.kindOf n == some .cell,νS++(ts.take i).map λt=>N+t,(⟨rfl,rfl,rfl,by decide +kernel,rfl,by decide +kernel,by decide +kernel⟩),(∀cl C s₀ H₀ ex,Lx (da X sc cl C cap own s₀ H₀ ex) ifs tt),(∀cl C s₀ H₀ ex,PE (da X sc cl C cap own s₀ H₀ ex) elt te),(.tup [.int (((i+j) / R.N:Nat):Int),.int (((i+j) % R.N:Nat):Int)]),(∀cl C s₀ H₀ ex,PG (da X sc cl C cap own s₀ H₀ ex) tg g),IF x qual θA δq δg ζh kV doc pm an cdv ct,A.deeper (envOfC qual δg Ω f γw),(∀i H x H',i < n->a_ H1 H->J.yld i H x H'->x=src i/\H'=H),(∀H,a_ H1 H->H D=some (.lst ((r_ γm).map f))->Q H),bX (row:=g_ (N+M) ζf t) (i:=k) ρx,⟨_,rfl,R.A,_,_,_,_,rfl,hA,ϋ,ζj,cL _ _ _ _ _,?_⟩,C_ νL λv s1 ⟨x,H1,I1,r1,q1⟩=>?_,(upd H p (.ins γI dp (Kn l ((m+1:Nat):Int)))),λy=>absurd ηv ηx,(λy=>absurd ηv (by rw[el];omega)),⟨_,rfl,b_ εL ν⟩,λk H2 R2 hk hb s2 hR=>ζN,Hu CX P w K mg base N qual γu f cdv A Δ s H E,R.on ((R.K.put i p1 l1 .lost).put i p h3 ηB),g_ N l t++(r_ j).map λj=>if j=t then 1 else 0,i_.of (cap:=[0]) (own:=["role"]) γc,(⟨_,rfl,_,rfl,by omega,by omega,λD nD=>?_⟩),⟨_,rfl,b_ ν ε8⟩,if k=f then (k,v) :: r else (k,x) :: FD f v r,λi H hi sm=>⟨xs,xs[i],sm.seq hs,s_ hi⟩,λj=>GF.sc r w n (eqn N l t j) Γr,bz Γn H',upd (upd H P ρy) c' ρq,(if ([]:List Keyword).isEmpty then 0 else 1),by simp only[Gk,bne_iff_ne,ne_eq];omega,envOfC qual γu Ω f cd,((N7 (c / 5) (show (S:Int)≠0 by omega))),backTo pos (starEach δm ρ),V->Option Int->Option Int->Hp->VK->Prop,JR K 2 (fA δn (fA (bj (k+1)) KY)),ay aU ai (ay aV ρp ai),F0 (GU εG (I.ok.cab x c G hc)),⟨.int _,H,I.tok _,ϊ,q⟩,Kh K γY x=some νM,aD ax ο ω γ6,upd H R.sl Γp,.call ζK ⟨[.ref a],[]⟩,(∀j k,j < M->k < N->L j k < 2 ^ w),λH sm=>⟨xs,sm.seq hs,B_ _⟩,λi H x H' _ _ y=>⟨y.2,y.1⟩,λA outer s H vs Q E hr h=>?_,(λw=>n (by rw[w];exact M5 _)),upd H4 D (.frz o Γ7),(∀p∈ts,H p=some ρA),λk=>(cs.getD k none).isSome,.lst (rowV Γ6),(Str->Option μ)->Heap->Prop,(FA w n p.2).map (tm r w p.1),λ_=>⟨ϊ,rfl⟩,λz=>ne.2 p (Gi ep) εq,(.int ((R.N * R.K.S:Nat):Int)),λj=>tm r w (T f (N+j)) c,.call ζK ηy,gT rfl T.A38 γ8,.tail _ νU,(by rw[e];exact True.intro),(∀H4,a_ H H4->R (b i) H4),.ins (kd.C a) dp (kd.fs l),List Key × Addr × Value,I.base.keep b o e n hb hx,F0 (GU εG I.ok.above),⟨_,_,g1,g2,g3,g4,g5,g6⟩,(cs++[some ρz]),(∃xs,H x=some γP),.For tg iter body [] pos,if b % 2=1 then a else 0,⟨stop H sm,hQ H sm hd⟩,seqItems? (.ref S) >>= _,aa ο γt,d6 (K:=K) rfl 1e0 rfl,λt Hx Rx ht sx hR=>?_,(.int ((R.N+R.M:Nat):Int)),f (.int i t) (.int j u),by simp only[Gk];omega,(by rw[y];exact .head _),I.base.free b o e n hx,⟨oc,od,.func fd,osl⟩,λi _=>εJ,List Value->Shared->Prop,(⟨e1,by cases e2;rfl⟩),⟨σ',H',I.unwish,q⟩,by rw[Q8];simp;omega,(∀i,i < n->Ok (stt i)),ho j s1 σ H1 _ I1 q1,aa (ak Ψ rfl) ab,e=x\/H e=some θw,(∃u,h'.get? e=some u),upd H T (.tup [u,v]),Obj.mapSeq λ_=>bs,Jl K x qual st f fd ds,(bv (g b n)).trans n,ks.getD pl false=false,by rw[f.len];decide,rowV (g_ N θx 0),aQ ο ϐ rfl,List Γq,fx r w M N l (knO g),((k:Int)+st * (s:Int)),HH X (compareOp op) r,I2.hok.fresh Θ,(by rw[aK];exact hk),.lst (qs.map ϙ),.lst (aM R.S (X i)),upd H2 D3 δr,ay aU ϐ γv,(by rw[a1];exact hi),tupleKind ηC,a.free c ob q n hx,.Subscript o i pos,.Attribute e f pos,d.params.defaults=[],k == NameKind.free,λb o' z=>FZ _ z,(.int ((n:Nat):Int)),F0 (GU (FO z) nDs),F0 (GU (FO z) nks),⟨_,rfl,_,rfl,?_⟩,λk=>mk.getD k 0,t_ a H0 H R n' os as,hm b _ q λz=>z,s.heap.objs.size<=a,Gc Ϡ X.w H' h',X.mg "range" = none,hi j s σ H _ I h,JO ύ x dx C mA,mn I hg hm ?_ hdb,λx=>x.1.isSome,λx1 x2=>x1++x2,λf vs=>Rl f vs,KH K x qual st f fd,Mm γu clos cvs H,c < d\/c=d/\m < n,(by simpa using hj),FG h8 ζ,⟨_,rfl,hR _ s'⟩,H l=some γP,FW T γE f,λi H hi _=>hi,H a=some ηw,srow.getD k none,(∀y∈ys,y=a.t47),List (Nat × Addr),λ_ z=>Ge.mp z,.Tuple es k pos,.Name "range" p,World->Heap->Prop,cs++[none,none],.tup (k.map kV),λe=>z e.symm,ks.getD k τ,fx r w M N l ks,λH2 s2 g=>?_,bz δV H10,Kk a G H R ro e X,.builtin "len",2 ^ r.log2 - 1,⟨_,G4 _ rfl⟩,.builtin "any",List (Addr × V),IH θD H,λ_ _ _ q=>q,(bv z).trans e,V.int (Mv _ _),Lj r w M N l j,(by rw[y];simp),h.get? b=some o,I.freeC x c e,⟨t,h.nox,q⟩,λH _=>B_ _,(y,C+1) :: cl,cn σ cap [y],Array DictEntry,Gc P w H ύ,("held",.ref l),R.tu.getD k 0,FB cs as k=true,⟨_,c_.of g⟩,es.map (·.1),h.objs.size<=a,(some (k:Int)),.type "list",some (src i),cs++[some x],⟨?_,?_,?_⟩,tuples' true,ns.length < 64,MU ?_ ιY,(.int (y:Nat)),(.int (p:Int)),.lst (Ft cs),FT ms H pl prs,Int->Int->Int,rangeSize_one,λ_=>none,PE X ζi tv,λx=>!x.1,l.most=some n,LZ K c t=true,eqn N l 0 k,eqn N l 1 k,s2.trans s3,ms.length+1,Gl X "range",Mq wi g tb,(k,x) :: r,Option μ,its'.toArray,pw r w x n,c_ K H1 a xs,entry_sorted,call f [v],s1.free nD,GF.D_ R b0,X.length=N+M,.tail _ hx,PA X [a] ta,I7.unpinned,I.ok.frames,scope.names,⟨a,i,k⟩,sm.seq hs,Mf K l xs,X.A.in1.in1,aA γv,⟨dx,?_⟩,sm _ _ hl,k < R.N+R.M,s1.seq hS,H a=some o,builtinsNs,X.wish E,GQ r w a,ev r w y,Nat × Nat,Nat->Nat,hlt b hb,nb b _ e,Hs fa fd,G4 _ rfl,⟨RD _⟩,size_push',G3 kvs k,GV H a y o,kvs.length,KB ms H H1,Il X i f,H D=some o,s2 _ _ Z,⟨ps,y⟩,t.tup e2,Mw C dx,D b o e,MJ X es t,PE X o to,PA X es t,I.stkFree,b < 2 ^ w,a &&& b,y < 2 ^ w,c < 2 ^ w,Hl _ hx,ys++[v],t'.length,vs.length,.ref Pk,as.length,.ref kn,GF.Gg r w,g b _ z,zs.length,rs.length,K9.mp e,bz xs H,.ref nl,H b=none,NE (H x),Oq h H,.str x,I.ok.blt,some e,i == j,.inl e,a_ H1 H2,HJ hq',S.nocell,g.toList,lt i j,α->Prop,H x=none,aq z n,dd.mapOf,.int c,H h=none,g i hi,Gp l t,fk c S,(("size" : Str),V.int ((d * st:Nat):Int)),(("stripes" : Str),V.int st),(("planks" : Str),V.int n),(("data" : Str),V.int d),R.row ιV,.dK (Gq es),(r_ (N+M)).map λk=>GF.FJ r w 0 ρo Γg,Str × Addr,aa γ2 ab,FL δR none,Str × Value,Rw.ls_ms _ z,.builtin id,(∀p∈ps,H1 p=none),λt=>j.getD t 0,.ins C dx fs,ts.map ϙ,Kg name q ζe body γu clos pm ιT ctv,⟨eq_of_beq h,rfl⟩,R.K.put i p h kd,aH (cC T) hr.u rfl T.x111.m T.x111.k T.x111.b .nil aj (aa ο νE),R.K.dn :: A.rl :: A.sl :: a.t38 :: ys,.ins δN dp (hf h),.lst (rowV (as++[k])),Int × List Nat,X.getD j 0,(λ_ _ _ _ _=>by exact(aD νC ο ω γ6)),⟨μ0,⟨o,FZ _ e1,e2,nn,e4⟩⟩,i_.of (cap:=[4]) (own:=["role"]) γc,.builtin "type.__call__" ⟨.ref C :: us,kw⟩,(⟨xs.length - (i+1),by omega,rfl,hlt,p'⟩),bz νN H6,aF (de rfl) rfl T.A32 Mz γ8,aF aG rfl T.A03 G0 Γa,fx r w M N l (IW ks ιU),V.int.inj ηv,.tail _ (.tail _ (.tail _ hb)),aD ax ϐ ai γ6,d6 (K:=K) rfl 1e7 rfl,λz=>gn Γd,(("code" : Str),V.ref c),(some ((pb.2:Nat):Int)),(("ask" : Str),.ref f),K3.kind i ιW,ho g s σ H _ I h,(by simpa using hb),ns.map Dt.int,ak ϐ rfl,.Name x pos',λt=>e t j,(by simp[z]),h1.trans z,(Go "key",f),aA (PE.or (ao δf εI T.x57.me (bw T) hr.u T.x57.b .nil aj γt) (PE.or (ao δf ζI T.me_SlowPlank__look_at (bw T) hr.u T.x57.b .nil aj γt) (PE.or (ao δf θv T.me_LostPlank__look_at (bw T) hr.u T.x57.b .nil aj γt) (ao δf δP T.me_SparePlank__look_at (bw T) hr.u T.x57.b .nil aj γt)))),aX (PE.or (ao δf εI T.x55.me (ci T) hr.u T.x55.b .nil aj γt) (PE.or (ao δf ζI T.me_SlowPlank__there (ci T) hr.u T.x55.b .nil aj γt) (PE.or (ao δf θv T.x62.me (di T) hr.u T.x62.b .nil aj γt) (ao δf δP T.x65.me (cZ T) hr.u T.x65.b .nil aj γt)))),(ao (by exact ΓN) γT T.x18.me (dY T) hr.u T.x18.b .nil aj (aa (bc Γu rfl 84e7 ε9 γ3 Γs) νI)),⟨_,_,_,_,_,_,λi=>bs.getD i τ,rfl,OK (A:=νJ) (show X.A.in1.handled=none from I.ok.hd hc) Ω p j εc,Γt,λi v s' Q' E' hv q'=>?_,λh' tk kp=>?_⟩,(⟨I.code.same s,ζn,I.n16,I.W,⟨dx,s _ _ hA⟩,s _ _ I.cost,I.csl,I.asker.same s,I.row,I.srl,by rw[ae h1];exact I.nrl,by rw[ae h2];exact I.nsl,by rw[ae h3];exact I.nz,by rw[ae h4];exact I.nt,I.d1,I.d2,I.d3⟩),(∀(D C:Addr) (H':Hp) (s':ξ) (m:Ϝ),Inv X pins σ H' s'->s'.heap.Ns C m->GZ X pins H' C->Q γ0 H'->compPost Ξ X.A X.xe use R γ0 C ρM s'),λ_ _ _ _ _=>(qM (n:=2) (K:=K) rfl rfl (aN (au (i:=1) (of_decide_eq_true γc) rfl ε) (aN (au (i:=2) (of_decide_eq_true γc) rfl ε) bZ))),(⟨_,rfl,_,rfl,ro,_,_,_,_,rfl,(J4.same s5).sm _ _ ad,ϧ,εd,fl,A.RK.rk,aw,_,rfl,Y,rfl,_,rfl,_,rfl,A.RK,e5,_,A.st,_,_,rfl,U,hp,I.asker.stl,v,by rw[pk];rfl,fin _ s5⟩),⟨_,rfl,R.rk,_,_,_,_,rfl,h1,Γ,γJ,aO R,_,rfl,R.sh,_,_,_,rfl,rfl,c_.of δd,aB γD,_,_,_,_,rfl,T.ty_Plank.of εI hp,T.kn_Plank_LostPlank,_,rfl,?_⟩,(λv σ H'=>∃cvs,AH N δg (cellsFrom Ϛ (ah st).names []) σ cvs/\((∀c v,cvs.lookup c=some v->H' c=none/\H c=none)->Q v (Kc cvs H'))),(upd H1 c (.ins γb dx [(("blocks" : Str),V.ref bp),(("sums" : Str),V.int M),(("data" : Str),V.int N),(("roles" : Str),V.int ((N+M:Nat):Int))])),.inl ⟨_,rfl,R.rk,_,_,_,_,rfl,D,Γ,γJ,aO R,_,rfl,R.sh,_,_,_,rfl,rfl,c_.of νD,aB γD,p,dp,_,rfl,hp,rfl,_,rfl,p,_,rfl,_,rfl,?_⟩,(⟨_,rfl,R.A,dx,_,rfl,sx _ _ hA,rfl,_,rfl,H0,R,r,w,n,M,N,k,l,cs,aT,os,as,X,rfl,I,J.same sx,by omega,mx.len,mx.lt,mx.ism,mx.ag,λH' s'=>?_⟩),.inl ⟨_,rfl,R.rk,_,_,_,_,rfl,h1,Γ,γJ,aO R,_,rfl,R.sh,_,_,_,rfl,rfl,c_.of δd,aB γD,p,dp,_,rfl,hp,rfl,_,rfl,p,_,rfl,q⟩,⟨ok.mod,ok.kind,ok.glob,ok.blt,ok.above,ok.inj,ok.has,ok.cab,ok.hd,ok.frames,ok.stk,ok.exf,ok.bs,ok.bsz,ok.noex,ok.exfs,ok.funs,ok.frf⟩,(y.2 != .free) || ((sc.names.lookup y.1 == some .free) && ((osc.names.lookup y.1 == some .cell) || (osc.names.lookup y.1 == some .free))),PW.pt (aY (am bq ο (bg (v:=.int 2) rfl T.A89 ϊ) υ) (aS (am b7 ο (bg (v:=.int 8) rfl T.A88 ϊ) υ))),ar (i:=6) δX rfl 0e2 (aH (wt T) hr.u rfl T.x116.m T.x116.k T.x116.b .nil aj (aa (pv 10) (aa εH γ8))),(cG I hg hm boot_range (M9 (C_ (ha pos g s σ H _ I h) λus s1 ⟨vs,H1,I1,r1,q1⟩=>?_) (by rw[hs,hs2]) (by rw[hs2];rfl))),⟨m',hm,i+1,σ9,H9,zs,I9.unpinned,T.keep _ _ _ Y λb hb o e=>(I9.pin (b,o) νY).1,λb hb=>?_,hz,w9⟩,(⟨⟨xs,xs[i],q,by simp[hlt]⟩,Pv (i+1),λσ' H' p'=>⟨xs.length - (i+1),by omega,rfl,hlt,p'⟩,λx H' y=>?_⟩),(∀i σ H x H' (R:θH),i < n->a_ H1 H->Ok σ->J.yld i H x H'->(∀H'',a_ H H''->R (stt i) H'')->g x σ H' R),comprehension θF sc ρ ppos (newList []) τ (eval iter ρ) use,⟨λb o e n hb hx=>?_,λb o e n hb hx=>?_,I.base.free,λb o e hx=>?_,I.base.tups,I.base.frzs,I.base.tbls⟩,(⟨⟨q1,q2,hlt,by omega⟩,Pv (i+1),λσ' H' p'=>Γw,λx H' y=>?_⟩),(∀ps H,a_ H1 H->H D=some νK->A_ H ps γm row->Γf->D∉ps->Q H),aE (ao ο Γ T.x95.me (dS T) hr.u T.x95.b .nil aj (aa (bJ (aa dI ζc)) ab)),⟨I.base.keep,I.base.slot,λb o e n h=>?_,I.base.there,λb xs e=>?_,λb o u e=>?_,λb ps e=>?_⟩,fj t t' rv g λd d' v v' u u' U b1 b2 b3 b4=>mv I 60 νJ d d' v v' u u' γ b1 b2 b3 b4 J,fj t t' rv g λd d' v v' u u' T b1 b2 b3 b4=>mv I 60 νJ d d' v v' u u' γ b1 b2 b3 b4 G,λ_ pm cdv ctv=>Kg νO ζJ ζe body γu [(y,cy)] pm cdv ctv,(wh (by unfold fk;rw[if_neg ρj,if_neg ρj,if_neg ρj])),K.lookup f=some ⟨oc,od,.func ρB,osl⟩,fj t t' rv j λd d' v v' u u' hd b1 b2 b3 b4=>ih γy d d' v v' u u' γ b1 b2 b3 b4 J,λ_ pm cdv ctv=>Kg νO ζJ ζe body γu [] pm cdv ctv,(C_ (h pos g s σ H _ I hq) λus s1 ⟨xs,H1,I1,r,z,q⟩=>⟨by rw[<- r.length];exact z,?_⟩),⟨.ref D,H',I'.turned (t':=s'.toks) μ8 f0 f1 f3 f4 f5,rfl,q⟩,⟨_,rfl,_,_,rfl,rfl,_,rfl,b_ γa ν⟩,(⟨_,rfl,_,_,rfl,rfl,δh,_,_,rfl,rfl,by decide,_,_,rfl,rfl,f1 (i5 z)⟩),aH (cC T) hr.u rfl T.x111.m T.x111.k T.x111.b .nil aj (aa ο (aa (ay aU ai γX) ab)),(⟨hk,⟨L,_,hf,hn,e,hd⟩,ih (λb hb=>hs b (by unfold GY;rw[OH,hf];exact Hl _ hb)) hr⟩),C_ (ha pos g s σ H _ I h) λus s1 ⟨vs,H1,I1,r1,q1⟩=>hc g s1 σ H1 vs us Q I1 r1 q1,CR HV Δ P w H' s' (λv H''=>∃t,v=.ref t/\H'' t=some ρJ/\a_ H' H'') E0,(λ_ _ _ _ _=>by exact(bu (j9 (K:=K) rfl) rfl T.A18 γf θz)),⟨_,rfl,_,_,rfl,rfl,δh,_,_,rfl,rfl,p0 ζ,_,_,rfl,rfl,?_⟩,(compEnvC sc cl C ρ).kindOf x=some .cell\/(compEnvC sc cl C ρ).kindOf x=some .free,.lst (rowV Γ8),λb hb=>⟨(hf b hb).2.2.2.1,(hf b hb).2.1,(hf b hb).2.2.2.2.1,(hf b hb).2.2.2.2.2⟩,bindArgs Γj ηy=pure ηE,aE (qO rfl T.m_Plank T.uc_Plank (cW T) hr.u T.x54.b .nil aj ρD),λ_ _ _ _ _=>(cY (am c4 (aD νC ο ω γ6) ai υ)),⟨_,rfl,_,_,rfl,rfl,δh,_,_,rfl,rfl,p0 ζ,rfl,_,rfl,?_⟩,(⟨hlt,Pv (i+1),λσ' H' p'=>⟨n - (i+1),by omega,rfl,hlt,p'⟩,λx H' y=>?_⟩),aD ax (aW ϐ ϖ T.x28.me (gF T) hr.u T.x28.b .nil aj) Ψ γ6,(∀(w:Ϣ) (h:Heap),YP w h->(K νG).In h/\∀p∈ts,h.get? p=some (OM #[])),(s2.heap.push { cls:=.type "list",dict:=none,data:=.seq ([]:List μ).toArray }),(⟨_,rfl,Z,_,_,rfl,rfl,ac,by omega,by omega,by rw[G5];exact lenZ,λZ2 a6=>?_⟩),k == NameKind.free && env.scope.kind == .function && env.kindOf x == some .cell,λ_ _ _ _ _=>(au (i:=3) (of_decide_eq_true γc) rfl ε),PW.pt (aY ρE (aS (am dP Ψ ϟ υ))),(upd H x (.ins γ1 dx [ΓG,ΓI])),Mb ha hb I h λv u s2 x y H2 I2 rx ry q=>ho g s2 σ H2 x y v u Q I2 rx ry q,⟨(f3 b hb).2.2.2.1,(f3 b hb).2.1,(f3 b hb).2.2.2.2.1,(f3 b hb).2.2.2.2.2⟩,Jq ζJ γu Ω fa ιT [(y,cy)],upd (upd H' l' (.lst (rO (FL R.S none)))) x (.ins γW dy (hf l')),⟨_,rfl,_,rfl,D,_,rfl,Jd.k (k:=Sum.inl ((N+t:Nat):Int)) (s2 _ _ g) len,?_⟩,(⟨_,rfl,_,_,rfl,rfl,by decide,rfl,_,rfl,b_ εa (λz=>f2 (n5 z))⟩),M9 (C_ (ha pos g s σ H _ I h) λus s1 ⟨vs,H1,I1,r1,q1⟩=>?_) hs rfl,LY Ω (s.heap.push { cls:=.type "frame",data:=.dict #[] }) h',C_ (ha pos g s σ H _ I h) λus s1 ⟨vs,H1,I1,r,q⟩=>⟨I1.kIn,?_⟩,aE (ao ο ϖ T.x24.me (fO T) hr.u T.x24.b .nil aj γt),aE (ao ο Γ T.x98.me (eG T) hr.u T.x98.b .nil aj γt),aE (ao ο Γ T.x96.me (fQ T) hr.u T.x96.b .nil aj γ8),aX (ao ο ϋ T.x32.me (gc T) hr.u T.x32.b .nil aj γ8),upd H4 D (.frz o (.dK (bh rs (laidV R.r R.w R.n R.N R.l nk nb εs)))),aW εN Γ T.x83.me (jM T) hr.u T.x83.b .nil aj,ao ϐ ϧ T.x105.me (gf T B) hr.u T.x105.b .nil aj ηD,C_ μ2 λu s1 ⟨x,H1,I1,rx,a,dx,fs,ex,ea,l,q⟩=>?_,(⟨_ :: fs,KatTups.cons e1 e2 e3 rfl h1,by rw[Io,Io,h2],λv hv=>?_⟩),(∀(s:ξ) (u:μ),BindsTo s fd ξ0 [("_law_script",u)]),(⟨λi m σ H=>m=n - i/\i<=n/\Pv i σ H,⟨n,by simp,GO _,h0⟩,?_⟩),Jq ζJ γu Ω fa ιT [],⟨_,rfl,p,dx,_,rfl,D,rfl,_,rfl,_,rfl,p,r,w,s,s,rfl,hF,γh,hs,?_⟩,⟨_,rfl,c,dx,_,rfl,h1,rfl,_,rfl,c,bp,fp,r,w,n,M,N,k,l,rfl,hC,hk,?_⟩,H fa=some (Hs fa Γj),ao ω ϋ T.x40.me (dm T) hr.u T.x40.b .nil aj γt,ao ο ϋ T.x36.me (eO T) hr.u T.x36.b .nil aj ζL,(⟨_,hz,λv q=>by have q':Data.fields _=Data.cell v:=q;cases q'⟩),((∃v2 v3 v4:Option V,σ=[some θL,some ηF,v2,v3,v4])),(λy=>absurd (by rw[decide_eq_false ηx];rfl) y),((l_ N nk).filter λk=>Gp l t k).map λk=>X.getD k 0 ^^^ nb k,IF x qual θA δq δg .none kV doc pm an γw ct,upd Γx R.K.dn ξ4,aa (ay aV (ay bN Ψ ai) ΓD) ab,(∀cl C s₀ H₀ ex,Lx (d7 X sc cl C cap y s₀ H₀ ex) ifs tt),(∀cl C s₀ H₀ ex,PE (d7 X sc cl C cap y s₀ H₀ ex) elt te),(wpAny_newTuple ?_ (by show vs.length<=_;rw[θB];omega)),S.nocell _ (Kr (show scope.names.lookup x=some .cell from hx)),(⟨_,rfl,p1,_,_,rfl,rfl,ac,by omega,by omega,?_,λp2 n2=>?_⟩),C_ (hi pins s σ H _ I h) λv s1 h1=>C_ h1 λc1 s2 h2=>?_,(∀cl C s₀ H₀ ex,PG (d7 X sc cl C cap y s₀ H₀ ex) tg g),kat_kind (T:=.type "int") t1 γ (λv hv=>?_) rfl ?_,⟨_,rfl,.inl ⟨rfl,_,c_.of O⟩,_,rfl,D,_,_,rfl,rfl,O,U,?_⟩,(⟨D,_,_,rfl,rfl,h1,g,ϊ,s1.up nD,by rw[ac,er];rfl⟩),(∀i σ H,i<=xs.length->Pv i σ H->c_ K H l1 xs/\c_ K H l2 ys),listUpdate_at g rfl ?_ 83e4 ιY,(∀n,(n,ζg)∈sc.names->(cl.lookup n).isSome=true),(∀H,a_ H1 H->H D=some (.lst (((r_ n).filter b).map f))->Q H),(⟨m,by rw[ae (λw=>by rw[w,hd] at z;cases z)];exact z⟩),IF x q θA δq δg ζh kV doc pm an cdv ct,⟨_,rfl,R.rk,_,_,_,_,rfl,h1,Γ,T.A77,yB R,rfl,_,rfl,?_⟩,(⟨.int ys.length,H,I.tok _,⟨s.toks+1,by rw[Gk,g]⟩,q⟩),C_ ΓK λv s1 ⟨x,H1,I1,r1,ty,q1⟩=>?_,SortSt.mk' general' (vs.toArray.zip δQ) #[] 7 none,λh=>absurd (V.int.inj (of_decide_eq_true h)) γ,λy=>absurd ΓB γ,aa (bg (v:=.ref γI) rfl T.m_SparePlank rfl) ab,⟨0,x,rfl,rfl,λj hj=>⟨?_,λe=>absurd e (JW j)⟩⟩,A.under Γv,IF x q θA δq δg .none kV doc pm an cdv ct,C_ μ2 λv s1 ⟨x,H1,I1,r1,q1⟩=>?_,(y.2 != .local) || (sc.names.lookup y.1 == some .local),((by rw[bH];exact FG (by omega:os.length<=8) ζ)),⟨_,rfl,R.rk,_,_,_,_,rfl,h1,Γ,T.A61,rh R,_,rfl,?_⟩,.Call (.Attribute (.Name c p) m apos) δm [] pos,(r_ ρm).map λi=>V.bl (os.getD i none).isSome,(GF.FJ r w M (λt=>eqn N l t j) (λt=>by'.getD t 0)),(λh=>absurd (of_decide_eq_true h) (by rw[el];omega)),((d.map λk=>(((cs.getD k none).getD 0:Nat):Int)).sum),λs=>if s∈(es.take i).map (·.1) then Z s else Y s,⟨_,rfl,b_ γx ν⟩,IF name qual ζe body γu dV kV doc pm an cdv ct,(∀n c,cl.lookup n=some c->env.cells.lookup n=some c),(∀n c,cl.lookup n=some c->X.env.cells.lookup n=some c),compPost Ξ X.A X.xe use R γ0 C,⟨_,rfl,p,dx,_,rfl,G,rfl,_,rfl,p,r,w,d,rfl,hF,hd,?_⟩,aa Γz νI,upd (upd H1 dy θw) x (.ins εu dy []),upd (upd H dy θw) x (.ins γI dy []),.dK (bh (II R.N i ρs en.1) (KC R.N i bs en.1)),(∀b u,b∉fp->s.heap.get? b=some u->h'.get? b=some u),K.lookup c=some ⟨.type "code",cod,.fields cvs,csl⟩,i_.of (cap:=[1,0]) (own:=["symbol"]) γc,upd Hn R.sh (.lst ((R.ps.map ϙ).set i γR)),(g.getD i none).isSome || (bF N cs ts nk).contains i,upd b2 PL (.lst (Ft ((HK δe s').take (i+1)))),(λ_ s'=>∃σ' H',Inv X pins σ' H' s'/\Q σ' H'),HT.JF γm γm hi - HT.JF γm 0 lo,typeOf Γe=pure (.type "method_descriptor"),GP.mono (λp q=>⟨rfl,q⟩) _ (xO γ hz),⟨_,rfl,D,_,_,_,rfl,rfl,Gn.of hD,rfl,rfl,_,rfl,?_⟩,Kc (Iy c1 c2 c3 ηz ζM δT) H2,R.on ((K3.kind i ιW).kind i (.spare (t+1))),(⟨_,rfl,(show 0<=sizeLine by decide),λD4 j=>?_⟩),C_ νL λc s1 ⟨H1,I1,q1⟩=>?_,C_ (hc g s σ H _ I h) λd s1 ⟨H1,I1,q1⟩=>?_,⟨oL,es,ep,k _ oL (λz=>(hf _ z).2.1 rfl) ho,r⟩,⟨rfl,I.turnedL (t':=δS) hf λb u hb e=>?_⟩,aE (cF JX JV JU bi ϟ γ8),bu bK rfl T.A18 γf θy,i_.of (cap:=[0,1]) (own:=["role"]) γc,HL (Iy c1 c2 c3 ηz ζM δT) H,upd H2 R.rl (.lst (Ft (os.set k (g.getD k none)))),i_.of (cap:=[2,0]) (own:=["role"]) γc,i_.of (cap:=[1,0]) (own:=["role"]) γc,.tail _ (.tail _ ΓC),.lst (((U.drop εr).take δO).map ϙ),attributeBase e f ρ ρI=eval e ρ,.ListComp elt [⟨target,iter,ifs,0⟩] γu pos,F.apart (d:=.none) hz g h1 h2 θK ζP,⟨⟨q1,q2,.inl γ⟩,hd σ H ξ3⟩,⟨_,rfl,_,rfl,Hd,_,rfl,.inl (c_.of hH),_,rfl,?_⟩,(!decide (V.int ((i:Nat):Int)=V.int ((j:Nat):Int))),(∀p∈ts,mainGlobals≠p∧base.BuiltinsAt mg p),⟨n,rfl,GO _,(a_.refl _).up hD,rfl,ac,none,rfl⟩,(∀p∈ts,mainGlobals≠p/\base.BuiltinsAt mg p),⟨some "key",.Lambda ζe body γu lpos,kp⟩,(G9 ((ps.getD i (0,0)).1:Int) (ps.getD i (0,0)).2),⟨Tt,_,rfl,Gn.of ac,rfl,_,_,rfl,_,_,rfl,rfl,?_⟩,i_.of (cap:=[2]) (own:=["role"]) γc,i_.of (cap:=[]) (own:=["block"]) γc,(λ_ _ _ _ _=>by exact(bT cg ο aL υ)),aA ιS,(r_ M).filter λt=>(cs.getD (N+t) none).isSome,j6 cs (L.filter λk=>!fx r w M N l ϑ k),(by rw[S2.I.sh.len _ (KP _ S2.I.sh.m0)];exact hk),kvs.map λkv=>if kv.1=k then (kv.1,y) else kv,(⟨dx,by rw[ae (λz=>ne.1 εq)];exact h1⟩),.tup [V.ref γW,V.ref γI],λj=>L.all ΓA,(R.on K').K.dn :: A6.rl :: A6.sl :: a.t38 :: [],(∀b xs,H b=some ε7->H' b=some ε7),(∀b u,b≠e->h.get? b=some u->h'.get? b=some u),if around.isSome=true then "dict" else "frame",(collect_list hl ?_ (by rw[θB];omega)),cG I hg hm boot_min ?_ 0e3 ζ,λk=>blkN ρR k ρF,(by rw[ξ2];exact I.mod.glob.keeps I.bk),(∀i σ H,i<=xs.length->Pv i σ H->c_ K H a xs),Jq q γu Ω fa ιT clos,(⟨(show 2<=sizeLine by decide),λt nt=>?_⟩),λb o _ _ hc e _=>⟨o.slots,k b o hc e⟩,upd H l (.lst ((aM R.S (X i)).set j (ov o))),aP Γy,am c4 ϟ νP υ,am c4 (ak Ψ rfl) νP υ,am bx (ay aV ρp ai) ai υ,a_.new (o:=.lst (Ft Γb)) a6,some (.builtin "getset_descriptor.__get__"),⟨hL j k hj hk,t.lt h (N+j) hh γ⟩,⟨[],KatTups.nil,rfl,λ_ h=>absurd h GH⟩,tryCatch (holding [u] (call _ [u])) _ >>= _,NY (JK (xW g m1 hy ry λt2 s2 H2 m2=>?_)),(a_.new (o:=.tup [V.int (f:Nat),V.ref p]) hT),aD (xE (K:=K) rfl) ο ai γ6,aa (aD ax μc (pv 10) γ6) ab,λb o hb e=>kk b o ΓL e,(⟨o1,e1,λv q=>by rw[d1] at q;cases q⟩),if (k == ζb)=true then _ else _,aF aG rfl T.A03 G0 (aa ιR ab),(∀x,foldedSetIterable iter ρ x=pure x),(∀p∈ts,∃c,LZ μa c p=true),aa νW ab,⟨.int μ4,H,I.tok _,ϊ,q⟩,(g_ (N+M) (GF.Fx r w t f pl c) f).drop N,Obj.mapSeq λ_=>(arrOf st).map (·.2),(⟨q1,by rw[ae (nn _ q2)];exact q2,q3⟩),(.lst (FL (l:Int).toNat [γQ]).flatten),⟨D,_,_,_,rfl,rfl,Gn.of hD,rfl,rfl,?_⟩,jt εv ο Ψ γ6,(.lst (HD g (some (ds.length:Int)) none)),⟨v,H',J.os,J.bare,J.base,J.hok,rv,q⟩,λh' c' kp e=>fin g r' hz h' c' kp e,(Ls K l1 l2 xs ys).stop i H/\D.nx σ H,Jq q γu Ω fa cd clos,(∀c v,cvs.lookup c=some v->H' c=none),aa (aD ax ο ai γ6) ab,tks.map λk=>(os.getD k none).getD 0,aa νX ab,(R.pl st k,(Hv R nk nb εs).getD k 0),⟨h0,ts,k _ _ h0 h1,h2,λi u e=>?_⟩,C_ (ha g s σ H Q I h) λc s1 e=>?_,.Call (.Attribute o m apos) [] [] pos,TZ K εK x=some νM,(∀k,k < n->a k < 2 ^ w/\x k < 2 ^ w),⟨u,ru,.inr ⟨.inr hf,c,hc,ik z⟩⟩,(∀p∈ts,(K νG).lookup p=none),bg (v:=.int 32) rfl T.Ab9 ϊ,(λe=>x (by have:=V.int.inj e;omega)),some (.builtin "object.__setattr__"),kas_item (ks.toArray.zip δQ),kas_item (vs.toArray.zip δQ),λz=>absurd (decide_eq_true rfl) z,aa (ay dJ (be νE) ο) ab,Hn p=some (.ins (kd.C a) dp (kd.fs h)),(∀b o,b≠t->H b=some o->H' b=some o),aa ο (aa ω νI),aa Ψ (aa ϐ γ8),(HR X pb.1 st ΓH),(⟨_,rfl,_,rfl,by omega,by omega,?_⟩),ho g s2 σ H2 x y v u _ I2 r1 r2 q2,F_ Ϛ :: ρU,(⟨.bl b,H,I,rfl,by rw[e];exact q⟩),(⟨ps++[p],by rw[HU];rfl,?_,?_,?_⟩),(by exact ΓE),⟨λD j hd nD hD=>?_,λb2=>?_⟩,gU λk hk=>W.lt j k (GG.mp hj) hk,k _ _ ΓF a0,(∀s,s < hs.length->hs.getD s 0≠p),(⟨[],rfl,A_.none,by simp,by simp⟩),⟨_,get?_update_seq g λ_=>#[]⟩,((∃q,f=.ref q)\/∃b,f=.builtin b),tryCatch (pyNext (.ref I)) _ >>= _,((ps.set h p1).set f p2).map ϙ,aD ax εH ϐ γ6,(if k=i then kd else R.kd k).fs h',(∀j,j < m->(row j).Perm (cq n)),λt=>(cs.getD (N+t) none).isSome,.inr (.inr (.inr ρe)),.BoolOp .And (a :: b :: rest) pos,λi H hi sm=>⟨sm.seq h1,hi⟩,u i (j - 1) γ γ,(MU ?_ (by rw[θB];omega)),am bx (ay aV γ2 ai) ai υ,ay aU θE ai,(by rw[az];exact FG Z ζ),aF aG rfl T.A03 G0 ζL,aF aG rfl T.A03 G0 θy,(0<=i/\i < ((γg ^ n:Nat):Int)),(⟨by decide,by decide,by decide⟩),(by unfold GY;rw[OH,hf];exact Im),.BoolOp .Or (a :: b :: rest) pos,HZ R n λk hk=>(h k θM).1,(∀i,hs.length<=i->i < M->T i p=0),(cs++[some νH,some u]),pO Ϡ X.w X.K X.mg δ7 k sp,λz=>some (seqObj "list" z c2),(if k=i then kd else R.kd k).C a,.ins γC dx (L9 d n st tp),fx r w M N l (IW ks (ms.take i)),au (i:=2) LQ.nd rfl ε,Value × List Value->Shared->Prop,λv H2=>v=.non/\Q μb H2,⟨⟨o,e,ex.1⟩,λa e2=>?_⟩,⟨m,hn,λi x v e1 e2 e3=>?_⟩,⟨_,hn,λi x v h1 h2 h3=>?_⟩,(⟨h,by omega,by omega,q.2.2.1⟩),Hs fa (mk doc pm ιT ctv),(V.int (GF.it r w n:Nat)=V.int 1),am cg ϟ aL υ,upd H2 R.sl (.lst (ss.set i v)),λz=>ad.tup aw Γd,p_ Ϡ X.w θI h' a o,letOwnedTupleGo tg μ3 u,⟨cl,?_,h2,λm hm=>h3 m ?_⟩,λb o _ _ hc e _=>k b o hc e,upd H l (.lst (ns'.map δp)),λH sm=>⟨sm.seq h1,B_ _⟩,List Γ9->Shared->Prop,closureFor γu X.env=pure clos,(if_neg hb).trans (if_neg hb2),Obj.mapSeq (·.push ρT),λu s' ⟨v,H',J,rv,q⟩=>?_,⟨tc,td,.seq ds.toArray n,ts⟩,⟨_,rfl,_,rfl,_,_,rfl,rfl,?_⟩,((FG (by omega:M<=8) ζ)),λk=>(os.getD k none).isSome,λk=>(os.getD k none).getD 0,aa θE ab,λ_=>⟨_,λ_ _ z=>z,?_⟩,((FG (by omega:N<=8) ζ)),⟨εJ,fin H2 s2,ac⟩,(∀f,G_ (fs.lookup f) (mA f)),⟨⟨xs,q,B_ _⟩,hd σ H p⟩,(by rw[hk];exact⟨_,I',q⟩),(∀b∈fp,b < s.heap.objs.size),λx hx=>S.par x.1 (N6 hx).1,(.int ((row.getD i 0:Nat):Int)),⟨D,_,rfl,c_.of hD,_,rfl,?_⟩,λk=>ts.any λt=>Gp l t k,(r_ N).filter λk=>Gp l t k,(x == ("__classdict__" : Str)),.BoolOp .And (b :: rest) pos,if g=f then some u else mA g,call Γe (v :: us),ps[i]?=some x/\vs[i]?=some v,.call ζK ⟨[x],[]⟩,⟨_,rfl,_,rfl,rfl,_,rfl,?_⟩,(r_ (N+M)).filter ζl,(.int ((eqn N l t k:Nat):Int)),ay dJ νZ γ2,.BoolOp .Or (b :: rest) pos,(∀σ H,Pv n σ H->D.nx σ H),GU (FO (I.ok.bs b o e).1) z,⟨GO _,[],_,.nil,G4 _ rfl⟩,λa b _ _ h1 h2=>Ud h1 h2,C3 ps vs γu clos cvs N σ0,⟨rfl,λi x v e1 e2=>?_⟩,(("many" : Str),.int (n:Int)),λk H2 R2 hk hb s2 hR=>?_,.lst (rowV (g_ N θx 1)),ba rfl T.A06 θz,bo z hx δ6,λj hj=>hk j (.tail _ hj),cs++[some ρH],rowV (g_ (N+M) ζf t),R.on ΓJ,by unfold FB;rw[hc,ha];rfl,ba rfl T.A06 Γa,.lst (Ft ρG),⟨z.1,ht _ _ z.2.1,z.2.2⟩,⟨.bl b,H,I.tok tk,rfl,q⟩,sc.names.lookup x=some .free,(∀H4,a_ H H4->R (f x) H4),seqObj "list" ks.toArray e,AN ps vs γu clos cv N σ0,upd H d θG,(.int ((2 ^ w - 1:Nat):Int)),(.tup [.int (i:Nat),.ref p]),(decide_eq_true (by rw[e])),λi u H4 R4 hu s4 hR=>?_,.inl Γk,.inr Γk,(Nat->Nat->Option Int)->Prop,ay aU ai (ay aV ω ai),R.on (R.K.put i p h .lost),a3 _ _ (J0.sm _ _ I0.cost),(by rw[hj];simpa using ew),FJ r w M ΓP y,(fin _ (by simp only[FU])),⟨?_,out.toList,e,hv,?_⟩,NS Δ P w H' s' νR,λc v e=>(cell c v e).1,Hn h=some (.lst (aM R.S f)),(((x:Int)+k) - ((y:Int)+k)),FY a H p d n st tp qs m row,(0+(i:Nat) * ((s:Nat):Int)),(⟨m1++m2,by rw[e2,Uu]⟩),λc v hc q=>k c v ?_ q,eval μ9 ρ,(∀b∈fp,GZ X pins H b),if x % 2=1 then 1 else 0,λz=>h t (ID t) εq,λm hm=>hf m (Hl _ hm),(KI "int") != KI "tuple",λu s' ce=>I2.after ce,aa ϐ ζL,Fz a H c bp fp r w n M N l,λi H1 R1 hi sm hR=>?_,[v1,v2].getD i .non=.non,aa γv θy,(HK δe s').take i,λz=>hc ΓQ,⟨q,Rt _ _ _ (.inl q)⟩,cG I hg hm hv ?_ hn hdb,⟨s h k hh hk,hx k hk⟩,(by rw[z,hD];exact Iu _),(by rw[<- z];exact Gi e),NC γu clos cv H ύ,CR HV Δ P w H s Q E,(by rw[l];exact D.val k),(V.int (GF.GQ r w d:Nat)),(("field" : Str),.ref fp),GF.FV t hs pl γE,⟨GG.mp ξ5,this.2⟩,(∀b∈X,b < γg ^ n),by show 1 < 1000;decide,.lst (rowV ιU),ts.map V.ref++[.ref pt],sv R.K X ρQ st,⟨m',hm,σ3,H3,I3,w3⟩,behindInMarks op b=false,slot_list_getitem.lookup,.Attribute o name apos,h'.Ns Ω m,Option (Value->Sem Unit),⟨m,hn,λh' sb=>?_⟩,am b7 γ2 ai υ,(.int ((2 ^ w:Nat):Int)),am bx ω ai υ,am bq ϐ ai υ,⟨ζO,rfl⟩,.lst (rowV (g_ N l t)),λz=>hm _ z _ _ _ h1,(by rw[hR.ls];exact hi),λH sm h=>hQ H sm ?_,λz=>some (HO.lst z),FB cs as (ls.getD i 0),λi=>f ρK,sA.trans (sS.trans sC),(.int ((2 ^ t:Nat):Int)),Value->Value->Sem μ,hb g s1 σ H1 _ I1 q1,(∀x∈row,x < 2 ^ w),⟨x,rfl,eq_of_beq q⟩,(.tup [.int (i:Nat),u]),λi=>f (l.getD i d),PySem.Fin->Shared->Prop,λi j C hi hj q=>?_,listItems_at g rfl ?_,λz=>e ΓR,⟨[],[ΓS]⟩,⟨rfl,λi p e=>?_⟩,aQ ο δW rfl,T.me_SparePlank__lay_at,(Sum.inl ((k:Nat):Int)),pm.mem_iff.mp (Rm hk),sh _ _ (a1 _ _ wb h1),(R.pl st k,Y'.getD k 0),Gx M N l cs δo,sv R.K X ρS s,RF γd (.ref y),.While c body [] pos,.Slice lo hi none p2,HT.JF γm 0 lo,sc.kind == .function,its.toArray[i]?=some v,by rw[FM,s_ hi];rfl,p.getD ρN 0,⟨g.keeps hk,SI ?_⟩,ht [] _ σ0 _ _ I hq,starEach [e,f] ρ,nn _ (I.freeC y c e),o.data=Data.dict es ep,cvs[11]?=some (.ref t),of_decide_eq_true h1,g_ (N+M) ζf i,T.me_SlowPlank__lay_at,.lst ΓM,II R.N i ρs s,storeName ρ x u,bootBuiltins x=some u,.UnaryOp .Not a pos,some ΓO,.int μ4 δS,intBits_le_64 h1 h2,.ref x :: θJ,(∀v,(x,v)∉binds),.Pass ⟨0,0,0,0⟩,⟨v,o,k c o ho,hd⟩,cs++[some u,some v],λv _=>v=.bl true,λp hp=>if_pos hp,oN T hcl I1 (uZ q1),List Γc,(V.int ((g:Int) / 2)),.lst (rowV (row i)),(by rw[he];exact Im),Jj r w n M N l X=true,(gJ rg 1 ((N:Int)+1)),.tail _ ρO,by rw[I.csl];omega,(s3.trans j) _ _ ad,λz=>Q (.int z) H,2+(c / 5 % 8).toNat,(by rw[z];exact hb),List V->Hp->VK->Prop,Result->Shared->Prop,I.hok.fresh θN,x.above y c (Kr h),Option Int->Hp->Prop,some Γe,ys.length≤sizeLine,if a then 1 else 0,if b then 1 else 0,FP w row * 2 ^ w+x,λt p=>t ^^^ F p,λi=>N.getD i Qd,X.A.units+64 < cLine,⟨_,_,_,G4 _ rfl⟩,⟨o,hk _ _ e1,e2⟩,.done (.ret .none),kvs.length<=sizeLine,m2.put g.nS g.IS _,λi=>ts.getD i 0,⟨rfl,_,c_.of hD⟩,(by rw[aK];exact R),.lst (G.map ϙ),GF.Fx r w t h pl c,LR r w N l o k≠0,(Lj r w M N l by' j),λz=>n (Ge.mp z),aX ϟ,aP ϟ,(∀z,Pz z->F z)->G,⟨_,_,rfl,rfl,?_⟩,(∀xs,o≠.lst xs),.lst (J.map ϙ),Il X i λ_=>none,mD δe X5 s',.tup (p.1.map kV),(by simpa using rv),QT X pins σ tg R,((n:Int) - (i:Nat)),λb u q=>FZ _ q,λ_ _ q=>FZ _ q,h.Ns εK mg,(by simpa using hl),⟨o,k _ o ho,hd⟩,I1.hok.fresh this,xs.length=ys.length,Qv i ρL,cvs.lookup b=some v,H c'=some ρq,s.heap.objs.size<=S,(g_ N l t).zip bs,⟨rfl,_,c_.of g⟩,c_ K H1 l (rowV rs),c_.of (s4 _ _ h3),by rw[yL b2];rfl,("shape",.ref R.sp),Un fs ex H H1 h h1,pyNext μ3,compareOp .NotEq,by rw[Io];omega,λfl s' hs=>?_,H p=some γP,by rw[Gk];omega,ns.map WData.int,Ke γh g.w1 n,FJ r w N (T h) x,tm r w (T f p) c=1,S.frees _ hn rfl,⟨o,k b o hc e⟩,Ls K l1 l2 xs ys,(.int (0+(i:Nat))),λ_ _ _=>False,Bool->Shared->Prop,A.units+64 < cLine,Un fs ex H H' h h',pl.mem_iff.mp hi,(Go "key",.ref fa),λh' hn hs=>?_,.tup (ks.map kV),.dK (HP kvs k v),aQ ο ai rfl,⟨none,rfl,rfl⟩,by rw[KR];omega,(⟨by omega,y.2⟩),⟨_,rfl,rfl,?_⟩,aQ ο dz rfl,(cq n).map δp,(by rw[cQ,ε5]),λ_ _ _ _=>rfl,FG du γ,H t=some εb,by rw[o_];omega,(∀k∈L',k < N+M),H D=some ηw,by rw[hl];omega,k3.more Rw.ls_ms,.lst (FL n .non),I.ok.noex b o e,⟨_,j,h,hL,r'⟩,s3.heap.objs.size,⟨_,uv h h',g⟩,λk=>Z k\/k=p,(by rw[s_ hj,e]),⟨t,u,v,k _ e⟩,cvs.lookup b=none,λx c z=>TD z,Gc P w H' εO,⟨p',a2,a3,a4⟩,h1.symm.trans e,g1.symm.trans G,E_ (OR ηG),λe=>by omega,X.mg "min" = none,g1.symm.trans j,ns.map Prod.fst,ay cU ai ω,ay bN γ2 ai,λb o z e=>?_,.lst [V.ref p2],J.sm _ _ I.cost,λH3 s3 G=>?_,(r_ R).filter f,.lst (rowV way),Option ξ1,(∀k∈L,k < N+M),("code",.ref R.c),k3 _ _ (nl g) g,k.more Rw.ls_ms,ay cU ω ai,List V->Hp->Prop,TP X pins σ Q,α->Shared->Prop,IsRange.new ..,binaryOp .Mult,.builtin "min",Qb K C name=true,.type "object",.cons rfl .nil,pl.isList.typeIs,⟨o,e,ex.2.1⟩,t.lt h k hh hk,λx=>D_ R hf,.lst (ys++[y]),Lw z TI TO i1 i2,λ_ _ _ z=>z,decide_eq_decide,F0 (IL (FO q)),λb o' z=>?_,.Name "min" p0,by rw[Sx];rfl,⟨dx,s _ _ e⟩,row.length - i,.lst [V.int 0],os.getD i none,GF.tm r w y0 v,.lst [V.int 1],ds.length < 9000,R.put i p h kd,cs.getD k none,hk k δi,λi=>F (N+i),⟨k,rest,rfl⟩,(∀t∈ts,t < M),((at'+i) / N,nd),((i+j) / R.N,nd),dX R.N nk nb Y,Oc ζ,bf fp δU n,.lst [.ref tp],ak (pv 12) rfl,by rw[N2];rfl,fs.map (·.1),AllBare s'.gens,⟨v,H,I,r,h⟩,.If c a b pos,Nat->Heap->Prop,binaryOp .Add,compareOp .Eq,CZ sp dvs E t,hb _ _ _ _ ?_,⟨z,H,I,D,q⟩,F.slot_int_rmul,KQ K cdv q=true,λb u e=>?_,.type "range",.cons ru .nil,λb u z=>?_,kas_rev p 0 m,StateT.run_pure,entry_list_sort,List Key × V,Hj γ,K.lookup t=none,.int νR t,.tup [kV k,v],R.hs[i]?=some l,ks.set k true,(∀z,Pz z->F z),Int × List Nat,.lst (rowV d),⟨_,c_.of Z⟩,bF N cs ts nk,.inr (.inr y),es.map (·.2),GF.Good R.r R.w,S.I.full.toGood,.ext (jV v D),KC R.N i bs s,(m+1) * R.K.L,A.tu.getD k 0,(.int (s':Nat)),p_ P w H h a o,λ_ hb=>hb,Array GenState,eval a ρ,eval b ρ,⟨H1,I1,q1⟩,St->Hp->Prop,Int->Int->Prop,.ins C dx [],Slot T name id,Obj.mapSeq f,true == true,FJ r w n a x,step x H7 y7,cs.map ϙ,.lst (row j),⟨hr,h1,h2⟩,h.objs.size<=x,r_ δ0,slot_list_sort,.type "type",Rb hS rfl ?_,(.int (f:Nat)),k < row.length,cf bp M N Lp,(R.kd i).C a,Hl _ (Gi el),R.hs.set i h,.spare (m+1),.lst (Ft os),es++[(s,nd)],J.map (·.1),dX N nk nb X,GX a H H1 R R1,λ_=>HS ?_,⟨_,rfl,r⟩,I.cne x c e,SP X pins D,X.mg x=some u,PC X op a b t,⟨H1,I1,q⟩,c_ X.K H a xs,Gn X.K H a xs,PA X [a,b] ta,.int (lo+i),al N ps γu,hr.deeper _,evalPart_none,getItem o i,⟨rfl,fin⟩,x < 2 ^ (w+1),K7 δt,s h k hh hk,T.obj _ _ Y,eval_ListComp,j < ds.length,I.blt T.blt,IntsAre vs ns,λb z=>?_,S.keys.length,⟨_,g,rfl⟩,nn _ ζm,⟨_,h,rfl⟩,xs[i]?=some x,Array μ,((g:Int) % 2),⟨_,rfl,q⟩,ht.on i p e,λk y=>?_,1 * (N+M)<=30,s3.trans s4,k < ks.length,ks.length=N+M,j < os.length,h.hd i l el,Op c1 c2 c3,k < os.length,J.sm _ _ hA,s1.trans sx,xs.getD j d,Kl R.K st p,KC R.N i bs,(i+j) / R.N,ks.getD i 0,IZ X st prs,ff r δU,ay Ad ai ai,AB hr.units]
def zqB:=include_str by first|exists xx|refine xq ?_|try dsimp only[L2.e_,List.set,List.map,List.append,List.replicate,HAppend.hAppend,Append.append,List.length,Nat.reduceAdd,Nat.reduceSub]|refine π;intro u_|exists xl aI|intro u_|try dsimp only|refine x1 ?_|cases this|dsimp only|cases rx|exact this|obtain⟨dx,hA⟩:=I.obj|subst h';simp only[FU]|refine γK|intro g s σ H Q I h|subst this|obtain⟨dx,h1⟩:=id γl|refine Ϥ;refine b_ δj ν|rw[this]|refine π;intro u_;intro u_|exact FO e|refine Ϥ;refine b_ γa ν|exists xl ζ6|have n8:=I.W.n8|rw[if_pos rfl]|refine εz|exists xl ζt|exists xl ζE|refine b_ γx ν|refine b_ ν ε8|intro g s σ H D I h|have e:b=it:=by simpa using hb|simp[this]|refine π;intro u_;refine x1 ?_|obtain⟨ps,h1,h2⟩:=h|exact .inl h2|obtain⟨t,rfl⟩:=rx|exact B_ _|obtain⟨u,rfl,rx⟩:=ca r|rw[Ii] at e|exists xc ηN|unfold rowV|unfold rowV;rw[GB];rfl|refine π;intro u_;refine xq ?_|have hA:=J.sm _ _ hA|simp only[IU,Nb] at q|rw[e] at z;exact absurd z ζ|simp only[FC,GH,or_false] at hb|simp only[FU]|have k1:=t.length|exists xl ιj|refine εw|refine θS|exact hR _ ϡ|refine b_ ν εS|unfold eqn|refine π;intro u_;refine Ϥ;refine b_ γa ν|exists xc θR|refine b_ εL ν|have e:b=s1.heap.objs.size:=by simpa using hb|intro g s σ H R I h|rw[this];rfl|rw[if_neg γ]|by_cases h:b=0|have:=ζx;rw[o_] at this|dsimp only;rw[if_pos rfl]|exists xc ι2|have n8:=W.n8|refine x1 ?_;refine xi ηH ?_|exact b_ γa εB|exists xc μe|have hp:H p=some 52e2:=hp|by_cases z:k=i|rw[hz] at q|unfold newV|exact .inl q|intro j s σ H Q I h|intro wh g s σ H Q I h|subst e;obtain⟨o,e,c,d⟩:=st;exact ξn|obtain⟨f0,f1,f2,f3,f4,f5⟩:=hf it ϒ|subst ex;obtain rfl:u=F_ a:=rx|rw[show g.toArray.any ε4=g.any ε4 by simp,jo r fs]|by_cases e:i=h|rw[v_,s_ h];rfl|rw[if_neg y,if_neg γ]|have e:(compEnvC sc cl C ρ).kindOf x=(sc.names.lookup x).map λk=>if μf=true then NameKind.cell else k:=cJ ιv x|rw[Fu] at h|rw[h_] at h;subst h|rw[h_] at h';obtain⟨a',xs',z,q',t'⟩:=h'|simp only[h_] at h;subst h|subst h';cases r';simp only[FU]|subst h';obtain⟨t',rfl⟩:=r';simp only[FU]|simp only[h_] at h';obtain⟨a',E,rfl,q',t'⟩:=h'|simp only[Gh] at hd;simp only[h_] at h1;obtain⟨a,xs,rfl,q1,t⟩:=h1|simp only[h_] at h2;obtain⟨a',G,z,q',t'⟩:=h2|have Y:=g.length|have k2:=t'.length|have e:(0:Int)+(i:Nat)=(i:Nat):=by omega|cases rx;obtain⟨g,rv,⟨o,nn,e1,e2,e3,e4⟩,hz⟩:=I.list hq|rw[hs.2 b η8];exact FZ _ e|refine b_ ε1 ε1|exact .inr z|have el:(ps.map ϙ).length=M:=by rw[o_,δL]|rw[v_,s_ γ]|rw[eg] at hR|intro i;rw[FM,FM,FM]|dsimp only[Option.map];rw[eg]|obtain⟨dx,Lp,qs,h1,h2,h3⟩:=id δc|exists xc ξ9|obtain⟨dp,hp⟩:=id hS.sh|have hC:=I.code.same J.sm;obtain⟨dc,Lp,qs,hc,_,_⟩:=id δc|by_cases m:k∈nk|exact n1 _ (FK z).symm|exact .head _|rw[gY];refine οD|exact nomatch e|intro g s σ H Q I hw|obtain⟨c,rfl,q1⟩:=q1|rw[if_neg Hk]|obtain⟨D,rv,p,hz⟩:=I.list hq|obtain⟨u,hu,ru⟩:=rv.get hx;obtain⟨f0,f1,f2,f3,f4,f5⟩:=hf it ϒ|subst e;exact I1.fpOk Θ ο9|rw[show FD f v ψy=τy from rfl]|by_cases hk:k=f|cases rx;obtain⟨t,rfl⟩:=ry|have hl:=r.length|intro j s σ H xs us Q I r h|subst h;simp[n_]|by_cases hy:y=0|subst hy;exact n_ 0|rw[FI,g9,ihy (y / 2) γ];simp|unfold FW at this|by_cases e:i=hs.length|rw[if_pos y,if_pos γ]|simp only[FC,GH,or_false,not_or] at hb|simp only[h_] at h';obtain⟨a,xs,rfl,q,t⟩:=h';cases r';obtain⟨g,rv,p,_⟩:=I.list q;simp only[FU]|simp only[h_] at h';obtain⟨a,xs,rfl,q,t⟩:=h';cases r';obtain⟨g,rv,p,_⟩:=I.tuple q;simp only[FU]|by_cases hl:l.length=l'.length|rw[hk,M0 _ _ Θ,LX];rfl|exact h.on j q e|rw[v_,s_ hi]|exact False.elim q|dsimp only;rw[if_neg ζ]|rw[if_neg ζ]|rw[e] at q;exact q|intro i;rw[FM]|by_cases e:p.1=k|unfold KV at r|rw[ae (λw=>by rw[w,hd] at z;cases z)];exact z|obtain⟨c,hS⟩:=m.hS|by_cases hi:i < ts.length|exists xl (aA ai)|have hp:(0:Int) < (n:Int):=by omega|dsimp only;rw[bb,bb]|have el:ξQ=((2 ^ w:Nat):Int):=by omega|obtain⟨p,ep,hp⟩:=ht.get hi|have er:∀i,(rowV πn).length=N:=λi=>by rw[az,aK]|rw[GB,GB];rfl|rw[Gf] at this;omega|by_cases y:j=k|by_cases z:b=rk|rw[z,ac] at e;cases e|rw[ae z] at e;exact e|have nd:=HW.mp h.nd|obtain⟨dx,h1⟩:=hR.ins|generalize R.kd i=kd at hp q|exact b_ γx εB|obtain⟨dx,h1⟩:=id γl;obtain⟨p,dp,l,ep,el,hp,hl⟩:=hR.at hi;rw[hw] at hp|obtain⟨dx,h1⟩:=id γl;obtain⟨p,dp,l,ep,el,hp,hl⟩:=hR.at hi|refine ζQ;obtain⟨p,dp,l,ep,el,hp,hl⟩:=hR.at hi;rw[hw] at hp|refine b_ δj ν|rw[ae z] at e|refine b_ γa ν|obtain⟨k,ek,rfl⟩:=br hx|have sS:=a_.new (o:=.lst εx) nsl|have m0:=KP st νu|exact n2 _ (FK z).symm|exact I.no _ ζr|rw[<- y,hr] at w;cases w|have n8:=S.I.W.n8|obtain⟨h0,us,h1,h2,h3⟩:=h|obtain⟨a2,aT⟩:=id ηr|refine b_ ξG ν|refine Ml ν ν|have m0:=Oj τG|intro e;subst e;rw[h] at h'|subst hb;rw[ac] at e;cases e;exact new|obtain⟨o',e1⟩:=a.there c ob q hx|rw[e] at this;cases this|intro hs hl;obtain⟨hk,⟨L,o,hf,hn,ho,hd⟩,hr⟩:=hl|obtain⟨o',j,h,g,r'⟩:=hm;rw[ho] at g;cases g|obtain⟨d,rfl,q⟩:=q1|cases r1;exact LJ ϑf|cases r1;refine LJ ?_|have e:=πP;simp only[MG] at e;omega|rw[e] at e';cases e';rw[d] at d'|have:j=g:=by simpa using congrArg Tp d1|subst this;exact r.inj r'|obtain⟨σ',H',I',q⟩:=q|intro g s σ H x y v u Q I r1 r2 h;obtain⟨i,j,e1,e2,q⟩:=h;subst e1;subst e2;obtain⟨t,rfl⟩:=r1;obtain⟨t',rfl⟩:=r2|obtain⟨σ3,H3,I3,n3⟩:=q3;obtain⟨m',hm,w3⟩:=hN σ3 H3 n3;exact ϊP|intro X hP hw hK hc i g s σ H E I hf st hg|subst hP hw hK;obtain⟨xs,x,hq,hx⟩:=hg|have I1:Inv X g σ H { s with heap:=h' }:=I.turned (t':=s.toks) μ8 f0 f1 f3 f4 f5;obtain⟨o,e,c,d⟩:=id j|subst hP hw hK;obtain⟨xs,hq,hx⟩:=hg|intro X hP hw hK hc i j s σ H E I hf st hg|obtain⟨g,rv,p,hz⟩:=I.tuple hq|have I1:Inv X j σ H { s with heap:=h' }:=I.turned (t':=s.toks) μ8 f0 f1 f3 f4 f5|have z':Data.fields _=Data.cell v:=z|intro X hP hw hK hc i g s σ H E I hf st hg;subst hP hw hK;obtain⟨f0,f1,f2,f3,f4,f5⟩:=hf it ϒ|obtain⟨t,rfl⟩:=hv|intro g s σ H R I h;refine C_ οj λv s1 ⟨x,H1,I1,r1,q1⟩=>?_;obtain⟨a,e,⟨xs,hq⟩,q⟩:=q1;subst e|obtain⟨t,rfl⟩:=r|intro g s σ H x y v u Q I rx ry h;obtain⟨hs,q⟩:=h|intro g s σ H x y v u Q I rx ry h;obtain⟨rfl,q⟩:=h|intro g s σ H xs us Q I r h;obtain⟨i,j,rfl,q⟩:=h|exact congrArg some e|subst ex;obtain rfl:ov=F_ a:=rx|intro g s σ H Q I hq|have hf:H1 s1.heap.objs.size=none:=I1.hok.fresh Θ|simp at h1 h2;subst h1;subst h2|rw[if_neg h1] at h;cases h|obtain⟨p,xs,i,z,rfl,rfl,hq,he,q⟩:=h|obtain⟨j,h1,h2,h3,h4,h5⟩:=xr he;obtain⟨w,ew,D⟩:=r.get h2|have fin:EP X g σ Q w s:=ϐ6|rw[Gk,← hl];exact FK h1|simp only[sliceBounds,HT.JF,TF,show (1:Int) > 0 by decide,if_true]|simp only[h,if_true] <;> omega|simp only[h,if_false] <;> omega|obtain⟨t',rfl⟩:=ry|intro j s σ H x y v u Q I rx ry h;obtain⟨p,xs,rfl,hq,fx,fs,q⟩:=h|intro D s σ H xs us Q I r h|obtain⟨p,ys,rfl,hq,q⟩:=h;obtain⟨u,rfl,rx⟩:=ca r|obtain⟨z,g,n,r,hl,e⟩:=I.lstM hH|intro O s σ H x y v u Q I rx ry h|have h2:2 * x < 2 ^ (w+1):=by rw[J_];omega|have hl:HM.length=48:=rfl|have h1:(c % 48).toNat < HM.length:=by rw[hl];omega|rw[v_,s_ h1];exact IV h1|simp only[KO,LO,Js,Jr] at this;exact this|have hx:x < 2 ^ w:=h x Im|rw[if_pos e,if_pos e]|unfold FV;rw[if_neg ϊn]|obtain⟨y,_,rfl⟩:=G6.mp hx|rw[if_neg δ9,if_pos νy,Jr]|intro j s σ H xs us Q I r h;obtain⟨x,c,t,b,rfl,ty,e,q⟩:=h;obtain⟨u,w',rfl,ru,g⟩:=fB r|exact rF I ru ty e λtk=>ΩS|intro X hP hw hK hc i g s σ H E I hf st hg;subst hP hw hK|simp only[Ii,q];exact ih|simp only[IU] at h;obtain⟨⟨⟨⟨h1,h2⟩,h3⟩,h4⟩,h5⟩:=h|exact z.2.imp πx πx|simp only[Ks,N5] at h|rw[e,h];simp only[Ks,N5]|exact congrArg some g|rw[hD];exact I2.laid (t':=s2.toks) οl Θ ΩB|exact absurd (FO ho) ϊB|obtain⟨o,ho,_⟩:=T.obj _ _ Z b hb;exact FO ho|exact(f3 b hb).2.1 q|exact(f3 b hb).2.2.1 q|intro X hP hw hK hc i J s σ H E I hf st hg;subst hP hw hK;obtain⟨hz,j,⟨a,b,g⟩,h1,h2⟩:=st|obtain⟨Q,D,p1,_⟩:=I.list q1;obtain⟨T,G,p2,_⟩:=I.list q2|have hx:xs[i]?=some xs[i]:=s_ b1|obtain⟨o1,e1,_⟩:=id h1|rw[ae this];exact(hf b hb).1|rw[h_] at h;obtain⟨a,xs,rfl,q,t⟩:=h|subst this;rw[fJ I t t']|intro A d d' v v' u u' hn h h' r r' hu|simp only[Gh] at hn;simp only[h_] at h;obtain⟨a,xs,rfl,q,t⟩:=h|cases r';obtain⟨D,j,p',_⟩:=I.tuple q'|cases r';obtain⟨D,j,p',_⟩:=I.list q'|have:=fJ I t t';subst this;rw[fi];exact RU _|have k2:=ωu;simp only[FU]|have hs:G.toArray.size=l.length:=by simp only[Gk];omega|obtain⟨d,d',h1,h2,fd,sk,⟨p',rfl⟩,hd,q⟩:=h|have D:X.A.units < cLine:=by omega|have:X.A.in1.units=X.A.units+1:=rfl;omega|cases z;obtain⟨j,g,p2,_⟩:=I.tuple q'|cases z;obtain⟨j,g,p2,_⟩:=I.list q'|simp only[FU];rw[hs,hJ hl];rfl|simp only[FU];rw[jS hl]|simp only[h_] at h2;obtain⟨a',U,z,q',t'⟩:=h2|intro g s σ H xs us Q I r h|intro X hP hw hK hc i j s σ H E I hf st hg;subst hP hw hK;obtain⟨⟨old,hz⟩,h1⟩:=st|obtain⟨G,g,p1,_⟩:=I.list q1|obtain⟨i,hi,rfl⟩:=LH hx|rw[v_,s_ hi];exact h _ ρ5|have h':its[i]?=some v:=by simpa using h|have:=ζx;rw[o_] at this;rw[this];exact(Gr.mp h').1|have j:p≠s.heap.objs.size:=F0 ιz;refine call_any_walk ξK|intro D s σ H xs us Q I r h;obtain⟨p,bs,rfl,hq,q⟩:=h;obtain⟨u,rfl,rx⟩:=ca r|rw[Qi,if_neg οa] at hf|show wpAny M A Φp _ E s|by_cases c:Kz z p m < Kz z p ιX|have:=h.ne hn hz (show m < n by omega) (show m - 1 < n by omega) γ|by_cases him:i=j - 1|obtain rfl:l=r:=by omega|by_cases q:i=(l+r) / 2|obtain⟨_,its,rv,ot,e1,e2,n1,e3⟩:=hok t _ z;obtain⟨x,y,rfl,⟨t1,rfl⟩,⟨t2,rfl⟩⟩:=fB rv|rw[Int.add_mul] at this;omega|show ((arrOf st).map (·.2)).size<=_|by_cases hi:i < ns.length|unfold kas_ask;rw[e1,e3]|refine FZ _ (FZ _ ?_);rw[s1.2 b ώy];exact keep b o q|rw[hV e,b];exact h2|rw[hZ e,b];exact ih|have nn:∀b,H b=none->b≠d:=λb e z=>by rw[z,hd] at e;cases e|rw[ae (nn b z)];exact z|rw[ae ϑA];exact I.free|rw[ae ϋF];exact I.freeC y c e|obtain⟨k',u'⟩:=q|have:p=(k,v):=by simpa using e|intro X hP hw hK hc i j s σ H E I hf st hg;subst hP hw hK;obtain⟨hd,hi⟩:=hg;obtain⟨z,J,vs,g,o',Q,R,g1,g2,g3,g4,g5,g6⟩:=dR γ9 οC|have G:s.heap.get? d=some o:=(I.hok d _ hd).1|have eo:o'=o:=FK ύX;subst eo;rw[ho] at g3|have hl:=νl;rw[hl] at st;obtain⟨f0,f1,f2,f3,f4,f5⟩:=hf it ϒ|have I2:=I1.freeze ea g1|subst e;exact I2.fpOk Θ υR|rw[o_,o_] at this;exact this|intro X hP hw hK hc i J s σ H E I hf st hg;subst hP hw hK;obtain⟨ok,ov,st⟩:=st;obtain⟨hd,hi⟩:=hg;obtain⟨z,O,vs,g,o',T,R,g1,g2,g3,g4,g5,g6⟩:=dR γ9 οC|have j:s.heap.get? d=some o:=(I.hok d _ hd).1|have eo:o'=o:=FK ώ1;subst eo;rw[ho] at g3|refine xq ?_;refine xw Ϙ ϊW ?_;refine xq ?_;refine xi Ψs ?_|refine Ϥ;refine b_ ξA ε1|have:=of_decide_eq_true h;omega|have:=V.int.inj ϋI;omega|obtain⟨dx,G⟩:=id hF;refine Ξ4;refine ξc|obtain⟨dx,j⟩:=id hF|rw[o_] at this;omega|obtain⟨dB,j⟩:=hB.ins|obtain⟨dB,g⟩:=hB.ins|rw[oW h,v_,s_ h];rfl|obtain⟨k,hk,rfl⟩:=G6.mp hx|refine Θd;refine ξc|rw[<- j,GF.Kb g hs]|refine xq ?_;refine xi ϊY ?_|have:=FK ei;subst this|rw[aJ ep] at hu;exact(FK hu).symm|obtain⟨j,hj⟩:=Lc hq|refine Ωu;refine b_ εa εa|rw[if_pos z,if_pos εq]|rw[if_neg z,if_neg χE]|refine ΞE;try dsimp only|have O:=GF.Iq g (P4 h3) t3|rw[<- h0 i h1 h2,bB γ]|unfold GF.Fx;rw[if_pos rfl]|refine ξa;refine b_ τp ν|have hi:i < M:=by rw[<- el];exact(Gr.mp hv).1|obtain⟨p,ep,hp⟩:=ht.get hi;rw[aJ ep] at hv|refine π;intro u_;intro u_;refine x1 ?_|exact s3 _ _ (k2 b o z e)|have el:(qs.map ϙ).length=M:=by rw[o_,h3.len]|show 1 * (N+M)<=sizeLine|exact FG (by omega:ϑI) ζ|obtain⟨dB,hB⟩:=J.blk.ins|rw[e];exact hR _ ϡ|have eg:tks.getD i 0=k:=by rw[v_,ek];rfl|exact absurd hk.2 ζ|by_cases hi:i < tks.length|have eg:tks.getD i 0=tks[i]:=by rw[v_,s_ hi];rfl|cases FK hu;refine ύy|by_cases hi:i < os.length|have eg:os.getD i none=os[i]:=by rw[v_,s_ hi];rfl|have ho:=jZ (R:=N+M) (ks:=ks) (pl:=pl) (k:=o) ό4|unfold knO;rw[FM,s_ hj];rw[v_,s_ hj] at h|rw[bb];exact q l nl|refine xq ?_;refine xi Δ9 ?_|refine congrArg ξy ?_|refine ΘF;refine b_ γx ν|refine xq ?_;refine xi ρY ?_|refine Δ1;refine b_ γx ν|refine ζQ;refine ξe|have hk:=(Gr.mp ek).1;rw[JJ] at hk;rw[LK hk] at ek|refine congrArg ξy (funext λj=>?_);unfold Il|have g:H l'=none:=sx.free nl|have j:l'≠x:=λz=>by rw[z,ac] at nl;cases nl|rw[ae ηb,ae (aq e g)]|refine ξa;refine b_ ΘW ν|refine xq ?_;refine xi ηH ?_|refine xq ?_;refine xi ΔQ ?_|rw[decide_eq_true rfl]|obtain⟨xs,y2⟩:=hR.isLst hb|by_cases z:b=R.RK.dn|rw[mz];exact hR _ ϡ|by_cases hi:i < rs.length|dsimp only[Option.map];rw[eg];rfl|have kg:(knO os).getD k false=false:=by rw[v_,kz];rfl|obtain⟨ps,hp,_⟩:=ιO|have:=JG ζl πo;rw[Gf] at this|obtain⟨dx,hA⟩:=ιG;exact ΓX|rw[decide_eq_false ΦT,decide_eq_true x];rfl|have sL:=a_.new (o:=.lst εx) nL|obtain⟨dc,Lp,qs,hc,_,_⟩:=id δc|exact((sL.trans s2).trans s3).free np|obtain⟨j,z,h1,h2,_⟩:=i9 (f:=f) (d:=y) (xs:=y :: ys) (RO _);rw[h] at h2|rw[h2] at y;cases y|obtain⟨ts,h1,h2,h3⟩:=h|have h2:v2=.non:=h2;subst h2|obtain⟨D2,rfl,a2⟩:=h2|have hi:i < (w0 :: ws0).length:=by rw[<- G];exact(Gr.mp et).1|have hC:=I.code.same J.sm;obtain⟨dc,Lp,qs,hc,_,_⟩:=id δc;obtain⟨dB,hB⟩:=hC.blk.ins|refine π;intro u_;intro u_;refine xq ?_|have sD:=a_.new (o:=.dK []) nD|generalize (upd H D (.dK []))=H1 at sD hD|have h2:=du (N:=N) (nk:=nk)|refine ΔW;rw[<- ev,jb G,ed];exact Ωe|refine εw;refine b_ τo (λ_=>?_)|obtain⟨ps,y,_⟩:=tb.r|obtain⟨pn,hn,_⟩:=id S.tb.n|obtain⟨dx,g⟩:=S.ro;obtain⟨X,hR,_⟩:=S.rk;obtain⟨dr,j⟩:=id γl|obtain⟨j,hj,e1⟩:=LH hm;obtain⟨j',g,e2⟩:=LH he|subst this;rw[e1] at e2|unfold cS dX g_;rw[GF.GI]|obtain⟨X,hR,hX⟩:=S.rk|obtain⟨pb,e1,e2⟩:=h3 i u e|obtain⟨h0,ts,h1,h2,h3⟩:=h;refine ΦL|intro u_;refine xq ?_|cases FK hu;obtain⟨en,pl,O,aw,a5⟩:=a9 i _ et|have J:=bt en (Gi O)|rw[if_pos w,if_pos (Oe _ w)]|intro X hP hw hK hc i g sh σ H E I hf st hg;subst hP hw hK;obtain⟨f0,f1,f2,f3,f4,f5⟩:=hf it ϒ|rw[e,decide_eq_true rfl]|exact nt _ (FK z).symm|intro u_;refine @xc _ _ _ _ _ ρW ?_|have i5:∀{z:Int},decide ο4=true->c % 5=z:=λy=>V.int.inj ηv|have S0:(0:Int) < (S:Int):=by omega|refine π;intro u_;refine xq ?_;refine xi μp ?_|obtain⟨W1,s1,_⟩:=W.put np nh kb g|rw[hm] at z;cases z|obtain⟨e5,_,U⟩:=t_.rk I (J4.same s5);obtain⟨aw,Y⟩:=id U.ins;exact Δ0|rw[<- y,hn] at w;cases w|obtain⟨cc,c9⟩:=O D _ c1 hD;obtain⟨df,dV⟩:=ad D _ cc c9|have sZ:=(a_.new (o:=.lst [γQ]) nZ).trans Φe|have a0:=a_.new (o:=.lst []) a7|clear a0 an sZ a7 a6
local macro_rules|`($n:scientific)=>do let (m,_,e):=n.raw.isScientificLit?.get!;zqG zqA (10*m+e)
def zqH:Option Nat->Nat->Option Nat->Nat|some i,1,_=>i|some i,2,some j=>52+62*i+j|_,_,_=>9999
local macro_rules|`($n:ident)=>let s:=n.getId.toString.toList;let i:=zqH ("γδεζηθιμνξοπρτυχψωΓΔΘΞΦΨΩϊϋόύώϐϑϒϕϖϗϘϙϚϛϜϝϞϟϠϡϢϣϤϥϦϧ".toList.idxOf? s.head!) s.length ("0123456789abcdefghijklmnopqrstuvwxyzABCDEFGHIJKLMNOPQRSTUVWXYZ".toList.idxOf? (s.getD 1 default));if i<2037&&s.length<3 then zqG zqA i else Lean.Macro.throwUnsupported
local macro_rules|`(tactic|show $n:num)=>do `(tactic|($(⟨<-zqG zqB n.getNat⟩)))
open Lean in
local macro_rules (kind:=Lean.Parser.Command.declaration)|d=>if (d[1].isOfKind ``Lean.Parser.Command.definition||d[1].isOfKind ``Lean.Parser.Command.abbrev)&&d[0][4].getNumArgs==0 then return d.setArg 0 (d[0].setArg 4 (mkNullNode #[mkNode ``Lean.Parser.Command.noncomputable #[mkAtom "noncomputable"]])) else Macro.throwUnsupported
local macro_rules|`(#[$a,*])=>if a.getElems.isEmpty then Lean.Macro.throwUnsupported else `(⟨$a,*⟩)
namespace L2
open PySem PySem.Spec PyProof.Rows
abbrev Key:=Sum Int Str
def gG:Key->Value->Bool
 | .inl k,v=>P0 k v
 | .inr x,v=>Tu x v
def PP (w:Ϣ):Key->Int
 | .inl k=>hashInt k
 | .inr x=>hashStr w x
theorem bG:∀{k:Key}{v:μ},gG k v=true->(∃i t,k=Sum.inl i/\v=Kv i t)\/(∃x t,k=Sum.inr x/\v=OJ x t)
 | .inl i,v,h=>by
  obtain⟨t,e⟩:=Value.isInt_shape (k:=i) (v:=v) h;exact .inl #[i,t,rfl,e]
 | .inr x,v,h=>by
  obtain⟨t,e⟩:=Value.isStrOf_shape (x:=x) (v:=v) h;exact .inr #[x,t,rfl,e]
theorem zQ (i:Int) (t:Tok):gG (.inl i) (.int i t)=true:=by simp[gG,P0]
theorem zR (x:Str) (t:Tok):gG (.inr x) (.str x t)=true:=by simp[gG,Tu]
theorem Eg (a b:Int):decide ((Sum.inl a:Key)=Sum.inl b)=(a == b):=by
 by_cases e:a=b
 ·subst e;simp
 ·have h:¬ (Sum.inl a:Key)=Sum.inl b:=λq=>e (Sum.inl.inj q)
  rw[decide_eq_false h];exact(beq_eq_false_iff_ne.mpr e).symm
theorem Eh (a b:Str):decide ((Sum.inr a:Key)=Sum.inr b)=decide (a=b):=by
 by_cases e:a=b
 ·subst e;simp
 ·have h:¬ (Sum.inr a:Key)=Sum.inr b:=λq=>e (Sum.inr.inj q)
  rw[decide_eq_false h,decide_eq_false e]
theorem Ei (a:Int) (b:Str):decide ((Sum.inl a:Key)=Sum.inr b)=false:=decide_eq_false (λq=>nomatch q)
theorem Ej (a:Str) (b:Int):decide ((Sum.inr a:Key)=Sum.inl b)=false:=decide_eq_false (λq=>nomatch q)
def bC (prog:Ϧ) (w:Ϣ):PySem.KeyKind prog w Key where
 is:=gG
 hash:=PP w
 inj:=λv a b ha hb=>by
  rcases bG ha with ⟨i,t,rfl,rfl⟩ | ⟨x,t,rfl,rfl⟩
  ·rcases bG hb with ⟨j,u,rfl,e⟩ | ⟨y,u,rfl,e⟩
   ·injection e with e1 _;rw[e1]
   ·show 116
  ·rcases bG hb with ⟨j,u,rfl,e⟩ | ⟨y,u,rfl,e⟩
   ·show 116
   ·injection e with e1 _;rw[e1]
 byValue:=λk v h=>by
  rcases bG h with ⟨i,t,rfl,rfl⟩ | ⟨x,t,rfl,rfl⟩ <;> rfl
 pyHash:=λhv h=>by
  rcases bG hv with ⟨i,t,rfl,rfl⟩ | ⟨x,t,rfl,rfl⟩
  ·exact wpAny_pyHash_int h
  ·exact wpAny_pyHash_str h
 eqBool:=λhu hv h=>by
  rcases bG hu with ⟨i,t,rfl,rfl⟩ | ⟨x,t,rfl,rfl⟩
  ·rcases bG hv with ⟨j,u,rfl,rfl⟩ | ⟨y,u,rfl,rfl⟩
   ·rw[Eg] at h;exact Rq h
   ·rw[Ei] at h;exact T7 i t y u _ _ _ _ h
  ·rcases bG hv with ⟨j,u,rfl,rfl⟩ | ⟨y,u,rfl,rfl⟩
   ·rw[Ej] at h;exact UK x t j u _ _ _ _ h
   ·rw[Eh] at h;exact wpAny_eqBool_str h
 «strs»:=λk x t v h=>by
  rcases bG h with ⟨i,u,rfl,e⟩ | ⟨y,u,rfl,e⟩
  ·show 116
  ·injection e with e1 _
   subst e1
   cases v <;> rfl
theorem yW (prog:Ϧ) (w:Ϣ) (k:Key) (v:μ):(bC prog w).is k v=gG k v:=rfl
theorem wA (prog:Ϧ) (w:Ϣ) (i:Int) (t:Tok):(bC prog w).is (.inl i) (.int i t)=true:=zQ i t
theorem wB (prog:Ϧ) (w:Ϣ) (x:Str) (t:Tok):(bC prog w).is (.inr x) (.str x t)=true:=zR x t
inductive V where
 | non | bl (b:Bool) | int (i:Int) | str (x:Str) | byt (b:Array UInt8) | flt (b:UInt64) | ref (a:Addr) | ty (n:String)
 deriving DecidableEq
def k_:V->Value->Prop
 | .non,u=>u=Kw
 | .bl b,u=>u=OB b
 | .int i,u=>∃t,u=Kv i t
 | .str x,u=>∃t,u=OJ x t
 | .byt b,u=>∃t,u=TV b t
 | .flt b,u=>∃t,u=R_ b t
 | .ref a,u=>u=F_ a
 | .ty n,u=>u=KI n
abbrev j_:List V->List Value->Prop:=Paired k_
theorem j_.length {xs:δ}{us:ψ} (r:j_ xs us):xs.length=us.length:=Paired.length r
theorem j_.get:∀{xs:δ}{us:ψ}{i:Nat}{x:V},j_ xs us->xs[i]?=some x->∃u,us[i]?=some u/\k_ x u
 | _,_,_,_,.nil,e=>by simp at e
 | _,_,0,_,.cons r _,e=>by simp at e;subst e;exact ϑa
 | _,_,i+1,x,.cons _ t,e=>by
  obtain⟨u,h1,h2⟩:=j_.get (i:=i) (x:=x) t ηQ
  exact #[u,by simpa using h1,h2]
theorem j_.set {x:V}{u:μ} (r:k_ x u):∀{xs:δ}{us:ψ} (i:Nat),j_ xs us->j_ (xs.set i x) (us.set i u)
 | _,_,_,.nil=>.nil
 | _,_,0,.cons _ t=>.cons r t
 | _,_,i+1,.cons q t=>.cons q (j_.set r i t)
theorem j_.append:∀{xs ys:δ}{us ws:ψ},j_ xs us->j_ ys ws->j_ (xs++ys) (us++ws)
 | _,_,_,_,.nil,s=>s
 | _,_,_,_,.cons r t,s=>.cons r (j_.append t s)
theorem j_.take:∀{xs:δ}{us:ψ} (n:Nat),j_ xs us->j_ (xs.take n) (us.take n)
 | _,_,0,_=>.nil
 | _,_,_+1,.nil=>.nil
 | _,_,n+1,.cons r t=>.cons r (j_.take n t)
theorem j_.drop:∀{xs:δ}{us:ψ} (n:Nat),j_ xs us->j_ (xs.drop n) (us.drop n)
 | _,_,0,r=>r
 | _,_,_+1,.nil=>.nil
 | _,_,n+1,.cons _ t=>j_.drop n t
def G_:Option V->Option Value->Prop
 | some v,some u=>k_ v u
 | none,none=>True
 | _,_=>False
def KV {κ:Type}:List ρh->List (κ × Value)->Prop:=Paired λ(p:κ × V) (q:κ × Value)=>p.1=q.1/\k_ p.2 q.2
def kV:Key->V
 | .inl i=>.int i
 | .inr x=>.str x
inductive HO where
 | lst (xs:List V)
 | tup (xs:List V)
 | dK (kvs:List (Key × V)) | dT (kvs:List (List Key × V))
 | set (S:Int->Bool) (n:Nat)
 | ins (C dx:Addr) (fs:List (Str × V))
 | own (x:Addr)
 | xd (fs:List (Str × V))
 | met (f x:Addr)
 | rng (lo hi:Int)
 | frz (o:Obj) (u:HO)
 | tbl (ps:Array Value)
 | ext (φ:Heap->Prop)
abbrev Hp:=Addr->Option HO
def upd (H:Hp) (a:Addr) (o:HO):Hp:=λb=>if b=a then some o else H b
variable {H:Hp}{a:Addr}{o:HO}
theorem ac:upd H a o a=some o:=by unfold upd;rw[if_pos rfl]
variable {b:Addr}
theorem ae (h:b≠a):upd H a o b=H b:=by unfold upd;rw[if_neg h]
theorem bb {u:HO}:upd θI a u=upd H a u:=by
 funext b;unfold upd;split <;> rfl
theorem bo {u:HO} (h:ψW) (h':H b=some u) (d:o≠u):a≠b:=by
 show 186;exact d (FK h')
theorem aq (h:ψW) (h':ωG):a≠b:=by
 show 186;cases h'
section
variable (P:Program) (w:World)
def p_ (H:Hp) (h:Heap) (a:Addr):HO->Prop
 | .lst xs=>xs.length≤sizeLine ∧ ∃(its:ψ) (n:Nat),j_ xs its∧h.get? a=some { cls:=.type "list",data:=.seq εA n }
 | .tup xs=>xs.length<=sizeLine/\∃its:List Value,j_ xs its/\IsTup h a εA
 | .dK kvs=>kvs.length<=sizeLine/\ηS=false/\∃vs,KV kvs vs/\h.DictOf ηC a vs
 | .dT kvs=>kvs.length<=sizeLine/\ηS=false/\∃xs:List υc,
   Paired (λ(p:List Key × V) (q:List Key × Addr × Value)=>p.1=q.1/\H q.2.1=some όL/\k_ p.2 q.2.2) kvs xs ∧
   ∃o es ep,h.get? a=some o/\o.ExactDict/\o.data=.dict es ep/\es.toList=xs.map (entryOfKey υY)/\(xs.map (·.1)).Nodup
 | .set S n=>h.SetOf (intKind P w) a S n
 | .ins C dx fs=>H dx=some νi/\fs.length<=1000/\dx≠a/\h.get? a=some ωi ∧
   ∃mA,h.Ns1 dx mA/\Ωf/\QA mA ώX
 | .own _=>∃o,h.get? a=some o
 | .xd fs=>∃mA,h.Ns1 a mA/\∀f,G_ (fs.lookup f) (mA f)
 | .rng lo hi=>∃t u v,h.get? a=some { cls:=.type "range",data:=.fields [.int lo t,.int hi u,.int 1 v].toArray }
 | .frz o u=>h.get? a=some o/\p_ H h a u
 | .tbl ps=>h.get? a=some { cls:=.none,data:=.fields ps }
 | .met f x=>h.get? a=some (RF γd μb)
 | .ext φ=>φ h/\(∃o,h.get? a=some o)/\∀h1 h2:Heap,φ h1->(∀o,h1.get? a=some o->h2.get? a=some o)->φ h2
def Gc (H:Hp) (h:Heap):Prop:=∀a o,H a=some o->p_ P w H h a o
end
section
variable {P:Program}{w:World}{H H':Hp}{h h':Heap}{a:Addr}{o:HO}
theorem p_.lt (x:ϐB):a < h.objs.size:=by
 cases o with
 | lst xs=>obtain⟨_,_,_,_,e⟩:=x;show 21
 | tup xs=>obtain⟨_,_,_,p⟩:=x;exact p.lt
 | dK kvs=>obtain⟨_,_,_,_,o,_,_,e,_⟩:=x;show 21
 | dT kvs=>obtain⟨_,_,_,_,o,_,_,e,_⟩:=x;show 21
 | set S n=>obtain⟨o,_,_,_,e,_⟩:=x;show 21
 | ins C dx fs=>obtain⟨_,_,_,e,_⟩:=x;show 21
 | own y=>obtain⟨_,e⟩:=x;show 21
 | xd fs=>obtain⟨_,⟨_,_,_,e,_⟩,_⟩:=x;show 21
 | rng lo hi=>obtain⟨_,_,_,e⟩:=x;show 21
 | frz ob u=>obtain⟨e,_⟩:=x;show 21
 | tbl ps=>exact FO (show h.get? a=some _ from x)
 | met f y=>exact FO (show h.get? a=some _ from x)
 | ext φ=>obtain⟨_,⟨_,e⟩,_⟩:=x;show 21
theorem Paired.mapP {α β:Type}{F G:α->β->Prop}:∀{l₁:ε3}{l₂:List β},Paired F l₁ l₂->(∀a b,F a b->G a b)->Paired G l₁ l₂
 | _,_,.nil,_=>.nil
 | _,_,.cons r t,f=>.cons (f _ _ r) (Paired.mapP t f)
theorem p_.stay (x:ϐB) (k:∀b u,(b=a\/H b=some νi)->h.get? b=some u->h'.get? b=some u)
  (ho:∀b,H b=some νi->H' b=some νi) (ht:ΞY):p_ P w H' h' a o:=by
 induction o with
 | lst xs=>obtain⟨z,g,n,r,e⟩:=x;exact⟨z,g,n,r,k _ _ γL e⟩
 | tup xs=>obtain⟨z,g,r,ob,e,c⟩:=x;exact⟨z,g,r,ob,k _ _ γL e,c⟩
 | dK kvs=>obtain⟨z,y,vs,r,ob,es,ep,e,c⟩:=x;exact⟨z,y,vs,r,ob,es,ep,k _ _ γL e,c⟩
 | dT kvs =>
  obtain⟨z,y,xs,r,ob,es,ep,e,c⟩:=x;exact #[z,y,xs,Paired.mapP r λp q z=>ΩR,ob,es,ep,k _ _ γL e,c]
 | set S n=>obtain⟨ob,es,ep,t,e,c⟩:=x;exact⟨ob,es,ep,t,k _ _ γL e,c⟩
 | ins C dx fs =>
  obtain⟨d,z,ne,e,mA,⟨od,es,ep,e2,c⟩,r⟩:=x;exact #[ho _ d,z,ne,k _ _ γL e,mA,#[od,es,ep,k _ _ (.inr d) e2,c],r]
 | own y=>obtain⟨ob,e⟩:=x;exact⟨ob,k _ _ γL e⟩
 | xd fs=>obtain⟨mA,⟨od,es,ep,e,c⟩,r⟩:=x;exact⟨mA,⟨od,es,ep,k _ _ γL e,c⟩,r⟩
 | rng lo hi=>obtain⟨t,u,v,e⟩:=x;exact⟨t,u,v,k _ _ γL e⟩
 | frz ob u ih=>obtain⟨e,q⟩:=x;exact⟨k _ _ γL e,ih q⟩
 | tbl ps =>
  have e:h.get? a=some { cls:=.none,data:=.fields ps }:=x
  show h'.get? a=some { cls:=.none,data:=.fields ps }
  exact k a _ γL e
 | met f y =>
  have e:h.get? a=some 169e4:=x
  show h'.get? a=some ϋu
  exact k a _ γL e
 | ext φ=>obtain⟨p,⟨o,e⟩,st⟩:=x;exact⟨st _ _ p λo q=>k _ _ γL q,⟨o,k _ _ γL e⟩,st⟩
theorem Gc.lt (x:δ4) (e:ψW):a < h.objs.size:=(x a o e).lt
theorem Gc.fresh (x:δ4) (e:ψ8):H a=none:=by
 cases q:H a with
 | none=>rfl
 | some u=>exact absurd (GU (x.lt q) e) δ9
theorem Gc.kept (x:δ4) (k:ξm):Gc P w H h':=λa o e =>
 (x a o e).stay (λb u _ q=>k b u q) (λ_ q=>q) λ_ _ q=>q
theorem Gc.laid (x:δ4) (k:ξm) (hp:ψ8) (new:p_ P w θI h' a o):Gc P w θI h':=λb u e=>by
 have hn:=x.fresh hp
 by_cases hb:b=a
 ·show 187
 ·rw[ae hb] at e
  exact(x b u e).stay (λc v _ q=>k c v q) (λc q=>by rw[ae ν6];exact q) λc xs q=>by rw[ae ν6];exact q
end
def Rd (H:Hp) (a:Addr) (u:HO):Prop:=H a=some u\/∃o,H a=some θ2
variable {P:Program}{w:World}{h:Heap}
theorem Rd.ok {u:HO} (r:Rd H a u) (x:δ4):p_ P w H h a u:=by
 rcases r with r | ⟨o,r⟩
 ·exact x a u r
 ·obtain⟨_,q⟩:=x a _ r
  exact q
def NE:Option HO->Prop
 | some (.lst _)=>True
 | some (.dK _)=>True
 | some (.dT _)=>True
 | some (.set _ _)=>True
 | some (.ins _ _ _)=>True
 | some (.ext _)=>True
 | _=>False
section
variable {P:Program}{w:World}{H:Hp}{h h':Heap}{x e:Addr}{o':HO}
theorem Gc.write (ok:δ4) (mu:ωH) (he:υD) (k:ΞZ) (heo:υE)
  (new:p_ P w (upd H x o') h' x o'):Gc P w (upd H x o') h':=λb u q=>by
 have nown:∀c y,H c=some (.own y)->c≠x:=λc y r z=>by subst z;rw[r] at mu;exact mu
 have ntup:∀c xs,H c=some ε7->c≠x:=λc xs r z=>by subst z;rw[r] at mu;exact mu
 by_cases hb:b=x
 ·subst hb;rw[ac] at q;cases q;exact new
 ·rw[ae hb] at q
  by_cases hbe:b=e
  ·have q':H b=some 39e4:=by
    rcases he with z | z
    ·exact absurd (hbe.trans z) hb
    ·rw[hbe];exact z
   rw[q] at q';cases q';obtain⟨v,hv⟩:=heo;exact #[v,by rw[hbe];exact hv]
  ·refine(ok b u q).stay (λc v hc r=>k c v ?_ r) (λc r=>by rw[ae (nown c b r)];exact r) λc xs r=>by rw[ae (ntup c xs r)];exact r
   rcases hc with rfl | hc
   ·exact hbe
   ·rintro rfl
    rcases he with z | z
    ·exact nown c b hc z
    ·rw[hc] at z;cases z;exact hb rfl
end
structure Un (fs ex:Φ) (H H':Hp) (h h':Heap):Prop where
 keep:∀b o,h.get? b=some o->H b=none->b∉fs->b∉ex->h'.get? b=some o
 slot:∀b o,h.get? b=some o->H b=none->b∈fs->b∉ex->∃sl,h'.get? b=some { o with slots:=sl }
 free:∀b o,h.get? b=some o->H b=none->b∉ex->H' b=none
 there:∀b o,h.get? b=some o->b∉ex->∃o',h'.get? b=some o'
 tups:∀b xs,H b=some ε7->H' b=some ε7
 frzs:∀b o u,H b=some θ2->H' b=some θ2
 tbls:∀b ps,H b=some εb->∃more,H' b=some ρy
section
variable {fs fs' ex ex':List Addr}{H H1 H2:Hp}{h h1 h2 h':Heap}{a x e:Addr}{o:HO}
theorem Un.any (u:ύ6) {b:Addr}{ob:Obj} (q:h.get? b=some ob) (n:ωG) (hx:b∉ex):∃sl,h1.get? b=some { ob with slots:=sl }:=by
 by_cases hb:b∈fs
 ·exact u.slot b ob q n hb hx
 ·exact #[ob.slots,u.keep b ob q n hb hx]
theorem Un.trans (a:ύ6) (b:Un fs ex H1 H2 h1 h2):Un fs ex H H2 h h2 where
 keep:=λc ob q n hc hx=>b.keep c ob (a.keep c ob q n hc hx) υZ hc hx
 slot:=λc ob q n hc hx=>by
  obtain⟨sl,e1⟩:=a.slot c ob q n hc hx;obtain⟨sl',e2⟩:=b.slot c _ e1 υZ hc hx;exact #[sl',e2]
 free:=λc ob q n hx=>by
  show 188;exact b.free c o' e1 υZ hx
 there:=λc ob q hx=>by
  show 188;exact b.there c o' e1 hx
 tups:=λc xs q=>b.tups c xs (a.tups c xs q)
 frzs:=λc ob xs q=>b.frzs c ob xs (a.frzs c ob xs q)
 tbls:=λc ps q=>by
  obtain⟨m1,e1⟩:=a.tbls c ps q;obtain⟨m2,e2⟩:=b.tbls c _ e1;exact ϊi
theorem Un.kept (k:ξm):Un fs ex H H h h' :=
 #[λb ob q _ _ _=>k b ob q,λb ob q _ _ _=>#[ob.slots,k b ob q],λ_ _ _ n _=>n,λb ob q _=>#[ob,k b ob q],λ_ _ q=>q,λ_ _ _ q=>q,λ_ ps q=>#[#[],by rw[q];simp]]
theorem Un.refl:Un fs ex H H h h:=Un.kept λ_ _ q=>q
theorem Un.laid (k:ξm) (hp:ψ8) (hn:H a=none):Un fs ex H θI h h' where
 keep:=λb u q _ _ _=>k b u q
 slot:=λb u q _ _ _=>#[u.slots,k b u q]
 free:=λb u q n _=>by rw[ae (F0 (GU (FO q) hp))];exact n
 there:=λb u q _=>#[u,k b u q]
 tups:=λb xs q=>by rw[ae ν6];exact q
 frzs:=λb u xs q=>by rw[ae ν6];exact q
 tbls:=λb ps q=>#[#[],by rw[ae ν6,q];simp]
theorem Un.write (mu:ωH) (he:υD) (k:ΞZ) (heo:υE):Un fs ex H ζs h h':=by
 have hx:∀b,H b=none->b≠x:=λb n z=>by subst z;rw[n] at mu;exact mu
 have hb:∀b,H b=none->b≠e:=λb n z=>by
  subst z;rcases he with r | r
  ·exact hx b n r
  ·rw[n] at r;cases r
 have hm:∀b u,H b=some u->¬ NE δI->b≠x:=λb u q nm z=>by subst z;rw[q] at mu;exact nm mu
 refine⟨λb u q n _ _=>k b u (hb b n) q,λb u q n _ _=>⟨u.slots,k b u (hb b n) q⟩,λb u q n _=>by rw[ae (hx b n)];exact n,λb u q _=>?_,
  λb xs q=>by rw[ae χb];exact q,λb u xs q=>by rw[ae χb];exact q,λb ps q=>⟨#[],by rw[ae χb,q];simp⟩⟩
 by_cases hbe:b=e
 ·subst hbe;exact heo
 ·exact #[u,k b u hbe q]
end
def Oq (h:Heap) (H:Hp):List Addr:=(r_ πd).filter λa=>(H a).isSome
def IH (h:Heap) (H:Hp):Heap:=PySem.W.hideAll h ωI
theorem zS (h:Heap) (H:Hp):(IH h H).objs.size=h.objs.size:=PySem.W.hideAll_size _ _
theorem BQ {o:Obj} (e:χV) (n:ωG):(IH h H).get? b=some o :=
 PySem.W.hideAll_get _ e λhm=>by
  have q:(H b).isSome=true:=(G1.mp hm).2;rw[n] at q;simp at q
theorem Df {o:Obj} (e:(IH h H).get? b=some o):h.get? b=some o/\H b=none:=by
 have e':h.get? b=some o:=PySem.W.of_hideAll ωI e;refine #[e',?_]
 cases q:H b with
 | none=>rfl
 | some x =>
  have hm:b∈Oq h H:=G1.mpr #[GG.mpr (FO e'),by simp[q]]
  have z:(IH h H).get? b=none:=PySem.W.hideAll_none ωI hm;rw[z] at e;cases e
def Dg (g h:Heap) (L:Addr):List 33e0:=(r_ πd).filterMap λa=>if a=L\/(g.get? a).isSome=true then none else (h.get? a).map λo=>(a,o)
def rest (g h:Heap) (L d:Addr):List 33e0:=(Dg g h L).filter λp=>decide (p.1≠d)
structure Om (K:m_) (mg:Ϝ) (base:Heap):Prop where
 kin:K.In base
 glob:base.Ns εK mg
 blt:∃mb,base.Ns ψX mb ∧ ∀x:Str,x ≠ "__name__" → mb x=bootBuiltins x
 nolimit:base.NoLimit
structure Cx where
 prog:Program
 w:World
 K:m_
 mg:Str->Option μ
 base:Heap
 A:Around
 N:List Str
 s₀:Shared
 H₀:Hp
 env:Env
 outer:List Env
 stack:List Env
 ex:List Addr
 fn:Str->Bool
 calm:Bool
 pn:List ηu
 xe:Value->Shared->Prop
def GY (l:γ4):List Addr:=l.filterMap (·.frame)
abbrev Cx.fs (X:Cx):List Addr:=GY X.outer
def Ol (sc:γ5) (x:Str):Prop:=sc.names.lookup x=some .local\/sc.names.lookup x=some .cell\/sc.names.lookup x=some .free
def MP (sc:γ5) (x:Str):Prop:=sc.names.lookup x=some .local\/sc.names.lookup x=some .cell
def OV (env:Env) (h:Heap) (m:Ϝ) (x:Str) (u:μ):Prop :=
 (env.kindOf x=some .local/\m x=some u)\/((env.kindOf x=some .cell\/env.kindOf x=some .free)/\∃c,env.cells.lookup x=some c/\h.IsCell c δI)
structure Cx.Ok (X:Cx):Prop where
 mod:Om X.K X.mg δ7
 kind:X.env.scope.kind=.function
 glob:X.env.globals=mainGlobals
 blt:X.env.builtins=builtinsNs
 above:X.s₀.heap.objs.size<=X.env.locals
 inj:∀x y c,X.env.cells.lookup x=some c->X.env.cells.lookup y=some c->x=y
 has:∀x,(X.env.kindOf x=some .cell\/X.env.kindOf x=some .free)->∃c,X.env.cells.lookup x=some c
 cab:∀x c,X.fn x=true->X.env.cells.lookup x=some c->X.s₀.heap.objs.size<=c
 hd:X.calm=true->X.A.handled=none
 frames:X.A.frames=some δK
 stk:X.stack=X.outer\/(δK=X.env :: X.outer/\X.env.frame=some π2)
 exf:∀b∈X.ex,b≠X.env.locals/\∀x c,X.env.cells.lookup x=some c->c≠b
 bs:∀b o,X.base.get? b=some o->X.s₀.heap.get? b=some o/\X.H₀ b=none
 bsz:X.base.objs.size<=X.s₀.heap.objs.size
 noex:∀b o,X.base.get? b=some o->b∉X.ex
 exfs:∀b∈X.ex,b∉X.fs
 funs:X.s₀.heap.FunFrames δ7 X.outer
 frf:∀b∈X.fs,X.H₀ b=none
structure Inv (X:Cx) (pins:ϗ) (σ:List (Option V)) (H:Hp) (s:ξ):Prop where
 ok:X.Ok
 os:s.os=X.s₀.os
 bare:AllBare νw
 base:Un X.fs X.ex X.H₀ H X.s₀.heap ύ
 loc:∃m,s.heap.Ns π2 m/\∀(i:Nat) (x:Str) (v:V),X.N[i]?=some x->σ[i]?=some δs->Ol ρg x->∃u,k_ v u/\OV ρ ύ m x u
 cell:∀x c,X.env.cells.lookup x=some c->∃v,s.heap.IsCell c v
 free:H X.env.locals=none
 freeC:∀x c,X.env.cells.lookup x=some c->H c=none
 pin:∀p∈X.pn++pins,s.heap.get? p.1=some p.2/\H p.1=none/\p.1≠X.env.locals/\p.1∉X.fs/\∀v,p.2.data≠.cell v
 hok:Gc Ϡ X.w H ύ
 len:σ.length=X.N.length
variable {t' i:Nat}{ch:List Addr}{N:List Str}{M:Model}{A:Around}{E:Value->Shared->Prop}{x:Str}{v:V}{Q:Unit->Shared->Prop}
section
variable {X:Cx}{pins:List (Addr × Obj)}{σ:List (Option V)}{H H':Hp}{s:Shared}{h':Heap}
theorem Cx.Ok.nofr (ok:X.Ok) {b:Addr}{o:Obj} (e:X.base.get? b=some o):b∉X.fs:=λhb=>by
 have:=(ok.funs.mem hb).1;show 189
theorem Inv.bs (I:χ):∀b o,X.base.get? b=some o->s.heap.get? b=some o/\H b=none:=λb o e =>
 #[I.base.keep b o (I.ok.bs b o e).1 (I.ok.bs b o e).2 (I.ok.nofr e) ύL,I.base.free b o (I.ok.bs b o e).1 (I.ok.bs b o e).2 ύL]
theorem Inv.bk (I:χ):∀b o,X.base.get? b=some o->s.heap.get? b=some o:=λb o e=>(I.bs b o e).1
theorem Inv.mod (I:χ):Om X.K X.mg X.base:=I.ok.mod
theorem Inv.kIn (I:χ):X.K.In s.heap:=I.ok.mod.kin.keeps I.bk
theorem Inv.lt (I:χ):X.env.locals < s.heap.objs.size:=let ⟨_,hn,_⟩:=εo;hn.lt
theorem Inv.sz (I:χ):X.s₀.heap.objs.size<=s.heap.objs.size:=FG I.ok.above (K_ I.lt)
theorem Inv.nofs (I:χ) {a:Addr} (h:χc):a∉X.fs:=λhb=>by
 obtain⟨_,o,ho,_⟩:=I.ok.funs.mem hb;exact absurd (GU (FO ho) (FG I.sz h)) δ9
theorem Inv.cne (I:χ):∀x c,X.env.cells.lookup x=some c->c≠X.env.locals:=λx c e z=>by
 obtain⟨v,o,ho,hd⟩:=I.cell x c e;obtain⟨m,⟨o',es,ep,ho',hd',_⟩,_⟩:=εo;rw[z,ho'] at ho;cases ho;rw[hd'] at hd;cases hd
theorem Inv.funs (I:χ):s.heap.FunFrames δ7 X.outer:=by
 have all:∀(l:γ4),(∀b∈GY l,b∈X.fs)->X.s₀.heap.FunFrames δ7 l->s.heap.FunFrames δ7 l:=by
  intro l
  induction l with
  | nil=>intro _ _;trivial
  | cons env r ih =>
   show 190
   have hL:L∈X.fs:=hs L Ψz
   obtain⟨sl,e⟩:=I.base.slot L o ho (I.ok.frf L hL) hL λz=>I.ok.exfs L z hL;exact Δx
 exact all X.outer ϐC I.ok.funs
theorem Inv.stack (I:χ):s.heap.FunFrames δ7 X.stack:=by
 rcases I.ok.stk with e | ⟨e,hf⟩
 ·rw[e];exact I.funs
 ·rw[e]
  obtain⟨m,hn,_⟩:=εo;refine .cons (by rw[εZ];decide) hf hn ?_ I.funs
  exact Heap.get?_none_of_le (FG πN I.ok.above)
theorem Inv.stkSub (I:χ):∀b∈GY X.stack,b∈X.env.locals :: X.fs:=λb hb=>by
 rcases I.ok.stk with e | ⟨e,hf⟩
 ·rw[e] at hb;exact Hl _ hb
 ·rw[e] at hb
  unfold GY at hb;rw[OH,hf] at hb;exact hb
theorem Inv.stkFree (I:χ):∀b∈GY X.stack,H b=none:=λb hb=>by
 rcases FC.mp (I.stkSub b hb) with e | hb
 ·rw[e];exact I.free
 ·obtain⟨_,o,ho,_⟩:=I.ok.funs.mem hb
  exact I.base.free b o ho (I.ok.frf b hb) λz=>I.ok.exfs b z hb
theorem Inv.step {g':ϐD}{d':Drawn} (I:χ)
  (hch:ρZ)
  (keep:∀b o,b≠X.env.locals->b∉X.fs->b∉ch->s.heap.get? b=some o->H b=none->h'.get? b=some o)
  (slot:∀b o,b≠X.env.locals->b∈X.fs->b∉ch->s.heap.get? b=some o->H b=none->∃sl,h'.get? b=some { o with slots:=sl }) (free:∀b o,b∉ch->s.heap.get? b=some o->H b=none->H' b=none)
  (there:∀b o,b∉ch->s.heap.get? b=some o->∃o',h'.get? b=some o')
  (tups:ΞY) (frzs:∀b o u,H b=some θ2->H' b=some θ2) (tbls:∀b ps,H b=some εb->∃more,H' b=some ρy)
  (ns:∀m,s.heap.Ns π2 m->h'.Ns π2 m) (hok:χd) (hg:AllBare g') :
  Inv X pins σ H' { s with heap:=h',gens:=g',drawn:=d',toks:=t' }:=by
 have D:∀b o,X.s₀.heap.get? b=some o->b≠X.env.locals:=λb o e=>F0 (GU εG I.ok.above)
 have h:∀b o,X.s₀.heap.get? b=some o->b∉X.ex->b∉ch:=λb o e hx hb=>by
  rcases(hch b hb).1 with z | z
  ·exact hx z
  ·exact absurd (GU εG z) δ9
 have j:∀x c,X.env.cells.lookup x=some c->∀v,s.heap.IsCell c v->h'.IsCell c v:=λx c e v ⟨o,ho,hd⟩=>by
  have g:c∉ch:=λz=>(hch c z).2.2.1 x c e rfl
  by_cases hc:c∈X.fs
  ·obtain⟨sl,q⟩:=slot c o ϑb hc g ho χW
   exact #[_,q,hd]
  ·exact #[o,keep c o ϑb hc g ho χW,hd]
 refine #[I.ok,I.os,hg,#[λb o e n hb hx=>?_,λb o e n hb hx=>?_,λb o e n hx=>?_,λb o e hx=>?_,λb xs e=>tups b xs (I.base.tups b xs e),λb o xs e=>frzs b o xs (I.base.frzs b o xs e),λb ps e=>?_],?_,λx c e=>?_,?_,λx c e=>?_,λp hp=>?_,hok,θl]
 ·exact keep b o ωj hb π3 υd υt
 ·obtain⟨sl,e1⟩:=I.base.slot b o e n hb hx
  obtain⟨E,e2⟩:=slot b _ ωj hb π3 e1 υt;exact #[E,e2]
 ·obtain⟨o',e1⟩:=I.base.there b o e hx
  exact free b o' π3 e1 υt
 ·obtain⟨o',e1⟩:=I.base.there b o e hx
  exact there b o' π3 e1
 ·obtain⟨m1,e1⟩:=I.base.tbls b ps e
  obtain⟨m2,e2⟩:=tbls b _ e1;exact ϊi
 ·obtain⟨m,hn,hl⟩:=I.loc
  refine⟨m,ns m hn,λi x v e1 e2 e3=>?_⟩;obtain⟨u,r,l⟩:=hl i x v e1 e2 e3;refine⟨u,r,?_⟩;rcases l with l | ⟨k,c,e,z⟩
  ·exact .inl l
  ·exact .inr #[k,c,e,j x c e _ z]
 ·obtain⟨v,z⟩:=I.cell x c e
  exact #[v,j x c e v z]
 ·obtain⟨m,⟨o,_,_,ho,_⟩,_⟩:=I.loc
  exact free _ o (λz=>(hch _ z).2.1 rfl) ho ζm
 ·obtain⟨v,o,ho,hd⟩:=I.cell x c e
  exact free c o (λz=>(hch c z).2.2.1 x c e rfl) ho χW
 ·obtain⟨e,n,ne,nf,d⟩:=I.pin p hp
  have g:p.1∉ch:=λz=>(hch p.1 z).2.2.2 p hp rfl;exact #[keep p.1 p.2 ne nf g e n,free p.1 p.2 g e n,ne,nf,d]
theorem Inv.un (I:χ) (u:Un X.fs [] H H' ύ h') (hok:χd):Inv X pins σ H' { s with heap:=h',toks:=t' }:=by
 obtain⟨m,⟨o,es,ep,ho,r⟩,_⟩:=id εo;obtain⟨sl,hL⟩:=u.any ho ζm ϒ
 exact I.step (g':=s.gens) (d':=s.drawn) (ch:=[]) (λ_ z=>nomatch z) (λb o _ hb _ e n=>u.keep b o e n hb (by simp)) (λb o _ hb _ e n=>u.slot b o e n hb (by simp)) (λb o _ e n=>u.free b o e n (by simp)) (λb o _ e=>u.there b o e (by simp)) u.tups u.frzs u.tbls (λm' hm=>by
  show 191
  exact ύM) hok εk
theorem Inv.call {g':ϐD}{d':Drawn} (I:χ) (u:Un (GY δK) ch H H' ύ h') (hok:χd) (hg:AllBare g')
  (hch:ρZ) :
  Inv X pins σ H' { s with heap:=h',gens:=g',drawn:=d',toks:=t' }:=by
 obtain⟨m,⟨o,es,ep,ho,r⟩,_⟩:=id εo;obtain⟨sl,hL⟩:=u.any ho ζm λz=>(hch _ z).2.1 rfl
 exact I.step (ch:=ch) hch (λb o hL hb hc e n=>u.keep b o e n (λz=>(FC.mp (I.stkSub b z)).elim hL hb) hc) (λb o _ _ hc e n=>u.any e n hc) (λb o hc e n=>u.free b o e n hc) (λb o hc e=>u.there b o e hc) u.tups u.frzs u.tbls (λm' hm=>by
  show 191
  exact ύM) hok hg
theorem Inv.turned {it:Addr} (I:χ) (k:∀b o,b≠it->s.heap.get? b=some o->h'.get? b=some o) (hn:H it=none) (hL:it≠X.env.locals)
  (h1:it∈X.ex\/X.s₀.heap.objs.size<=it) (h2:∀x c,X.env.cells.lookup x=some c->c≠it) (h3:∀p∈X.pn++pins,p.1≠it):Inv X pins σ H { s with heap:=h',toks:=t' }:=by
 have g:∀b u,H b=some u->b≠it:=λb u e z=>by rw[z,hn] at e;cases e
 refine I.step (g':=νw) (d':=s.drawn) (ch:=[it]) οK (λb o _ _ hc e _=>k b o ϊx e) (λb o _ _ hc e _=>#[o.slots,k b o (λz=>hc (by simp[z])) e]) (λ_ _ _ _ n=>n)
  (λb o hc e=>#[o,k b o ϊx e]) (λ_ _ e=>e) (λ_ _ _ e=>e) (λb ps e=>#[#[],by rw[e];simp]) (λm hm=>?_) (λb u e=>?_) I.bare
 ·have e:b=it:=by simpa using hb
  subst e;exact #[h1,hL,h2,h3]
 ·obtain⟨o,es,ep,ho,r⟩:=hm
  exact #[o,es,ep,k _ o (F5 hL) ho,r]
 ·refine(I.hok b u e).stay ϊj (λ_ q=>q) λ_ _ q=>q
  rcases hc with z | z
  ·rw[z];exact g b u e
  ·exact g c _ z
theorem Inv.tok (I:χ) (t:Nat):Inv X pins σ H { s with toks:=t }:=I.un (h':=s.heap) (t':=t) Un.refl I.hok
theorem Inv.kept {t':Nat} (I:χ) (k:ξh):Inv X pins σ H { s with heap:=h',toks:=t' }:=I.un (Un.kept k) (I.hok.kept k)
theorem Inv.laid {a:Addr}{o:HO}{t':Nat} (I:χ) (k:ξh) (hp:χc) (new:ΨV) :
  Inv X pins σ θI { s with heap:=h',toks:=t' }:=I.un (Un.laid k hp (I.hok.fresh hp)) (I.hok.laid k hp new)
theorem Inv.write {x e:Addr}{o:HO}{t':Nat} (I:χ) (mu:ωH) (he:υD) (k:∀b u,b≠e->s.heap.get? b=some u->h'.get? b=some u) (heo:υE)
  (new:p_ Ϡ X.w ζs h' x o):Inv X pins σ ζs { s with heap:=h',toks:=t' }:=I.un (Un.write mu he k heo) (I.hok.write mu he k heo new)
theorem Inv.pins_of {pins':ϗ} (I:χ) (h:∀p∈pins',s.heap.get? p.1=some p.2/\H p.1=none/\p.1≠X.env.locals/\p.1∉X.fs/\∀v,p.2.data≠.cell v):Inv X pins' σ H s :=
 #[I.ok,I.os,εk,I.base,εo,νx,ζm,ρ2,λp hp=>(Hi.mp hp).elim (λz=>I.pin p (Oe _ z)) (h p),γ9,θl]
theorem oE (hN:N.Nodup) {i j:Nat}{x:Str} (a:N[i]?=some x) (b:N[j]?=some x):i=j:=by
 obtain⟨h1,e1⟩:=Gr.mp a;obtain⟨h2,e2⟩:=Gr.mp b;exact(L0 hN).mp (e1.trans e2.symm)
theorem rB {u:μ} (I:χ) (hN:ιp) (hi:ηU) (hx:ι9) (r:ηi)
  (h:∀s',Inv X pins οh H s'->(∃a,LY a ύ s'.heap/\(a=X.env.locals\/X.env.cells.lookup x=some a))->Q () s') (hf:X.fn x=true\/X.env.scope.names.lookup x=some .local:=by first | exact .inl rfl | exact .inr rfl | assumption):wpAny M A ϋN Q E s:=by
 obtain⟨m,hn,hl⟩:=id εo
 have T:(X.env.scope.kind == .class || (X.env.scope.kind == .module && X.env.locals != X.env.globals))=false:=by rw[εZ];rfl
 have J:i < σ.length:=by rw[θl];exact(Gr.mp hi).1
 have cne:=I.cne
 have g:∀{a:Addr}{h':Heap},(∃o,s.heap.get? a=some o/\H a=none)->LY a ύ h'->Gc Ϡ X.w H h':=λ{a h'} ha hs b ob e=>by
  obtain⟨_,_,D⟩:=ha;refine(I.hok b ob e).stay (λc w' hc q=>(hs.2 c ?_).trans q) (λ_ q=>q) λ_ _ q=>q;rintro rfl;rcases hc with rfl | hc
  ·rw[D] at e;cases e
  ·rw[D] at hc;cases hc
 rcases hx with hk | hk
 ·refine wpAny_storeName_local hk hn (λh' Z hs=>?_) T
  obtain⟨oL,_,_,Y,_⟩:=id hn;refine h _ #[I.ok,I.os,εk,Δg,#[_,Z,λj y v' e1 e2 e3=>?_],λy c e=>?_,ζm,ρ2,λp hp=>?_,g #[oL,Y,ζm] hs,by simpa using I.len] #[_,hs,.inl rfl]
  ·exact(hs.2 b υe).trans υd
  ·obtain⟨sl,e1⟩:=I.base.slot b o e n hb hx
   exact #[sl,(hs.2 b υe).trans e1]
  ·obtain⟨o',e1⟩:=I.base.there b o e hx
   exact #[o',(hs.2 b υe).trans e1]
  ·by_cases hj:j=i
   ·subst hj
    rw[hi] at e1;cases e1;rw[LK J] at e2
    cases e2;exact #[u,r,.inl #[hk,by simp]]
   ·rw[LG (F5 hj)] at e2
    obtain⟨u',r',q⟩:=hl j y v' e1 e2 e3;refine⟨u',r',?_⟩;rcases q with ⟨k,e⟩ | ⟨k,c,e,z⟩
    ·refine .inl #[k,?_]
     have:y≠x:=λe=>hj (oE hN e1 (e ▸ hi))
     simp[this,e]
    ·exact .inr #[k,c,e,z.sameBut hs (cne y c e)]
  ·obtain⟨w',z⟩:=I.cell y c e
   exact #[w',z.sameBut hs (cne y c e)]
  ·obtain⟨e,n,ne,nf,d⟩:=I.pin p hp
   exact #[(hs.2 p.1 ne).trans e,n,ne,nf,d]
 ·have G:X.fn x=true:=by
   rcases hf with z | z
   ·exact z
   ·rw[z] at hk;cases hk
  obtain⟨c,hc⟩:=I.ok.has x (.inl hk);obtain⟨w',z⟩:=I.cell x c hc;refine wpAny_storeName_cell εZ hk hc z (λh' R hs=>?_);obtain⟨oc,O,U⟩:=id z;refine h { s with heap:=h' } ⟨I.ok,I.os,I.bare,Δg,⟨m,hn.sameBut hs (F5 (cne x c hc)),λj y v' e1 e2 e3=>?_⟩,λy c' e=>?_,I.free,I.freeC,λp hp=>?_,g ⟨oc,O,I.freeC x c hc⟩ hs,by simpa using I.len⟩ ⟨c,hs,.inr hc⟩
  ·exact(hs.2 b τL).trans υd
  ·obtain⟨sl,e1⟩:=I.base.slot b o e n hb hx
   exact #[sl,(hs.2 b τL).trans e1]
  ·obtain⟨o',e1⟩:=I.base.there b o e hx
   exact #[o',(hs.2 b τL).trans e1]
  ·by_cases hj:j=i
   ·subst hj
    rw[hi] at e1;cases e1;rw[LK J] at e2
    cases e2;exact #[u,r,.inr #[.inl hk,c,hc,R]]
   ·rw[LG (F5 hj)] at e2
    obtain⟨u',r',q⟩:=hl j y v' e1 e2 e3;refine⟨u',r',?_⟩;rcases q with q | ⟨k,c',e,z'⟩
    ·show 76
    ·refine .inr #[k,c',e,z'.sameBut hs ?_]
     rintro rfl;exact hj (oE hN e1 (I.ok.inj _ _ _ e hc ▸ hi))
  ·by_cases hcc:c'=c
   ·subst hcc;exact #[_,R]
   ·obtain⟨w2,z2⟩:=I.cell y c' e
    exact #[w2,z2.sameBut hs hcc]
  ·obtain⟨e,n,ne,nf,d⟩:=I.pin p hp
   refine #[(hs.2 p.1 ?_).trans e,n,ne,nf,d];intro q;rw[q,O] at e
   have q':oc=p.2:=FK e;exact d w' (by rw[<- q'];exact U)
theorem oF {u:μ} (I:χ) (hN:ιp) (hi:ηU) (hx:ι9) (r:ηi)
  (h:∀s',Inv X pins οh H s'->Q () s') (hf:X.fn x=true\/X.env.scope.names.lookup x=some .local:=by first | exact .inl rfl | exact .inr rfl | assumption):wpAny M A ϋN Q E s :=
 rB I hN hi hx r (λs' I' _=>h s' I') hf
theorem Inv.call' {s':ξ} (I:χ) (ho:s'.os=s.os) (u:Un (GY δK) ch H H' ύ εO) (hok:Gc Ϡ X.w H' εO) (hg:ώY)
  (hch:ρZ):Inv X pins σ H' s':=by
 obtain⟨h',g',d',t',o'⟩:=s'
 have e:o'=s.os:=ho;subst e;exact I.call (g':=g') (t':=t') (d':=d') u hok hg hch
end
abbrev XK:=Value->Option Addr->Hp->Prop
abbrev St:=List (Option V)
abbrev VK:=V->Hp->Prop
abbrev TE:=St->Hp->VK->Prop
abbrev TT:=St->Hp->(Bool->Hp->Prop)->Prop
abbrev TA:=St->Hp->(List V->Hp->Prop)->Prop
structure GW where
 nx:St->Hp->Prop
 rt:VK
 bk:St->Hp->Prop:=λ_ _=>False
 ct:St->Hp->Prop:=λ_ _=>False
abbrev TS:=GW->St->Hp->Prop
def EP (X:Cx) (pins:ϗ) (σ:St) (Q:VK) (u:μ) (s':ξ):Prop:=∃v H',Inv X pins σ H' s'/\k_ v u/\Q v H'
def TP (X:Cx) (pins:ϗ) (σ:St) (Q:εW) (b:Bool) (s':ξ):Prop:=∃H',Inv X pins σ H' s'/\Q b H'
def AP (X:Cx) (pins:ϗ) (σ:St) (Q:ώh) (us:ψ) (s':ξ):Prop:=∃vs H',Inv X pins σ H' s'/\j_ vs us/\Q vs H'
def SP (X:Cx) (pins:ϗ) (D:GW) (f:Flow) (s':ξ):Prop :=
 match f with
 | .next=>∃σ' H',Inv X pins σ' H' s'/\D.nx σ' H'
 | .brk=>∃σ' H',Inv X pins σ' H' s'/\D.bk σ' H'
 | .cont=>∃σ' H',Inv X pins σ' H' s'/\D.ct σ' H'
 | .ret u=>∃v σ' H',Inv X pins σ' H' s'/\k_ v u/\D.rt v H'
def PE (X:Cx) (e:Expr) (t:TE):Prop :=
 ∀(pins:ϗ) (s:ξ) (σ:St) (H:Hp) (Q:VK),Inv X pins σ H s->t σ H Q->wpAny Ξ X.A ρI δz X.xe s
def PT (X:Cx) (e:Expr) (t:TT):Prop :=
 ∀(pins:ϗ) (s:ξ) (σ:St) (H:Hp) (Q:εW),Inv X pins σ H s->t σ H Q->wpAny Ξ X.A (isTrue e ρ ρI) ώi X.xe s
def PW (X:Cx) (e:Expr) (t:TT):Prop :=
 ∀(whole:Sem Value) (pins:ϗ) (s:ξ) (σ:St) (H:Hp) (Q:εW),Inv X pins σ H s->t σ H Q->wpAny Ξ X.A (isTrue e ρ whole) ώi X.xe s
variable {X:Cx}{e:Expr}
theorem PW.pt {t:TT} (h:PW X e t):PT X e t:=h _
def PA (X:Cx) (es:εC) (t:TA):Prop :=
 ∀(pos:Pos) (pins:ϗ) (s:ξ) (σ:St) (H:Hp) (Q:ώh),Inv X pins σ H s->t σ H Q->wpAny Ξ X.A (spliced (backTo pos εU)) (AP X pins σ Q) X.xe s
def PS (X:Cx) (st:Stmt) (t:TS):Prop :=
 ∀(pins:ϗ) (s:ξ) (σ:St) (H:Hp) (D:GW),Inv X pins σ H s->t D σ H->wpAny Ξ X.A (exec st ρ) ϑc X.xe s
def Ht (X:Cx) (st:ζw) (t:TS):Prop :=
 ∀(pins:ϗ) (s:ξ) (σ:St) (H:Hp) (D:GW),Inv X pins σ H s->t D σ H->wpAny Ξ X.A (execs st ρ) ϑc X.xe s
variable {s:Shared}
theorem C_ {α:Type}{t:Sem α}{Q Q':ώj} (h:wpAny M A t Q E s) (hQ:∀a s,Q a s->Q' a s):wpAny M A t Q' E s:=IT h hQ λ_ _ x=>x
variable {pos:Pos}{pins:List (Addr × Obj)}{σ:St}{op:CmpOp}{t:TE}
section
variable {X:Cx}
inductive Mr (i:Nat) (σ:St) (H:Hp) (Q:VK):Prop
 | mk:∀v,σ[i]?=some (some v)->Q v H->Mr i σ H Q
def tC (v:V):TE:=λ_ H Q=>Q v H
theorem Ek (hN:ηU) (hv:Ol ρg x) (hd:εQ=false:=by decide) (hcd:Ωo=false:=by decide):PE X μ9 (Mr i):=by
 show 77;obtain⟨v,e,h⟩:=h;obtain⟨m,hn,hl⟩:=εo;obtain⟨u,r,l⟩:=hl i x v hN e hv
 have fin:EP X j σ Q u s:=⟨v,H,I,r,h⟩;rcases l with ⟨hk,hm⟩ | ⟨hk,c,hc,g⟩
 ·exact RP (SR εZ hk hn hm fin) hd
 ·rcases hk with hk | hk
  ·exact RP (UM εZ hk hc g fin) hd
  ·exact RP (wpAny_loadName_free εZ hk hc g fin hcd) hd
theorem ai {i j pos}:PE X (.Constant ζB j pos) (tC ζB):=λ_ _ _ H _ I h=>wpAny_Constant_int #[.int i,H,I.tok _,ϊ,h]
theorem dz {b j pos}:PE X (.Constant πp j pos) (tC ιy):=λ_ _ _ H _ I h=>Constant_bool #[.bl b,H,I,rfl,h]
theorem aL {j pos}:PE X (.Constant .none j pos) (tC .non):=λ_ _ _ H _ I h=>Constant_none #[.non,H,I,rfl,h]
theorem dI {x j pos}:PE X (.Constant ωJ j pos) (tC ωJ):=λ_ _ _ H _ I h=>Calls.Constant_str #[.str x,H,I.tok _,ϊ,h]
def Gl (X:Cx) (x:Str):Prop:=X.env.kindOf x=some .globalImplicit
theorem mn {u:μ}{Q:ϥ} (I:χ) (hg:ηj) (hm:ϑd) (h:Q u s)
  (hd:εQ=false:=by decide):wpAny Ξ X.A ϊk Q E s :=
 TN εZ hg (Calls.loadGlobal_global Φ4 hm h) hd
theorem cG {u:μ}{Q:ϥ} (I:χ) (hg:ηj) (hm:πe) (hv:ϋO) (h:Q u s)
  (hn:x ≠ "__name__":=by decide) (hd:εQ=false:=by decide):wpAny Ξ X.A ϊk Q E s:=by
 obtain⟨mb,h1,h2⟩:=I.mod.blt;exact TN εZ hg (Calls.loadGlobal_builtin Φ4 hm (by rw[ωK];exact h1.keeps I.bk) ((h2 x hn).trans hv) h) hd
theorem bg {u:μ} (hg:ηj) (hm:ϑd) (r:ηi) (hd:εQ=false:=by decide):PE X μ9 (tC v) :=
 λ_ _ _ H _ I h=>mn I hg hm ώZ hd
theorem qG {u:μ} (hg:ηj) (hm:πe) (hv:ϋO) (r:ηi) (hn:x ≠ "__name__":=by decide) (hd:εQ=false:=by decide):PE X μ9 (tC v) :=
 λ_ _ _ H _ I h=>cG I hg hm hv ώZ hn hd
variable {a b:Expr}{ta tb:TE}{pos:Pos}
def PC (X:Cx) (op:CmpOp) (a b:Expr) (t:TE):Prop :=
 ∀(pins:ϗ) (s:ξ) (σ:St) (H:Hp) (Q:VK),Inv X pins σ H s->t σ H Q →
  wpAny Ξ X.A ϐE (λv s₁=>wpAny Ξ X.A ϐF (λu s₂=>wpAny Ξ X.A (compareOp op v u) δz X.xe s₂) X.xe s₁) X.xe s
inductive Nm (Q:εW) (x:V) (H1:Hp):Prop
 | mk:∀c,x=.bl c->Q c H1->Nm Q x H1
def tB (t:TE):TT:=λσ H Q=>t σ H λx H1=>Nm Q x H1
theorem El (h:ϑe) (h1:behindInMarks op b=false:=by first | exact nobehind _ ζ ζ | rfl):PE X ξP t:=λg s σ H Q I hw=>wpAny_Compare1 (h g s σ H Q I hw) h1
theorem uu (h:ϑe) (h1:behindInMarks op b=false:=by first | exact nobehind _ ζ ζ | rfl):PT X ξP (tB t):=by
 show 117;refine UI (C_ οi λv s1 h1=>C_ h1 λu s2 h2=>C_ h2 λc s3 ⟨x,H1,I1,r1,q1⟩=>?_) h1;show 192
 show 193
theorem aX (h:PE X e t) (he:∀whole,isTrue e ρ whole=(do let v ← whole;standAt e.pos;holding [v] (truthy v)):=by intro _;rfl):PT X e (tB t):=by
 show 117;refine isTrue_plain (C_ οi λv s1 ⟨x,H1,I1,r1,q1⟩=>?_) (he _);show 192
 show 193
variable {tA tB':TT}{rest:List Expr}
def OW (t u:TT):TT:=λσ H Q=>t σ H λc H1=>if c=true then u σ H1 Q else Q τ H1
def So (t u:TT):TT:=λσ H Q=>t σ H λc H1=>if c=true then Q true H1 else u σ H1 Q
def O2 (t:TT):TT:=λσ H Q=>t σ H λc H1=>Q (!c) H1
theorem gQ (ha:ν7):PW X (.BoolOp .And [a] pos) tA:=by
 show 78;refine isTrue_and ΦM
 cases c with
 | true=>exact isTrue_and_nil e
 | false=>exact e
theorem aS (ha:ν7):PW X (.BoolOp .Or [a] pos) tA:=by
 show 78;refine isTrue_or ΦM
 cases c with
 | false=>exact isTrue_or_nil e
 | true=>exact e
theorem jl (ha:ν7) (hb:PW X Ωp tB'):PW X Ψo (OW tA tB'):=by
 show 78;refine isTrue_and Ξn
 cases c with
 | true=>exact hb wh g s1 σ H1 Q I1 q1
 | false=>exact ϐG
theorem aY (ha:ν7) (hb:PW X Ωy tB'):PW X ΨA (So tA tB'):=by
 show 78;refine isTrue_or Ξn
 cases c with
 | true=>exact ϐG
 | false=>exact hb wh g s1 σ H1 Q I1 q1
theorem bS (ha:ν7):PT X ϋP (O2 tA):=by
 show 15;exact isTrue_not (ha g s σ H (λc H1=>Q (!c) H1) I h)
inductive wW (tb:TE) (σ:St) (Q:VK) (x:V) (H1:Hp):Prop
 | mk:∀c,x=.bl c->(if c=true then tb σ H1 Q else Q (.bl false) H1)->wW tb σ Q x H1
def EV (ta tb:TE):TE:=λσ H Q=>ta σ H λx H1=>wW tb σ Q x H1
inductive zT (tb:TE) (σ:St) (Q:VK) (x:V) (H1:Hp):Prop
 | mk:∀c,x=.bl c->(if c=true then Q (.bl true) H1 else tb σ H1 Q)->zT tb σ Q x H1
def Py (ta tb:TE):TE:=λσ H Q=>ta σ H λx H1=>zT tb σ Q x H1
inductive wX (Q:VK) (x:V) (H1:Hp):Prop
 | mk:∀c,x=.bl c->Q (.bl (!c)) H1->wX Q x H1
def EW (ta:TE):TE:=λσ H Q=>ta σ H λx H1=>wX Q x H1
theorem gZ {op}{t:TE} (h:PE X a t):PE X (.BoolOp op [a] pos) t:=λpins s σ H Q I hw=>BoolOp_one (h pins s σ H Q I hw)
theorem jm (ha:ζ0) (hb:PE X Ωp tb):PE X Ψo (EV ta tb):=by
 show 15;refine BoolOp_and τm;show 118
 show 194
 cases c with
 | true=>exact hb g s1 σ H1 Q I1 q1
 | false=>exact⟨.bl τ,H1,I1,rfl,q1⟩
theorem CV (ha:ζ0) (hb:PE X Ωy tb):PE X ΨA (Py ta tb):=by
 show 15;refine BoolOp_or τm;show 118
 show 194
 cases c with
 | false=>exact hb g s1 σ H1 Q I1 q1
 | true=>exact⟨.bl true,H1,I1,rfl,q1⟩
theorem zU (ha:ζ0):PE X ϋP (EW ta):=by
 show 15;refine UnaryOp_ τm;show 118
 cases r1;exact not_of (LJ #[.bl (!c),H1,I1,rfl,q1])
def Sl (t:TT) (ta tb:TE):TE:=λσ H Q=>t σ H λc H1=>if c=true then ta σ H1 Q else tb σ H1 Q
theorem g0 {c:Expr} (hc:PT X c tA) (ha:ζ0) (hb:θ6):PE X (.IfExp c a b pos) (Sl tA ta tb):=by
 show 15;refine wpAny_IfExp Ξo
 cases d with
 | true=>exact ha g s1 σ H1 Q I1 q1
 | false=>exact hb g s1 σ H1 Q I1 q1
end
def c_ (K:m_) (H:Hp) (a:Addr) (xs:δ):Prop :=
 Rd H a γP ∨
  ∃(o:Obj) (its:γF) (n:Nat),K.lookup a=some o∧o.cls=.type "list" ∧ o.dict=none∧o.data=.seq its n∧its.size≤sizeLine∧j_ xs πj
def Gn (K:m_) (H:Hp) (a:Addr) (xs:δ):Prop :=
 Rd H a ε7 ∨
  ∃(o:Obj) (its:γF) (n:Nat),K.lookup a=some o∧o.cls=.type "tuple" ∧ o.data=.seq its n∧its.size≤sizeLine∧j_ xs πj
def PM:Value->Option V
 | .none=>some .non
 | .bool b=>some ιy
 | .int i _=>some ζB
 | .str x _=>some ωJ
 | .bytes b _=>some (.byt b)
 | .float b _=>some (.flt b)
 | .ref a=>some εj
 | .type n=>some (.ty n)
 | _=>none
theorem k_.abs {x:V}{u:μ} (r:k_ x u):PM u=some x:=by
 cases x with
 | non=>cases r;rfl
 | bl _=>cases r;rfl
 | int _=>obtain⟨t,rfl⟩:=r;rfl
 | str _=>obtain⟨t,rfl⟩:=r;rfl
 | byt _=>obtain⟨t,rfl⟩:=r;rfl
 | flt _=>obtain⟨t,rfl⟩:=r;rfl
 | ref _=>cases r;rfl
 | ty _=>cases r;rfl
theorem k_.inj {x y:V}{u:μ} (r:k_ x u) (q:εl):x=y:=FK (r.abs.symm.trans q.abs)
theorem j_.inj:∀{xs ys:δ}{us:ψ},j_ xs us->j_ ys us->xs=ys
 | _,_,_,.nil,.nil=>rfl
 | _,_,_,.cons r t,.cons r' t'=>by rw[r.inj r',j_.inj t t']
variable {K:m_}
section
variable {X:Cx}{pins:List (Addr × Obj)}{σ:St}{H:Hp}{s:Shared}{a:Addr}{xs ys:List V}
theorem c_.of (h:H a=some γP):c_ K H a xs:=.inl πO
theorem Gn.of (h:H a=some ε7):Gn K H a xs:=.inl πO
theorem Inv.list (I:χ) (h:ϑg):∃its:List Value,j_ xs its/\PlainL ύ a its.toArray/\xs.length<=sizeLine:=by
 rcases h with h | ⟨o,its,n,hk,hc,hd,hs,hz,r⟩
 ·obtain⟨z,its,n,r,e⟩:=h.ok γ9
  exact #[its,r,#[_,n,e,rfl,rfl,rfl],z]
 ·refine #[πj,r,#[o,n,I.kIn a o hk,hc,hd,by simpa using hs],?_]
  show 195
theorem Inv.tuple (I:χ) (h:ϑh):∃its:List Value,j_ xs its/\IsTup ύ a its.toArray/\xs.length<=sizeLine:=by
 rcases h with h | ⟨o,its,n,hk,hc,hs,hz,r⟩
 ·obtain⟨z,its,r,p⟩:=h.ok γ9
  exact #[its,r,p,z]
 ·refine #[πj,r,#[o,I.kIn a o hk,hc,n,by simpa using hs],?_]
  show 195
theorem Inv.list_inj (I:χ) (h:ϑg) (h':c_ X.K H a ys):xs=ys:=by
 obtain⟨j,r,⟨o,n,e,_,_,d⟩,_⟩:=I.list h;obtain⟨g,r',⟨o',n',e',_,_,d'⟩,_⟩:=I.list h';show 196
 injection d' with d1 _
 show 197
 show 198
theorem Inv.tuple_inj (I:χ) (h:ϑh) (h':Gn X.K H a ys):xs=ys:=by
 obtain⟨j,r,⟨o,e,_,n,d⟩,_⟩:=I.tuple h;obtain⟨g,r',⟨o',e',_,n',d'⟩,_⟩:=I.tuple h';show 196
 injection d' with d1 _
 show 197
 show 198
end
abbrev Cx.wish (X:Cx) (E:ϥ):Cx:={ X with xe:=E }
abbrev Cx.nox (X:Cx):Cx:=X.wish λ_ _=>False
theorem Cx.Ok.wish {X:Cx} (ok:X.Ok) (E:ϥ):(X.wish E).Ok :=
 Δ7
theorem Cx.Ok.unwish (ok:(X.wish E).Ok):X.Ok :=
 Δ7
section
variable {X:Cx}{pins:List (Addr × Obj)}{σ:St}{H:Hp}{s:Shared}{E:Value->Shared->Prop}
theorem Inv.wish (I:χ) (E:ϥ):Inv ψY pins σ H s:=#[I.ok.wish E,I.os,εk,I.base,εo,νx,ζm,ρ2,I.pin,γ9,θl]
theorem Inv.unwish (I:Inv ψY pins σ H s):Inv X pins σ H s:=#[I.ok.unwish,I.os,εk,I.base,εo,νx,ζm,ρ2,I.pin,γ9,θl]
theorem SP.unwish {D:GW}{f:Flow}{s':ξ} (h:SP ψY pins D f s'):SP X pins D f s':=by
 cases f with
 | next=>obtain⟨σ',H',I,q⟩:=h;exact υy
 | brk=>obtain⟨σ',H',I,q⟩:=h;exact υy
 | cont=>obtain⟨σ',H',I,q⟩:=h;exact υy
 | ret u=>obtain⟨v,σ',H',I,r,q⟩:=h;exact⟨v,σ',H',I.unwish,r,q⟩
theorem Ht.nox {st:ζw}{t:TS} (h:Ht X.nox st t):Ht X st t:=λpins s σ H D I hw =>
 IT (h pins s σ H D (I.wish _) hw) (λ_ _ q=>q.unwish) λ_ _ z=>False.elim z
end
section
variable {X:Cx}{st:Stmt}{rest:List Stmt}{t u:TS}{e:Expr}{te:TE}{pos:Pos}
def yX:TS:=λD σ H=>D.nx σ H
def Ms (t u:TS):TS:=λD σ H=>t { D with nx:=u D } σ H
theorem av:Ht X [] yX:=λ_ _ σ H _ I h=>P8 μP
theorem uv (h1:ιq) (h2:Ht X rest u):Ht X π4 (Ms t u):=by
 show 31;refine Qf (C_ (h1 g s σ H { D with nx:=u D } I h) λf s1 q=>?_)
 cases f with
 | next =>
  show 199;exact h2 g s1 σ' H' D I' q
 | ret v=>exact q
 | brk=>exact q
 | cont=>exact q
theorem gR (h1:ιq):Ht X [st] t:=by
 show 31;refine Qf (C_ (h1 g s σ H D I h) λf s1 q=>?_)
 cases f with
 | next=>exact P8 q
 | ret v=>exact q
 | brk=>exact q
 | cont=>exact q
def Em:TS:=λD σ H=>D.bk σ H
def EY:TS:=λD σ H=>D.ct σ H
theorem Dh:PS X (.Pass pos) yX:=λ_ _ σ H _ I h=>wpAny_Pass μP
theorem BR:PS X (.Break pos) Em:=λ_ _ σ H _ I h=>wpAny_Break μP
theorem wC:PS X (.Continue pos) EY:=λ_ _ σ H _ I h=>wpAny_Continue μP
theorem Inv.quiet (I:χ):interactive X.env=false:=by simp[interactive,I.ok.kind]
def EZ (te:TE):TS:=λD σ H=>te σ H λ_ H1=>D.nx σ H1
theorem aE (he:εh) (hs:swapsWith e none θd X.env=pure false:=by rfl):PS X (.Expr e pos) (EZ te):=by
 show 31;exact wpAny_Expr_any (C_ μ2 λv s1 ⟨x,H1,I1,r1,q1⟩=>#[σ,H1,I1,q1]) I.quiet hs
def Pp (te:TE):TS:=λD σ H=>te σ H D.rt
theorem aA (he:εh):PS X (.Return ωL pos) (Pp te):=by
 show 31;exact Tv (C_ μ2 λv s1 ⟨x,H1,I1,r1,q1⟩=>#[x,σ,H1,I1,r1,q1])
def Nx (c:TT) (t u:TS):TS:=λD σ H=>c σ H λb H1=>if b=true then t D σ H1 else u D σ H1
theorem uo {c:Expr}{a b:ζw}{tc:TT} (hc:πq) (ha:Ht X a t) (hb:Ht X b u):PS X ϐ0 (Nx tc t u):=by
 show 31;refine wpAny_If Ξo
 cases d with
 | true=>exact ha g s1 σ H1 D I1 q1
 | false=>exact hb g s1 σ H1 D I1 q1
def En:TS:=λ_ _ _=>False
theorem aI:PS X st En:=λ_ _ _ _ _ _ h=>h.elim
end
abbrev TG:=V->St->Hp->ϐH->Prop
abbrev Lo:=List V->St->Hp->ϐH->Prop
def PG (X:Cx) (target:Expr) (t:TG):Prop :=
 ∀(pins:ϗ) (s:ξ) (σ:St) (H:Hp) (v:V) (u:μ) (Q:θH),Inv X pins σ H s->k_ v u->t v σ H Q →
  wpAny Ξ X.A (assign target ρ u) Ξf X.xe s
def MJ (X:Cx) (ts:εC) (t:Lo):Prop :=
 ∀(pins:ϗ) (s:ξ) (σ:St) (H:Hp) (vs:δ) (us:ψ) (Q:θH),Inv X pins σ H s->j_ vs us->t vs σ H Q →
  wpAny Ξ X.A (assignInOrder ((assignEach ts ρ).map (·.2)) us) Ξf X.xe s
abbrev L_:=V->V->V->Hp->(Hp->Prop)->Prop
def Nr (X:Cx) (t:L_):Prop :=
 ∀(pins:ϗ) (s:ξ) (σ:St) (H:Hp) (o i v:V) (ov iv u:μ) (Q:ζC),Inv X pins σ H s->k_ o ov->k_ i iv->k_ v u->t o i v H Q →
  wpAny Ξ X.A (setItem ov iv u) (λ_ s'=>∃H',Inv X pins σ H' s'/\Q H') X.xe s
abbrev Pb:=V->V->Hp->VK->Prop
def PN (X:Cx) (op:νj) (t:Pb):Prop :=
 ∀(pins:ϗ) (s:ξ) (σ:St) (H:Hp) (x y:V) (v u:μ) (Q:VK),Inv X pins σ H s->k_ x v->k_ y u->t x y H Q →
  wpAny Ξ X.A (inplaceOp op v u) δz X.xe s
variable {n:Nat}{tg:Expr}{g:TG}
section
variable {X:Cx}{pos:Pos}
def bj (i:Nat):TG:=λv σ H Q=>Q οh H
theorem au (hN:ιp) (hi:ηU) (hx:ι9) (hf:X.fn x=true\/X.env.scope.names.lookup x=some .local:=by first | exact .inl rfl | exact .inr rfl | assumption):PG X μ9 (bj i):=by
 intro g s σ H v u Q I r h;exact Te (oF I hN hi hx r (λs' I'=>#[_,H,I',h]) hf)
def KY:Lo:=λvs σ H Q=>vs=[]/\Q σ H
inductive fA (t:TG) (u:Lo) (vs:δ) (σ:St) (H:Hp) (Q:θH):Prop
 | mk:∀v r,vs=v :: r->(t v σ H λσ' H'=>u r σ' H' Q)->fA t u vs σ H Q
theorem bZ:MJ X [] KY:=by
 intro g s σ H vs us Q I r h;obtain⟨e,h⟩:=h;subst e
 cases r;exact assignInOrder_nil μP
theorem aN {es:εC}{t:TG}{u:Lo} (h1:PG X e t) (h2:MJ X es u)
  (hs:(assignEach δm ρ).map (·.2)=assign e X.env :: (assignEach es ρ).map (·.2):=by rfl):MJ X δm (fA t u):=by
 intro g s σ H vs us Q I r h;obtain⟨v,vr,e1,h⟩:=h;subst e1
 cases r with
 | cons r rr =>
  rw[hs];refine assignInOrder_cons (C_ (h1 g s σ H _ _ _ I r h) λ_ s1 ⟨σ1,H1,I1,q1⟩=>?_);exact h2 g s1 σ1 H1 _ _ Q I1 rr q1
inductive JR (K:m_) (n:Nat) (t:Lo) (v:V) (σ:St) (H:Hp) (Q:θH):Prop
 | mk:∀a xs,v=.ref a->Gn K H a xs->xs.length=n->t xs σ H Q->JR K n t v σ H Q
theorem c7 {es:εC}{k:Nat}{t:Lo} (hc:γi) (h:ωk)
  (hn:(assignEach es ρ).length=n:=by rfl) (hst:(assignEach es ρ).findIdx? (·.1)=none:=by rfl):PG X χz (JR X.K n t):=by
 intro g s σ H v u Q I r hw;obtain⟨a,xs,e1,hq,hl,hw⟩:=hw;subst e1
 cases r;obtain⟨j,rv,ht,hz⟩:=I.tuple hq;refine assign_Tuple_tuple δ3 ht (by simp[hn,← hl,rv.length]) hst λh' hx=>?_
 have I1:Inv X g σ H { s with heap:=h' }:=I.kept (t':=s.toks) λb o e=>hx b o η8 e;exact h g _ σ H xs _ Q I1 όM hw
def O_ (to ti:TE) (t:L_):TG:=λv σ H Q=>to σ H λo H1=>ti σ H1 λi H2=>t o i v H2 λH3=>Q σ H3
theorem cH {o i:Expr}{to ti:TE}{t:L_} (ho:ωl) (hi:PE X i ti) (hs:Nr X t)
  (ha:∀v,assign χ0 ρ v=(do
   let ov ← holding [v] (eval o X.env)
   let iv ← holding [v,ov] (eval i X.env)
   standAt pos
   holding [v,ov,iv] (setItem ov iv v)
   release [v,ov,iv] []):=by intro _;rfl):PG X χ0 (O_ to ti t):=by
 intro g s σ H v u Q I r h;rw[ha];refine E_ (JK (C_ ΓK λov s1 ⟨x,H1,I1,r1,q1⟩=>?_));refine E_ (JK (C_ (hi g s1 σ H1 _ I1 q1) λiv s2 ⟨y,H2,I2,r2,q2⟩=>?_));refine E_ (Qp (E_ (JK (C_ (hs g s2 σ H2 x y v ov iv u _ I2 r1 r2 r q2) λ_ s3 ⟨H3,I3,q3⟩=>?_))));exact wpAny_release #[σ,H3,I3,q3]
def Mg (te:TE) (g:TG):TS:=λD σ H=>te σ H λx H1=>g x σ H1 D.nx
theorem cA {te:TE} (he:εh) (hg:πr) (hs:swapsWithSole [tg] e θd X.env=pure false:=by rfl) (hw:swappedStores [tg] e X.env=pure none:=by rfl)
  (h1:(assignEach [tg] ρ).map (·.2)=[assign tg ρ]:=by rfl):PS X (.Assign [tg] e pos) (Mg te g):=by
 intro j s σ H D I h;refine wpAny_Assign_stores (C_ (he j s σ H _ I h) λv s1 ⟨x,H1,I1,r1,q1⟩=>?_) hs hw;rw[h1];exact C_ (hg j s1 σ H1 x v _ I1 r1 q1) λ_ s2 q=>q
theorem ar {i:Nat}{x:Str}{e:Expr}{te:TE}{pos':Pos} (hN:ιp) (hi:ηU) (hx:ι9) (he:εh) (hs:swapsWith e ϋQ θd X.env=pure false:=by rfl) (hf:X.fn x=true\/X.env.scope.names.lookup x=some .local:=by first | exact .inl rfl | exact .inr rfl | assumption) :
  PS X (.Assign [.Name x pos'] e pos) (Mg te (bj i)):=by
 intro g s σ H D I h;refine wpAny_Assign_Name (C_ μ2 λv s1 ⟨y,H1,I1,r1,q1⟩=>?_) hs;exact oF I1 hN hi hx r1 (λs2 I2=>#[_,H1,I2,q1]) hf
inductive NH (i:Nat) (te:TE) (ti:Pb) (D:GW) (σ:St) (H:Hp):Prop
 | mk:∀x,σ[i]?=some (some x)->(te σ H λy H1=>ti x y H1 λz H2=>D.nx (σ.set i (some z)) H2)->NH i te ti D σ H
theorem Eo {te:TE}{op:νj}{ti:Pb}{pos':Pos} (hN:ιp) (hi:ηU) (hx:ι9) (he:εh) (ho:PN X op ti) (hf:X.fn x=true\/X.env.scope.names.lookup x=some .local:=by first | exact .inl rfl | exact .inr rfl | assumption) :
  PS X (.AugAssign ΓO op e pos) (NH i te ti):=by
 intro g s σ H D I h;obtain⟨v,e1,h⟩:=h;obtain⟨m,hn,hl⟩:=I.loc
 have E:Ol X.env.scope x:=by rcases hx with k | k;exact .inl k;exact .inr (.inl k)
 obtain⟨u,r,l⟩:=hl i x v hi e1 E;refine wpAny_AugAssign_Name ?_
 have go:wpAny Ξ X.A ρI (λw s₂=>wpAny Ξ X.A (inplaceOp op u w) (λr s₃=>wpAny Ξ X.A (storeName ρ x r) (λ_=>SP X g D .next) X.xe s₃) X.xe s₂) X.xe s:=by
  refine C_ μ2 λw s1 ⟨y,H1,I1,r1,q1⟩=>?_;refine C_ (ho g s1 σ H1 v y u w _ I1 r r1 q1) λz s2 ⟨zv,H2,I2,r2,q2⟩=>?_;exact oF I2 hN hi hx r2 (λs3 I3=>#[_,H2,I3,q2]) hf
 rcases l with ⟨hk,hm⟩ | ⟨hk,c,hc,j⟩
 ·exact SR εZ hk hn hm go
 ·rcases hk with hk | hk
  ·exact UM εZ hk hc j go
  ·rcases hx with k | k
   ·have:X.env.scope.names.lookup x=some .free:=hk
    rw[k] at this;cases this
   ·have:X.env.scope.names.lookup x=some .free:=hk
    rw[k] at this;cases this
inductive PU (f:ψl) (x y:V) (H:Hp) (Q:VK):Prop
 | mk:∀i j,x=.int i->y=.int j->Q (.int (f i j)) H->PU f x y H Q
theorem zV:PN X .Add (PU λi j=>i+j):=by
 show 200;exact iadd_int τM
theorem Ep:PN X .Sub (PU λi j=>i - j):=by
 show 200;exact isub_int τM
end
variable {body:List Stmt}{tb:TS}
section
variable {X:Cx}{pos:Pos}
def zW (c:TT) (tb:TS):TS:=λD σ H=>∃W:Nat->St->Hp->Prop,(∃m,W m σ H)/\∀m σ H,W m σ H →
 c σ H λb H1=>if b=true then ∃N:St->Hp->Prop,(∀σ' H',N σ' H'->∃m',m' < m/\W m' σ' H')/\tb { D with nx:=N,ct:=N,bk:=D.nx } σ H1 else D.nx σ H1
theorem BS {c:Expr}{tc:TT} (hp:μj) (hc:πq) (hb:Ht X body tb):PS X ϋv (zW tc tb):=by
 show 31;obtain⟨W,⟨m0,w0⟩,turn⟩:=h;refine wpAny_While (codeAny_whileLoop (λn s'=>∃σ' H',Inv X g σ' H' s'/\W n σ' H') ?_ m0 #[σ,H,I,w0]);rintro n s1 ⟨σ1,H1,I1,w1⟩;refine M3 hp (C_ (hc g s1 σ1 H1 _ I1 (turn n σ1 H1 w1)) λb s2 ⟨H2,I2,q2⟩=>?_)
 cases b with
 | true =>
  obtain⟨N,hN,q2⟩:=q2;show 25;refine M3 hp (C_ (hb g s2 σ1 H2 _ I2 q2) λf s3 q3=>?_)
  cases f with
  | next =>
   show 201
  | cont =>
   show 201
  | brk=>exact q3
  | ret v=>exact q3
 | false =>
  show 119;exact P8 #[σ1,H2,I2,q2]
end
structure It where
 go:Nat->Hp->Prop
 yld:Nat->Hp->V->Hp->Prop
 stop:Nat->Hp->Prop
def GZ (X:Cx) (pins:ϗ) (H:Hp) (b:Addr):Prop :=
 H b=none/\b≠X.env.locals/\b∉X.fs/\(b∈X.ex\/X.s₀.heap.objs.size<=b)/\(∀x c,X.env.cells.lookup x=some c->c≠b)/\∀p∈X.pn++pins,p.1≠b
theorem Inv.fpOk {H':Hp} (I:χ) (hb:s.heap.objs.size<=b) (hn:H' b=none):GZ X pins H' b:=by
 refine #[hn,Of (GU I.lt hb),I.nofs hb,.inr (FG I.sz hb),λx c e z=>?_,λp hp z=>?_]
 ·obtain⟨v,q⟩:=I.cell x c e
  exact absurd (GU q.lt όc) δ9
 ·exact absurd (GU (FO (I.pin p hp).1) όc) δ9
structure IK (P:Ϧ) (w:Ϣ) (K:m_) (tg:Expr) (J:It) (fp:Φ) (it:Addr) (tn:ϐ1):Prop where
 mem:it∈fp
 obj:∀i h,tn i h->∀b∈fp,∃o,h.get? b=some o/\∀v,o.data≠.cell v
 keep:∀i h h',tn i h->(∀b∈fp,∀o,h.get? b=some o->h'.get? b=some o)->tn i h'
 item:∀(X:Cx),Ϡ=P->X.w=w->X.K=K->X.calm=true->∀(i:Nat) (pins:ϗ) (s:ξ) (σ:St) (H:Hp) (E:ϥ),Inv X pins σ H s->ϊl->tn i s.heap->J.go i H →
  wpAny ϛ X.A ύ7 (λr s1=>∃u,r=some u ∧
   wpAny ϛ X.A ΨW (λ_ s2=>∃x H',Inv X pins σ H' s2/\k_ x u/\J.yld i H x H'/\tn (i+1) s2.heap/\∀b∈fp,H' b=none) E s1) E s
 done:∀(X:Cx),Ϡ=P->X.w=w->X.K=K->X.calm=true->∀(i:Nat) (pins:ϗ) (s:ξ) (σ:St) (H:Hp) (E:ϥ),Inv X pins σ H s->ϊl->tn i s.heap->J.stop i H →
  wpAny ϛ X.A ύ7 (λr s1=>r=none/\Inv X pins σ H s1) E s
 self:∀(A:Ϟ) (i:Nat) (s:ξ) (Q:ϥ) (E:ϥ),tn i s.heap->Q μ3 s->wpAny ϛ A (pyIter μ3) Q E s
abbrev TI:=St->Hp->(It->Hp->Prop)->Prop
def QT (X:Cx) (pins:ϗ) (σ:St) (tg:Expr) (R:δZ) (itv:μ) (s2:ξ):Prop :=
 ∃(it:Addr) (fp:Φ) (tn:ϐ1) (J:It) (H':Hp),itv=.ref it/\Inv X pins σ H' s2/\IK Ϡ X.w X.K tg J fp it tn/\tn 0 s2.heap/\(∀b∈fp,GZ X pins H' b)/\R J H'
def PI (X:Cx) (tg iter:Expr) (wi:TI):Prop :=
 ∀(pins:ϗ) (s:ξ) (σ:St) (H:Hp) (R:δZ),Inv X pins σ H s->wi σ H R →
  wpAny Ξ X.A (eval iter ρ) (λv s1=>wpAny Ξ X.A (pyIter v) όN X.xe s1) X.xe s
theorem mo {it:Addr}{u:μ}{o:Obj}{n:ζ7}{vs:γF} (ho:s.heap.get? it=some o) (hc:o.cls=.type n) (hd:o.data=.fields vs)
  (hn:["enumerate", "zip", "dict_itemiterator", "dict_reverseitemiterator", "odict_iterator", "itertools.zip_longest", "itertools.pairwise"].contains n=τ) (hQ:Q () s):wpAny M A ΨW Q E s:=by
 unfold letOwnedTupleGo
 cases tg <;> first
  | exact Ga hQ
  | (cases u <;> first
    | exact Ga hQ
    | (refine E_ (wpAny_load ho ?_)
       rw[hc,hd]
       show wpAny M A (if (["enumerate", "zip", "dict_itemiterator", "dict_reverseitemiterator", "odict_iterator", "itertools.zip_longest", "itertools.pairwise"].contains n && vs[0]? == some (rawInt _))=true then _ else _) Q E s
       rw[if_neg (by intro h;rw[hn,R0] at h;cases h)]
       exact Ga hQ))
def Lg (K:m_) (a:Addr):It :=
 #[λi H=>∃xs x,c_ K H a xs/\xs[i]?=some x,λi H x H'=>H'=H/\∀xs,c_ K H a xs->xs[i]?=some x,λi H=>∃xs,c_ K H a xs/\xs.length<=i]
def MQ (K:m_) (a:Addr):It :=
 #[λi H=>∃xs x,Gn K H a xs/\xs[i]?=some x,λi H x H'=>H'=H/\∀xs,Gn K H a xs->xs[i]?=some x,λi H=>∃xs,Gn K H a xs/\xs.length<=i]
def KG (lo:Int) (n:Nat):It:=#[λi _=>i < n,λi H x H'=>H'=H/\x=.int (lo+i),λi _=>n<=i]
theorem zX (a it:Addr):IK P w K tg πQ [it] it (λi h=>h.IsListIter it a i) where
 mem:=by simp
 obj:=λi h st b hb=>by
  show 32
  show 79
 keep:=λi h h' st k=>st.at λo e=>k it ϒ o e
 item:=by
  show 202;show 203;show 120;show 121
  refine TX st γB (x:=u) μI λh' j sb=>?_
  show 204;exact⟨u,rfl,mo (s:={ s with heap:=h' }) e c d ζ ⟨x,H,I1,ru,⟨rfl,λys hy=>by rw[I.list_inj hy hq];exact hx⟩,j,λb hb=>(hf b hb).1⟩⟩
 done:=by
  show 202;show 205;show 120;show 80
  have hl:=ζx;exact Ta δ3 st γB οH λh' eb=>θQ
 self:=λ_ _ _ _ _ st h=>wpAny_pyIter_listiter st h
theorem yY (a it:Addr):IK P w K tg (MQ K a) [it] it (λi h=>h.IsTupleIter it a i) where
 mem:=by simp
 obj:=λi h st b hb=>by
  show 32
  show 79
 keep:=λi h h' st k=>st.at λo e=>k it ϒ o e
 item:=by
  show 206;show 203;show 207;show 121
  refine wpAny_pyNext_tuple_item st (show s.heap.IsTuple a εc from p) (x:=u) μI λh' D sb=>?_
  show 208;obtain⟨o,e,c,d⟩:=id D;exact⟨u,rfl,mo (s:={ s with heap:=h' }) e c d ζ ⟨x,H,I1,ru,⟨rfl,λys hy=>by rw[I.tuple_inj hy hq];exact hx⟩,D,λb hb=>(hf b hb).1⟩⟩
 done:=by
  show 206;show 205;show 207;show 80
  have hl:=ζx;exact wpAny_pyNext_tuple_end δ3 st (show s.heap.IsTuple a εc from p) οH λh' eb=>θQ
 self:=λ_ _ _ _ _ st h=>wpAny_pyIter_tupleiter st h
theorem yZ (it:Addr) (lo:Int) (n:Nat):IK P w K tg (KG lo n) [it] it (λi h=>IsRangeIter h it (lo+(i:Nat) * 1) όO 1) where
 mem:=by simp
 obj:=λi h st b hb=>by
  show 32
  subst e
  exact⟨_,st,λv z=>by
   show 209
   cases z'⟩
 keep:=λi h h' st k=>k it ϒ _ st
 item:=by
  show 210
  have W:=Ur (prog:=Ϡ) (w:=X.w) δ3 it lo 1 n;refine W.item i s _ _ hg st λv h' tk hv j kk=>?_;show 211
  have I1:Inv X g σ H { s with heap:=h',toks:=tk }:=I.turned Φn f0 f1 f3 f4 f5
  refine⟨_,rfl,mo (s:={ s with heap:=h',toks:=tk }) (n:="range_iterator") j rfl rfl 0e3 ⟨.int (lo+i),H,I1,⟨t,?_⟩,μT,j,λb hb=>(hf b hb).1⟩⟩
  rw[Int.mul_one]
 done:=by
  show 210
  exact Sz δ3 st (by have:n<=i:=hg;omega) λh' eb=>θQ
 self:=λ_ _ _ _ _ st h=>T8 st h
variable {fp:List Addr}
section
variable {X:Cx}{tg:Expr}
inductive wY (K:m_) (R:δZ) (x:V) (H1:Hp):Prop
 | mk:∀a,x=.ref a->((∃xs,c_ K H1 a xs))->R (Lg K a) H1->wY K R x H1
def CW (K:m_) (tl:TE):TI:=λσ H R=>tl σ H λx H1=>wY K R x H1
inductive zY (K:m_) (R:δZ) (x:V) (H1:Hp):Prop
 | mk:∀a,x=.ref a->((∃xs,Gn K H1 a xs))->R (MQ K a) H1->zY K R x H1
def Po (K:m_) (tl:TE):TI:=λσ H R=>tl σ H λx H1=>zY K R x H1
theorem aP {l:Expr}{tl:TE} (hl:ν8):PI X tg l (CW X.K tl):=by
 show 212
 cases r1;obtain⟨j,rv,p,hz⟩:=I1.list hq;refine Na γB ?_;refine #[δ2,[δ2],_,_,H1,rfl,I1.kept (t':=ζ3) λb o e=>FZ _ e,zX a _,μ0,λb hb=>?_,q]
 show 60
 show 122
theorem zZ {l:Expr}{tl:TE} (hl:ν8):PI X tg l (Po X.K tl):=by
 show 212
 cases r1;obtain⟨j,rv,p,hz⟩:=I1.tuple hq;refine wpAny_pyIter_tuple (show s1.heap.IsTuple a j.toArray from p) ?_;refine #[δ2,[δ2],_,_,H1,rfl,I1.kept (t':=ζ3) λb o e=>FZ _ e,yY a _,μ0,λb hb=>?_,q]
 show 60
 show 122
theorem uw {R:δZ}{lo hi:Int}{t u v:Tok}{tk:Nat} (I:χ) (h1:-(2 ^ 62)<=lo) (h2:lo < 2 ^ 62) (h3:-(2 ^ 62)<=hi) (h4:hi < 2 ^ 62)
  (q:R (KG lo (hi - lo).toNat) H):wpAny Ξ X.A (pyIter ξX) όN E { s with heap:=s.heap.push { cls:=.type "range",data:=.fields [.int lo t,.int hi u,.int 1 v].toArray },toks:=tk }:=by
 refine SN ώk (small_one h1 h2 h3 h4) ?_
 have I1:Inv X pins σ H { s with heap:=s.heap.push { cls:=.type "range",data:=.fields [.int lo t,.int hi u,.int 1 v].toArray },toks:=tk }:=I.kept λb o e=>FZ _ e
 refine⟨(s.heap.push { cls:=.type "range",data:=.fields [.int lo t,.int hi u,.int 1 v].toArray }).objs.size,[(s.heap.push { cls:=.type "range",data:=.fields [.int lo t,.int hi u,.int 1 v].toArray }).objs.size],_,_,H,rfl,
  I1.kept (t':=tk) λb o e=>FZ _ e,yZ _ lo (hi - lo).toNat,?_,λb hb=>?_,q⟩
 ·have e1:lo+((0:Nat):Int) * 1=lo:=by simp
  have e2:(((hi - lo).toNat:Nat):Int) - ((0:Nat):Int)=Oz lo hi 1:=by rw[ψm];split <;> omega
  show IsRangeIter _ _ (lo+((0:Nat):Int) * 1) ((((hi - lo).toNat:Nat):Int) - ((0:Nat):Int)) 1
  rw[e1,e2];exact G4 _ rfl
 ·have e:b=(s.heap.push { cls:=.type "range",data:=.fields [.int lo t,.int hi u,.int 1 v].toArray }).objs.size:=by simpa using hb
  subst e;exact I1.fpOk Θ ο9
inductive wZ (R:δZ) (vs:δ) (H1:Hp):Prop
 | mk:∀j:Int,vs=[.int j]->-(2 ^ 62)<=j->j < 2 ^ 62->R (KG 0 j.toNat) H1->wZ R vs H1
def E5 (ta:TA):TI:=λσ H R=>ta σ H λvs H1=>wZ R vs H1
inductive xa (R:δZ) (vs:δ) (H1:Hp):Prop
 | mk:∀i j:Int,vs=[.int i,.int j]->-(2 ^ 62)<=i/\i < 2 ^ 62/\-(2 ^ 62)<=j/\j < 2 ^ 62->R (KG i (j - i).toNat) H1->xa R vs H1
def E7 (ta:TA):TI:=λσ H R=>ta σ H λvs H1=>xa R vs H1
theorem ba {a:Expr}{ta:TA}{p:Pos} (hg:ψw) (hm:χe) (ha:ψJ) (hs:starEach [a] X.env=[(τ,eval a ρ)]:=by rfl):PI X tg (.Call χA [a] [] pos) (E5 ta):=by
 show 61;refine Call_ (cG I hg hm boot_range ΔY);obtain⟨j,e,q1,q2,q⟩:=q1;subst e
 cases r1 with
 | cons r rr =>
  cases rr;show 213;exact call_range_1 (uw I1 γ γ q1 q2 (by simpa using q))
theorem Aa {a b:Expr}{ta:TA}{p:Pos} (hg:ψw) (hm:χe) (ha:ϑi) (hs:starEach [a,b] X.env=[(τ,eval a ρ),(τ,eval b ρ)]:=by rfl) (hs2:starEach [b] X.env=[(τ,eval b ρ)]:=by rfl) :
  PI X tg (.Call χA [a,b] [] pos) (E7 ta):=by
 intro g s σ H R I h;refine Call_ Δb
 obtain⟨i,j,e,⟨q1,q2,q3,q4⟩,q⟩:=q1;subst e
 cases r1 with
 | cons r rr =>
  cases rr with
  | cons r' rr =>
   cases rr;obtain⟨t,rfl⟩:=r;obtain⟨t',rfl⟩:=r';exact call_range_2 (uw I1 q1 q2 q3 q4 q)
def Mq (wi:TI) (g:TG) (tb:TS):TS:=λD σ H=>wi σ H λJ H1=>∃W:Nat->Nat->St->Hp->Prop,(∃m,W 0 m σ H1)/\∀i m σ H,W i m σ H →
 (J.stop i H/\D.nx σ H)\/(J.go i H/\∃N:St->Hp->Prop,εP/\∀x H',J.yld i H x H'->g x σ H' λσ2 H2=>tb { D with nx:=N,ct:=N,bk:=D.nx } σ2 H2)
def fG (fp:Φ) (h:Heap):List 33e0:=fp.filterMap λb=>(h.get? b).map λo=>(b,o)
theorem dC {o:Obj} (hb:b∈fp) (e:χV):(b,o)∈fG fp h:=UG.mpr #[b,hb,by rw[e];rfl]
theorem Ab {p:Addr × Obj} (hp:p∈fG fp h):p.1∈fp/\h.get? p.1=some p.2:=by
 obtain⟨b,hb,e⟩:=UG.mp hp
 cases q:h.get? b with
 | none=>rw[q] at e;cases e
 | some o =>
  rw[q] at e
  have e':(b,o)=p:=FK e;subst e';exact #[hb,q]
theorem Inv.pinned (I:χ) (hf:μD) (ho:∀b∈fp,∃o,s.heap.get? b=some o/\∀v,o.data≠.cell v):Inv X (pins++fG fp ύ) σ H s :=
 I.pins_of λp hp=>(Hi.mp hp).elim (λz=>I.pin p (JH _ z)) λz=>by
  obtain⟨hb,e⟩:=Ab z;obtain⟨f0,f1,f2,_⟩:=hf p.1 hb;obtain⟨o,e',d⟩:=ho p.1 hb;rw[e] at e';cases e';exact #[e,f0,f1,f2,d]
theorem Inv.unpinned {pl:ϗ} (I:Inv X (pins++pl) σ H s):Inv X pins σ H s:=I.pins_of λp hp=>I.pin p (JH _ (Oe _ hp))
theorem Ac {iter:Expr}{wi:TI} (hp:μj) (hc:γi) (hi:η3) (hg:πr) (hb:Ht X body tb)
  (hs:∀x,foldedSetIterable iter ρ x=pure x:=by intro _;rfl):PS X υi 107e7:=by
 intro j s σ H D I h;refine wpAny_For (C_ χf λv s1 h1=>C_ h1 λZ s2 h2=>?_) hs;obtain⟨it,fp,tn,J,H2,e,I2,T,U,f2,W,⟨m0,w0⟩,turn⟩:=h2;subst e
 have E:∀{H':Hp},(∀b∈fp,H' b=none)->∀b∈fp,GZ X j H' b:=λhn b hb=>⟨hn b hb,(f2 b hb).2⟩;refine codeAny_forLoop_any (λn s'=>∃i σ' H',Inv X j σ' H' s'/\tn i s'.heap/\(∀b∈fp,H' b=none)/\W i n σ' H') ?_ m0 ⟨0,σ,H2,I2,U,λb hb=>(f2 b hb).1,w0⟩;rintro n s3 ⟨i,σ3,H3,I3,Q,O,w3⟩;rcases turn i n σ3 H3 w3 with ⟨stop,qn⟩ | ⟨go,N,hN,step⟩
 ·refine M3 hp (C_ (T.done X rfl rfl rfl hc i j s3 σ3 H3 X.xe I3 (E O) Q stop) λr s4 ⟨hr,I4⟩=>?_)
  subst hr;exact P8 #[σ3,H3,I4,qn]
 ·refine M3 hp (C_ (T.item X rfl rfl rfl hc i j s3 σ3 H3 X.xe I3 (E O) Q go) λr s4 ⟨u,hr,h4⟩=>?_)
  subst hr;refine M3 hp (C_ h4 λ_ s5 ⟨x,H5,I5,r5,y5,G,Y⟩=>?_)
  have R:=I5.pinned (E Y) (T.obj _ _ G);refine M3 hp (C_ (hg _ s5 σ3 H5 x u _ R r5 (step x H5 y5)) λ_ s6 ⟨σ6,H6,I6,q6⟩=>?_);refine M3 hp (C_ (hb _ s6 σ6 H6 _ I6 q6) λf s7 q7=>?_)
  have again:∀{σ7:St}{H7:Hp},Inv X (j++fG fp s5.heap) σ7 H7 s7->N σ7 H7->∃m,m < n/\∃i σ' H',Inv X j σ' H' s7/\tn i s7.heap/\μG/\W i m σ' H':=λ{σ7 H7} I7 n7=>by
   obtain⟨m',hm,w7⟩:=hN σ7 H7 n7;refine #[m',hm,i+1,σ7,H7,ψK,T.keep _ _ _ G λb hb o e=>(I7.pin (b,o) νY).1,λb hb=>?_,w7];obtain⟨o,e,d⟩:=T.obj _ _ G b hb;exact(I7.pin (b,o) νY).2.1
  cases f with
  | next=>obtain⟨σ7,H7,I7,n7⟩:=q7;exact again I7 n7
  | cont=>obtain⟨σ7,H7,I7,n7⟩:=q7;exact again I7 n7
  | brk=>obtain⟨σ7,H7,I7,q7⟩:=q7;exact⟨σ7,H7,ψK,q7⟩
  | ret v=>obtain⟨x7,σ7,H7,I7,r7,q7⟩:=q7;exact⟨x7,σ7,H7,ψK,r7,q7⟩
end
variable {D:GW}
theorem cm {xs:δ} (Pv:η1) (h0:ζy) (hl:Φ5)
  (hs:∀i x σ H,xs[i]?=some x->Pv i σ H->g x σ H λσ2 H2=>tb { D with nx:=Pv (i+1),ct:=Pv (i+1),bk:=D.nx } σ2 H2) (hd:θU) :
  ∃W:Nat->Nat->St->Hp->Prop,ζq/\∀i m σ H,W i m σ H →
   ((Lg K a).stop i H/\D.nx σ H)\/((Lg K a).go i H/\∃N:St->Hp->Prop,εP/\∀x H',(Lg K a).yld i H x H'->g x σ H' λσ2 H2=>tb { D with nx:=N,ct:=N,bk:=D.nx } σ2 H2):=by
 refine θO
 rintro i m σ H ⟨rfl,hi,p⟩
 have q:=hl i σ H hi p
 by_cases hlt:i < xs.length
 ·refine .inr Δd
  obtain⟨e,y⟩:=y;subst e;exact hs i x σ _ (y xs q) p
 ·have e:i=xs.length:=by omega
  subst e;exact .inl Ωg
theorem Di {xs:δ} (Pv:η1) (h0:ζy) (hl:∀i σ H,i<=xs.length->Pv i σ H->Gn K H a xs)
  (hs:∀i x σ H,xs[i]?=some x->Pv i σ H->g x σ H λσ2 H2=>tb { D with nx:=Pv (i+1),ct:=Pv (i+1),bk:=D.nx } σ2 H2) (hd:θU) :
  ∃W:Nat->Nat->St->Hp->Prop,ζq/\∀i m σ H,W i m σ H →
   ((MQ K a).stop i H/\D.nx σ H)\/((MQ K a).go i H/\∃N:St->Hp->Prop,εP/\∀x H',(MQ K a).yld i H x H'->g x σ H' λσ2 H2=>tb { D with nx:=N,ct:=N,bk:=D.nx } σ2 H2):=by
 refine θO
 rintro i m σ H ⟨rfl,hi,p⟩
 have q:=hl i σ H hi p
 by_cases hlt:i < xs.length
 ·refine .inr Δd
  obtain⟨e,y⟩:=y;subst e;exact hs i x σ _ (y xs q) p
 ·have e:i=xs.length:=by omega
  subst e;exact .inl Ωg
theorem bQ {lo:Int} (Pv:η1) (h0:ζy)
  (hs:∀i σ H,i < n->Pv i σ H->g ϑj σ H λσ2 H2=>tb { D with nx:=Pv (i+1),ct:=Pv (i+1),bk:=D.nx } σ2 H2) (hd:Ωz) :
  ∃W:Nat->Nat->St->Hp->Prop,ζq/\∀i m σ H,W i m σ H →
   ((KG lo n).stop i H/\D.nx σ H)\/((KG lo n).go i H/\∃N:St->Hp->Prop,εP/\∀x H',(KG lo n).yld i H x H'->g x σ H' λσ2 H2=>tb { D with nx:=N,ct:=N,bk:=D.nx } σ2 H2):=by
 refine Θb
 rintro i m σ H ⟨rfl,hi,p⟩
 by_cases hlt:i < n
 ·refine .inr ΔJ
  obtain⟨e,y⟩:=y;subst e y;exact hs i σ _ hlt p
 ·have e:i=n:=by omega
  subst e;exact .inl #[B_ _,hd σ H p]
abbrev R2:=V->V->Hp->VK->Prop
def HH (X:Cx) (f:ϋa) (r:R2):Prop :=
 ∀(pins:ϗ) (s:ξ) (σ:St) (H:Hp) (x y:V) (v u:μ) (Q:VK),Inv X pins σ H s->k_ x v->k_ y u->r x y H Q →
  wpAny Ξ X.A (f v u) δz X.xe s
def bI (X:Cx) (f:μ) (r:όd):Prop :=
 ∀(pins:ϗ) (s:ξ) (σ:St) (H:Hp) (xs:δ) (us:ψ) (Q:VK),Inv X pins σ H s->j_ xs us->r xs H Q →
  wpAny Ξ X.A (call f us) δz X.xe s
def Oo (r:R2) (ta tb:TE):TE:=λσ H Q=>ta σ H λx H1=>tb σ H1 λy H2=>r x y H2 Q
inductive rI (C:ϐI) (g:Int->Int->V) (x y:V) (H:Hp) (Q:VK):Prop
 | mk:∀i j,x=.int i->y=.int j->C i j->Q (g i j) H->rI C g x y H Q
inductive Li (g:Int->Int->V) (x y:V) (H:Hp) (Q:VK):Prop
 | mk:∀i j,x=.int i->y=.int j->Q (g i j) H->Li g x y H Q
variable {r:R2}{f:Value->Value->Sem Value}
section
variable {X:Cx}{a b c:Expr}{ta tb tc:TE}{pos:Pos}
theorem Mb (ha:ζ0) (hb:θ6) {pins:ϗ}{s:ξ}{σ:St}{H:Hp}{R:V->V->Hp->Prop} (I:χ)
  (h:ta σ H λx H1=>tb σ H1 λy H2=>R x y H2) {Q:ϥ}{f:ϋa}
  (hf:∀v u s2 x y H2,Inv X pins σ H2 s2->k_ x v->k_ y u->R x y H2->wpAny Ξ X.A (f v u) Q X.xe s2) :
  wpAny Ξ X.A ϐE (λv s₁=>wpAny Ξ X.A ϐF (λu s₂=>wpAny Ξ X.A (f v u) Q X.xe s₂) X.xe s₁) X.xe s:=by
 refine C_ (ha pins s σ H _ I h) λv s1 ⟨x,H1,I1,r1,q1⟩=>?_;refine C_ (hb pins s1 σ H1 _ I1 q1) λu s2 ⟨y,H2,I2,r2,q2⟩=>?_;exact hf v u s2 x y H2 I2 r1 r2 q2
theorem ay {op:νj} (ho:HH X (binaryOp op) r) (ha:ζ0) (hb:θ6):PE X (.BinOp a op b pos) 73e9:=by
 show 15;exact wpAny_BinOp ΔS
theorem Nv {C:ϐI}{g:ψl}
  (rule:∀(i j:Int) (t u:Tok) (s:ξ) (Q:ϥ) (E:ϥ),C i j->Q ϋR { s with toks:=s.toks+1 }->wpAny Ξ X.A υq Q E s) :
  HH X f (rI C λi j=>.int μ4):=by
 intro D s σ H x y v u Q I rx ry h;obtain⟨i,j,rfl,rfl,hc,q⟩:=h;obtain⟨t,rfl⟩:=rx;obtain⟨t',rfl⟩:=ry;exact rule i j t t' s _ _ hc Φu
theorem Mo {g:ψl}
  (rule:∀(i j:Int) (t u:Tok) (s:ξ) (Q:ϥ) (E:ϥ),Q ϋR { s with toks:=s.toks+1 }->wpAny Ξ X.A υq Q E s) :
  HH X f (Li λi j=>.int μ4):=by
 intro D s σ H x y v u Q I rx ry h;obtain⟨i,j,rfl,rfl,q⟩:=h;obtain⟨t,rfl⟩:=rx;obtain⟨t',rfl⟩:=ry;exact rule i j t t' s _ _ Φu
theorem Lq {g:Int->Int->Bool}
  (rule:∀(i j:Int) (t u:Tok) (s:ξ) (Q:ϥ) (E:ϥ),Q (.bool μ4) s->wpAny Ξ X.A υq Q E s) :
  HH X f (Li λi j=>.bl μ4):=by
 intro D s σ H x y v u Q I rx ry h;obtain⟨i,j,rfl,rfl,q⟩:=h;obtain⟨t,rfl⟩:=rx;obtain⟨t',rfl⟩:=ry;exact rule i j t t' s _ _ #[.bl μ4,H,I,rfl,q]
def O5 (i j:Int):Prop:=0 < j/\j < 1073741824
def Nl (i j:Int):Prop:=0<=j/\j<=1000000/\i.natAbs < 2 ^ 64
def Me (i j:Int):Prop:=(-(2 ^ 64) < i/\i < 2 ^ 64)\/(-(2 ^ 64) < j/\j < 2 ^ 64)
theorem Me.ok {i j:Int} (h:Me i j):IntMulOk i j:=by
 rcases h with ⟨h1,h2⟩ | ⟨h1,h2⟩
 ·exact .of_left ϋS
 ·exact .of_right ϋS
theorem aU:HH X ϐ2 (Li λi j=>.int (i+j)):=Mo λ_ _ _ _ _ _ _ q=>add_int q
theorem g7:HH X (binaryOp .Sub) (Li λi j=>.int (i - j)):=Mo λ_ _ _ _ _ _ _ q=>sub_int q
theorem cU:HH X ώl (rI Me λi j=>.int (i * j)):=Nv λ_ _ _ _ _ _ _ hc q=>mul_int q hc.ok
theorem bN:HH X (binaryOp .FloorDiv) (rI O5 λi j=>.int (i / j)):=Nv λi j _ _ _ _ _ hc q=>by
 have h1:(0:Int) < j:=hc.1
 have h2:j < 1073741824:=hc.2;exact floordiv_int γ (by rw[Int.fdiv_eq_ediv_of_nonneg i γ];exact q) (.inl (PyProof.noPylong_small γ))
theorem aV:HH X (binaryOp .Mod) (rI (λ_ j=>0 < j) λi j=>.int (i % j)):=Nv λi j _ _ _ _ _ hc q=>by
 have h1:(0:Int) < j:=hc;exact mod_int' γ (by rw[Int.fmod_eq_emod_of_nonneg i γ];exact q)
theorem Ad:HH X (binaryOp .Pow) (rI Nl λi j=>.int (i ^ j.toNat)):=Nv λ_ _ _ _ _ _ _ hc q=>pow_int_small hc.1 hc.2.1 hc.2.2 q
theorem Er:HH X (binaryOp .LShift) (rI Nl λi j=>.int (i * 2 ^ j.toNat)):=Nv λ_ _ _ _ _ _ _ hc q=>lshift_int_small hc.1 hc.2.1 hc.2.2 q
theorem jn:HH X (binaryOp .BitXor) (Li λi j=>.int (Mv i j)):=Mo λ_ _ _ _ _ _ _ q=>xor_int q
end
def NV:V->V->Bool
 | .non,.non=>true | .non,.int _=>true | .int _,.non=>true | .non,.bl _=>true | .bl _,.non=>true | .non,.str _=>true | .str _,.non=>true
 | .int _,.int _=>true | .bl _,.bl _=>true | .str _,.str _=>true | .byt _,.byt _=>true
 | .int _,.str _=>true | .str _,.int _=>true | .bl _,.str _=>true | .str _,.bl _=>true
 | _,_=>false
def Sr:R2:=λx y H Q=>NV x y=true/\Q (.bl (decide (x=y))) H
def Si:R2:=λx y H Q=>NV x y=true/\Q (.bl (!decide (x=y))) H
theorem xb {i j:Int}:decide (V.int i=V.int j)=115e4:=by
 rw[Oi]
 simp
theorem Ae {i j:Bool}:decide (V.bl i=V.bl j)=115e4:=by
 rw[Oi]
 simp
theorem xg {i j:Str}:decide (V.str i=V.str j)=115e4:=by
 rw[Oi]
 simp
theorem xj {i j:Array UInt8}:decide (V.byt i=V.byt j)=(i.toList == j.toList):=by
 rw[Oi]
 cases i
 cases j
 simp
variable {us:List Value}
section
variable {X:Cx}{a b c:Expr}{ta tb tc:TE}{pos:Pos}
theorem bd {Q:VK}{k k':Bool} (I:χ) (q:Q (.bl k) H) (e:k=k'):EP X pins σ Q (.bool k') s:=by
 subst e;exact #[.bl k,H,I,rfl,q]
theorem bx:HH X ϐ3 Sr:=by
 show 214
 cases x with
 | non =>
  show 10
  cases y with
  | non=>cases ry;exact PySem.EqNone.eq_none_none γo
  | bl j=>cases ry;exact PySem.EqNone.eq_none_bool γo
  | int j=>obtain⟨t',rfl⟩:=ry;exact PySem.EqNone.eq_none_int γo
  | str j=>obtain⟨t',rfl⟩:=ry;exact PySem.EqNone.eq_none_str γo
  | _=>exact absurd (show false=true from hs) Hk
 | bl i =>
  show 10
  cases y with
  | non=>cases ry;exact PySem.EqNone.eq_bool_none γo
  | bl j=>cases ry;exact eq_bool (bd I q Ae)
  | str j=>obtain⟨t',rfl⟩:=ry;exact PySem.EqMixed.eq_bool_str γo
  | _=>exact absurd (show false=true from hs) Hk
 | int i =>
  show 37
  cases y with
  | non=>cases ry;exact PySem.EqNone.eq_int_none γo
  | int j=>obtain⟨t',rfl⟩:=ry;exact eq_int (bd I q xb)
  | str j=>obtain⟨t',rfl⟩:=ry;exact PySem.EqMixed.eq_int_str γo
  | _=>exact absurd (show false=true from hs) Hk
 | str i =>
  show 37
  cases y with
  | non=>cases ry;exact PySem.EqNone.eq_str_none γo
  | bl j=>cases ry;exact PySem.EqMixed.eq_str_bool γo
  | int j=>obtain⟨t',rfl⟩:=ry;exact PySem.EqMixed.eq_str_int γo
  | str j=>obtain⟨t',rfl⟩:=ry;exact eq_str (bd I q xg)
  | _=>exact absurd (show false=true from hs) Hk
 | byt i =>
  show 37
  cases y with
  | byt j=>obtain⟨t',rfl⟩:=ry;exact PySem.W.eq_bytes (bd I q xj)
  | _=>exact absurd (show false=true from hs) Hk
 | _=>cases y <;> exact absurd (show false=true from hs) Hk
theorem c4:HH X ύ8 Si:=by
 show 214
 cases x with
 | non =>
  show 10
  cases y with
  | non=>cases ry;exact PySem.EqNone.ne_none_none γo
  | bl j=>cases ry;exact PySem.EqNone.ne_none_bool γo
  | int j=>obtain⟨t',rfl⟩:=ry;exact PySem.EqNone.ne_none_int γo
  | str j=>obtain⟨t',rfl⟩:=ry;exact PySem.EqNone.ne_none_str γo
  | _=>exact absurd (show false=true from hs) Hk
 | bl i =>
  show 10
  cases y with
  | non=>cases ry;exact PySem.EqNone.ne_bool_none γo
  | bl j=>cases ry;exact ne_bool (bd I q (congrArg not Ae))
  | str j=>obtain⟨t',rfl⟩:=ry;exact PySem.EqMixed.ne_bool_str γo
  | _=>exact absurd (show false=true from hs) Hk
 | int i =>
  show 37
  cases y with
  | non=>cases ry;exact PySem.EqNone.ne_int_none γo
  | int j=>obtain⟨t',rfl⟩:=ry;exact ne_int (bd I q (congrArg not xb))
  | str j=>obtain⟨t',rfl⟩:=ry;exact PySem.EqMixed.ne_int_str γo
  | _=>exact absurd (show false=true from hs) Hk
 | str i =>
  show 37
  cases y with
  | non=>cases ry;exact PySem.EqNone.ne_str_none γo
  | bl j=>cases ry;exact PySem.EqMixed.ne_str_bool γo
  | int j=>obtain⟨t',rfl⟩:=ry;exact PySem.EqMixed.ne_str_int γo
  | str j=>obtain⟨t',rfl⟩:=ry;exact ne_str (bd I q (congrArg not xg))
  | _=>exact absurd (show false=true from hs) Hk
 | byt i =>
  show 37
  cases y with
  | byt j=>obtain⟨t',rfl⟩:=ry;exact PySem.W.ne_bytes (bd I q (congrArg not xj))
  | _=>exact absurd (show false=true from hs) Hk
 | _=>cases y <;> exact absurd (show false=true from hs) Hk
theorem bq:HH X (compareOp .Lt) (Li λi j=>.bl (decide (i < j))):=Lq λ_ _ _ _ _ _ _ q=>lt_int q
theorem CY:HH X (compareOp .LtE) (Li λi j=>.bl (decide (i<=j))):=Lq λ_ _ _ _ _ _ _ q=>le_int q
theorem b7:HH X (compareOp .Gt) (Li λi j=>.bl (decide (j < i))):=Lq λ_ _ _ _ _ _ _ q=>gt_int q
theorem dP:HH X (compareOp .GtE) (Li λi j=>.bl (decide (j<=i))):=Lq λ_ _ _ _ _ _ _ q=>ge_int q
inductive ux (x y:V) (H:Hp) (Q:VK):Prop
 | mk:y=.non->Q (.bl (decide (x=.non))) H->ux x y H Q
theorem cV:HH X (compareOp .Is) (ux):=by
 show 215
 cases ry;refine is_none_gen (bd I q ?_)
 cases x <;> first
  | (cases rx;rfl)
  | (obtain⟨t,rfl⟩:=rx;rfl)
inductive rC (x y:V) (H:Hp) (Q:VK):Prop
 | mk:y=.non->Q (.bl (!decide (x=.non))) H->rC x y H Q
theorem cg:HH X (compareOp .IsNot) (rC):=by
 show 215
 cases ry;refine isnot_none_gen (bd I q ?_)
 cases x <;> first
  | (cases rx;rfl)
  | (obtain⟨t,rfl⟩:=rx;rfl)
theorem ap (b:Expr) {op:CmpOp} (h:op≠.In:=by decide) (h2:op≠.NotIn:=by decide):behindInMarks op b=false:=by
 have e1:(op == CmpOp.In)=false:=by cases op <;> first | rfl | exact absurd rfl h
 have e2:(op == CmpOp.NotIn)=false:=by cases op <;> first | rfl | exact absurd rfl h2
 cases b <;> simp[behindInMarks,e1,e2]
theorem bT (ho:υQ) (ha:ζ0) (hb:θ6) (hm:ϊQ):PE X ξP 73e9:=by
 show 15;exact wpAny_Compare1 ΔS hm
inductive xk (Q:εW) (x:V) (H':Hp):Prop
 | mk:∀k,x=.bl k->Q k H'->xk Q x H'
def E8 (t:TE):TT:=λσ H Q=>t σ H λx H'=>xk Q x H'
theorem am (ho:υQ) (ha:ζ0) (hb:θ6) (hm:ϊQ):PT X ξP (E8 π5):=by
 show 15
 refine UI (C_ νL λv s1 ⟨x,H1,I1,r1,q1⟩=>C_ ϋb λu s2 ⟨y,H2,I2,r2,q2⟩ =>
  C_ Ψ5 λc s3 ⟨z,H3,I3,r3,k,e,q3⟩=>?_) hm
 subst e
 cases r3;exact LJ #[H3,I3,q3]
inductive uz (r':R2) (tc:TE) (σ:St) (Q:VK) (y z:V) (H3:Hp):Prop
 | mk:∀k,z=.bl k->((if k=true then tc σ H3 λw' H4=>r' y w' H4 Q else Q (.bl τ) H3))->uz r' tc σ Q y z H3
def Es (r r':R2) (ta tb tc:TE):TE:=λσ H Q=>ta σ H λx H1=>tb σ H1 λy H2=>r x y H2 λz H3=>uz r' tc σ Q y z H3
theorem BU {op':CmpOp}{r':R2} (ho:υQ) (ho':HH X (compareOp op') r') (ha:ζ0) (hb:θ6) (hc:PE X c tc)
  (hm:lastMarks [op,op'] [b,c]=false:=by with_unfolding_all rfl):PE X (.Compare a [op,op'] [b,c] pos) (Es r r' ta tb tc):=by
 intro g s σ H Q I h
 refine Compare_chain (C_ νL λv s1 ⟨x,H1,I1,r1,q1⟩=>chain_link (C_ ϋb λu s2 ⟨y,H2,I2,r2,q2⟩ =>
  C_ Ψ5 λd s3 ⟨z,H3,I3,r3,k,e,q3⟩=>?_)) hm
 subst e
 cases r3;refine LJ ?_
 cases k with
 | false=>exact ite_ff ⟨.bl τ,H3,I3,rfl,q3⟩
 | true=>exact ite_tt (chain_last (C_ (hc g s3 σ H3 _ I3 q3) λw' s4 ⟨z',H4,I4,r4,q4⟩=>ho' g s4 σ H4 y z' u w' Q I4 r2 r4 q4))
theorem kY:(sizeLine:Nat) < 2 ^ 63:=by rw[θB];decide
theorem ca {x:V} (r:j_ [x] us):∃u,us=[u]/\k_ x u:=by
 cases r with
 | cons r1 r2=>cases r2;exact⟨_,rfl,r1⟩
theorem fB {x y:V} (r:j_ [x,y] us):∃u w',us=[u,w']/\k_ x u/\k_ y w':=by
 cases r with
 | cons r1 r2 =>
  cases r2 with
  | cons r3 r4=>cases r4;exact⟨_,_,rfl,r1,r3⟩
inductive mZ (xs:δ) (H:Hp) (Q:VK):Prop
 | mk:∀i j,xs=[.int i,.int j]->(Q (.int (if j < i then j else i)) H)->mZ xs H Q
theorem Af (hc:γi):bI X ώm (mZ):=by
 show 216;obtain⟨u,w',rfl,⟨t,rfl⟩,⟨t',rfl⟩⟩:=fB r;refine min_two_ints δ3 λh' tk k=>#[_,H,I.kept k,?_,q]
 by_cases hj:j < i
 ·rw[if_pos hj,if_pos hj];exact ϊ
 ·rw[if_neg hj,if_neg hj];exact ϊ
end
structure JO (h:Heap) (x dx C:Addr) (mA:Ϝ):Prop where
 obj:h.get? x=some ωi
 ns:h.Ns1 dx mA
 ne:dx≠x
theorem Ag {dx:Addr}{mA:Ϝ} (n:h.Ns1 dx mA):∃od,h.get? dx=some od/\∀name,Qy name od=some (mA name):=by
 obtain⟨o,es,ep,ho,hd,hk,_,hm⟩:=n;refine #[o,ho,λname=>?_]
 have e:=hm name;unfold nsFind findBy at e;rw[<- Array.find?_toList] at e;unfold Qy;rw[hd];show 9
 split
 ·rename_i y q
  rw[q] at e;show 217
 ·rename_i q
  rw[q] at e
  have a:es.toList.any (·.refKey)=false:=by
   rw[List.any_eq_false];intro y hy;obtain⟨z,t,g⟩:=hk y (Array.mem_toList_iff.mp hy)
   simp[DictEntry.refKey,g]
  have a':¬ es.toList.any (·.refKey)=true:=by rw[a];exact Hk
  rw[if_neg a'];show 217
theorem JO.look {x dx C:Addr}{mA:Ϝ} (I:JO h x dx C mA):∃od,PySem.W.InstAt h x ωi C (some od)/\∀name,Qy name od=some (mA name) :=
 let ⟨od,ho,hl⟩:=Ag I.ns
 #[od,#[ιG,rfl,rfl,ho],hl]
variable {kw:List (Str × Value)}
section
variable {prog:Program}{w:World}{A:Around}{E:Value->Shared->Prop}{s:Shared}{K:m_}{x dx C f:Addr}{mA:Str->Option Value}{name:Str}{v:Value}
theorem Dj {expr:Bool}{Q:ϥ} (X:πf) (I:χg) (hg:ώn) (hh:RH K C=true)
  (ha:Kh K γY name=some none) (hv:mA name=some v) (hv':Ui v=true) (h:Q v { s with toks:=s.toks+1 }) :
  wpAny γe A (getAttr μb name expr) Q E s:=by
 obtain⟨od,J,hl⟩:=I.look;exact PySem.W.get_value X J (OC hg).1 (PySem.W.findObj_own hh ha rfl (by rw[hl,hv])) hv' h
theorem BV {pl:ιu}{Q:ΨK} (X:πf) (I:χg) (hg:ώn)
  (hf:Kh K γY name=some νM) (ht:οx) (hv:mA name=none) (h:Q (.ref f,[.ref x]) s) :
  wpAny γe A (getMethod μb name pl) Q E s:=by
 obtain⟨od,J,hl⟩:=I.look;exact PySem.W.method_fn X J (OC hg).1 (OC hg).2 hf (beq_iff_eq.mp ht) (by show (Qy name od).map (·.isSome)=some τ;rw[hl,hv];rfl) h
theorem Dk {ns:ώ} (X:πf) (I:χg)
  (hs:Kh K γY "__setattr__" = some ΦU) (hp:TB K C=true) (ht:RA K C name=some none) (hh:RH K C=true)
  (hw:QA mA ns) (hsz:ns.length<=εt)
  (h:∀h',JO h' x dx C (λy=>if y=name then some v else mA y)->LY dx ύ h'->Q () { s with heap:=h',toks:=s.toks+2 }) :
  wpAny γe A (setAttr μb name v) Q E s:=by
 obtain⟨od,J,hl⟩:=I.look;refine PySem.W.set_plain X J hs (PySem.W.osa_open (s:={ s with toks:=s.toks+1 }) (r:=none) X J hp ht λb=>?_);obtain⟨cd,hc,H⟩:=PySem.W.any_some hh
 have hx:s.heap.get? x=some ⟨.ref C,some dx,.plain,#[]⟩:=ιG;refine E_ (Ga (E_ (E_ (wpAny_loadPart hx (E_ (PySem.W.Looks.here (s:={ s with toks:=s.toks+1 }) (PySem.W.looks_clsIn X hc) ?_))))));rw[H];refine Ga (a:=some dx) (E_ (Ga (E_ ?_)));refine wpAny_nsSet1 (s:={ s with toks:=s.toks+1 }) I.ns λh' j g=>?_;obtain⟨oD,R,T,O,D,G⟩:=j.count (QA.cons name v hw);refine E_ (wpAny_lookBehind O (by rw[D];exact pastItsLine_dict (FG G ύ9)) ?_)
 exact Ga (h _ #[(g.2 _ (F5 I.ne)).trans ιG,j,I.ne] g)
theorem BW {R:όe}{vs:ψ} (X:πf) (hm:Uc K C=true)
  (hi:Kh K γY "__init__" = some νM) (hf:PySem.W.typeIn K γd=some (.type "function"))
  (h:codeAny γe (A.under (.builtin "type.__call__" ⟨.ref C :: vs,kw⟩)) (.call γd ⟨.ref Ϛ :: vs,kw⟩) (PySem.W.InitBack Ϛ R)
   { s with heap:=(s.heap.push L7).push ξY }) :
  codeAny γe A (.call γY #[vs,kw]) R s:=by
 obtain⟨hh,g,d,t,os⟩:=s;exact PySem.W.make_core (PySem.W.makes_of X hm) (PySem.W.looks_findIn X hi) (λself=>PySem.W.bind_fn X self hf) γL h
end
def FD (f:Str) (v:V):List δ8->List δ8
 | []=>[(f,v)]
 | (g,x) :: r=>if g=f then (g,v) :: r else (g,x) :: FD f v r
theorem m3 (f g:Str) (v:V):∀fs:List δ8,(FD f v fs).lookup g=if g=f then some v else fs.lookup g
 | []=>by
  show LI g [(f,v)]=_
  by_cases h:g=f
  ·have hb:(g == f)=true:=beq_iff_eq.mpr h
   simp only[LI,hb,if_pos h]
  ·have hb:(g == f)=false:=beq_eq_false_iff_ne.mpr h
   simp only[LI,hb,if_neg h]
 | (k,x) :: r=>by
  have ih:=m3 f g v r;show 123
  show 124
  ·rw[if_pos hk]
   by_cases h:g=k
   ·have hb:πR=true:=beq_iff_eq.mpr h
    simp only[LI,hb,if_pos (h.trans hk)]
   ·have hb:πR=false:=beq_eq_false_iff_ne.mpr h
    simp only[LI,hb,if_neg (λe:g=f=>h (e.trans hk.symm))]
  ·rw[if_neg hk]
   by_cases h:g=k
   ·have hb:πR=true:=beq_iff_eq.mpr h
    simp only[LI,hb,if_neg (λe:g=f=>hk (h.symm.trans e))]
   ·have hb:πR=false:=beq_eq_false_iff_ne.mpr h
    simp only[LI,hb];exact ih
theorem kZ (f:Str) (v:V):∀fs:List δ8,f∈(FD f v fs).map (·.1)/\∀g,g∈fs.map (·.1)->g∈(FD f v fs).map (·.1)
 | []=>⟨by simp[FD],λg h=>by simp at h⟩
 | (k,x) :: r=>by
  obtain⟨i1,i2⟩:=kZ f v r;show 123
  show 124
  ·rw[if_pos hk]
   subst hk;exact #[by simp,λg h=>by simpa using h]
  ·rw[if_neg hk]
   refine #[?_,λg h=>?_]
   ·rw[Ie]
    exact Hl _ i1
   ·rw[Ie] at h ⊢
    rcases FC.mp h with e | e
    ·exact FC.mpr ωN
    ·exact Hl _ (i2 g e)
theorem m4 (f:Str) (v:V):∀fs:List δ8,(FD f v fs).length<=fs.length+1
 | []=>by simp[FD]
 | (k,x) :: r=>by
  have ih:=m4 f v r;show 123
  show 124
  ·rw[if_pos hk,Io,Io];omega
  ·rw[if_neg hk,Io,Io];omega
theorem G_.some_of {o:ψz} (r:G_ δs o):∃u,o=some u/\k_ v u:=by
 cases o with
 | none=>exact(show False from r).elim
 | some u=>exact⟨u,rfl,r⟩
theorem G_.none_of {o:ψz} (r:G_ none o):o=none:=by
 cases o with
 | none=>rfl
 | some u=>exact(show False from r).elim
theorem Ah {u:μ} (r:ηi):Ui u=true:=by
 cases v with
 | non=>cases (show u=Kw from r);rfl
 | bl b=>cases (show u=OB b from r);rfl
 | int i=>obtain⟨t,e⟩:=(show ∃t,u=Kv i t from r);cases e;rfl
 | str x=>obtain⟨t,e⟩:=(show ∃t,u=OJ x t from r);cases e;rfl
 | byt b=>obtain⟨t,e⟩:=(show ∃t,u=TV b t from r);cases e;rfl
 | flt b=>obtain⟨t,e⟩:=(show ∃t,u=R_ b t from r);cases e;rfl
 | ref a=>cases (show u=F_ a from r);rfl
 | ty n=>cases (show u=KI n from r);rfl
section
variable {P:Program}{w:World}{H H':Hp}{h h':Heap}{a C dx:Addr}{fs fs':List (Str × V)}
theorem gS (hok:δ4) (e:μE):∃mA,JO h a dx C mA/\Ωf/\QA mA ώX/\fs.length<=1000/\H dx=some 56e6:=by
 obtain⟨d,z,ne,ob,mA,n,r,q⟩:=(show p_ P w H h a Γh from hok a _ e);exact #[mA,#[ob,n,ne],r,q,z,d]
end
structure HN (K:m_) (C:Addr):Prop where
 pg:Qb K C Qd=true
 hd:RH K C=true
 po:TB K C=true
 sa:Kh K γY "__setattr__" = some ΦU
theorem HN.get {C:Addr} (c:HN K C) (f:Str):Qb K C f=true:=c.pg
def f_ (K:m_) (C:Addr) (f:Str):Prop:=Kh K γY f=some none
theorem f_.taker {C:Addr}{f:Str} (n:f_ K C f):RA K C f=some none:=by
 unfold RA;rw[show Kh K γY f=some none from n];rfl
structure Hw (K:m_) (C:Addr) (m:Str) (f:Addr):Prop where
 at_:Kh K γY m=some νM
 fn:N_ K γd=true
 kp:Jt K γd=true
section
variable {X:Cx}{pins:List (Addr × Obj)}{σ:St}{H:Hp}{s:Shared}{a C dx:Addr}{fs:List (Str × V)}{f:Str}{v:V}{A:Around}{E:Value->Shared->Prop}
theorem jQ {b:Bool}{Q:ϥ} (I:χ) (e:μE) (c:νk) (n:f_ X.K C f) (l:fs.lookup f=some v)
  (h:∀u s',Inv X pins σ H s'->k_ v u->Q u s'):wpAny Ξ A (getAttr εj f b) Q E s:=by
 obtain⟨mA,O,r,_,_,_⟩:=gS γ9 e;obtain⟨u,hu,ru⟩:=G_.some_of (v:=v) (o:=mA f) (by rw[<- l];exact r f)
 exact Dj ηm O (c.get f) c.hd n hu (Ah ru) (h u _ θ7 ru)
theorem pi {m:Str}{g:Addr}{pl:ιu}{Q:ΨK} (I:χ) (e:μE) (c:νk) (k:Hw X.K C m g) (l:fs.lookup m=none)
  (h:Q (.ref g,[.ref a]) s):wpAny Ξ A (getMethod εj m pl) Q E s:=by
 obtain⟨mA,O,r,_,_,_⟩:=gS γ9 e
 have hn:mA m=none:=G_.none_of (by rw[<- l];exact r m)
 exact BV ηm O (c.get m) k.at_ k.fn hn h
theorem pj {y:V}{u:μ} (I:χ) (e:μE) (c:νk) (n:f_ X.K C f) (hl:fs.length < 1000) (ry:εl)
  (h:∀s',Inv X pins σ (upd H a (.ins C dx (FD f y fs))) s'->Q () s'):wpAny Ξ A (setAttr εj f u) Q E s:=by
 obtain⟨mA,O,r,wi,_,ho⟩:=gS γ9 e
 have hz:(fs.map (·.1)).length<=sizeLine:=by rw[o_,θB];omega
 refine Dk ηm O c.sa c.po n.taker c.hd wi hz λh' O' sb=>h _ ?_
 have hd:∃o,h'.get? dx=some o:=let ⟨o,_,_,e',_⟩:=O'.ns;#[o,e'];refine I.write (x:=a) (e:=dx) υ9 (.inr ho) (λb q hb z=>(sb.2 b hb).trans z) hd ?_
 refine #[by rw[ae O.ne];exact ho,?_,O.ne,O'.obj,_,O'.ns,λg=>?_,λg hg=>?_]
 ·have:=m4 f y fs;omega
 ·show G_ ((FD f y fs).lookup g) Ωq
  rw[m3]
  by_cases q:g=f
  ·rw[if_pos q,if_pos q];exact ry
  ·rw[if_neg q,if_neg q];exact r g
 ·by_cases q:g=f
  ·rw[q];exact(kZ f y fs).1
  ·refine(kZ f y fs).2 g (wi g λz=>hg ?_)
   show Ωq=none
   rw[if_neg q];exact z
theorem Inv.made (I:χ):Inv X pins σ (upd (upd H Ω (.own Ϛ)) Ϛ (.ins C Ω []))
  { s with heap:=(s.heap.push L7).push ξY }:=by
 have e1:(s.heap.push L7).get? s.heap.objs.size=some L7:=G4 ύ rfl
 have e2:((s.heap.push L7).push ξY).get? Ϛ=some 67e0:=by
  have:=G4 (s.heap.push L7) (o:=Mw C Ω) rfl
  rwa [Qz] at this
 have e3:(s.heap.push L7).Ns Ω 106e7:=#[L7,#[],_,e1,rfl,(λe he=>absurd he ϒ),λ_=>rfl]
 have I1:=I.laid (a:=Ω) (o:=.own Ϛ) (h':=s.heap.push L7) (t':=δS) όP Θ #[_,e1];refine I1.laid (a:=s.heap.objs.size+1) (o:=.ins C Ω []) (t':=δS) όP (RX (Qz _ _)) ?_
 have ne:s.heap.objs.size≠s.heap.objs.size+1:=F0 νy;refine #[by rw[ae ne,ac],GO _,ne,e2,λ_=>none,(Heap.Ns1.of_empty e3).at λo q=>FZ _ q,λ_=>True.intro,λy hy=>absurd rfl hy]
theorem Dl {prog:Ϧ}{env:Env}{Q:ϥ} (hb:attributeBase e f env (eval e env)=eval e env)
  (h:wpAny γe A (eval e env) (λo s₁=>wpAny γe A (getAttr o f true) Q E s₁) E s):wpAny γe A (eval χ1 env) Q E s :=
 Attribute_any_ h (by rw[arm_eval_Attribute,hb])
end
inductive Ai (K:m_) (f:Str) (Q:VK) (x:V) (H1:Hp):Prop
 | mk:∀a C dx fs v,x=.ref a->H1 a=some (.ins C dx fs)->HN K C->f_ K C f->fs.lookup f=some v->Q v H1->Ai K f Q x H1
def NX (K:m_) (ta:TE) (f:Str):TE:=λσ H Q=>ta σ H λx H1=>Ai K f Q x H1
inductive Aj (K:m_) (f:Str) (D:GW) (σ:St) (y x:V) (H2:Hp):Prop
 | mk:∀a C dx fs,x=.ref a->H2 a=some (.ins C dx fs)->HN K C->f_ K C f->fs.length < 1000->D.nx σ (upd H2 a (.ins C dx (FD f y fs)))->Aj K f D σ y x H2
def O8 (K:m_) (ta tv:TE) (f:Str):TS:=λD σ H=>tv σ H λy H1=>ta σ H1 λx H2=>Aj K f D σ y x H2
def PV (X:Cx) (op:νj) (rd:οy):Prop :=
 ∀(pins:ϗ) (s:ξ) (σ:St) (H:Hp) (x y:V) (u v:μ) (Q:VK),Inv X pins σ H s->k_ x u->k_ y v->rd x y H Q->wpAny Ξ X.A (inplaceOp op u v) δz X.xe s
inductive rD (K:m_) (tv:TE) (rd:οy) (f:Str) (D:GW) (σ:St) (x:V) (H1:Hp):Prop
 | mk:∀a C dx fs v,x=.ref a->H1 a=some (.ins C dx fs)->HN K C->f_ K C f->fs.lookup f=some v->(tv σ H1 λy H2=>rd v y H2 λz H3=>∃dx' fs',H3 a=some (.ins C dx' fs')/\fs'.length < 1000/\D.nx σ (upd H3 a (.ins C dx' (FD f z fs'))))->rD K tv rd f D σ x H1
def Dm (K:m_) (ta tv:TE) (rd:οy) (f:Str):TS:=λD σ H=>ta σ H λx H1=>rD K tv rd f D σ x H1
section
variable {X:Cx}{o e value:Expr}{f:Str}{pos pos' tpos:Pos}{ta tv:TE}
theorem ak (he:PE X e ta) (hb:ΞA):PE X χ1 (NX X.K ta f):=by
 show 15;refine Dl hb (C_ μ2 λu s1 ⟨x,H1,I1,rx,a,C,dx,fs,v,ex,ea,c,n,l,q⟩=>?_);show 81;exact jQ I1 ea c n l λu' s2 I2 ru=>#[v,H1,I2,ru,q]
theorem aQ (ha:ν9) (hv:ψo) (hs:swapsWith ζi (some (.Attribute o f pos')) θd X.env=pure τ):PS X (.Assign [.Attribute o f pos'] ζi pos) (O8 X.K ta tv f):=by
 show 31;refine plainObj_wpAny_Assign_Attribute (C_ (hv g s σ H _ I h) λu s1 ⟨y,H1,I1,ry,q⟩=>C_ (ha g s1 σ H1 _ I1 q) λov s2 ⟨x,H2,I2,rx,a,C,dx,fs,ex,ea,c,n,l,q2⟩=>?_) hs;show 218;exact pj I2 ea c n l ry λs3 I3=>#[σ,_,I3,q2]
theorem rE {op:νj}{rd:οy} (ha:ν9) (hv:ψo) (hop:PV X op rd):PS X (.AugAssign (.Attribute o f tpos) op ζi pos) (Dm X.K ta tv rd f):=by
 show 31;refine wpAny_AugAssign_AttributeAny (C_ νL λov s1 ⟨x,H1,I1,rx,a,C,dx,fs,v,ex,ea,c,n,l,q⟩=>?_);show 218;refine jQ I1 ea c n l λu s2 I2 ru=>C_ (hv g s2 σ H1 _ I2 q) λw3 s3 ⟨y,H2,I3,ry,q3⟩=>C_ (hop g s3 σ H2 v y u w3 _ I3 ru ry q3) λw4 s4 ⟨z,H3,I4,rz,G,E,j,l',q4⟩=>?_;exact pj I4 j c n l' rz λs5 I5=>#[σ,_,I5,q4]
end
section
variable {X:Cx}{pins:List (Addr × Obj)}{σ:St}{H:Hp}{s:Shared}{A:Around}{E:Value->Shared->Prop}{Q:Value->Shared->Prop}{c:Value}{b:Bool}
inductive HF (K:m_) (H:Hp):V->Value->Prop where
 | non:HF K H .non (.type "NoneType")
 | bl (x:Bool):HF K H (.bl x) (.type "bool")
 | int (i:Int):HF K H (.int i) (.type "int")
 | str (x:Str):HF K H (.str x) (.type "str")
 | flt (x:UInt64):HF K H (.flt x) (.type "float")
 | lst {a:Addr}{xs:List V} (e:H a=some (.lst xs)):HF K H (.ref a) (.type "list")
 | frz {a:Addr}{o:Obj}{xs:List V} (e:H a=some (.frz o (.lst xs))):HF K H (.ref a) (.type "list")
 | tup {a:Addr}{xs:List V} (e:H a=some (.tup xs)):HF K H (.ref a) (.type "tuple")
 | dK {a:Addr}{kvs:List (Key × V)} (e:H a=some (.dK kvs)):HF K H (.ref a) (.type "dict")
 | dT {a:Addr}{kvs:List (List Key × V)} (e:H a=some (.dT kvs)):HF K H (.ref a) (.type "dict")
 | ins {a C dx:Addr}{fs:List (Str × V)} (e:H a=some (.ins C dx fs)) (cl:HN K C) (ha:Kh K (.ref C) "__class__" = some (some (.builtin "object.__class__")))
   (hn:RV K μt "__get__" = some Φf) (htk:TU K μt=some true)
   (hm:S_ K C ώo=some true):HF K H εj γY
theorem rF {x:V}{u t:μ} (I:χ) (rx:k_ x u) (ty:HF X.K H x t) (e:Mu X.K t c=some b) (h:∀tk,Q πp { s with toks:=tk }) :
  wpAny Ξ A (call ξZ [u,c]) Q E s:=by
 cases ty with
 | non=>cases (show u=Kw from rx);exact Ln PySem.W.kitx_none I.kIn True.intro e (λz=>nomatch z) h
 | bl y=>cases (show u=OB y from rx);exact Ln PySem.W.kitx_bool I.kIn True.intro e (λz=>nomatch z) h
 | int i=>obtain⟨t,q⟩:=(show ∃t,u=Kv i t from rx);cases q;exact Ln PySem.W.kitx_int I.kIn True.intro e (λz=>nomatch z) h
 | str y=>obtain⟨t,q⟩:=(show ∃t,u=OJ y t from rx);cases q;exact Ln PySem.W.kitx_str I.kIn True.intro e (λz=>nomatch z) h
 | flt y=>obtain⟨t,q⟩:=(show ∃t,u=R_ y t from rx);cases q;exact Ln PySem.W.kitx_float I.kIn True.intro e (λz=>nomatch z) h
 | @lst a xs ea =>
  cases (show u=F_ a from rx);obtain⟨_,_,n,_,h1⟩:=(show p_ X.prog X.w H s.heap a (.lst xs) from I.hok a _ ea);exact Ln TQ I.kIn ⟨_,h1,rfl⟩ e (λz=>nomatch z) h
 | @frz a ob xs ea =>
  cases (show u=F_ a from rx);obtain⟨_,_,_,n,_,h1⟩:=(show p_ X.prog X.w H s.heap a (.frz ob (.lst xs)) from I.hok a _ ea);exact Ln TQ I.kIn ⟨_,h1,rfl⟩ e (λz=>nomatch z) h
 | @tup a xs ea =>
  cases (show u=F_ a from rx);obtain⟨_,_,_,p⟩:=(show p_ X.prog X.w H s.heap a (.tup xs) from I.hok a _ ea);obtain⟨o,h1,h2,_⟩:=p;exact Ln PySem.W.kitx_tuple I.kIn ⟨o,h1,h2⟩ e (λz=>nomatch z) h
 | @dK a kvs ea =>
  cases (show u=F_ a from rx);obtain⟨_,_,vs,_,p⟩:=(show p_ X.prog X.w H s.heap a (.dK kvs) from I.hok a _ ea);obtain⟨o,es,ep,h1,h2,_⟩:=p;exact Ln Tz I.kIn ⟨o,h1,h2.1⟩ e (λz=>nomatch z) h
 | @dT a kvs ea =>
  cases (show u=F_ a from rx);obtain⟨_,_,xs,_,o,es,ep,h1,h2,_⟩:=(show p_ X.prog X.w H s.heap a (.dT kvs) from I.hok a _ ea);exact Ln Tz I.kIn ⟨o,h1,h2.1⟩ e (λz=>nomatch z) h
 | @ins a C dx fs ea cl ha hn htk hm =>
  cases (show u=F_ a from rx);obtain⟨mA,O,_⟩:=gS I.hok ea;obtain⟨od,J,_⟩:=O.look;exact Ln (SG (cl.get _) cl.hd ha hn htk hm) I.kIn J e (λz=>nomatch z) h
end
structure Fv (k:Nat) (A:Ϟ):Prop where
 hd:A.handled=none
 dp:A.depth+3 * k+5 < recursionLimit
 un:A.units+16 * k+200 < cLine
 gd:A.guards=some []:=by rfl
theorem Fv.mono {j k:Nat} (r:ιE) (h:j<=k):Fv j A:=#[r.hd,by have:=r.dp;omega,by have:=r.un;omega,r.gd]
theorem Fv.deeper {k:Nat}{A:Ϟ} (r:ν2) (env:Env):Fv k (A.deeper env) :=
 #[r.hd,by have:=r.dp;show A.depth+1+3 * k+5 < _;omega,by have:=r.un;show A.units+3+16 * k+200 < _;omega,r.gd]
theorem Fv.in1 {k:Nat}{A:Ϟ} (r:ν2):Fv k γy :=
 #[r.hd,by have:=r.dp;show A.depth+3 * k+5 < _;omega,by have:=r.un;show A.units+1+16 * k+200 < _;omega,r.gd]
theorem y8 {C:Addr}:(A.under Γv).depth=A.depth+1:=by
 first | rfl | simp[Around.under,Code.weight,Code.isCreation,Code.isGuard,Code.isCaller,Code.frames,Code.isFrame,guardIds]
theorem y9 {C:Addr}:(A.under Γv).units=A.units+1:=by
 first | rfl | simp[Around.under,Code.cUnits,Code.frames,Code.isFrame]
theorem Fv.make {k:Nat} (r:ν2) (C:Addr) (us:ψ) (kw:οk):Fv k ΘN :=
 ⟨r.hd,by have:=r.dp;rw[y8];omega,by have:=r.un;rw[y9];omega,by have:=r.gd;first | exact this | simp[Around.under,Code.weight,Code.isCreation,Code.isGuard,Code.isCaller,Code.frames,Code.isFrame,guardIds,this]⟩
theorem Fv.depth {k:Nat}{A:Ϟ} (r:ιE):A.depth < recursionLimit:=by have:=r.dp;omega
theorem Fv.units {k:Nat}{A:Ϟ} (r:ιE):A.units+64 < cLine:=by have:=r.un;omega
def NK:TA:=λ_ H Q=>Q [] H
def E9 (ta:TE) (tr:TA):TA:=λσ H Q=>ta σ H λx H1=>tr σ H1 λxs H2=>Q (x :: xs) H2
section
variable {X:Cx}{e:Expr}{es:List Expr}{te:TE}{t:TA}{pos:Pos}
theorem ab:PA X [] NK:=λ_ _ _ _ H Q I h=>Calls.spliced_nil #[[],H,I,.nil,h]
theorem aa (ha:εh) (hr:ωm) (hs:starEach δm X.env=(τ,eval e ρ) :: starEach es X.env:=by rfl):PA X δm (E9 te t):=by
 intro j g s σ H Q I h;rw[hs]
 show wpAny _ _ (spliced ((τ,eval e ρ) :: backTo j εU)) _ _ s
 refine Calls.spliced_cons (C_ νL λu s1 ⟨x,H1,I1,r1,q1⟩=>?_);exact C_ (hr j g s1 σ H1 _ I1 q1) λus s2 ⟨xs,H2,I2,r2,q2⟩=>#[x :: xs,H2,I2,.cons r1 r2,q2]
def O7 (t:TA):TE:=λσ H Q=>t σ H λxs H1=>xs.length<=sizeLine/\∀p,H1 p=none->Q γR (upd H1 p ε7)
def PX (t:TA):TE:=λσ H Q=>t σ H λxs H1=>xs.length<=sizeLine/\∀p,H1 p=none->Q γR (upd H1 p γP)
theorem bJ {x1} (h:ωm):PE X (.Tuple es x1 pos) (O7 t):=by
 show 219;refine wpAny_Tuple_spliced Δs
 show 220;refine #[.ref δ2,upd H1 δ2 ε7,I1.laid (t':=ζ3) οl Θ ?_,rfl,q _ hf];exact #[z,us,r,#[_,G4 _ rfl,rfl,_,rfl]]
theorem be (h:ωm):PE X (.List es pos) (PX t):=by
 show 219;refine wpAny_List_spliced Δs
 show 220;refine #[.ref δ2,upd H1 δ2 γP,I1.laid (t':=ζ3) οl Θ ?_,rfl,q _ hf];exact #[z,us,0,r,G4 _ rfl]
end
abbrev Sp:=List V->Hp->VK->XK->Prop
abbrev KE:=List Env->Hp->Shared->XK->Value->Shared->Prop
structure F3 (P:Ϧ) (w:Ϣ) (K:m_) (mg:Ϝ) (base:Heap) (A:Ϟ) (outer:γ4) (s:ξ) (H:Hp):Prop where
 frames:A.frames=some Δ
 mod:Om K mg base
 bs:∀b o,base.get? b=some o->s.heap.get? b=some o/\H b=none
 bsz:base.objs.size<=s.heap.objs.size
 funs:s.heap.FunFrames base Δ
 frf:∀b∈GY outer,H b=none
 hok:Gc P w H ύ
 bare:AllBare νw
def CE (outer:γ4) (P:Ϧ) (w:Ϣ) (H:Hp) (s:ξ) (Q:VK) (u:μ) (s':ξ):Prop :=
 ∃v H',s'.os=s.os/\AllBare s'.gens/\Un δl [] H H' ύ s'.heap/\Gc P w H' s'.heap/\k_ v u/\Q v H'
def CR (CX:KE) (outer:γ4) (P:Ϧ) (w:Ϣ) (H:Hp) (s:ξ) (Q:VK) (E:XK) (r:Result) (s':ξ):Prop :=
 match r with
 | .ok (.ret u)=>CE Δ P w H s Q u s'
 | .ok _=>False
 | .error e=>CX Δ H s E e s'
structure F7 (P:Ϧ) (w:Ϣ) (K:m_) (mg:Ϝ) (base:Heap) (CX:KE) (k:Nat) (f:Addr) (fd:γp) (ps:ώ) (sp:Sp):Prop where
 len:∀vs H Q E,sp vs H Q E->vs.length=ps.length
 run:∀(A:Ϟ) (outer:γ4) (s:ξ) (H:Hp) (args:Args) (us:ψ) (vs:δ) (Q:VK) (E:XK),Fv k A->F3 P w K mg base A Δ s H->BindsTo s fd args ηE->j_ vs us->sp vs H Q E →
  codeAny ϛ A (.call γd args) (CR CX Δ P w H s Q E) s
theorem F7.mono {P:Ϧ}{w:Ϣ}{K:m_}{mg:Ϝ}{base:Heap}{CX:KE}{j k:Nat}{f:Addr}{fd:γp}{ps:ώ}{sp:Sp} (F:F7 P w K mg base CX j f fd ps sp) (h:j<=k) :
  F7 P w K mg base CX k f fd ps sp:=#[F.len,λA outer s H args us vs Q E hr=>F.run A Δ s H args us vs Q E (hr.mono h)]
variable {mg:Str->Option Value}{base:Heap}{CX:KE}{ps:List Str}
theorem F7.imp {k:Nat}{f:Addr}{fd:γp}{sp sp':Sp} (F:F7 P w K mg base CX k f fd ps sp)
  (h:∀vs H Q E,sp' vs H Q E->sp vs H Q E):F7 P w K mg base CX k f fd ps sp' :=
 #[λvs H Q E q=>F.len vs H Q E (h _ _ _ _ q),λA outer s H args us vs Q E hr he hb hv hs=>F.run A Δ s H args us vs Q E hr he hb hv (h _ _ _ _ hs)]
theorem F3.make {outer:γ4} (e:δY) (C:Addr) (us:ψ) (kw:οk) :
  F3 P w K mg base ΘN Δ s H:=⟨by first | exact e.frames | (simpa[Around.under,Code.envs,Code.isFrame,pushEnvs] using e.frames),e.mod,e.bs,e.bsz,e.funs,e.frf,e.hok,e.bare⟩
section
variable {X:Cx}{pins:List (Addr × Obj)}{σ:St}{H:Hp}{s s':Shared}
theorem Inv.env0 (I:χ):F3 Ϡ X.w X.K X.mg δ7 X.A δK s H :=
 #[ψL,I.ok.mod,I.bs,FG πN I.sz,I.stack,ωn,γ9,εk]
theorem Inv.after {Q:VK}{u:μ} (I:χ) (h:CE δK Ϡ X.w H s Q u s'):EP X pins σ Q u s':=by
 obtain⟨v,H',os,bare,un,hok,r,q⟩:=h;obtain⟨hh,g,d,t,j⟩:=s';obtain rfl:j=s.os:=os;exact #[v,H',I.call (h':=hh) (g':=g) (d':=d) (t':=t) (ch:=[]) un hok bare (λb z=>absurd z ϒ),r,q]
end
def CZ (sp:Sp) (dvs:δ) (E:XK) (t:TA):TE:=λσ H Q=>t σ H λvs H1=>sp θJ H1 Q E
inductive xm (C:Addr) (m:Str) (sp:Sp) (dvs:δ) (E:XK) (t:TA) (σ:St) (Q:VK) (x:V) (H1:Hp):Prop
 | mk:∀a dx fs,x=.ref a->H1 a=some (.ins C dx fs)->fs.lookup m=none->(t σ H1 λvs H2=>sp (x :: θJ) H2 Q E)->xm C m sp dvs E t σ Q x H1
def C0 (C:Addr) (m:Str) (sp:Sp) (dvs:δ) (E:XK) (ta:TE) (t:TA):TE:=λσ H Q=>ta σ H λx H1=>xm C m sp dvs E t σ Q x H1
def Fa (C:Addr) (sp:Sp) (dvs:δ) (E:XK) (t:TA):TE:=λσ H Q=>t σ H λvs H1=>∀x dx,H1 x=none->H1 dx=none->dx≠x →
 sp ϋT (upd (upd H1 dx θw) x ϐJ) ΨL E
def Gj (K:m_) (fd:γp) (ps:ώ) (ds:ψ):Prop :=
 ∀(s:ξ) (us:ψ),K.In s.heap->(us++ds).length=ps.length->BindsTo s fd ηy (ps.zip ρU)
theorem Gj.all {fd:γp} (h:∀us:List Value,ιr=ps.length->bindArgs fd ηy=pure ηE):Gj K fd ps []:=λs us _ hl=>by
 rw[MZ] at hl ⊢;exact .of_eq (h us hl)
def fH (CX:KE) (X:Cx) (E:XK):Prop:=∀(pins:ϗ) (σ:St) (H:Hp) (s:ξ) (e:μ) (s':ξ),Inv X pins σ H s->CX δK H s E e s'->X.xe e s'
variable {vs:List V}
section
variable {X:Cx}{CX:KE}{k:Nat}{f C:Addr}{fd:FuncData}{ps:List Str}{sp:Sp}{dvs:List V}{ds:List Value}{E:XK}{x m:Str}{p pos apos:Pos}{e o:Expr}{es:List Expr}{ta:TE}{t:TA}
theorem pq {Q:VK} (F:ηI) (hr:θe) (hb:ηT) (hd:θ8) (hx:θ9)
  (I:χ) (r:ηc) (h:sp θJ H Q E):wpAny Ξ X.A (call γd us) δz X.xe s:=by
 have r2:j_ θJ 85e2:=r.append hd
 have hl:(us++ds).length=ps.length:=by rw[<- r2.length];exact F.len _ _ _ _ h
 refine Nc (Nd (F.run X.A δK s H ηy ρU θJ Q E hr I.env0 (hb s us ηm hl) r2 h) λr s' hq=>?_)
 cases r with
 | error e=>exact hx pins σ H s e s' I hq
 | ok fl =>
  cases fl with
  | ret u=>exact I.after hq
  | next=>exact False.elim hq
  | brk=>exact False.elim hq
  | cont=>exact False.elim hq
theorem aH (F:ηI) (hr:θe) (hg:ηj) (hm:X.mg x=some γd) (hk:Jt X.K γd=true) (hb:ηT) (hd:θ8) (hx:θ9)
  (ha:η2) (hdb:εQ=false:=by decide) (he:starEach δm X.env=(τ,eval e ρ) :: starEach es X.env:=by rfl) (hpl:(backTo pos εU).any (·.1)=false:=by rfl) :
  PE X ξs 191e6:=by
 intro g s σ H Q I h;refine M4 χh;refine P1 (h₀:=δ7) π6 hk Θ0 he hpl;exact pq F hr hb hd hx I1 r q
theorem ao {pl:ιu} (he:ν9) (c:νk) (hm:Hw X.K C m f) (F:ηI) (hr:θe) (hb:ηT) (hd:θ8) (hx:θ9) (ha:η2)
  (hst:starEach δm X.env=(τ,eval e ρ) :: starEach es X.env:=by rfl) (hpl:(backTo pos εU).any (·.1)=false:=by rfl)
  (ht:eval ξi X.env=(do
   let ov ← eval o X.env
   standAt πg
   let (f,first) ← holding [ov] (getMethod ov m pl)
   callWith pos f first 90e1 ξq):=by rfl) :
  PE X ξi (C0 C m sp dvs E ta t):=by
 intro g s σ H Q I h;refine Qo (pl:=pl) Θ8 ht;subst ex;obtain rfl:u=F_ a:=rx;refine pi I1 ea c hm l ?_;refine P1 (first:=[.ref a]) (h₀:=δ7) π6 hm.kp (C_ (ha pos g s1 σ H1 _ I1 q) λus s2 ⟨vs,H2,I2,r,q2⟩=>#[I2.kIn,?_]) hst hpl;exact pq (us:=.ref a :: us) (vs:=.ref a :: vs) F hr hb hd hx I2 (.cons rfl r) q2
theorem aW {pl:ιu} (he:ν9) (c:νk) (hm:Hw X.K C m f) (F:ηI) (hr:θe) (hb:ηT) (hd:θ8) (hx:θ9)
  (ht:eval ΦN X.env=(do
   let ov ← eval o X.env
   standAt πg
   let (f,first) ← holding [ov] (getMethod ov m pl)
   callWith pos f first (backTo pos οm) ξq):=by rfl) :
  PE X ΦN (C0 C m sp dvs E ta NK):=by
 intro g s σ H Q I h;refine Qo (pl:=pl) Θ8 ht;subst ex;obtain rfl:u=F_ a:=rx;refine pi I1 ea c hm l ?_;exact PySem.W.callWith_K0 (first:=[.ref a]) I1.kIn hm.kp (pq (us:=[.ref a]) (vs:=[.ref a]) F hr hb hd hx I1 ώp q)
structure Mk (K:m_) (C f:Addr):Prop where
 makes:Uc K C=true
 init:Kh K γY "__init__" = some νM
 fn:N_ K γd=true
 kp:Jt K γY=true
theorem BX {Q:VK} (M:Mk X.K C f) (F:ηI) (hr:Fv (k+1) X.A) (hb:ηT) (hd:θ8)
  (hx:θ9) (I:χ) (r:ηc)
  (h:∀x dx,H x=none->H dx=none->dx≠x->sp ϋT (upd (upd H dx θw) x ϐJ) ΨL E) :
  wpAny Ξ X.A (call γY us) δz X.xe s:=by
 have hq:=h Ϛ Ω όf ζW (F0 νy)
 have I2:=Inv.made (C:=C) I
 have r2:j_ (V.ref Ϛ :: θJ) 148e4:=.cons rfl (r.append hd)
 have hl:(F_ Ϛ :: us++ds).length=ps.length:=by
  have e:=r2.length;rw[F.len _ _ _ _ hq] at e;exact e.symm
 refine Nc (BW (f:=f) ηm M.makes M.init (beq_iff_eq.mp M.fn) (Nd (F.run _ δK _ _ ⟨F_ Ϛ :: us,[]⟩ Ψ6 _ _ E (hr.make C us [])
  (I2.env0.make C us []) (hb _ (F_ Ϛ :: us) I2.kIn hl) r2 hq) λr s' g=>?_))
 cases r with
 | error e=>exact hx pins σ _ _ e s' I2 g
 | ok fl =>
  cases fl with
  | ret u =>
   obtain⟨v,H',I3,rv,ev,q3⟩:=I2.after g;subst ev;exact #[rv,#[V.ref Ϛ,H',I3,rfl,q3]]
  | next=>exact False.elim g
  | brk=>exact False.elim g
  | cont=>exact False.elim g
theorem cx (M:Mk X.K C f) (F:ηI) (hr:Fv (k+1) X.A) (hg:ηj) (hm:X.mg x=some γY) (hb:ηT) (hd:θ8) (hx:θ9)
  (ha:η2) (hdb:εQ=false:=by decide) (he:starEach δm X.env=(τ,eval e ρ) :: starEach es X.env:=by rfl) (hpl:(backTo pos εU).any (·.1)=false:=by rfl) :
  PE X ξs (Fa C sp dvs E t):=by
 intro g s σ H Q I h;refine M4 χh;refine P1 (h₀:=δ7) π6 M.kp Θ0 he hpl;exact BX M F hr hb hd hx I1 r q
end
section
variable {X:Cx}{CX:KE}{k:Nat}{f C:Addr}{fd:FuncData}{ps ks:List Str}{sp:Sp}{E:XK}{x m:Str}{p pos apos kpos:Pos}{e o:Expr}{es:List Expr}{kws:List Keyword}{te ta:TE}{t tk:TA}{nm:Option Str}
variable {g:List Value->List Value->List Value}{gV:List V->List V->List V}
end
structure al (N P:ώ) (sc:γ5):Prop where
 kind:sc.kind=.function
 co:sc.isCoroutine=false
 gen:sc.isGenerator=false
 nd:N.Nodup
 pre:N.take P.length=P
 par:∀x∈P,sc.names.lookup x=some .local\/sc.names.lookup x=some .cell
 nofree:∀y∈sc.names,y.2≠.free
theorem rG {kindOf:οb}{x:Str}:∀{binds:οk}{m:Ϝ},ϋU->bindL ηk binds m x=m x
 | [],_,_=>rfl
 | (n,v) :: r,m,h=>by
  unfold bindL;rw[rG λw hw=>h w (Hl _ hw)]
  split
  ·have:x≠n:=by rintro rfl;exact h v Im
   show 33
  ·rfl
theorem rH {kindOf:οb}{x:Str}:∀{binds:οk}{m:Ϝ},ϋU->bindC ηk binds m x=m x
 | [],_,_=>rfl
 | (n,v) :: r,m,h=>by
  unfold bindC;rw[rH λw hw=>h w (Hl _ hw)]
  split
  ·rfl
  ·have:x≠n:=by rintro rfl;exact h v Im
   show 33
theorem rJ {kindOf:οb}{x:Str}{v:μ}:∀{P:ώ}{vs:ψ}{i:Nat}{m:Ϝ},P.Nodup->P[i]?=some x->vs[i]?=some v->kindOf x=some .local →
  bindL ηk (P.zip vs) m x=some v
 | [],_,_,_,_,h,_,_=>by simp at h
 | _ :: _,[],_,_,_,_,h,_=>by simp at h
 | p :: P,w :: vs,0,m,nd,h1,h2,hk=>by
  show 221
  show bindL ηk οn m p=_
  unfold bindL;rw[rG λv hv=>(HW.mp nd).1 (N6 hv).1,if_pos hk]
  simp
 | p :: P,w :: vs,i+1,m,nd,h1,h2,hk=>by
  show bindL ηk οn m x=_
  unfold bindL;exact rJ (i:=i) (HW.mp nd).2 οo οp hk
theorem rK {kindOf:οb}{x:Str}{v:μ}:∀{P:ώ}{vs:ψ}{i:Nat}{m:Ϝ},P.Nodup->P[i]?=some x->vs[i]?=some v->kindOf x≠some .local →
  bindC ηk (P.zip vs) m x=some v
 | [],_,_,_,_,h,_,_=>by simp at h
 | _ :: _,[],_,_,_,_,h,_=>by simp at h
 | p :: P,w :: vs,0,m,nd,h1,h2,hk=>by
  show 221
  show bindC ηk οn m p=_
  unfold bindC;rw[rH λv hv=>(HW.mp nd).1 (N6 hv).1,if_neg hk]
  simp
 | p :: P,w :: vs,i+1,m,nd,h1,h2,hk=>by
  show bindC ηk οn m x=_
  unfold bindC;exact rK (i:=i) (HW.mp nd).2 οo οp hk
def e_ (N:ώ) (vs:δ):St:=vs.map some++FL (N.length - vs.length) none
def Hu (CX:KE) (P:Ϧ) (w:Ϣ) (K:m_) (mg:Ϝ) (base:Heap) (N:ώ) (qual:Str) (scope:γ5) (f:Addr) (cd:μ) (A:Ϟ) (outer:γ4) (s:ξ) (H:Hp) (E:XK):Cx where
 prog:=P
 w:=w
 K:=K
 mg:=mg
 base:=base
 A:=A.deeper τF
 N:=N
 s₀:=s
 H₀:=H
 env:=envOfC qual γu Ω f cd
 outer:=outer
 stack:=envOfC qual γu s.heap.objs.size f cd :: outer
 ex:=[]
 calm:=true
 fn:=λ_=>true
 pn:=[]
 xe:=λe s'=>wpAny ϛ (A.deeper τF) (leaving τF e) (λ_ s''=>CX Δ H s E e s'') (λe' s''=>CX Δ H s E e' s'') s'
theorem uA {sc:γ5} (h:sc.names.lookup x=some .cell):∃c,(cellsFrom n ιv []).lookup x=some c:=by
 have q:=Rt ιv n [] πO;exact OI.mp q
theorem rL {qual:Str}{scope:γ5}{f:Addr}{cd:μ}{outer:γ4}{s1:ξ}{E:XK}
  (S:ϑk) (hd:η6) (e0:δY) (hl:vs.length=ρl) (r:ηc)
  (x:InCallC s Ω (bindL (envOfC qual γu Ω f cd).kindOf ηE λ_=>none) (cellsFrom Ϛ ψM []) (bindC (envOfC qual γu Ω f cd).kindOf ηE λ_=>none) s1) :
  Inv (Hu CX P w K mg base N qual γu f cd A Δ s H E) [] δE H s1:=by
 have D:ps.length<=N.length:=by have:=congrArg Mx S.pre;rw[Kx] at this;omega
 obtain⟨h1,tk,rfl,hk⟩:=x.done
 have g:∀b:Addr,b∉(Hu CX P w K mg base N qual γu f cd A Δ s H E).ex:=λb z=>absurd (show b∈([]:List Addr) from z) ϒ
 refine⟨⟨e0.mod,εD,rfl,rfl,B_ _,λy z c h1 h2=>?_,λy hy=>?_,λy c _ h=>?_,λ_=>hd,Around.frames_deeper πs,.inr μT,λb z=>absurd z (g b),e0.bs,e0.bsz,λb _ _=>g b,λb z=>absurd z (g b),ρ3,e0.frf⟩,
  rfl,νo,Un.kept hk,⟨_,x.toInCall.ns,λi y v h1 h2 h3=>?_⟩,λy c h=>⟨_,x.cell y c h⟩,e0.hok.fresh Θ,λy c h=>?_,λp hp=>absurd (show p∈([]:List ηu) from hp) ϒ,e0.hok.kept hk,?_⟩
 ·exact name_of_addr x.apart (Kr h1) (Kr h2)
 ·have hy:scope.names.lookup y=some .cell\/scope.names.lookup y=some .free:=hy
  rcases hy with hy | hy
  ·exact uA hy
  ·exact absurd rfl (S.nofree _ (Kr hy))
 ·exact K_ όg
 ·have hi:i < vs.length:=by
   unfold e_ at h2
   by_cases hi:i < vs.length
   ·exact hi
   ·rw[Ld εV] at h2
    rw[LN] at h2
    split at h2 <;> cases h2
  have ha:vs[i]?=some v:=by
   unfold e_ at h2;rw[Ky εV,FM] at h2
   cases e:vs[i]? with
   | none=>rw[e] at h2;cases h2
   | some a=>rw[e] at h2;cases h2;rfl
  obtain⟨u,hu,rv⟩:=r.get ha
  have hp:ps[i]?=some y:=by
   rw[<- S.pre,R7 γ];exact h1
  have j:ps.Nodup:=by rw[<- S.pre];exact S.nd.sublist πS
  refine⟨u,rv,?_⟩;rcases S.par y (Gi hp) with k | k
  ·exact .inl #[k,rJ j hp hu k]
  ·obtain⟨c,e⟩:=uA (n:=s.heap.objs.size+1) k
   refine .inr #[.inl k,c,e,?_]
   have q:=x.cell y c e;rw[rK j hp hu (by show scope.names.lookup y≠_;rw[k];decide)] at q
   exact q
 ·exact e0.hok.fresh (K_ όg)
 ·unfold e_
  show _=N.length
  rw[Hr,o_,KR];omega
theorem za {k:Nat}{f:Addr}{name qual:Str}{params:θa}{scope:γ5}{dV kV doc pm cdv ct oc:μ}{an od:γG}{osl:εT}{sp:Sp} (lk:K.lookup f=some #[oc,od,.func Ξ0,osl]) (hcd:οz) (S:ϑk)
  (len:θT)
  (hbody:∀(A:Ϟ) (outer:γ4) (s:ξ) (H:Hp) (vs:δ) (Q:VK) (E:XK),Fv k (A.deeper (envOfC qual γu Ω f cdv))->sp vs H Q E →
   ∃t,Ht τs body t/\t { nx:=λ_ H'=>Q .non H',rt:=Q } 15e4 H) :
  F7 P w K mg base CX (k+1) f Ξ0 ps sp:=by
 refine #[len,λA outer s H D us vs Q E hr e0 hb r h=>?_]
 have hl:=len _ _ _ _ h
 have KX:K.In s.heap:=e0.mod.kin.keeps λb o e=>(e0.bs b o e).1
 have j:s.heap.NoLimit:=e0.mod.nolimit.keeps λb o e=>(e0.bs b o e).1
 have g:∀y∈ps.zip us,scope.names.lookup y.1=some .local\/(scope.names.lookup y.1=some .cell/\((cellsFrom Ϛ ψM []).lookup y.1).isSome=true):=λ⟨n,v⟩ hy=>by
  rcases S.par n (N6 hy).1 with q | q
  ·show 76
  ·exact .inr ϊy
 refine SO πT (KX _ _ lk) rfl S.co S.gen rfl (UJ KX hcd) ϐ5;refine SD εD g λenv he s1 x=>?_;subst he;refine #[j.keeps x.toInCall.keep,codeAny_func ?_];obtain⟨t,ht,hq⟩:=hbody A Δ s H vs Q E ϑl h
 have I:Inv τs [] δE H s1:=rL S hr.hd e0 hl r x;refine IT (ht [] s1 δE H _ I hq) ύa λe s' hs=>hs
 have fin:∀{σ':St}{H':Hp}{v:V}{u:μ},Inv τs [] σ' H' s'->k_ v u->Q v H'->CE Δ P w H s Q u s' :=
  λ{σ' H' v u} J rv q=>ΦC
 cases fl with
 | ret u =>
  obtain⟨v,σ',H',J,rv,q⟩:=hs;exact fin J rv q
 | next =>
  obtain⟨σ',H',J,q⟩:=hs;exact fin (v:=γQ) (u:=Kw) J rfl q
 | brk =>
  obtain⟨_,_,_,q⟩:=hs;exact False.elim q
 | cont =>
  obtain⟨_,_,_,q⟩:=hs;exact False.elim q
section
variable {X:Cx}{x:Str}{p pos:Pos}{e:Expr}{es:List Expr}{t:TA}{id T:String}{r:List V->Hp->VK->Prop}
def QV (r:όd) (t:TA):TE:=λσ H Q=>t σ H λvs H1=>r vs H1 Q
theorem aF (hc:bI X Γe r) (hg:ηj) (hm:πe) (hv:bootBuiltins x=some Γe) (ha:η2) (hn:x ≠ "__name__":=by decide) (hdb:εQ=false:=by decide)
  (he:starEach δm X.env=(τ,eval e ρ) :: starEach es X.env:=by rfl) (hpl:(backTo pos εU).any (·.1)=false:=by rfl):PE X ξs (QV r t):=by
 intro g s σ H Q I h;refine M4 ϊz;exact PyProof.Rows.callWith_builtin1 Δy he hpl
theorem bu (hc:bI X πt r) (hg:ηj) (hm:πe) (hv:bootBuiltins x=some πt) (ha:η2) (hn:x ≠ "__name__":=by decide) (hdb:εQ=false:=by decide)
  (he:starEach δm X.env=(τ,eval e ρ) :: starEach es X.env:=by rfl) (hpl:(backTo pos εU).any (·.1)=false:=by rfl):PE X ξs (QV r t):=by
 intro g s σ H Q I h;refine M4 ϊz;exact M9 Δy he hpl
end
end L2
namespace HT
open PySem PyProof.Rows
section
open PySem.SeqAt
open PySem.AutoSeq1 (wpAny_loadPart')
open PySem.MeetsSeq PySem.MeetsSeq2 PySem.MeetsSeq3
end
section
variable {prog:Program}{w:World}{A:Around}{E:Value->Shared->Prop}{s:Shared}
def JF (n d:Nat):Option Int->Nat
 | none=>d
 | some v=>if v < 0 then (v+(n:Int)).toNat else min v.toNat n
theorem JD (n d:Nat):JF n d none=d:=rfl
theorem Ir (n d k:Nat):JF n d ψ9=min k n:=by
 show (if (k:Int) < 0 then ((k:Int)+(n:Int)).toNat else min (k:Int).toNat n)=min k n
 rw[if_neg γ,G5]
end
end HT
namespace L2
open PySem PySem.Spec PyProof.Rows
abbrev TO:=St->Hp->(Option Int->Hp->Prop)->Prop
def PO (X:Cx) (e:Option Expr) (t:TO):Prop :=
 ∀(pins:ϗ) (s:ξ) (σ:St) (H:Hp) (Q:όh),Inv X pins σ H s->t σ H Q →
  wpAny Ξ X.A (evalPart e ρ) (λu s'=>∃o H',Inv X pins σ H' s'/\IsPart u o/\Q o H') X.xe s
def Do:TO:=λ_ H Q=>Q none H
inductive xn (Q:όh) (x:V) (H1:Hp):Prop
 | mk:∀i,x=.int i->Q (some i) H1->xn Q x H1
def Fb (t:TE):TO:=λσ H Q=>t σ H λx H1=>xn Q x H1
theorem zb {ns:γq}:∀{us:ψ},j_ δB us->IntsAre us ns:=by
 induction ns with
 | nil=>intro us r;rw[RE] at r;cases r;exact .nil
 | cons n ns ih =>
  intro us r;rw[Ie] at r
  cases r with
  | cons r1 r2 =>
   obtain⟨t,e⟩:=r1;subst e;exact .cons n t (ih r2)
section
variable {X:Cx}{e:Expr}{te:TE}{lo hi:Option Expr}{tl th:TO}{pos p2:Pos}
theorem xo:PO X none Do:=by
 show 15;rw[ϑm];exact Ga #[none,H,I,.none,h]
theorem mq (h:εh):PO X ωL (Fb te):=by
 show 117;rw[evalPart_some];refine C_ οi λu s1 ⟨x,H1,I1,r1,q1⟩=>?_;obtain⟨i,rfl,q⟩:=q1;obtain⟨t,rfl⟩:=r1;exact #[some i,H1,I1,.int i t,q]
def Q0 (X:Cx) (r:τI):Prop :=
 ∀(pins:ϗ) (s:ξ) (σ:St) (H:Hp) (x:V) (v vl vu:μ) (lo hi:ζu) (sl:Addr) (Q:VK),Inv X pins σ H s->k_ x v->s.heap.IsSliceOf sl vl vu .none->IsPart vl lo->IsPart vu hi->r x lo hi H Q →
  ∃T id,typeLookup πt "__getitem__" = pure όi∧s.TypeIs v T∧wpAny Ξ X.A (getItem v (.ref sl)) δz X.xe s
def Sf (r:τI) (te:TE) (tl th:TO):TE:=λσ H Q=>te σ H λx H1=>tl σ H1 λl H2=>th σ H2 λu H3=>r x l u H3 Q
theorem oG {r:τI} (hr:Q0 X r) (he:εh) (hl:PO X lo tl) (hu:PO X hi th):PE X (.Subscript e ϋw pos) (Sf r te tl th):=by
 show 15;refine Subscript_ ΘP;refine wpAny_Slice (C_ (hl g s1 σ H1 _ I1 q1) λvl s2 ⟨l,H2,I2,pl,q2⟩=>C_ (hu g s2 σ H2 _ I2 q2) λvu s3 ⟨u,H3,I3,pu,q3⟩=>?_);rw[ϑm];refine Ga ?_
 have I4:Inv X g σ H3 { s3 with heap:=s3.heap.push { cls:=.type "slice",data:=.fields [vl,vu,.none].toArray } }:=I3.kept (t':=s3.toks) λb ob q=>FZ _ q
 obtain⟨T,id,hT,ht,hg⟩:=hr g { s3 with heap:=s3.heap.push { cls:=.type "slice",data:=.fields [vl,vu,.none].toArray } } σ H3 x v vl vu l u s3.heap.objs.size Q I4 r1 (Heap.IsSliceOf.new ..) pl pu q3
 show wpAny Ξ X.A (subscriptTail e ϋw v (.ref ύN)) (EP X g σ Q) X.xe { s3 with heap:=s3.heap.push { cls:=.type "slice",data:=.fields [vl,vu,.none].toArray } }
 exact tail_any (ops:=[.ref ύN,v]) ht hT hg (by with_unfolding_all rfl)
def HD (xs:δ) (lo hi:ζu):List V:=(xs.drop ϋx).take Ξg
theorem wD (xs:δ) (lo hi:ζu):(HD xs lo hi).length<=xs.length:=by
 unfold HD;rw[Kx,MX];omega
end
def Lz (n:Nat) (i:Int):Option Nat:=if 0<=i then (if i < n then some i.toNat else none) else if -(n:Int)<=i then some (i+n).toNat else none
def LP {α:Type} (xs:ε3) (i:Int):Option α:=(Lz γm i).bind λj=>xs[j]?
variable {n:Nat}
theorem xp {i:Int}{j:Nat} (h:Lz n i=some j):seqIndex? i n=some j/\j < n/\-(n:Int)<=i/\i < n:=by
 unfold Lz at h
 by_cases h0:0<=i
 ·rw[if_pos h0] at h
  by_cases h1:i < n
  ·rw[if_pos h1] at h
   have e:i.toNat=j:=FK h;exact #[by rw[seqIndex_of h0 h1,e],by omega,by omega,h1]
  ·show 222
 ·rw[if_neg h0] at h
  by_cases h1:-(n:Int)<=i
  ·rw[if_pos h1] at h
   have e:(i+n).toNat=j:=FK h;exact #[by rw[seqIndex_neg γ h1,e],by omega,h1,by omega]
  ·show 222
theorem xr {α:Type}{xs:ε3}{i:Int}{v:α} (h:LP xs i=some v):∃j,seqIndex? i xs.length=some j/\xs[j]?=some v/\j < xs.length/\-(xs.length:Int)<=i/\i < xs.length:=by
 unfold LP at h
 cases e:Lz xs.length i with
 | none=>rw[e] at h;cases h
 | some j =>
  rw[e] at h;obtain⟨h1,h2,h3,h4⟩:=xp e;exact #[j,h1,h,h2,h3,h4]
theorem aB {α:Type}{xs:ε3}{j:Nat}{v:α} (h:xs[j]?=some v):LP xs (j:Int)=some v:=by
 have hj:j < xs.length:=(Gr.mp h).1
 have e:Lz γm (j:Int)=some j:=by
  unfold Lz;rw[if_pos γ,if_pos γ];simp
 unfold LP;rw[e];exact h
def Dp (b:Expr):Prop:=∀o i,subscripted b τ o i=operate [o,i] ϑn
def Nt (X:Cx) (r:R2):Prop :=
 ∀(value slice:Expr) (pins:ϗ) (s:ξ) (σ:St) (H:Hp) (x y:V) (v u:μ) (Q:VK),Inv X pins σ H s->k_ x v->k_ y u->r x y H Q →
  subscripted ιH τ v u=operate [v,u] (getItem v u)->wpAny Ξ X.A (subscriptTail ζi ιH v u) δz X.xe s
def On (X:Cx) (id:ζ7) (r:ο0):Prop :=
 ∀(pins:ϗ) (s:ξ) (σ:St) (H:Hp) (x:V) (xs:δ) (v:μ) (us:ψ) (Q:VK),Inv X pins σ H s->k_ x v->j_ xs us->r x xs H Q →
  wpAny Ξ X.A Ωr δz X.xe s
variable {s:Shared}{its:List Value}{x:V}
section
variable {X:Cx}{a b:Expr}{ta tb:TE}{pos:Pos}
theorem aD {r:R2} (hr:Nt X r) (ha:ζ0) (hb:θ6) (hs:Dp b):PE X (.Subscript a b pos) 73e9:=by
 show 15;exact Subscript_ (Mb ha hb I h λv u s2 x y H2 I2 rx ry q=>hr a b g s2 σ H2 x y v u Q I2 rx ry q (hs _ _))
inductive Mn (K:m_) (x y:V) (H:Hp) (Q:VK):Prop
 | mk:∀p xs i v,x=.ref p->y=.int i->c_ K H p xs->LP xs i=some v->Q v H->Mn K x y H Q
inductive Ma (K:m_) (x y:V) (H:Hp) (Q:VK):Prop
 | mk:∀p xs i v,x=.ref p->y=.int i->Gn K H p xs->LP xs i=some v->Q v H->Ma K x y H Q
theorem ax:Nt X (Mn X.K):=by
 intro J G g s σ H x y v u Q I rx ry h hs;show 223
 show 125;obtain⟨E,r,pl,hz⟩:=I.list hq;show 224
 show 126
 have hn:=kY
 show 225
 by_cases h0:0<=i
 ·have hj:i.toNat=j:=by
   rw[seqIndex_of h0 h5] at h1;exact FK h1
  exact item_listR ζ1 h0 γ ϊ8 fin hs
 ·have hj:(i+(E.toArray.size:Int)).toNat=j:=by
   rw[seqIndex_neg γ h4] at h1
   show 226
  exact subscriptTail_builtinR (x:=w) ώq ϊR
   (wpAny_getItem_list_neg (Q:=λr s'=>r=w/\EP X g σ Q r s') ζ1 γ (by rw[Gk] <;> omega) γ ϊ8 ϑo) hs
theorem cI:Nt X (Ma X.K):=by
 intro G E g s σ H x y v u Q I rx ry h hs;show 223
 show 125;obtain⟨J,r,pl,hz⟩:=I.tuple hq;show 224
 show 126
 have hn:=kY
 show 225
 exact subscriptTail_builtinR (x:=w) pl.typeIs slot_tuple_getitem.lookup
  (getItem_tuple (j:=j) (Q:=λr s'=>r=w/\EP X g σ Q r s') pl γ γ (by rw[Gk,← hl];exact h1) (by simpa using ew) ϑo) hs
theorem zc (its:ψ) (n j:Nat) (u:μ):Obj.mapSeq (·.setIfInBounds j u) { cls:=.type "list",data:=.seq εA n } = { cls:=.type "list",data:=.seq (its.set j u).toArray n }:=by
 simp[Obj.mapSeq]
theorem Inv.lst {pins:ϗ}{σ:St}{H:Hp}{s:ξ}{p:Addr}{xs:δ} (I:χ) (h:ύb) :
  ∃(its:ψ) (n:Nat),j_ xs its∧s.heap.get? p=some { cls:=.type "list",data:=.seq εA n } ∧ xs.length≤sizeLine:=by
 obtain⟨z,its,n,r,e⟩:=I.hok p _ h;exact #[its,n,r,e,z]
theorem Inv.lstUpd {pins:ϗ}{σ:St}{H:Hp}{p:Addr}{xs ys:δ}{its':ψ}{n':Nat}{f:Obj->Obj} (I:χ) (h:ύb)
  (ho:s.heap.get? p=some { cls:=.type "list",data:=.seq εA n }) (hf:f { cls:=.type "list",data:=.seq εA n } = { cls:=.type "list",data:=.seq ψA n' }) (r:j_ ys its') (hz:όj) (t:Nat) :
  Inv X pins σ (upd H p γV) { s with heap:=s.heap.update p f,toks:=t }:=by
 have e:(s.heap.update p f).get? p=some { cls:=.type "list",data:=.seq ψA n' }:=by
  rw[Heap.get?_update_self f ho (by rw[hf] <;> rfl),hf]
 refine I.write (x:=p) (e:=p) (by rw[h];trivial) γL (λb u hb q=>(UF _ _ (F5 hb)).trans q) #[_,e] ?_
 exact #[hz,its',n',r,e]
inductive C1 (o i v:V) (H:Hp) (Q:ζC):Prop
 | mk:∀p xs k j,o=.ref p->i=.int k->H p=some (.lst xs)->Lz xs.length k=some j->Q (upd H p (.lst (xs.set j v)))->C1 o i v H Q
theorem bU:Nr X C1:=by
 intro D s σ H o i v ov iv u Q I ro ri rv h;obtain⟨p,xs,k,j,rfl,rfl,hp,hj,q⟩:=h
 cases ro;obtain⟨t,rfl⟩:=ri;obtain⟨g,n,r,ho,hz⟩:=I.lst hp;obtain⟨h1,h2,h3,h4⟩:=xp hj
 show 126
 have hn:=kY
 have I':Inv X D σ (upd H p (.lst (xs.set j v))) { s with heap:=s.heap.update p (Obj.mapSeq (·.setIfInBounds j u)) } :=
  I.lstUpd hp ho (zc g n j u) (r.set rv j) (by rw[JJ];exact hz) δS
 by_cases h0:0<=k
 ·have hk:k.toNat=j:=by
   rw[seqIndex_of h0 h4] at h1;exact FK h1
  exact PySem.W.ki_setAt ho h0 γ (by rw[Gk,← hl];exact h4) Ωh
 ·have hk:(k+(g.toArray.size:Int)).toNat=j:=by
   rw[seqIndex_neg γ h3] at h1
   show 226
  exact PySem.W.ki_setBack ho γ (by rw[Gk,← hl];exact h3) γ Ωh
theorem uB (lo hi:ζu) (n:Nat):(sliceBounds lo hi none n).1=((HT.JF n 0 lo:Nat):Int)/\(sliceBounds lo hi none n).2.1=((HT.JF n n hi:Nat):Int)/\(sliceBounds lo hi none n).2.2=1:=by
 refine #[?_,?_,rfl]
 ·cases lo with
  | none=>simp[sliceBounds,HT.JF]
  | some i =>
   show 227
   by_cases h:i < 0
   ·show 228
   ·show 229
 ·cases hi with
  | none=>simp[sliceBounds,HT.JF]
  | some i =>
   show 227
   by_cases h:i < 0
   ·show 228
   ·show 229
theorem tS (its:ψ) (lo hi:ζu):slicePick εA lo hi none=((its.drop (HT.JF πk 0 lo)).take (HT.JF πk πk hi - HT.JF πk 0 lo)).toArray:=by
 obtain⟨h1,h2,h3⟩:=uB lo hi its.toArray.size;unfold slicePick;rw[h1,h2,h3];simp only[sliceRange_one,pick_run,Gk] <;> rfl
inductive Nh (K:m_) (x:V) (lo hi:ζu) (H:Hp) (Q:VK):Prop
 | mk:∀a xs,x=.ref a->c_ K H a xs->(∀p,H p=none->Q (.ref p) (upd H p (.lst (HD xs lo hi))))->Nh K x lo hi H Q
theorem qH:Q0 X (Nh X.K):=by
 intro j s σ H x v vl vu lo hi sl Q I rx hs pl pu h;obtain⟨a,xs,rfl,hx,q⟩:=h
 show 10;obtain⟨D,r,ht,hz⟩:=I.list hx
 have g:=r.length
 refine #["list",_,ϊR,ht.isList.typeIs,?_]
 refine wpAny_getItem_list_slice ht.isList hs pl pu .none ϒ ?_ (by rw[Gk] <;> omega)
 rw[tS,← g];refine #[.ref Ω,_,I.laid (t':=δS) (o:=.lst (HD xs lo hi)) (λb ob q=>FZ _ q) Θ ?_,rfl,q _ ζW];exact #[FG (wD xs lo hi) hz,_,0,(r.drop ϋx).take Ξg,G4 _ rfl]
def gH:V->Bool
 | .non=>true
 | .bl _=>true
 | .int _=>true
 | .str _=>true
 | _=>false
def LC:V->V->Bool
 | .non,.non=>true
 | .bl a,.bl b=>a == b
 | .bl a,.int b=>όk == b
 | .int a,.bl b=>a == όl
 | .int a,.int b=>a == b
 | .str a,.str b=>a == b
 | _,_=>false
theorem bW {A:Ϟ}{y:V}{u v:μ} (ry:εl) (rx:k_ x v) (fy:gH y=true) (fx:gH x=true):GS A s u v (LC y x):=by
 cases y with
 | non =>
  cases ry
  cases x with
  | non=>cases rx;exact RU _
  | bl b=>cases rx;exact GS.none_bool b
  | int b=>obtain⟨t,rfl⟩:=rx;exact GS.none_int b t
  | str b=>obtain⟨t,rfl⟩:=rx;exact GS.none_str b t
  | _=>exact absurd (show false=true from fx) Hk
 | bl a =>
  cases ry
  cases x with
  | non=>cases rx;exact GS.bool_none a
  | bl b=>cases rx;exact GS.bool_bool a b
  | int b=>obtain⟨t,rfl⟩:=rx;exact GS.bool_int a b t
  | str b=>obtain⟨t,rfl⟩:=rx;exact GS.bool_str a b t
  | _=>exact absurd (show false=true from fx) Hk
 | int a =>
  show 230
  cases x with
  | non=>cases rx;exact GS.int_none a t'
  | bl b=>cases rx;exact GS.int_bool a t' b
  | int b=>obtain⟨t,rfl⟩:=rx;exact GS.int_int a t' b t
  | str b=>obtain⟨t,rfl⟩:=rx;exact T7 a t' b t
  | _=>exact absurd (show false=true from fx) Hk
 | str a =>
  show 230
  cases x with
  | non=>cases rx;exact GS.str_none a t'
  | bl b=>cases rx;exact GS.str_bool a t' b
  | int b=>obtain⟨t,rfl⟩:=rx;exact UK a t' b t
  | str b=>obtain⟨t,rfl⟩:=rx;exact GS.str_str a t' b t
  | _=>exact absurd (show false=true from fx) Hk
 | _=>exact absurd (show false=true from fy) Hk
def JM (x:V) (u:Value):Bool:=match u with
 | .none=>LC .non x
 | .bool b=>LC ιy x
 | .int i _=>LC ζB x
 | .str z _=>LC (.str z) x
 | _=>false
theorem Ak {y:V}{u:μ} (r:εl) (f:gH y=true):JM x u=LC y x:=by
 cases y with
 | non=>cases r;rfl
 | bl b=>cases r;rfl
 | int i=>obtain⟨t,rfl⟩:=r;rfl
 | str z=>obtain⟨t,rfl⟩:=r;rfl
 | _=>exact absurd (show false=true from f) Hk
theorem jo {x:V}:∀{xs:δ}{us:ψ},j_ xs us->xs.all gH=true->us.any ε4=xs.any λy=>LC y x
 | _,_,.nil,_=>rfl
 | y :: xs,u :: us,.cons r t,f=>by
  rw[P7,IU] at f;rw[Ob,Ob,Ak r f.1,jo t f.2]
theorem g8 {A:Ϟ}{s:ξ}{x:V}{v:μ} (rx:k_ x v) (fx:gH x=true):∀{xs:δ}{us:ψ},j_ xs us->xs.all gH=true->∀u∈us,GS A s u v (JM x u)
 | _,_,.nil,_=>λu hu=>by cases hu
 | y :: xs,u :: us,.cons r t,f=>λu' hu=>by
  rw[P7,IU] at f;rcases FC.mp hu with rfl | hu
  ·rw[Ak r f.1];exact bW r rx f.1 fx
  ·exact g8 rx fx t f.2 u' hu
def Ox (x:V) (xs:δ):Bool:=xs.any λy=>LC y x
inductive Pj (K:m_) (neg:Bool) (x y:V) (H:Hp) (Q:VK):Prop
 | mk:∀p xs,y=.ref p->c_ K H p xs\/Gn K H p xs->gH x=true->xs.all gH=true->(Q (.bl (if neg then !Ox x xs else Ox x xs)) H)->Pj K neg x y H Q
theorem Al:HH X (compareOp .In) (Pj X.K τ):=by
 show 231
 cases ry;rcases hq with hq | hq
 ·obtain⟨g,r,pl,hz⟩:=I.list hq
  refine SeqAt.in_listAt ε4 ζ1 ξg ο5
  show 82
  exact q
 ·obtain⟨g,r,pl,hz⟩:=I.tuple hq
  refine SeqAt.in_tupleAt ε4 pl ξg ο5
  show 82
  exact q
theorem uC:HH X (compareOp .NotIn) (Pj X.K true):=by
 show 231
 cases ry;rcases hq with hq | hq
 ·obtain⟨g,r,pl,hz⟩:=I.list hq
  refine SeqAt.notIn_listAt ε4 ζ1 ξg ο5
  show 82
  exact q
 ·obtain⟨g,r,pl,hz⟩:=I.tuple hq
  refine SeqAt.notIn_tupleAt ε4 pl ξg ο5
  show 82
  exact q
inductive fg (K:m_) (xs:δ) (H:Hp) (Q:VK):Prop
 | mk:∀p ys,xs=[.ref p]->c_ K H p ys\/Gn K H p ys->Q (.int ys.length) H->fg K xs H Q
theorem aG:bI X χK (fg X.K):=by
 show 232;show 233
 show 10
 have hn:=kY;rcases hq with hq | hq
 ·obtain⟨j,r',pl,hz⟩:=I.list hq
  have g:=νa;exact UC ζ1 μu ΘG
 ·obtain⟨j,r',pl,hz⟩:=I.tuple hq
  have g:=νa;exact len_tuple pl μu ΘG
inductive fh (K:m_) (xs:δ) (H:Hp) (Q:VK):Prop
 | mk:∀p ys,xs=[.ref p]->c_ K H p ys\/Gn K H p ys->(∀l,H l=none->Q (.ref l) (upd H l (.lst ys)))->fh K xs H Q
theorem bK:bI X ψa (fh X.K):=by
 show 127;show 233
 show 10
 have fin:∀(g:ψ),j_ ys g->ys.length<=sizeLine->∀(h':Heap) (c':Nat),(∀b o',s.heap.get? b=some o'->h'.get? b=some o') →
   h'.get? s.heap.objs.size=some { cls:=.type "list",dict:=none,data:=.seq εc c',slots:=#[] } → EP X j σ Q ξX { s with heap:=h' }:=λg r' hz h' c' kp e =>
  #[.ref Ω,_,I.laid (t':=δS) kp Θ (show p_ Ϡ X.w _ h' _ γV from #[hz,g,c',r',e]),rfl,q _ ζW]
 rcases hq with hq | hq
 ·obtain⟨g,r',pl,hz⟩:=I.list hq
  have D:=νa;obtain⟨o,ho,hc,n,hd⟩:=ζ1;exact call_list_seq p γL ho hc hd ΦD μu
 ·obtain⟨g,r',pl,hz⟩:=I.tuple hq
  have D:=νa;obtain⟨o,ho,hc,n,hd⟩:=pl;exact call_list_seq p (.inr rfl) ho hc hd ΦD μu
def Pn (K:m_) (T:String) (x:V) (H:Hp):Prop:=match x with
 | .str _=>T = "str"
 | .int _=>T = "int"
 | .ref p=>(T = "list" ∧ ∃xs,c_ K H p xs) ∨ (T = "tuple" ∧ ∃o,K.lookup p=some o∧o.cls=.type "tuple" ∧ o.dict=none) ∨
   (T = "dict" ∧ ((∃kvs,H p=some ηw) ∨ ∃kvs,H p=some ιs)) ∨ (T = "set" ∧ ∃S n,H p=some (.set S n))
 | _=>False
theorem Am {pins:ϗ}{σ:St}{H:Hp}{T:ζ7}{v:μ} (I:χ) (r:k_ x v) (ty:Pn X.K T x H) :
  s.TypeIs v T/\∀a,v=.ref a->∃ob,s.heap.get? a=some ob/\ob.dict=none:=by
 cases x with
 | str z =>
  obtain⟨t,rfl⟩:=r
  cases (show T = "str" from ty)
  exact⟨typeIs_str s z t,λ_ e=>nomatch e⟩
 | int i =>
  obtain⟨t,rfl⟩:=r
  cases (show T = "int" from ty)
  exact⟨typeIs_int s i t,λ_ e=>nomatch e⟩
 | ref p =>
  cases r;rcases ty with ⟨rfl,xs,hq⟩ | ⟨rfl,o,hk,hc,hd⟩ | ⟨rfl,hk⟩ | ⟨rfl,S,n,hk⟩
  ·obtain⟨h,_,pl,_⟩:=I.list hq
   refine #[ώq,λa e=>?_]
   cases e;obtain⟨o,n,e,c,hd,_⟩:=pl;exact #[o,e,hd]
  ·refine #[#[o,I.kIn p o hk,hc],λa e=>?_]
   cases e;exact #[o,I.kIn _ o hk,hd]
  ·have z:∃o,s.heap.get? p=some o/\o.ExactDict:=by
    rcases hk with ⟨g,hk⟩ | ⟨g,hk⟩
    ·obtain⟨_,_,_,_,o,_,_,e,ex,_⟩:=I.hok p _ hk
     exact #[o,e,ex]
    ·obtain⟨_,_,_,_,o,_,_,e,ex,_⟩:=I.hok p _ hk
     exact #[o,e,ex]
   obtain⟨o,e,ex⟩:=z;refine ΨM
   cases e2;exact ώr
  ·obtain⟨o,_,_,_,e,ex,_⟩:=I.hok p _ hk
   refine ΨM
   cases e2;exact ώr
 | _=>exact False.elim ty
def Pi (K:m_) (T:ζ7) (r:ο0) (to:TE):TE:=λσ H Q=>to σ H λx H1=>Pn K T x H1/\r x [] H1 Q
def Sm (K:m_) (T:ζ7) (r:ο0) (to:TE) (t:TA):TE:=λσ H Q=>to σ H λx H1=>Pn K T x H1/\t σ H1 λxs H2=>r x xs H2 Q
variable {o e:Expr}{es:List Expr}{to:TE}{t:TA}{name:Str}{apos cpos:Pos}{T id:String}{r:V->List V->Hp->VK->Prop}
theorem An (pa:PlainAttrs T) (slot:ϐK) (hty:Ξh) (hm:On X id r) (ho:ωl)
  (hbase:attributeBase o name ρ οL=eval o X.env:=by rfl) (hline:ξJ=true:=by rfl):PE X (.Call ϊS [] [] cpos) (Pi X.K T r to):=by
 intro g s σ H Q I h;refine wpAny_Call_method0_late hbase hline ΘH;obtain⟨h1,h2⟩:=Am I1 r1 ty;exact #[T,id,pa,slot,hty,h1,h2,SB rfl (PySem.evalArgs_none (hm g s1 σ H1 x [] v [] Q I1 r1 .nil q1))]
theorem cF (pa:PlainAttrs T) (slot:ϐK) (hty:Ξh) (hm:On X id r) (ho:ωl) (ha:η2)
  (hbase:attributeBase o name ρ οL=eval o X.env:=by rfl)
  (hfew:((backTo cpos (starEach δm ρ)).all ψp && (backToKw cpos ρr).all χi
   && decide ((e :: es).length+([]:List Keyword).length+τD < 30))=true:=by rfl)
  (hline:ξJ=true:=by rfl) (hs:starEach δm X.env=(τ,eval e ρ) :: starEach es X.env:=by rfl) (hplain:(backTo cpos εU).any (·.1)=false:=by rfl) :
  PE X (.Call ϊS δm [] cpos) (Sm X.K T r to t):=by
 intro g s σ H Q I h;refine wpAny_Call_method_late hbase hfew hline rfl ΘH;obtain⟨h1,h2⟩:=Am I1 r1 ty;refine #[T,id,pa,slot,hty,h1,h2,?_]
 have hA:=ha cpos g s1 σ H1 _ I1 q1;rw[hs] at hA ⊢;refine SB (by show (false || (backTo cpos εU).any (·.1))=τ;rw[hplain] <;> rfl) (Calls.evalArgs_plain ?_)
 exact C_ hA λus s2 ⟨vs,H2,I2,r2,q2⟩=>hm g s2 σ H2 x vs v us Q I2 r1 r2 q2
end
def Sk (X:Cx) (id:ζ7) (r:ο0):Prop :=
 ∀(pins:ϗ) (s:ξ) (σ:St) (H:Hp) (x:V) (xs:δ) (v:μ) (us:ψ) (Q:VK),Inv X pins σ H s->k_ x v->j_ xs us->r x xs H Q →
  wpAny Ξ X.A Ωr δz X.xe s
theorem j_.one:∀{x:V}{us:ψ},j_ [x] us->∃u,us=[u]/\k_ x u
 | _,_,.cons r .nil=>ϑa
theorem j_.rep {xs:δ}{us:ψ} (h:j_ xs us):∀k:Nat,j_ (FL k xs).flatten (FL k us).flatten
 | 0=>.nil
 | k+1=>by
  rw[JZ,JZ,LL,LL];exact j_.append h (j_.rep h k)
theorem rM (its:ψ):∀(k:Nat) (acc:ψ),
  Rn χj acc.toArray (FL k εA)=(acc++(FL k its).flatten).toArray
 | 0,acc=>by simp
 | k+1,acc=>by
  have e:acc.toArray++εA=(acc++its).toArray:=by simp
  have e2:(acc++its)++(FL k its).flatten=acc++(FL (k+1) its).flatten:=by
   rw[JZ,LL,Qm]
  rw[<- e2,← rM its k (acc++its),← e,JZ,RI]
section
variable {X:Cx}{pins:List (Addr × Obj)}{σ:St}{H:Hp}{s:Shared}{l b:Addr}{xs ys zs:List V}
theorem Inv.lset {its':ψ}{f:Array Value->Array Value}{t':Nat} (I:χ) (hH:χr)
  (e:s.heap.get? l=some { cls:=.type "list",data:=.seq εA n }) (hf:f its.toArray=ψA) (hv:j_ ys its') (hz:όj) :
  Inv X pins σ (upd H l γV) { s with heap:=s.heap.update l ϐL,toks:=t' }:=by
 have q:=PySem.IsL.update e f;rw[hf] at q;refine I.write (x:=l) (e:=l) (by rw[hH];exact trivial) γL (λb' u hb hu=>(UF ύ ϐL (F5 hb)).trans hu) #[_,q] ?_
 exact #[hz,its',_,hv,q]
theorem Inv.lnew {t':Nat} (I:χ) (hv:j_ ys its) (hz:ys.length<=εt) :
  Inv X pins σ (upd H Ω γV) { s with heap:=s.heap.push { cls:=.type "list",data:=.seq its.toArray },toks:=t' } :=
 I.laid όQ Θ #[hz,its,0,hv,G4 _ rfl]
theorem Inv.fresh (I:χ):H s.heap.objs.size=none:=I.hok.fresh Θ
theorem Inv.lstM (I:χ) (hH:χr):xs.length≤sizeLine ∧ ∃(its:ψ) (n:Nat),j_ xs its∧xs.length=its.length∧s.heap.get? l=some { cls:=.type "list",data:=.seq εA n }:=by
 obtain⟨z,its,n,r,e⟩:=I.hok l _ hH;exact #[z,its,n,r,πP,e]
theorem BY (h:ε0):Rc n=false:=by
 unfold Rc;exact decide_eq_false γ
end
variable {α:Type}
section
variable {X:Cx}
inductive xt (x:V) (vs:δ) (H:Hp) (Q:VK):Prop
 | mk:∀l xs y,x=.ref l->vs=[y]->H l=some (.lst xs)->xs.length < sizeLine->Q .non (upd H l (.lst (xs++[y])))->xt x vs H Q
theorem bi:Sk X "list.append" xt:=by
 intro j s σ H x vs v us Q I rx rv h;obtain⟨l,xs,y,rfl,rfl,hH,hz,q⟩:=h
 show 10;obtain⟨u,rfl,ru⟩:=rv.one;show 234;refine call_meets F.slot_list_append οT F.entry_list_append (F.args_list_append_2 _ _) (PySem.list_append l εc n u ύc) #[e,?_]
 refine #[.non,_,I.lset (its':=g++[u]) hH e ϒ (r.append (.cons ru .nil)) ?_,rfl,q]
 rw[Hr,Uj];omega
inductive Ng (x y:V) (H:Hp) (Q:VK):Prop
 | mk:∀l b xs zs,x=.ref l->y=.ref b->H l=some (.lst xs)->H b=some (.lst zs)->xs.length+zs.length<=sizeLine->(∀p,H p=none->Q (.ref p) (upd H p (.lst (xs++zs))))->Ng x y H Q
theorem Ao:HH X ϐ2 Ng:=by
 intro D s σ H x y v u Q I rx ry h;obtain⟨l,b,xs,zs,rfl,rfl,hH,hB,hz,q⟩:=h
 show 10
 cases ry;obtain⟨z,j,n,r,hl,e⟩:=I.lstM hH;obtain⟨z2,g,n2,r2,E,e2⟩:=I.lstM hB;refine PySem.P.add_list e e2 ?_ (by rw[Gk,Gk];omega)
 have ea:j.toArray++εc=(j++g).toArray:=by simp
 rw[ea];exact #[.ref _,_,I.lnew (t':=δS) (r.append r2) (by rw[Hr];omega),rfl,q _ I.fresh]
inductive Ni (x y:V) (H:Hp) (Q:VK):Prop
 | mk:∀l k xs,x=.ref l->y=.int k->H l=some (.lst xs)->-(2 ^ 63)<=k->k < 2 ^ 63->xs.length * k.toNat<=sizeLine->(∀p,H p=none->Q (.ref p) (upd H p (.lst (FL k.toNat xs).flatten)))->Ni x y H Q
theorem Dq (xs:ε3) (k:Nat):(FL k xs).flatten.length=k * xs.length:=by
 induction k with
 | zero=>simp
 | succ k ih=>rw[JZ,LL,Hr,ih,Ue,Nat.add_comm]
theorem dJ:HH X ώl Ni:=by
 show 235;obtain⟨l,k,xs,rfl,rfl,hH,h1,h2,hz,q⟩:=h
 show 125;show 234
 have J:g.toArray.size * k.toNat<=sizeLine:=by rw[Gk,← hl];exact hz
 have G:¬ g.toArray.size * k.toNat > (2 ^ 63 - 1) / 8:=by
  have:(sizeLine:Nat)<=(2 ^ 63 - 1) / 8:=by decide
  omega
 have D:¬ (!Builtin.List.listFitsIndex k)=true:=by
  rw[fitsIndex_both h1 h2];exact Hk
 have j:¬ Rc (g.toArray.size * k.toNat)=true:=by
  rw[BY J];exact Hk
 have E:Rn χj #[] (FL (if g.toArray.isEmpty=true then 0 else k.toNat) εc)=(FL k.toNat g).flatten.toArray:=by
  have f0:∀m:Nat,Rn χj #[] (FL m εc)=(FL m g).flatten.toArray:=λm=>by
   have:=rM g m [];rw[List.nil_append] at this;show 11
  rw[f0]
  cases g with
  | nil=>simp
  | cons a r'=>rw[if_neg ϒ]
 refine wpAny_binaryOp_repeat_ref (T:="list") (U:="int") ζ οT (λs'=>typeIs_int s' k t) noFill_list_mul F.fills_int_mul ϐ7 repeat_list F.slot_int_index.lookup
  (call_meets ϐ7 (typeIs_int s k t) F.entry_int_rmul (F.args_int_rmul_2 _ _) (int___rmul___int_list k t l εc n)
   ⟨e,rfl,οT,call_meets F.slot_list_mul οT F.entry_list_mul (F.args_list_mul_2 _ _) (AutoListH.list___mul___list_int_3 l εc n k t D G j) ⟨e,?_⟩⟩)
 rw[E];exact #[.ref _,_,I.lnew (t':=δS) (r.rep k.toNat) (by rw[Dq,Kt];exact hz),rfl,q _ I.fresh]
end
section
variable {prog:Program}{w:World}{A:Around}{E:Value->Shared->Prop}{s:Shared}
end
section
variable {X:Cx}
end
end L2
namespace Att
open PySem PySem.W PySem.Calls PyProof.Rows
theorem px {P:Params}{h:Heap}:∀(ns:γq) (vs:ψ),WellAll P h vs ύd->IntsAre vs ns:=by
 intro ns
 induction ns with
 | nil =>
  intro vs w;rw[RE] at w
  cases w;exact .nil
 | cons n ns ih =>
  intro vs w;rw[Ie] at w
  cases w with
  | cons a b =>
   cases a;exact .cons _ _ (ih _ b)
theorem Ap {l:OpenLaw}{n:Nat} (hn:ψq) {P:Params}{h:Heap}{args:List WData}{vals:ψ}
  (hpre:l.row.toRowW.claim.pre args=true) (hwl:WellAll P h vals args) :
  ∃a vs ns,vals=[F_ a]∧args=[WData.list ύd]∧h.get? a=some { cls:=.type "list",data:=.seq δQ } ∧ IntsAre vs ns∧ns.length≤n:=by
 have j:WShape.hasAll [] args [.list .int]=true:=(pre_splitW hpre).1
 have hc:l.pre.holds [] { args:=args } = true:=(pre_splitW hpre).2;obtain⟨d,r,rfl,h1,h2⟩:=hasAllW_cons j;obtain rfl:=hasAllW_nil h2;obtain⟨xs,rfl,h3⟩:=hasW_list h1;obtain⟨ns,rfl⟩:=items_int h3
 have g:ns.length<=n:=by
  unfold OpenLaw.pre at hc
  have h4:(WTm.not (.lt (.lit οM) (.len (.arg 0)))).holds [] { args:=[.list (ns.map .int)] } = true:=by
   have h4:=(holds_andW hc).1;rw[hn] at h4;exact h4
  have h5:=condW_of h4 (w_not (w_lt w_lit (w_len_list (w_arg rfl))));rw[o_] at h5;refine Nat.le_of_not_lt λq=>?_
  have q':(n:Int) < ((ns.length:Nat):Int):=by omega
  first
   | (rw[decide_eq_true q'] at h5;exact absurd h5 (by decide))
   | (simp at h5;omega)
 cases hwl with
 | cons w1 w2 =>
  cases w2
  cases w1 with
  | list ho hall=>exact⟨_,_,ns,rfl,rfl,ho,px ns _ hall,g⟩
theorem Aq (l:OpenLaw) (args:List WData):l.row.toRowW.claim.post args νV args=true :=
 postW_of (r:=π7) (X:=ϐM)
  (show WShape.has [] νV .bool=true by first | rfl | decide | simp[WShape.has,WShape.arms,WShape.armsAll])
  (show (WTm.eq .res (.lit νV)).value [] { args:=args,res:=some νV,after:=args } = some (.bool ϐM) from w_eq_bool (w_res rfl) w_lit) rfl
theorem Jy {l:OpenLaw}{n:Nat}{q:Ϧ}{loose:ώ}{XP:υ0}{YP:χB}{d:DefRec}
  (hn:ψq) (hdf:χ2)
  (call:∀(w:Ϣ) (s₀ s₁:ξ) (mg mb:Ϝ) (fa:Addr) (o:Obj) (pm cd doc:μ) (a:Addr) (vs:ψ) (ns:γq),
   Ground q loose [] XP w s₀ mg mb s₁.heap->YP w θD →
   s₁.heap.get? fa=some o->o.data=.func (docDef d.name d.params d.body d.scope pm cd doc)->s₁.heap.CodeRec cd d.name->mg d.name=some ζK →
   s₁.heap.get? a=some { cls:=.type "list",data:=.seq δQ } → IntsAre vs ns→ns.length≤n→s₁.gens = #[] →
   codeAny (model l.prog w) θf τQ τ8 s₁) :
  WalkO q loose XP YP π7 d [] 100e2:=by
 intro w s₀ s₁ mg mb G Y fa o pm cd doc dV kV ho hd D hD E hg J Q as s O T H R;obtain rfl:dV=.none:=Dflts.none hD hdf;obtain rfl:kV=.none:=Dflts.noKw hD;obtain⟨a,vs,ns,rfl,rfl,h,g,j⟩:=Ap hn s H;refine enter_call (Nd (call w s₀ s₁ mg mb fa o pm cd doc a vs ns G Y ho (fd_plain hd) D E h g j hg) λr s' hq=>?_);obtain⟨rfl,h2,h3,h4⟩:=hq;exact⟨.inl ⟨.bool true,.bool true,[],rfl,λ_=>rfl,.bool true,Aq l _,λ_=>⟨OP.nil,λ_ hm=>(nomatch hm)⟩⟩,h2,h3,h4⟩
section
variable {prog:Program}{w:World}{A:Around}{E:Value->Shared->Prop}{s:Shared}{K:Frag}
end
end Att
namespace L2
open PySem PySem.Spec PyProof.Rows
theorem rN:∀{vs:ψ}{ns:γq},IntsAre vs ns->j_ δB vs
 | _,_,.nil=>.nil
 | _,_,.cons n t h=>.cons ιh (rN h)
abbrev UQ {K:m_}{h:Heap} (_:K.In h):m_:=K
end L2
namespace L2
open PySem PySem.Spec PyProof.Rows
def aC (s:Stmt) (j:Nat):Stmt:=match s with
 | .ClassDef _ _ _ body _ _ _ _ _ _ _=>body.getD j ϋV
 | _=>.Pass ⟨0,0,0,0⟩
def bn (s:Stmt):Arguments:=match s with
 | .FunctionDef _ a _ _ _ _ _ _ _ _=>a
 | _=>{ posonlyargs:=[],args:=[],vararg:=none,kwonlyargs:=[],kw_defaults:=[],kwarg:=none,defaults:=[] }
def aZ (s:Stmt):List Stmt:=match s with
 | .FunctionDef _ _ b _ _ _ _ _ _ _=>b
 | _=>[]
def ah (s:Stmt):Scope:=match s with
 | .FunctionDef _ _ _ _ _ _ sc _ _ _=>sc
 | _=>{ kind:=.function,names:=[],isGenerator:=τ,isCoroutine:=false }
abbrev HV:KE:=λ_ _ _ _ _ _=>False
abbrev E0:XK:=λ_ _ _=>False
theorem aj {X:Cx}:fH HV X E0:=λ_ _ _ _ _ _ _ h=>h.elim
structure KH (K:m_) (x qual:Str) (st:Stmt) (f:Addr) (fd:γp):Prop where
 ex:∃(oc:μ) (od:γG) (kV doc pm:μ) (an:γG) (cdv ct:μ) (osl:εT),
  fd=IF x qual θA δq δg .none kV doc pm an cdv ct/\K.lookup f=some υu/\KQ K cdv qual=true
 kp:Jt K γd=true
variable {x qual:Str}{st:Stmt}{N ps:List Str}
section
variable {P:Program}{w:World}{K:m_}{mg:Str->Option Value}{base:Heap}
theorem KH.ok {f:Addr}{fd:γp}{k:Nat}{sp:Sp} (F:χl) (S:η4) (len:θT)
  (hbody:∀(cdv:μ) (A:Ϟ) (outer:γ4) (s:ξ) (H:Hp) (vs:δ) (Q:VK) (E:XK),Fv k μi->sp vs H Q E →
   ∃t,Ht (Hu HV P w K mg base N qual δg f cdv A Δ s H E).nox δq t/\t { nx:=λ_ H'=>Q .non H',rt:=Q } 15e4 H):F7 P w K mg base HV (k+1) f fd ps sp:=by
 obtain⟨oc,od,kV,D,pm,an,cdv,ct,osl,rfl,lk,g⟩:=F.ex;refine za lk g S len λA outer s H vs Q E hr j=>?_;obtain⟨t,h,q⟩:=hbody cdv A Δ s H vs Q E hr j;exact χX
theorem KH.binds {f:Addr}{fd:γp} (F:χl)
  (h:∀(kV doc pm:μ) (an:γG) (cdv ct:μ) (us:ψ),ιr=ps.length->bindArgs ρB ηy=pure ηE):Gj K fd ps []:=by
 obtain⟨oc,od,kV,doc,pm,an,cdv,ct,osl,rfl,lk,g⟩:=F.ex;exact .all (h kV doc pm an cdv ct)
theorem Ar {f:Addr}{oc:μ}{od an:γG}{osl:εT}{kV doc pm cdv ct:μ} (l:Δp)
  (c:οz) (k:η0):KH K x qual st f 83e3:=#[#[oc,od,kV,doc,pm,an,cdv,ct,osl,rfl,l,c],k]
end
theorem dD {A:Ϟ}{k:Nat} (hr:ιE):A.units+1 < cLine:=KM (Nat.add_le_add_left (by decide:1<=64) _) hr.units
theorem As {n:Nat} (h:n<=1000):n < sizeLine:=KM h ζ
section
variable {X:Cx}
theorem pv (i:Nat) {x:Str}{pos:Pos} (hN:X.N[i]?=some x:=by rfl) (hv:Ol ρg x:=by first | exact Or.inl rfl | exact Or.inr ε | exact Or.inr δD) (hd:εQ=false:=by decide)
  (hcd:Ωo=false:=by decide):PE X μ9 (Mr i):=Ek hN hv hd hcd
end
variable {A B:Prop}
theorem IC (h:B):if false=true then A else B:=by
 show 119;exact h
theorem HS (h:A):if true=true then A else B:=by
 show 25;exact h
theorem b_ {c:Prop} [Decidable c] (h1:c->A) (h2:¬ c->B):if c then A else B:=by
 by_cases h:c
 ·rw[if_pos h]
  exact h1 h
 ·rw[if_neg h]
  exact h2 h
def a_ (H H':Hp):Prop:=∀b o,H b=some o->H' b=some o
theorem a_.refl (H:Hp):a_ H H:=λ_ _ h=>h
variable {H:Hp}
theorem a_.trans {H1 H2:Hp} (a:a_ H H1) (b:ωO):a_ H H2:=λc o h=>b c o (a c o h)
theorem a_.free {H':Hp} (e:γN) {l:Addr} (h:H' l=R9):H l=R9:=by
 cases q:H l with
 | none=>rfl
 | some o =>
  rw[e l o q] at h
  cases h
theorem a_.seq {K:m_}{H':Hp}{a:Addr}{xs:δ} (e:γN) (h:c_ K H a xs):c_ K H' a xs:=by
 rcases h with (h | ⟨o,h⟩) | h
 ·exact .inl (.inl (e _ _ h))
 ·exact .inl (.inr #[o,e _ _ h])
 ·exact .inr h
section
variable {X:Cx}{st:Stmt}{rest:List Stmt}{t:TS}{G:TS->Prop}{pos:Pos}
theorem xx {b:ζw} (k:let Y:=X;∃t,Ht Y b t/\G t):∃t,Ht X b t/\G t:=k
theorem xc (h:ιq) (k:let u:=t;∃t',Ht X rest t'/\G (Ms u t')):∃t',Ht X π4 t'/\G t' :=
 let ⟨_,h',g⟩:=k
 ύO
theorem xl (h:ιq) (k:let u:=t;G u):∃t',Ht X [st] t'/\G t':=#[_,gR h,k]
theorem xq (k:∃t,PS X st t/\(let u:=t;∃t',Ht X rest t'/\G (Ms u t'))):∃t',Ht X π4 t'/\G t' :=
 let ⟨_,h,_,h',g⟩:=k
 ύO
theorem x1 (k:∃t,PS X st t/\(let u:=t;G u)):∃t',Ht X [st] t'/\G t' :=
 let ⟨_,h,g⟩:=k
 #[_,gR h,g]
theorem xi {c:Expr}{a b:ζw}{tc:TT} (hc:πq) (k:∃t,Ht X a t/\∃u,Ht X b u/\G (Nx tc t u)):∃t,PS X ϐ0 t/\G t :=
 let ⟨_,ha,_,hb,g⟩:=k
 #[_,uo hc ha hb,g]
theorem xf {tg iter:Expr}{body:ζw}{wi:TI}{g:TG} (hp:μj) (hc:γi) (hi:η3) (hg:πr) (k:∃tb,Ht X body tb/\G ψx)
  (hs:∀x,foldedSetIterable iter ρ x=pure x:=by intro _;rfl):∃t,PS X υi t/\G t :=
 let ⟨_,hb,q⟩:=k
 #[_,Ac hp hc hi hg hb hs,q]
theorem xw {c:Expr}{body:ζw}{tc:TT} (hp:μj) (hc:πq) (k:∃tb,Ht X body tb/\G (zW tc tb)):∃t,PS X ϋv t/\G t :=
 let ⟨_,hb,q⟩:=k
 #[_,BS hp hc hb,q]
end
variable {f:FuncData}
theorem OU (us:List Value) (hl:us.length=1) (h:∀x0,bindArgs f ⟨[x0],[]⟩=pure (ps.zip [x0])):bindArgs f ⟨us,[]⟩=pure (ps.zip us):=by rcases us with _ | ⟨_,_ | ⟨_,_⟩⟩ <;> first | exact h .. | cases hl
theorem Pc (us:List Value) (hl:us.length=2) (h:∀x0 x1,bindArgs f ⟨[x0,x1],[]⟩=pure (ps.zip [x0,x1])):bindArgs f ⟨us,[]⟩=pure (ps.zip us):=by rcases us with _ | ⟨_,_ | ⟨_,_ | ⟨_,_⟩⟩⟩ <;> first | exact h .. | cases hl
theorem Pa (us:List Value) (hl:us.length=3) (h:∀x0 x1 x2,bindArgs f ⟨[x0,x1,x2],[]⟩=pure (ps.zip [x0,x1,x2])):bindArgs f ⟨us,[]⟩=pure (ps.zip us):=by rcases us with _ | ⟨_,_ | ⟨_,_ | ⟨_,_ | ⟨_,_⟩⟩⟩⟩ <;> first | exact h .. | cases hl
theorem QC (us:List Value) (hl:us.length=4) (h:∀x0 x1 x2 x3,bindArgs f ⟨[x0,x1,x2,x3],[]⟩=pure (ps.zip [x0,x1,x2,x3])):bindArgs f ⟨us,[]⟩=pure (ps.zip us):=by rcases us with _ | ⟨_,_ | ⟨_,_ | ⟨_,_ | ⟨_,_ | ⟨_,_⟩⟩⟩⟩⟩ <;> first | exact h .. | cases hl
theorem QH (us:List Value) (hl:us.length=5) (h:∀x0 x1 x2 x3 x4,bindArgs f ⟨[x0,x1,x2,x3,x4],[]⟩=pure (ps.zip [x0,x1,x2,x3,x4])):bindArgs f ⟨us,[]⟩=pure (ps.zip us):=by rcases us with _ | ⟨_,_ | ⟨_,_ | ⟨_,_ | ⟨_,_ | ⟨_,_ | ⟨_,_⟩⟩⟩⟩⟩⟩ <;> first | exact h .. | cases hl
theorem Se (us:List Value) (hl:us.length=6) (h:∀x0 x1 x2 x3 x4 x5,bindArgs f ⟨[x0,x1,x2,x3,x4,x5],[]⟩=pure (ps.zip [x0,x1,x2,x3,x4,x5])):bindArgs f ⟨us,[]⟩=pure (ps.zip us):=by rcases us with _ | ⟨_,_ | ⟨_,_ | ⟨_,_ | ⟨_,_ | ⟨_,_ | ⟨_,_ | ⟨_,_⟩⟩⟩⟩⟩⟩⟩ <;> first | exact h .. | cases hl
inductive E1 {T0:Type} (p:T0->Prop):Prop
 | mk:∀x0,p x0->E1 p
inductive E2 {T0 T1:Type} (p:T0->T1->Prop):Prop
 | mk:∀x0 x1,p x0 x1->E2 p
inductive E3 {T0 T1 T2:Type} (p:T0->T1->T2->Prop):Prop
 | mk:∀x0 x1 x2,p x0 x1 x2->E3 p
inductive E4 {T0 T1 T2 T3:Type} (p:T0->T1->T2->T3->Prop):Prop
 | mk:∀x0 x1 x2 x3,p x0 x1 x2 x3->E4 p
inductive E6 {T0 T1 T2 T3 T4 T5:Type} (p:T0->T1->T2->T3->T4->T5->Prop):Prop
 | mk:∀x0 x1 x2 x3 x4 x5,p x0 x1 x2 x3 x4 x5->E6 p
inductive A2 (p0 p1:Prop):Prop
 | mk:p0->p1->A2 p0 p1
inductive A3 (p0 p1 p2:Prop):Prop
 | mk:p0->p1->p2->A3 p0 p1 p2
inductive A4 (p0 p1 p2 p3:Prop):Prop
 | mk:p0->p1->p2->p3->A4 p0 p1 p2 p3
inductive A5 (p0 p1 p2 p3 p4:Prop):Prop
 | mk:p0->p1->p2->p3->p4->A5 p0 p1 p2 p3 p4
inductive A6 (p0 p1 p2 p3 p4 p5:Prop):Prop
 | mk:p0->p1->p2->p3->p4->p5->A6 p0 p1 p2 p3 p4 p5
inductive A8 (p0 p1 p2 p3 p4 p5 p6 p7:Prop):Prop
 | mk:p0->p1->p2->p3->p4->p5->p6->p7->A8 p0 p1 p2 p3 p4 p5 p6 p7
inductive Q2 (p0 p1 p2 p3 p4 p5 p6 p7 p8 p9:Prop):Prop
 | mk:p0->p1->p2->p3->p4->p5->p6->p7->p8->p9->Q2 p0 p1 p2 p3 p4 p5 p6 p7 p8 p9
inductive A13 (p0 p1 p2 p3 p4 p5 p6 p7 p8 p9 p10 p11 p12:Prop):Prop
 | mk:p0->p1->p2->p3->p4->p5->p6->p7->p8->p9->p10->p11->p12->A13 p0 p1 p2 p3 p4 p5 p6 p7 p8 p9 p10 p11 p12
def Lu (x q:Str) (st:Stmt) (ps:ώ):Prop:=∀(kV doc pm:μ) (an:γG) (cdv ct:μ) (us:ψ),ιr=ps.length->bindArgs ΘO ηy=pure ηE
def fd (K:m_) (f:Addr):FuncData:=((K.lookup f).bind λo=>match o.data with | .func d=>some d | _=>none).getD (IF "" "" (bn (.Pass ⟨0,0,0,0⟩)) [] (ah (.Pass ⟨0,0,0,0⟩)) .none .none .none .none none .none .none)
theorem py {K:m_}{f:Addr}{oc:μ}{od:γG}{d:γp}{osl:εT} (l:K.lookup f=some #[oc,od,.func d,osl]):fd K f=d:=by
 unfold fd;rw[l];rfl
structure GD (K:m_) (mg:Ϝ) (x:Str) (st:Stmt) (f:Addr) (ps:ώ):Prop where
 m:mg x=some γd
 F:KH K x x st f δb
 b:Gj K δb ps []
 k:Jt K γd=true
structure MD (K:m_) (C:Addr) (x q:Str) (st:Stmt) (f:Addr) (ps:ώ):Prop where
 me:Hw K C x f
 F:KH K x q st f δb
 b:Gj K δb ps []
 k:Jt K γd=true
section
variable {K:m_}{h:Heap}{mg:Str->Option Value}{x q:Str}{st:Stmt}{f C:Addr}{ps:List Str}{oc:Value}{od an:Option Addr}{osl:Array (Option Value)}{kV doc pm cdv ct:Value}
theorem NW (X:K.In h) (G:όR) (a:ΦO) (l:K.lookup f=some #[oc,od,.func (IF x x θA δq δg .none kV doc pm an cdv ct),osl]) (c:KQ K cdv x=true) (k:η0) (hb:Lu x x st ps):GD K mg x st f ps:=by
 have F:KH K x x st f 12e5:=by rw[py l];exact Ar l c k
 exact #[Sb X G a,F,F.binds hb,k]
theorem NJ (a:τN) (i:οx) (l:K.lookup f=some #[oc,od,.func ΘO,osl]) (c:ϐ8) (k:η0) (hb:Lu x q st ps):MD K C x q st f ps:=by
 have F:KH K x q st f 12e5:=by rw[py l];exact Ar l c k
 exact #[ψN,F,F.binds hb,k]
end
abbrev x_ (P:Ϧ) (w:Ϣ) (K:m_) (mg:Ϝ) (base:Heap) (k:Nat) (f:Addr) (ps:ώ) (sp:Sp):Prop:=F7 P w K mg base HV k f δb ps sp
theorem Fv.u {j k:Nat}{A:Ϟ} (r:ιE) (h:j<=k:=by decide):Fv j A:=r.mono h
theorem y_ {P:ώ}{sc:γ5} (h1:sc.kind=.function:=by rfl) (h2:sc.isCoroutine=false:=by rfl) (h3:sc.isGenerator=false:=by rfl) (h4:N.Nodup:=by decide +kernel) (h5:N.take P.length=P:=by rfl) (h6:∀x∈P,sc.names.lookup x=some .local\/sc.names.lookup x=some .cell:=by decide +kernel) (h7:∀y∈sc.names,y.2≠.free:=by decide +kernel):al N P sc:=#[h1,h2,h3,h4,h5,h6,h7]
section
variable {P:Program}{w:World}{K:m_}{mg:Str->Option Value}{base:Heap}
theorem KH.okA {f:Addr}{fd:γp}{k:Nat}{sp:Sp} (F:χl) (S:η4)
  (hbody:∀(cdv:μ) (A:Ϟ) (outer:γ4) (s:ξ) (H:Hp) (vs:δ) (Q:VK) (E:XK),Fv k μi->sp vs H Q E →
   ∃t,Ht (Hu HV P w K mg base N qual δg f cdv A Δ s H E).nox δq t/\t { nx:=λ_ H'=>Q .non H',rt:=Q } 15e4 H)
  (len:∀vs H Q E,sp vs H Q E->vs.length=ps.length:=by intro vs H Q E h;first | (cases h;subst_vars;rfl) | ((repeat (obtain⟨_,h⟩:=h));subst_vars;rfl)):F7 P w K mg base HV (k+1) f fd ps sp:=F.ok S len hbody
end
end L2
namespace GF
theorem Jz (a b:Nat):2 * η9=(2 * a) ^^^ (2 * b):=by
 apply M6
 intro i;rw[Ku]
 cases i with
 | zero=>simp[Qt]
 | succ i=>simp[L6]
theorem m5 (a b:Nat):η9 / 2=(a / 2) ^^^ 27e7:=by
 apply M6
 intro i;rw[Ku,← L6,← L6,← L6,Ku]
theorem m7 (a b:Nat):η9 % 2=(a % 2+b % 2) % 2:=by
 have h:=Ku a b 0;simp only[Qt] at h
 rcases Lm a with ha | ha <;> rcases Lm b with hb | hb <;>
  rcases Lm (a ^^^ b) with hc | hc <;> simp_all
theorem Ki (a b c d:Nat):η9 ^^^ (c ^^^ d)=(a ^^^ c) ^^^ (b ^^^ d):=by
 rw[KO,KO,← KO b c d,Tw b c,KO c b d]
def GQ (r w x:Nat):Nat:=if 2 ^ w<=2 * x then (2 * x) ^^^ r else 2 * x
structure F4 (r w:Nat):Prop where
 lo:2 ^ w<=r
 hi:r < 2 ^ (w+1)
theorem jp {w x:Nat} (h:ϑp):(2 ^ w<=x) ↔ x.testBit w=true:=by
 constructor
 ·intro h1
  rw[Nat.testBit_eq_decide_div_mod_eq]
  have:x / 2 ^ w=1:=by
   apply Nat.div_eq_of_lt_le
   ·omega
   ·rw[J_] at h;omega
  show 62
 ·intro h1
  exact Nat.ge_two_pow_of_testBit h1
theorem At {w x:Nat} (h:ϑp) (hb:x.testBit w=τ):x < 2 ^ w:=by
 refine Nat.lt_of_not_le λq=>?_;rw[(jp h).mp q] at hb
 cases hb
variable {r w:Nat}
theorem Gz (R:γ7) {x:Nat} (hx:δF):GQ r w x < 2 ^ w:=by
 unfold GQ
 show 236
 split
 ·rename_i h
  refine At (L4 h2 R.hi) ?_;rw[Ku,(jp h2).mp h,(jp R.hi).mp R.lo];rfl
 ·omega
theorem uD {x:Nat} (hx:δF):GQ r w x=(2 * x) ^^^ (bif (2 * x).testBit w then r else 0):=by
 show 236
 unfold GQ
 split
 ·rename_i h
  rw[(jp h2).mp h];rfl
 ·rename_i h
  cases e:(2 * x).testBit w
  ·simp
  ·exact absurd ((jp h2).mpr e) h
theorem xu (R:γ7) {a b:Nat} (ha:νb) (hb:ωo):GQ r w η9=GQ r w a ^^^ GQ r w b:=by
 rw[uD (L4 ha hb),uD ha,uD hb,Jz,Ku,Ki]
 congr 1
 cases (2 * a).testBit w <;> cases (2 * b).testBit w <;> simp
theorem g9:GQ r w 0=0:=by
 unfold GQ
 have:0 < 2 ^ w:=KJ w;show 63
def tm (r w a b:Nat):Nat:=if b=0 then 0 else υj ^^^ tm r w ψZ ζD
termination_by b
decreasing_by omega
theorem n_ (a:Nat):tm r w a 0=0:=by rw[tm];simp
theorem FI (a b:Nat):tm r w a b=υj ^^^ tm r w ψZ 27e7:=by
 show 64
 ·subst h
  rw[n_]
  simp[n_]
 ·rw[tm];simp[h]
theorem D_ (R:γ7):∀{b a:Nat},a < 2 ^ w->tm r w a b < 2 ^ w:=by
 intro b
 induction b using LM with
 | _ b ih =>
  intro a ha
  show 64
  ·subst h;rw[n_];exact KJ w
  ·rw[FI]
   refine L4 ?_ (ih ζD γ πu)
   split
   ·exact ha
   ·exact KJ w
theorem dL (R:γ7):∀{b a c:Nat},a < 2 ^ w->c < 2 ^ w->tm r w (a ^^^ c) b=tm r w a b ^^^ tm r w c b:=by
 intro b
 induction b using LM with
 | _ b ih =>
  intro a c ha hc
  show 64
  ·show 128
  ·rw[FI,FI a,FI c,xu R ha hc,ih ζD γ πu (Gz R hc),Ki]
   congr 1
   split <;> simp
theorem fE (R:γ7):∀{b a:Nat},a < 2 ^ w->tm r w ψZ b=GQ r w (tm r w a b):=by
 intro b
 induction b using LM with
 | _ b ih =>
  intro a ha
  show 64
  ·subst h;simp[n_,g9]
  ·have hz:υj < 2 ^ w:=by
    split
    ·exact ha
    ·exact KJ w
   rw[FI,FI a,xu R hz (D_ R πu),ih ζD γ πu]
   congr 1
   split <;> simp[g9]
theorem F1:∀{b c a:Nat},tm r w a νc=tm r w a b ^^^ tm r w a c:=by
 intro b
 induction b using LM with
 | _ b ih =>
  intro c a
  show 64
  ·show 128
  ·rw[FI a νc,FI a b,FI a c,m5,ih ζD γ,Ki]
   congr 1
   rw[m7];rcases Lm b with hb | hb <;> rcases Lm c with hc | hc <;> simp[hb,hc]
abbrev ev (r w x:Nat):Nat:=tm r w 1 x
theorem Dr (hw':δM):GQ r w 1=2:=by
 unfold GQ
 have:2 ^ 2<=2 ^ w:=Od ζ hw'
 show 63
theorem G2 (hw:δM):1 < 2 ^ w:=by
 have:2 ^ 2<=2 ^ w:=Od ζ hw
 omega
theorem hE (a x:Nat) (R:γ7) (ha:νb):tm r w a x=(if x % 2=1 then a else 0) ^^^ GQ r w (tm r w a θg):=by
 rw[FI,fE R ha]
theorem Ds (R:γ7) (hw:δM):∀{k x:Nat},k<=w->x < 2 ^ k->ev r w x=x:=by
 intro k
 induction k with
 | zero =>
  intro x _ hx
  have:x=0:=by simpa using hx
  show 16;exact n_ 1
 | succ k ih =>
  intro x hk hx
  have g:x / 2 < 2 ^ k:=by rw[J_] at hx;omega
  have j:2 ^ k<=2 ^ (w - 1):=Od ζ γ
  have s:2 * 2 ^ (w - 1)=2 ^ w:=by rw[Kt,← J_];congr 1;omega
  have h1:ev r w θg=x / 2:=ih γ g
  unfold ev at h1 ⊢
  have hd:GQ r w θg=2 * 37e8:=by
   unfold GQ;show 63
  rw[hE 1 x R (G2 hw),h1,hd];rcases Lm x with h | h
  ·rw[if_neg γ,Jr];omega
  ·rw[if_pos h]
   apply M6
   intro i;rw[Ku]
   cases i with
   | zero=>simp[Qt,h]
   | succ i=>simp[L6]
theorem GN (R:γ7) (hw:δM) {x:Nat} (hx:δF):tm r w 1 x=x:=Ds R hw (B_ w) hx
theorem Gy (a:Nat):tm r w a 1=a:=by
 rw[FI];simp[n_]
theorem Et (a:Nat):tm r w a 2=GQ r w a:=by
 rw[FI];simp[Gy]
theorem FS (R:γ7) (hw:δM) {a b:Nat} (ha:νb) (hb:ωo):tm r w a b=tm r w b a:=by
 have g:∀x y:Nat,tm r w (ev r w x) y=tm r w ω0 x:=by
  intro x
  induction x using LM with
  | _ x ih =>
   intro y
   by_cases h:x=0
   ·subst h
    show tm r w (tm r w 1 0) y=tm r w ω0 0
    rw[n_,n_]
    have:∀y,tm r w 0 y=0:=by
     intro y
     induction y using LM with
     | _ y ihy =>
      show 129
      ·show 130
      ·show 131
    exact this y
   ·have e1:ev r w x=ϊm ^^^ GQ r w (ev r w θg):=hE 1 x R (G2 hw)
    have l1:ev r w θg < 2 ^ w:=D_ R (G2 hw)
    have l2:ϊm < 2 ^ w:=by
     split
     ·exact G2 hw
     ·exact KJ w
    have ly:ev r w y < 2 ^ w:=D_ R (G2 hw);rw[e1,dL R l2 (Gz R l1),fE R l1,ih θg γ y,hE ω0 x R ly]
    congr 1
    split
    ·rfl
    ·have:∀y,tm r w 0 y=0:=by
      intro y
      induction y using LM with
      | _ y ihy =>
       show 129
       ·show 130
       ·show 131
     exact this y
 have h:=g a b;rw[show ev r w a=a from GN R hw ha,show ev r w b=b from GN R hw hb] at h;exact h
theorem FN (y:Nat):tm r w 0 y=0:=by
 induction y using LM with
 | _ y ihy =>
  show 129
  ·show 130
  ·show 131
theorem uE (R:γ7) (hw:δM) {a z:Nat} (ha:νb) (hz:z < 2 ^ w):tm r w a (GQ r w z)=GQ r w (tm r w a z):=by
 rw[FS R hw ha (Gz R hz),fE R hz,FS R hw hz ha]
theorem FE (R:γ7) (hw:δM) {a b:Nat} (ha:νb) (hb:ωo):∀c,tm r w (tm r w a b) c=tm r w a (tm r w b c):=by
 intro c
 induction c using LM with
 | _ c ih =>
  by_cases h:c=0
  ·show 128
  ·rw[hE _ c R (D_ R ha),hE b c R hb,F1,uE R hw ha (D_ R hb),ih (c / 2) γ]
   congr 1
   split
   ·rfl
   ·exact(n_ a).symm
end GF
namespace GF
theorem wE (a b:Nat):ωp / 2=(a / 2) &&& 27e7:=by
 apply M6
 intro i;rw[R8,← L6,← L6,← L6,R8]
theorem wF (a b:Nat):ωp % 2=(a % 2) * (b % 2):=by
 have h:=R8 a b 0;simp only[Qt] at h
 rcases Lm a with ha | ha <;> rcases Lm b with hb | hb <;>
  rcases Lm (a &&& b) with hc | hc <;> simp_all
theorem Jw:∀(a b:Nat),η9+2 * ωp=a+b:=by
 intro a
 induction a using LM with
 | _ a ih =>
  intro b
  by_cases h:a=0
  ·subst h;simp
  ·have h1:=ih (a / 2) γ ζD
   have e1:=m5 a b
   have e2:=wE a b
   have m1:=m7 a b
   have m2:=wF a b;rcases Lm a with ha | ha <;> rcases Lm b with hb | hb <;> rw[ha,hb] at m1 m2 <;> omega
variable {r w:Nat}
end GF
namespace GF
def it (r w:Nat):Nat->Nat
 | 0=>1
 | n+1=>GQ r w ιl
structure Good (r w:Nat):Prop where
 rule:F4 r w
 w4:4<=w
 w8:w<=8
 odd:r % 2=1
 lo16:16<=r
 hi511:r<=511
 back:it r w (2 ^ w - 1)=1
 first:∀n,1<=n->n < 2 ^ w - 1->it r w n≠1
theorem Good.w1 {r w:Nat} (g:δJ):1 < w:=GU ζ g.w4
theorem Good.top16 {r w:Nat} (g:δJ):16<=2 ^ w:=Od (n:=2) ζ g.w4
theorem Good.top256 {r w:Nat} (g:δJ):2 ^ w<=256:=Od (n:=2) ζ g.w8
theorem Good.last1 {r w:Nat} (g:δJ):1<=2 ^ w - 1:=by
 have:=νp;omega
theorem Ke {r w:Nat} (R:γ7) (hw:δM):∀n,it r w n < 2 ^ w
 | 0=>G2 hw
 | n+1=>Gz R (Ke R hw n)
def fI (r w:Nat):Nat->Nat->Nat->Option Nat
 | 0,_,_=>none
 | fuel+1,x,n=>if x=1 then some n else fI r w fuel (GQ r w x) (n+1)
theorem qI {r w:Nat}:∀{fuel n m:Nat},fI r w fuel ιl n=some m->it r w m=1/\∀k,n<=k->k < m->it r w k≠1:=by
 intro fuel
 induction fuel with
 | zero=>intro n m h;cases h
 | succ fuel ih =>
  intro n m h;unfold fI at h
  split at h
  ·rename_i e
   cases h;exact #[e,λk h1 h2=>absurd h2 γ]
  ·rename_i e
   obtain⟨h1,h2⟩:=ih (n:=n+1) h;refine #[h1,λk a b=>?_]
   by_cases q:k=n
   ·subst q;exact e
   ·exact h2 k γ b
def HM:List Nat:=[19,25,37,41,47,55,59,61,67,91,97,103,109,115,131,137,143,145,157,167,171,185,191,193,
 203,211,213,229,239,241,247,253,285,299,301,333,351,355,357,361,369,391,397,425,451,463,487,501]
def O9 (r:Nat):Bool:=decide (16<=r) && decide (r<=511) && decide (r % 2=1) && decide (4<=δU) && decide (r.log2<=8) && decide (2 ^ r.log2<=r) && decide (r < 2 ^ (r.log2+1)) &&
 decide (fI r δU 600 2 1=some χL)
theorem Au:HM.all O9=true:=by decide +kernel
theorem wG {r:Nat} (h:O9 r=true):Good r r.log2:=by
 unfold O9 at h;simp only[IU,decide_eq_true_eq] at h;obtain⟨⟨⟨⟨⟨⟨⟨h1,h2⟩,h3⟩,h4⟩,h5⟩,h6⟩,h7⟩,h8⟩:=h
 have e:it r δU 1=2:=Dr γ
 have h9:fI r δU 600 (it r δU 1) 1=some 102e9:=by rw[e];exact h8
 obtain⟨b1,b2⟩:=qI h9;exact #[#[h6,h7],h4,h5,h3,h1,h2,b1,b2]
def GM (c:Int):Nat:=HM.getD (c % 48).toNat 19
theorem wH (c:Int):Good (GM c) (GM c).log2:=by
 apply wG
 have h:=IM.mp Au
 apply h
 unfold GM
 show 237
 show 238
 show 239
theorem K0 {r w n:Nat} (R:γ7) (hn:n<=w):(2 ^ n * 2<=r) ↔ n < w:=by
 constructor
 ·intro h
  refine Classical.byContradiction λz=>?_
  have:n=w:=by omega
  show 16
  have:=R.hi;rw[J_] at this;omega
 ·intro h
  have h1:2 ^ (n+1)<=2 ^ w:=Od ζ h
  rw[J_] at h1;exact FG h1 R.lo
end GF
namespace GF
def Mj (r w:Nat):Nat->Nat->Nat->Nat
 | 0,_,acc=>acc
 | fuel+1,x,acc=>Mj r w fuel (GQ r w x) (acc ||| 2 ^ x)
theorem BZ {r w:Nat}:∀{fuel n acc b:Nat},(Mj r w fuel ιl acc).testBit b=true->acc.testBit b=true\/∃k,it r w k=b:=by
 intro fuel
 induction fuel with
 | zero=>intro n acc b h;exact .inl h
 | succ fuel ih =>
  intro n acc b h;rcases ih (n:=n+1) h with q | q
  ·rw[Nat.testBit_or,Nat.testBit_two_pow,Nb] at q
   rcases q with q | q
   ·show 76
   ·exact .inr #[n,of_decide_eq_true q]
  ·exact .inr q
theorem zd:HM.all (λr=>decide (Mj r δU χL 1 0=2 ^ 2 ^ r.log2 - 2))=true:=by decide +kernel
theorem Du {N b:Nat} (h0:0 < b) (h:b < N):(2 ^ N - 2).testBit b=true:=by
 obtain⟨M,rfl⟩:∃M,N=M+1:=#[N - 1,by omega]
 obtain⟨c,rfl⟩:∃c,b=c+1:=#[b - 1,by omega]
 have e:(2 ^ (M+1) - 2) / 2=2 ^ M - 1:=by rw[J_];omega
 rw[L6,e,Nat.testBit_two_pow_sub_one];exact decide_eq_true γ
structure Gg (r w:Nat):Prop extends Good r w where
 all:∀x,0 < x->x < 2 ^ w->∃n,it r w n=x
theorem JE (c:Int):Gg (GM c) (GM c).log2:=by
 refine #[wH c,λx h0 h=>?_]
 have hm:GM c∈HM:=by
  unfold GM
  show 237
  show 238
  show 239
 have q:=of_decide_eq_true (IM.mp zd _ hm)
 have b:=Du h0 h;rw[<- q] at b;rcases BZ (n:=0) b with z | z
 ·rw[Nat.zero_testBit] at z;cases z
 ·exact z
variable {r w:Nat}
theorem wI (g:δJ) {x:Nat} (hx:δF) (h:GQ r w x=0):x=0:=by
 unfold GQ at h
 split at h
 ·have e:2 * x=r:=by
   have:=congrArg (· ^^^ r) h;simp only[Jr,KO,LO,Js] at this;show 11
  have:=g.odd;omega
 ·omega
theorem pz (g:δJ) {y:Nat} (hy:ωq):∀n,tm r w ιl y=0->y=0
 | 0,h=>by rw[show it r w 0=1 from rfl,GN γh g.w1 hy] at h;exact h
 | n+1,h=>by
  rw[show it r w (n+1)=GQ r w ιl from rfl,fE γh ύe] at h;exact pz g hy n (wI g (D_ γh ύe) h)
theorem F9 (g:εE) {x y:Nat} (hx:δF) (hy:ωq):tm r w x y=0 ↔ (x=0\/y=0):=by
 constructor
 ·intro h
  by_cases h0:x=0
  ·exact .inl h0
  ·obtain⟨n,rfl⟩:=g.all x γ hx
   exact .inr (pz δt hy n h)
 ·rintro(rfl | rfl)
  ·exact FN y
  ·exact n_ x
def pw (r w x:Nat):Nat->Nat
 | 0=>1
 | n+1=>tm r w ψB x
theorem Iz (g:δJ) {x:Nat} (hx:δF):∀n,pw r w x n < 2 ^ w
 | 0=>G2 g.w1
 | n+1=>D_ γh (Iz g hx n)
theorem Jn (g:δJ) {x:Nat} (hx:δF) (m:Nat):∀n,pw r w x (m+n)=tm r w μY ψB
 | 0=>by rw[Qj,show pw r w x 0=1 from rfl,Gy]
 | n+1=>by
  rw[<- Nat.add_assoc]
  show tm r w (pw r w x (m+n)) x=tm r w μY (tm r w ψB x)
  rw[Jn g hx m n,FE γh g.w1 (Iz g hx m) (Iz g hx n)]
theorem K2 (x:Nat) (g:δJ) (hx:δF):pw r w x 1=x:=by
 show tm r w 1 x=x
 exact GN γh g.w1 hx
theorem pA (g:δJ) {x:Nat} (hx:δF) (m:Nat):∀n,pw r w μY n=pw r w x (m * n)
 | 0=>by rw[Nat.mul_zero];rfl
 | n+1=>by
  rw[Nat.mul_succ,Jn g hx]
  show tm r w (pw r w μY n) μY=_
  rw[pA g hx m n]
theorem ze (g:δJ):∀n,it r w n=pw r w 2 n
 | 0=>rfl
 | n+1=>by
  show GQ r w ιl=tm r w (pw r w 2 n) 2
  rw[ze g n,Et]
theorem K7 (g:δJ):2 < 2 ^ w:=by have:=νp;omega
theorem Av (g:δJ):∀n,pw r w 1 n=1
 | 0=>rfl
 | n+1=>by
  show tm r w (pw r w 1 n) 1=1
  rw[Av g n,Gy]
theorem Dv (g:εE) {x:Nat} (h0:0 < x) (hx:δF):pw r w x (2 ^ w - 1)=1:=by
 obtain⟨n,rfl⟩:=g.all x h0 hx;rw[ze δt,pA δt ϑq,Kt,← pA δt ϑq,← ze δt,g.back,Av δt]
theorem Iq (g:εE) {x:Nat} (h0:0 < x) (hx:δF):tm r w x (pw r w x ιc)=1:=by
 have h:=Dv g h0 hx
 have e:2 ^ w - 1=1+43e6:=by have:=νp;omega
 rw[e,Jn δt hx,K2 x δt hx] at h;exact h
theorem Kb (g:δJ) {x:Nat} (hx:δF) (n:Nat):pw r w (tm r w x x) n=pw r w x (2 * n):=by
 have e:tm r w x x=pw r w x 2:=by
  show _=tm r w (tm r w 1 x) x
  rw[GN γh g.w1 hx]
 rw[e,pA g hx]
end GF
namespace GF
variable {r w:Nat}
theorem wJ {i j:Nat} (h:i ^^^ j=0):i=j:=by
 have:=congrArg (· ^^^ j) h;show 240
theorem Mi (g:εE) {x i j:Nat} (h0:x≠0) (hx:δF) (hi:i < 2 ^ w) (hj:j < 2 ^ w) (h:tm r w x i=tm r w x j):i=j:=by
 have e:tm r w x (i ^^^ j)=0:=by rw[F1,h,LO]
 rcases(F9 g hx (L4 hi hj)).mp e with z | z
 ·exact absurd z h0
 ·exact wJ z
end GF
namespace GF
def FP (w:Nat):List Nat->Nat
 | []=>0
 | x :: xs=>FP w xs * 2 ^ w+x
def FA (w:Nat):Nat->Nat->List Nat
 | 0,_=>[]
 | n+1,b=>b % 2 ^ w :: FA w n (b / 2 ^ w)
theorem Gb (w:Nat):∀(n b:Nat),(FA w n b).length=n
 | 0,_=>rfl
 | n+1,b=>by rw[FA,Io,Gb w n]
theorem xy {w:Nat}:∀{n b x:Nat},x∈FA w n b->x < 2 ^ w
 | 0,b,x,h=>by simp[FA] at h
 | n+1,b,x,h=>by
  rw[FA] at h;rcases FC.mp h with e | h
  ·rw[e];exact KP _ νz
  ·exact xy h
theorem rP {w:Nat}:∀{row:η},ϋc->FA w ρk (FP w row)=row
 | [],_=>rfl
 | x :: row,h=>by
  show 241;rw[Io,FA,FP]
  have e1:όm % 2 ^ w=x:=by rw[Kt,Ti,Tl hx]
  have e2:όm / 2 ^ w=FP w row:=by
   rw[Kt,Tf νz,SC hx,Qj]
  rw[e1,e2,rP λy hy=>h y (Hl _ hy)]
theorem xz {w:Nat}:∀{row:η},ϋc->FP w row < γg ^ row.length
 | [],_=>by simp[FP]
 | x :: row,h=>by
  show 241
  have ih:=xz (row:=row) λy hy=>h y (Hl _ hy);rw[FP,Io,J_]
  have:(FP w row+1) * 2 ^ w<=γg ^ row.length * 2 ^ w:=SA _ ih;rw[Nat.add_mul,Nat.one_mul] at this;omega
theorem rQ {w:Nat}:∀{n b:Nat},b < γg ^ n->FP w ν3=b
 | 0,b,h=>by
  have:b=0:=by simpa using h
  show 62
 | n+1,b,h=>by
  rw[FA,FP,rQ (n:=n) (b:=b / 2 ^ w)]
  ·rw[Kt];exact UO b γg
  ·rw[J_] at h
   exact SY (by rw[Kt];exact h)
theorem pB (w:Nat):∀(n:Nat) (f:ϣ),f 0=0->FP w ((FA w n 0).map f)=0
 | 0,_,_=>rfl
 | n+1,f,h=>by
  rw[FA,Nat.zero_mod,Nat.zero_div,Ie,FP,pB w n f h,h]
  simp
theorem pC {w x y a b:Nat} (hx:δF) (hy:ωq):(a * 2 ^ w+x) ^^^ (b * 2 ^ w+y)=η9 * 2 ^ w+(x ^^^ y):=by
 apply M6
 intro i;rw[Ku,Kt a,Kt b,Kt η9,RM _ hx,RM _ hy,RM _ (L4 hx hy)]
 split
 ·rw[Ku]
 ·rw[Ku]
theorem uF {w:Nat}:∀{n:Nat}{f g:ϣ}{b c:Nat},(∀x,f x < 2 ^ w)->(∀x,g x < 2 ^ w) →
  FP w ((FA w n b).map f) ^^^ FP w ((FA w n c).map g)=FP w (Ri (λx y=>f x ^^^ g y) ν3 (FA w n c))
 | 0,_,_,_,_,_,_=>by simp[FA,FP]
 | n+1,f,g,b,c,hf,hg=>by
  rw[FA,FA,Ie,Ie,UA,FP,FP,FP,pC (hf _) (hg _),uF hf hg]
theorem uG {w:Nat}:∀{n b k:Nat},k < n->55e1[k]?=some (b / γg ^ k % 2 ^ w)
 | 0,_,_,h=>absurd h θh
 | n+1,b,0,_=>by rw[FA,Nat.pow_zero,Nat.div_one];rfl
 | n+1,b,k+1,h=>by
  rw[FA,List.getElem?_cons_succ,uG γ,Nat.div_div_eq_div_mul,J_,Kt (γg ^ k)]
theorem uH {w:Nat}:∀{n b c:Nat},FA w n νc=Ri (λx y=>x ^^^ y) ν3 (FA w n c)
 | 0,_,_=>rfl
 | n+1,b,c=>by
  rw[FA,FA,FA,UA]
  congr 1
  ·apply M6
   intro i;rw[Ku,R5,R5,R5,Ku]
   by_cases h:i < w <;> simp[h]
  ·have e:νc / 2 ^ w=b / 2 ^ w ^^^ c / 2 ^ w:=by
    apply M6
    intro i;rw[Ku,RG,RG,RG,Ku]
   rw[e,uH]
end GF
namespace GF
def F8 (r w n:Nat) (ps:δy):Nat:=ps.foldl (λt p=>t ^^^ FP w υ1) 0
def dg (r w:Nat) (ps:δy) (k:Nat):Nat:=ps.foldl (λt p=>t ^^^ tm r w (p.2 / γg ^ k % 2 ^ w) p.1) 0
theorem la {α:Type} (F:α->Nat):∀(ps:ε3) (t:Nat),ps.foldl όn t=t ^^^ ps.foldl όn 0
 | [],t=>by simp
 | p :: ps,t=>by
  rw[RI,RI,la F ps (t ^^^ F p),la F ps (0 ^^^ F p),Jr,KO]
theorem Gv (r w n:Nat) (ps qs:δy):F8 r w n (ps++qs)=F8 r w n ps ^^^ F8 r w n qs:=by
 unfold F8;rw[Ro,la (λp:Nat × Nat=>FP w υ1) qs]
theorem pD (w n b:Nat):FA w n b=(r_ n).map λk=>b / γg ^ k % 2 ^ w:=by
 apply JY
 intro k
 by_cases h:k < n
 ·rw[uG h,FM,Ib h]
  rfl
 ·rw[Hj (by rw[Gb];omega),Hj οH]
theorem rR {w:Nat}{f g:ϣ}:∀(ks:η),(∀k,f k < 2 ^ w)->(∀k,g k < 2 ^ w)->FP w (ks.map f) ^^^ FP w (ks.map g)=FP w (ks.map λk=>f k ^^^ g k)
 | [],_,_=>by simp[FP]
 | k :: ks,hf,hg=>by
  rw[Ie,Ie,Ie,FP,FP,FP,pC (hf k) (hg k),rR ks hf hg]
theorem rS (w:Nat):∀(ks:η),FP w (ks.map λ_=>0)=0
 | []=>rfl
 | k :: ks=>by rw[Ie,FP,rS w ks];simp
theorem Ko (r w n:Nat) (ps:δy) (p:ω1):F8 r w n πv=F8 r w n ps ^^^ FP w 92e1:=by
 unfold F8;rw[Ro];rfl
end GF
namespace GF
variable {r w:Nat}
def FJ (r w:Nat):Nat->ω2->ω2->Nat
 | 0,_,_=>0
 | n+1,a,x=>FJ r w n a x ^^^ tm r w (a n) (x n)
theorem HZ (R:γ7) {a x:ϣ}:∀n,(∀k,k < n->a k < 2 ^ w)->FJ r w n a x < 2 ^ w
 | 0,_=>KJ w
 | n+1,h=>L4 (HZ R n λk hk=>h k θM) (D_ R (h n ζF))
theorem F6 {a b x y:ϣ}:∀n,(∀k,k < n->a k=b k/\x k=y k)->FJ r w n a x=FJ r w n b y
 | 0,_=>rfl
 | n+1,h=>by
  rw[FJ,FJ,F6 n λk hk=>h k θM,(h n ζF).1,(h n ζF).2]
theorem oH (a:ϣ):∀n,FJ r w n a ν4=0
 | 0=>rfl
 | n+1=>by rw[FJ,oH a n,n_];rfl
theorem mr {a x:ϣ}{p v:Nat} (hx:x p=0):∀n,FJ r w n a (λk=>if k=p then v else x k)=FJ r w n a x ^^^ (if p < n then tm r w (a p) v else 0)
 | 0=>by
  rw[if_neg (JW p),FJ,FJ];rfl
 | n+1=>by
  rw[FJ,FJ,mr hx n]
  by_cases e:n=p
  ·subst e
   rw[if_neg (Iu n),if_pos rfl,if_pos ζF,hx,n_,Js]
  ·rw[if_neg e]
   by_cases h:p < n
   ·rw[if_pos h,if_pos (IL h),KO,KO,Tw (tm r w (a p) v)]
   ·rw[if_neg h,if_neg γ,Js,Js]
theorem Ji (R:γ7) {a b x:ϣ}:∀n,(∀k,k < n->a k < 2 ^ w/\b k < 2 ^ w)->FJ r w n (λk=>a k ^^^ b k) x=FJ r w n a x ^^^ FJ r w n b x
 | 0,_=>by rw[FJ,FJ,FJ];rfl
 | n+1,h=>by
  rw[FJ,FJ,FJ,Ji R n λk hk=>h k θM,dL R (h n ζF).1 (h n ζF).2];exact Ki _ _ _ _
theorem Gm (R:γ7) (hw:δM) {a x:ϣ}{c:Nat} (hc:ωr):∀n,ΦP->FJ r w n (λk=>tm r w (a k) c) x=tm r w ϐN c
 | 0,_=>(FN c).symm
 | n+1,h=>by
  have hn:=h n ζF
  have ih:=Gm R hw hc n λk hk=>h k θM;rw[FJ,FJ,ih,dL R ΨB (D_ R hn.1)]
  congr 1
  rw[FE R hw hn.1 hc,FS R hw hc hn.2,← FE R hw hn.1 hn.2]
theorem eB (R:γ7) (hw:δM) {a x:ϣ}{c:Nat}:∀n,ΦP->FJ r w n a (λk=>tm r w (x k) c)=tm r w ϐN c
 | 0,_=>(FN c).symm
 | n+1,h=>by
  have hn:=h n ζF
  have ih:=eB R hw (c:=c) n λk hk=>h k θM;rw[FJ,FJ,ih,dL R ΨB (D_ R hn.1),FE R hw hn.1 hn.2]
theorem uI {a x y:ϣ}:∀n,FJ r w n a (λk=>x k ^^^ y k)=FJ r w n a x ^^^ FJ r w n a y
 | 0=>by rw[FJ,FJ,FJ];rfl
 | n+1=>by
  rw[FJ,FJ,FJ,uI n,F1];exact Ki _ _ _ _
structure JL (r w N M:Nat) (L:ϕ) (T:ϕ):Prop where
 lt:∀i k,i < M->k < N+M->T i k < 2 ^ w
 of:∀i k,i < M->k < N->T i k=FJ r w M οN (λj=>T i (N+j))
 keep:∀x:Nat->Nat,(∀k,k < N->x k < 2 ^ w)->(∀i,i < M->FJ r w N (T i) x=0)->∀j,j < M->FJ r w N (L j) x=0
def FW (T:ϕ) (h f:Nat):Nat->Nat->Nat:=λi=>if i=h then T f else if i=f then T h else T i
def Fx (r w:Nat) (T:ϕ) (h p c:Nat):Nat->Nat->Nat:=λi k=>if i=h then tm r w (T h k) c else T i k ^^^ tm r w (tm r w (T h k) c) (T i p)
theorem oI {T:ϕ}{h f M i:Nat} (hh:h < M) (hf:f < M) (hi:i < M):∃j,j < M/\FW T h f i=T j:=by
 unfold FW
 show 83
 ·exact #[f,hf,by rw[if_pos e]]
 ·by_cases e2:i=f
  ·exact #[h,hh,by rw[if_neg e,if_pos e2]]
  ·exact #[i,hi,by rw[if_neg e,if_neg e2]]
theorem JL.swap {N M:Nat}{L T:ϕ} (t:ηV) {h f:Nat} (hh:h < M) (hf:f < M):JL r w N M L (FW T h f):=by
 refine #[λi k hi hk=>?_,λi k hi hk=>?_,λx hx hz=>t.keep x hx λi hi=>?_]
 ·obtain⟨j,hj,e⟩:=oI (T:=T) hh hf hi
  rw[e];exact t.lt j k hj hk
 ·obtain⟨j,hj,e⟩:=oI (T:=T) hh hf hi
  rw[e];exact t.of j k hj hk
 ·by_cases e:i=h
  ·have:=hz f hf
   show 132
   by_cases e2:f=h
   ·rw[if_pos e2,e2] at this
    rw[e];show 11
   ·rw[if_neg e2,if_pos rfl] at this
    rw[e];show 11
  ·by_cases e2:i=f
   ·have:=hz h hh
    show 132;rw[if_pos rfl] at this;rw[e2];show 11
   ·have:=hz i hi
    show 132;rw[if_neg e,if_neg e2] at this;show 11
theorem JL.clear {N M:Nat}{L T:ϕ} (g:εE) (t:ηV) (hL:τR) {h p c:Nat} (hh:h < M) (hp:ιI) (hc:ωr) (hc0:c≠0):JL r w N M L (Fx r w T h p c):=by
 have R:=g.rule
 have hw:=g.w1;refine #[λi k hi hk=>?_,λi k hi hk=>?_,λx hx hz=>t.keep x hx ?_]
 ·unfold Fx
  show 83
  ·rw[if_pos e]
   exact D_ R ώs
  ·rw[if_neg e]
   exact L4 (t.lt i k hi hk) (D_ R (D_ R ώs))
 ·unfold Fx
  show 83
  ·simp only[if_pos e]
   rw[t.of h k hh hk,← eB R hw M λj hj=>Φg]
  ·simp only[if_neg e]
   rw[uI,eB R hw M λj hj=>#[hL j k hj hk,D_ R (t.lt h (N+j) hh γ)],eB R hw M λj hj=>Φg,← t.of i k hi hk,← t.of h k hh hk]
 ·have s:∀i k,i < M->k < N->T i k < 2 ^ w:=λi k hi hk=>t.lt i k hi γ
  have hd:∀i,i < M->FJ r w N (T i) x < 2 ^ w:=λi hi=>HZ R N λk hk=>s i k hi hk
  have h1:FJ r w N (T h) x=0:=by
   have z:=hz h hh
   have e:FJ r w N (Fx r w T h p c h) x=tm r w ύf c:=by
    rw[<- Gm R hw hc N λk hk=>ϊA];exact F6 N λk _=>#[by unfold Fx;rw[if_pos rfl],rfl]
   rw[e] at z;rcases(F9 g (hd h hh) hc).mp z with y | y
   ·exact y
   ·exact absurd y hc0
  intro i hi
  show 83
  ·rw[e]
   exact h1
  ·have z:=hz i hi
   have e2:FJ r w N (Fx r w T h p c i) x=FJ r w N (T i) x ^^^ tm r w (tm r w ύf c) (T i p):=by
    rw[<- Gm R hw hc N λk hk=>ϊA,← Gm R hw (s i p hi hp) N λk hk=>#[D_ R ϑr,hx k hk],← Ji R N λk hk=>#[s i k hi hk,D_ R (D_ R ϑr)]];exact F6 N λk _=>#[by unfold Fx;rw[if_neg e],rfl]
   rw[e2,h1,FN,FN,Js] at z;exact z
structure Ju (N M:Nat) (T:ϕ) (hs:η) (Z:Nat->Prop):Prop where
 hl:hs.length<=M
 lt:∀t p:Nat,hs[t]?=some p->p < N
 one:∀t p:Nat,hs[t]?=some p->∀i,i < M->T i p=if i=t then 1 else 0
 zero:∀k,Z k->∀i,hs.length<=i->i < M->T i k=0
section
variable {N M:Nat}{L T:Nat->Nat->Nat}{hs:List Nat}{Z:Nat->Prop}{p c f:Nat}
theorem Ju.start:Ju N M T [] (λ_=>False):=#[GO _,λt p h=>by simp at h,λt p h=>by simp at h,λk z=>z.elim]
theorem Ju.weaken {Z':Nat->Prop} (h:ηW) (e:∀k,Z' k->Z k):Ju N M T hs Z':=#[h.hl,h.lt,h.one,λk z=>h.zero k (e k z)]
theorem Ju.skip (h:ηW) (hz:ΨC):Ju N M T hs ύP :=
 #[h.hl,h.lt,h.one,λk z=>z.elim (h.zero k) λe=>by rw[e];exact hz]
theorem Ju.step (g:εE) (h:ηW) (t:ηV) (hp:ιI) (hf:hs.length<=f) (hfM:f < M) (hc:ωr) (hinv:ύg) :
  Ju N M (Fx r w χs γE p c) (hs++[p]) 183e9:=by
 have R:=g.rule
 have hw:=g.w1
 have D:hs.length < M:=by omega
 have E:FW T γE f hs.length=T f:=by unfold FW;rw[if_pos rfl]
 have ge:∀i,hs.length<=i->i < M->∃j,hs.length<=j/\j < M/\FW T γE f i=T j:=λi h1 h2=>by
  unfold FW
  show 133
  ·exact #[f,hf,hfM,by rw[if_pos e]]
  ·by_cases e2:i=f
   ·exact #[γE,B_ _,D,by rw[if_neg e,if_pos e2]]
   ·exact #[i,h1,h2,by rw[if_neg e,if_neg e2]]
 have lo:∀i,i < hs.length->FW T γE f i=T i:=λi h1=>by
  unfold FW;rw[if_neg γ,if_neg γ]
 have col:∀k,(∀i,hs.length<=i->i < M->T i k=0)->∀i,i < M->Fx r w χs γE p c i k=if i < hs.length then T i k else 0:=λk hz i hi=>by
  unfold Fx;rw[E,hz f hf hfM,FN,FN]
  show 133
  ·rw[if_pos e,if_neg γ]
  ·rw[if_neg e,Js]
   by_cases e2:i < hs.length
   ·rw[if_pos e2,lo i e2]
   ·obtain⟨j,j1,j2,ej⟩:=ge i γ hi
    rw[if_neg e2,ej,hz j j1 j2]
 have s:∀i,i < M->Fx r w χs γE p c i p=if i=hs.length then 1 else 0:=λi hi=>by
  unfold Fx;rw[E,hinv]
  show 133
  ·show 242
  ·obtain⟨j,j2,ej⟩:=oI (T:=T) (h:=γE) (f:=f) D hfM hi
   rw[if_neg e,if_neg e,ej,GN R hw (t.lt j p j2 γ),LO]
 refine #[by rw[Hr];simp;omega,λt' q e=>?_,λt' q e i hi=>?_,λk z i h1 h2=>?_]
 ·rw[OD] at e
  split at e
  ·exact h.lt t' q e
  ·have:q=p:=by
    cases ht:t' - hs.length with
    | zero=>rw[ht] at e;simpa using e.symm
    | succ m=>rw[ht] at e;simp at e
   show 19;exact hp
 ·rw[OD] at e
  split at e
  ·rename_i hlt
   have hz:∀i,hs.length<=i->i < M->T i q=0:=λi h1 h2=>by
    rw[h.one t' q e i h2,if_neg γ]
   rw[col q hz i hi]
   by_cases e2:i < hs.length
   ·rw[if_pos e2]
    exact h.one t' q e i hi
   ·rw[if_neg e2,if_neg γ]
  ·rename_i hge
   have ht:t'=hs.length/\q=p:=by
    cases ht:t' - hs.length with
    | zero=>rw[ht] at e;exact⟨by omega,by simpa using e.symm⟩
    | succ m=>rw[ht] at e;simp at e
   rw[ht.2,ht.1];exact s i hi
 ·rw[Hr] at h1
  have G:hs.length < i:=by simp at h1;omega
  rcases z with z | z
  ·rw[col k (h.zero k z) i h2,if_neg γ]
  ·rw[z,s i h2,if_neg γ]
theorem Jv (g:εE) (t:ηV) (hL:τR) (h:ηW) (hf:hs.length<=f) (hfM:f < M) (hp:ιI) (hinv:ύg) :
  (FJ r w M (λj=>L j p) υ5=1)/\∀k,k < N->Z k->FJ r w M οN υ5=0:=by
 have R:=g.rule
 have e:∀k,k < N->FJ r w M οN υ5=tm r w (T f k) c:=λk hk=>by
  rw[eB R g.w1 M λj hj=>#[hL j k hj hk,t.lt f (N+j) hfM γ],← t.of f k hfM hk]
 refine #[by rw[e p hp];exact hinv,λk hk z=>?_]
 rw[e k hk,h.zero k z f hf hfM,FN]
def FV (T:ϕ) (hs:η) (p:Nat):Nat->Nat->Nat
 | 0=>λk=>if k=p then 1 else 0
 | t+1=>λk=>if k=hs.getD t 0 then T t p else FV T hs p t k
theorem HE {k:Nat} (hkp:k≠p):∀t,t<=hs.length->(∀s,s < t->hs.getD s 0≠k)->FV T hs p t k=0
 | 0,_,_=>by unfold FV;rw[if_neg hkp]
 | t+1,ht,h=>by
  show 243;exact HE hkp t γ λs hs'=>h s γ
theorem Ih:∀t,t<=hs.length->(∀s,s < t->hs.getD s 0≠p)->FV T hs p t p=1
 | 0,_,_=>by unfold FV;rw[if_pos rfl]
 | t+1,ht,h=>by
  show 243;exact Ih t γ λs hs'=>h s γ
theorem HJ {t:Nat} (h:t < γE):hs[t]?=some (hs.getD t 0):=by
 show 84
theorem uJ (g:εE) (t:ηV) (h:ηW) (hp:ιI) (hnp:Ψd) {i:Nat} (hi:i < M):∀q,q<=hs.length->FJ r w N (T i) (FV T hs p q)=T i p ^^^ (if i < q then T i p else 0)
 | 0,_=>by
  rw[if_neg (JW i),Js]
  have e:FJ r w N (T i) (λk=>if k=p then 1 else 55e2 k)=_:=mr (x:=λ_=>0) (p:=p) (v:=1) rfl N
  rw[oH,Jr,if_pos hp,Gy] at e;exact e
 | q+1,hq=>by
  have R:=g.rule
  have hq':q < hs.length:=hq
  have dup:∀s,s < q->hs.getD s 0≠hs.getD q 0:=λs hs' z=>by
   have a1:=h.one s _ (HJ γ) s (by have:=h.hl;omega)
   have a2:=h.one q _ ωP s (by have:=h.hl;omega)
   rw[z,a2,if_pos rfl,if_neg γ] at a1
   exact absurd a1 ζ
  have e:FJ r w N (T i) (FV T hs p (q+1))=_:=mr (x:=FV T hs p q) (p:=hs.getD q 0) (v:=T q p) (HE (hnp q hq') q γ dup) N
  rw[if_pos (h.lt q _ ωP),uJ g t h hp hnp hi q γ,h.one q _ ωP i hi] at e
  rw[e]
  by_cases z:i=q
  ·subst z
   rw[if_pos rfl,if_neg (Iu i),if_pos (ID i),GN R g.w1 (t.lt i p hi γ),Js]
  ·rw[if_neg z,FN,Js]
   by_cases z2:i < q
   ·rw[if_pos z2,if_pos γ]
   ·rw[if_neg z2,if_neg γ]
theorem IA (g:εE) (t:ηV) (h:ηW) (hp:ιI) (k:Nat):∀q,q<=hs.length->FV T hs p q k < 2 ^ w
 | 0,_=>by
  have:=νp;unfold FV
  split <;> omega
 | q+1,hq=>by
  unfold FV
  split
  ·exact t.lt q p (by have:=h.hl;omega) γ
  ·exact IA g t h hp k q γ
theorem LF (g:εE) (t:ηV) (h:ηW) (hp:ιI) (hnp:Ψd) (hz:ΨC):∀j,j < M->FJ r w N (L j) (FV T hs p γE)=0:=by
 refine t.keep _ (λk _=>IA g t h hp k _ Θ) λi hi=>?_;rw[uJ g t h hp hnp hi _ Θ]
 by_cases z:i < hs.length
 ·rw[if_pos z,LO]
 ·rw[if_neg z,hz i γ hi]
  rfl
theorem JL.start (g:εE) (hL:τR) (h1:∀i k,i < M->k < N->T i k=L i k) (h2:∀i j,i < M->j < M->T i (N+j)=if j=i then 1 else 0):JL r w N M L T:=by
 have h:=νp;refine #[λi k hi hk=>?_,λi k hi hk=>?_,λx hx hz j hj=>?_]
 ·by_cases e:k < N
  ·rw[h1 i k hi e]
   exact hL i k hi e
  ·obtain⟨j,rfl⟩:∃j,k=N+j:=#[k - N,by omega]
   rw[h2 i j hi γ]
   split <;> omega
 ·have e:FJ r w M οN (λj=>if j=i then 1 else 55e2 j)=_:=mr (x:=λ_=>0) (p:=i) (v:=1) rfl M
  rw[oH,Jr,if_pos hi,Gy] at e;rw[h1 i k hi hk,← e];exact(F6 M λj hj=>#[rfl,(h2 i j hi hj).symm])
 ·rw[<- hz j hj]
  exact F6 N λk hk=>#[(h1 j k hj hk).symm,rfl]
end
end GF
namespace GF
end GF
namespace GF
variable {r w:Nat}
def sc (r w n f b:Nat):Nat:=FP w ((FA w n b).map (tm r w f))
theorem Fc (R:γ7) {n f b:Nat} (hf:νd):sc r w n f b < γg ^ n:=by
 unfold sc
 have:=xz (w:=w) (row:=(FA w n b).map (tm r w f)) λx hx=>by
  show 244;exact D_ R hf
 rw[o_,Gb] at this;show 11
theorem QI (R:γ7) {n f b c:Nat} (hf:νd):sc r w n f νc=sc r w n f b ^^^ sc r w n f c:=by
 unfold sc;rw[uF ώt ώt,uH,List.map_zipWith]
 congr 2
 funext x y
 exact F1
theorem Lk {n b:Nat}:sc r w n 0 b=0:=by
 unfold sc
 have:(FA w n b).map (tm r w 0)=(r_ n).map λ_=>0:=by
  rw[pD,GB];exact KA λk _=>FN _
 rw[this,rS]
theorem Pg {n f:Nat}:sc r w n f 0=0:=pB w n _ (n_ f)
theorem OZ (R:γ7) (hw:δM) {n b:Nat} (hb:b < γg ^ n):sc r w n 1 b=b:=by
 unfold sc
 have:(FA w n b).map (tm r w 1)=FA w n b:=by
  conv=>rhs;rw[<- SM ν3]
  exact KA λx hx=>GN R hw (xy hx)
 rw[this,rQ hb]
theorem rT {n:Nat} (p:ω1) (ps:δy):F8 r w n (p :: ps)=sc r w n p.1 p.2 ^^^ F8 r w n ps:=by
 rw[show p :: ps=[p]++ps from rfl,Gv]
 congr 1
 exact Jr _
theorem uK {n:Nat}:F8 r w n []=0:=rfl
theorem Jh (R:γ7) {n:Nat}:∀{fs bs:η},(∀f∈fs,f < 2 ^ w)->F8 r w n (fs.zip bs) < γg ^ n
 | [],bs,_=>by
  rw[List.zip_nil_left,uK];exact Oc νz
 | _ :: _,[],_=>by
  rw[List.zip_nil_right,uK];exact Oc νz
 | f :: fs,b :: bs,h=>by
  rw[Us,rT,← Q_];refine L4 ?_ ?_
  ·rw[Q_];exact Fc R (h f Im)
  ·rw[Q_];exact Jh R λx hx=>h x ωs
theorem IN (R:γ7) (hw:δM) {n t:Nat}:∀(M s:Nat) (bs:η),ρs=M->(∀b∈bs,b < γg ^ n)->F8 r w n (((r_ M).map λj=>if j+s=t then 1 else 0).zip bs)=if s<=t/\t < s+M then bs.getD (t - s) 0 else 0
 | 0,s,bs,_,_=>by
  show 63
  rfl
 | M+1,s,[],hl,_=>by simp at hl
 | M+1,s,b :: bs,hl,h=>by
  have ih:=IN R hw (n:=n) (t:=t) M (s+1) bs όS λx hx=>h x ωs
  rw[PZ,Ie,GB,Us,rT]
  have e:((λj=>if j+s=t then 1 else 0) ∘ Nat.succ)=λj=>if j+(s+1)=t then 1 else 0:=by
   funext j
   show (if j+1+s=t then 1 else 0)=_
   rw[show j+1+s=j+(s+1) by omega]
  rw[e,ih];show 9
  by_cases z:s=t
  ·subst z
   rw[if_pos γ,if_neg γ,if_pos γ,Js,LX,OZ R hw (h b Im)]
   rfl
  ·rw[if_neg γ,Lk,Jr]
   by_cases y:s+1<=t/\t < s+1+M
   ·rw[if_pos y,if_pos γ]
    rw[show t - s=(t - (s+1))+1 by omega]
    rfl
   ·show 85
end GF
namespace GF
variable {r w:Nat}
def FF:Nat->ω2->Nat
 | 0,_=>0
 | n+1,F=>FF n F ^^^ F n
theorem FX {F G:ϣ}:∀n,(∀k,k < n->F k=G k)->FF n F=FF n G
 | 0,_=>rfl
 | n+1,h=>by rw[FF,FF,FX n λk hk=>h k θM,h n ζF]
theorem HI (F G:ϣ):∀n,FF n (λk=>F k ^^^ G k)=FF n F ^^^ FF n G
 | 0=>(LO 0).symm
 | n+1=>by rw[FF,FF,FF,HI F G n];exact Ki _ _ _ _
theorem HX:∀n,FF n ν4=0
 | 0=>rfl
 | n+1=>by rw[FF,HX n];rfl
theorem Ig {n p:Nat}{F:ϣ} (hp:p < n) (h:∀k,k < n->k≠p->F k=0):FF n F=F p:=by
 have g:∀m,m<=n->FF m F=if p < m then F p else 0:=by
  intro m
  induction m with
  | zero=>intro _;rw[if_neg θh];rfl
  | succ m ih =>
   intro hm;rw[FF,ih γ]
   by_cases z:m=p
   ·subst z
    show 245
   ·rw[h m γ z,Js]
    by_cases y:p < m
    ·show 134
    ·show 85
 rw[g n Θ,if_pos hp]
theorem Eu (R:γ7) {n f g b:Nat} (hf:νd) (hg:g < 2 ^ w):sc r w n (f ^^^ g) b=sc r w n f b ^^^ sc r w n g b:=by
 unfold sc;rw[pD,GB,GB,GB];refine Eq.trans ?_ (rR (f:=tm r w f ∘ λk=>b / γg ^ k % 2 ^ w) (g:=tm r w g ∘ λk=>b / γg ^ k % 2 ^ w) _ (λk=>D_ R hf) (λk=>D_ R hg)).symm
 congr 1
 exact KA λk _=>dL R hf hg
theorem Fd (R:γ7) (hw:δM) {n f g b:Nat} (hf:νd) (hg:g < 2 ^ w):sc r w n f (sc r w n g b)=sc r w n (tm r w f g) b:=by
 unfold sc
 have h:=rP (w:=w) (row:=(FA w n b).map (tm r w g)) λx hx=>by
  show 244;exact D_ R hg
 rw[o_,Gb] at h;rw[h,GB]
 congr 1
 exact KA λd _=>(FE R hw hf hg d).symm
theorem xA (R:γ7) {n f:Nat} (hf:νd) (F:ϣ):∀m,sc r w n f (FF m F)=FF m (λk=>sc r w n f (F k))
 | 0=>Pg
 | m+1=>by rw[FF,FF,QI R hf,xA R hf F m]
theorem GI {n:Nat} (f x:ϣ):∀(m:Nat),F8 r w n (((r_ m).map f).zip ((r_ m).map x))=FF m (λk=>sc r w n (f k) (x k))
 | 0=>rfl
 | m+1=>by
  rw[M7,HU,HU,SV (by rw[o_,o_]),Gv,GI f x m,FF]
  congr 1
  exact Jr _
theorem JQ (X:η):X=(r_ X.length).map λk=>X.getD k 0:=by
 apply JY
 intro k;rw[FM]
 by_cases h:k < X.length
 ·rw[Ib h,s_ h]
  show some _=some (X.getD k 0)
  show 84
 ·rw[Hj γ,Hj δw]
  rfl
theorem Gu {n:Nat} (b:ιt) (f x:ϣ):∀m,F8 r w n (((r_ m).filter b).map λk=>(f k,x k))=FF m (λk=>if b k=true then sc r w n (f k) (x k) else 0)
 | 0=>rfl
 | m+1=>by
  rw[M7,Sd,HU,Gv,Gu b f x m,FF]
  congr 1
  by_cases z:b m=true
  ·rw[Rh z,Og,if_pos z]
   exact Jr _
  ·rw[Ru z,Og,if_neg z]
   rfl
theorem Iw (R:γ7) (hw:δM) {n m:Nat}{e:ϕ}{x y:ϣ}:∀(M:Nat),(∀t j,t < M->j < m->e t j < 2 ^ w)->(∀t,t < M->y t < 2 ^ w)->(∀t,t < M->FF m (λj=>sc r w n (e t j) (x j))=0)->FF m (λj=>sc r w n ϊ9 (x j))=0
 | 0,_,_,_=>by
  have:FF m (λj=>sc r w n (FJ r w 0 ΓP y) (x j))=FF m 55e2:=FX m λj _=>Lk;rw[this,HX]
 | M+1,he,hy,h0=>by
  have ih:=Iw R hw M (λt j ht hj=>he t j ρ4 hj) (λt ht=>hy t ρ4) λt ht=>h0 t ρ4
  have e1:FF m (λj=>sc r w n (FJ r w (M+1) ΓP y) (x j))=FF m (λj=>sc r w n ϊ9 (x j) ^^^ sc r w n (y M) (sc r w n (e M j) (x j))):=FX m λj hj=>by
   have hm:=he M j (ID M) hj
   have hyM:=hy M (ID M);rw[FJ,Eu R (HZ R M λt ht=>he t j ρ4 hj) (D_ R hm),Fd R hw hyM hm,FS R hw hyM hm]
  rw[e1,HI,ih,Jr,← xA R (hy M (ID M)),h0 M (ID M),Pg]
end GF
namespace L2
open PySem PySem.Spec PyProof.Rows
section
variable {X:Cx}
inductive m9 (x:V) (xs:δ) (H:Hp) (Q:VK):Prop
 | mk:∀i,x=.int i->xs=[]->Q (.int ((P_ i:Nat):Int)) H->m9 x xs H Q
theorem Aw:On X "int.bit_length" (m9):=by
 intro g s σ H x xs v us Q I rx rs h;obtain⟨i,rfl,rfl,q⟩:=h;show 37
 cases rs;exact call_int_bit_length τM
inductive pE (K:m_) (xs:δ) (H:Hp) (Q:VK):Prop
 | mk:∀x c t b,xs=[x,.ty c]->HF K H x t->Mu K t (.type c)=some b->Q (.bl b) H->pE K xs H Q
theorem oJ:bI X ξZ (pE X.K):=by
 show 246
 cases (show w'=KI c from g);show 247
end
theorem uL (K:m_) (c:ζ7):Mu K πw πw=some true:=by
 unfold Mu;rw[if_pos (by exact beq_self_eq_true _)]
variable {K:m_}
theorem Ev {t c:ζ7}{b:Bool} (h0:(KI t == KI c)=τ) (h1:UH c=true) (h2:(PySem.fastBuiltinMro t).map (λl=>l.contains (KI c))=some b):Mu K (.type t) πw=some b:=by
 unfold Mu;rw[if_neg (by rw[h0];exact Hk)]
 show (if UH c=true then PySem.W.subIn K (.type t) πw else none)=some b
 rw[if_pos h1];exact h2
theorem uM (K:m_):Mu K (.type "int") (.type "bool")=some false:=Ev γf γf γf
theorem zg (a b:Nat):Uh (a:Int) (b:Int)=((a &&& b:Nat):Int):=by
 unfold Uh;rw[decide_eq_true (RW a),decide_eq_true (RW b)]
 simp
theorem dE (a b:Nat):Mv (a:Int) (b:Int)=((a ^^^ b:Nat):Int):=by
 have h:=PyProof.Rows.bitXor_and (a:Int) (b:Int);rw[h,zg]
 have:=GF.Jw a b;omega
theorem wK {r w:Nat} (h1:2 ^ w<=r) (h2:r < 2 ^ (w+1)):P_ (r:Int)=w+1:=by
 unfold P_
 have hr:0 < r:=GU νz h1
 have:((r:Int) == 0)=false:=beq_eq_false_iff_ne.mpr γ
 show 19
 have e:(r:Int).natAbs=r:=Int.natAbs_natCast r;rw[e]
 have:r.log2=w:=(Nat.log2_eq_iff γ).mpr #[h1,h2]
 show 33
def NL (K:m_) (a:Addr) (xs:δ):It :=
 #[λi H=>c_ K H a xs/\i < γm,λi H x H'=>H'=H/\xs[xs.length - 1 - i]?=some x,λi _=>i=γm]
variable {P:Program}{w:World}
theorem B0 {tg:Expr} (a it:Addr) (xs:δ):IK P w K tg (NL K a xs) [it] it (λi h=>h.IsRevIter it a ((xs.length:Int) - 1 - (i:Int))) where
 mem:=by simp
 obj:=λi h st b hb=>by
  show 32
  show 79
 keep:=λi h h' st k=>st.at λo e=>k it ϒ o e
 item:=by
  show 248;obtain⟨hq,hi⟩:=hg;show 120
  have hx:xs[xs.length - 1 - i]?=some (xs[xs.length - 1 - i]'(by omega)):=s_ γ
  show 121
  have e:(xs.length:Int) - 1 - (i:Int)=((xs.length - 1 - i:Nat):Int):=by omega
  rw[e] at st;refine wpAny_pyNext_rev_item st γB (x:=u) μI λh' j sb=>?_
  have e2:((xs.length - 1 - i:Nat):Int) - 1=(xs.length:Int) - 1 - ((i+1:Nat):Int):=by omega
  rw[e2] at j
  show 204;exact⟨u,rfl,mo (s:={ s with heap:=h' }) e c d ζ ⟨_,H,I1,ru,⟨rfl,hx⟩,j,λb hb=>(hf b hb).1⟩⟩
 done:=by
  show 248
  have hg:i=xs.length:=hg;show 80
  have e:(xs.length:Int) - 1 - (i:Int) = -1:=by omega
  rw[e] at st;exact wpAny_pyNext_rev_end δ3 st λh' eb=>θQ
 self:=λ_ _ _ _ _ st h=>Tg st h
variable {pos:Pos}
section
variable {X:Cx}{tg:Expr}
inductive Ax (K:m_) (R:δZ) (vs:δ) (H1:Hp):Prop
 | mk:∀l xs,vs=[.ref l]->c_ K H1 l xs->R (NL K l xs) H1->Ax K R vs H1
def OX (K:m_) (ta:TA):TI:=λσ H R=>ta σ H λvs H1=>Ax K R vs H1
theorem tT:bootBuiltins "reversed" = some (.type "reversed"):=by decide +kernel
theorem Ew {a:Expr}{ta:TA}{p:Pos} (hg:Gl X "reversed") (hm:X.mg "reversed" = none) (ha:ψJ) (hs:starEach [a] X.env=[(τ,eval a ρ)]:=by rfl):PI X tg (.Call (.Name "reversed" p) [a] [] pos) (OX X.K ta):=by
 intro j s σ H R I h;refine Call_ (cG I hg hm tT (M9 (C_ (ha pos j s σ H _ I h) λus s1 ⟨vs,H1,I1,r1,q1⟩=>?_) hs rfl));obtain⟨l,xs,e,hq,q⟩:=q1;subst e;obtain⟨u,rfl,ru⟩:=ca r1
 cases ru;obtain⟨g,rv,pl,hz⟩:=I1.list hq;refine call_reversed_list ζ1 ?_
 have D:((g.toArray.size:Nat):Int) - 1=(xs.length:Int) - 1 - ((0:Nat):Int):=by rw[Gk,← rv.length];omega
 have st:(s1.heap.push (revObj l ((g.toArray.size:Int) - 1))).IsRevIter δ2 l ((xs.length:Int) - 1 - ((0:Nat):Int)):=by
  rw[<- D];exact μ0
 refine Tg st ?_;refine #[δ2,[δ2],_,_,H1,rfl,I1.kept (t':=ζ3) λb o e=>FZ _ e,B0 l _ xs,st,λb hb=>?_,q]
 show 60
 show 122
end
variable {a:Addr}{xs:List V}{g:TG}{tb:TS}{σ:St}{H:Hp}
theorem Dw {D:GW} (Pv:η1) (h0:ζy) (hl:Φ5)
  (hs:∀i x σ H,i < xs.length->xs[xs.length - 1 - i]?=some x->Pv i σ H->g x σ H λσ2 H2=>tb { D with nx:=Pv (i+1),ct:=Pv (i+1),bk:=D.nx } σ2 H2) (hd:θU) :
  ∃W:Nat->Nat->St->Hp->Prop,ζq/\∀i m σ H,W i m σ H →
   ((NL K a xs).stop i H/\D.nx σ H)\/((NL K a xs).go i H/\∃N:St->Hp->Prop,εP/\∀x H',(NL K a xs).yld i H x H'->g x σ H' λσ2 H2=>tb { D with nx:=N,ct:=N,bk:=D.nx } σ2 H2):=by
 refine θO
 rintro i m σ H ⟨rfl,hi,p⟩
 have q:=hl i σ H hi p
 by_cases hlt:i < xs.length
 ·refine .inr #[#[q,hlt],Pv (i+1),λσ' H' p'=>Γw,λx H' y=>?_]
  obtain⟨e,y⟩:=y;subst e;exact hs i x σ _ hlt y p
 ·have e:i=xs.length:=by omega
  exact .inl #[e,hd σ H ξ3]
theorem jR {env:Env}:∀(names:ο6) (acc:δx),(∀n,(n,ζg)∈names->∃c,env.cells.lookup n=some c)->(∀n c,acc.lookup n=some c->env.cells.lookup n=some c) →
  ∃cl:List (Str × Addr),(forIn names acc (λx r=>match x with
    | (name,kind)=>if (kind == ζg)=true then do
      let c ← cellOf env name
      pure ξw
     else pure οq):Sem οc)=pure cl/\Ξ1 ∧
   ∀n,((n,ζg)∈names\/(acc.lookup n).isSome=true)->(cl.lookup n).isSome=true
 | [],acc,_,h=>⟨acc,rfl,h,λn q=>q.elim (λz=>by simp at z) id⟩
 | (n,k) :: r,acc,hf,h=>by
  rw[Q9]
  by_cases hk:k=.free
  ·subst hk
   obtain⟨c,hc⟩:=hf n Im
   have e:cellOf env n=pure c:=by unfold cellOf;rw[hc]
   obtain⟨cl,h1,h2,h3⟩:=jR r ((n,c) :: acc) ϊo (λm d hm=>by
    rw[Ii] at hm
    cases q:(m == n) with
    | true=>rw[q] at hm;cases hm;rw[eq_of_beq q];exact hc
    | false=>rw[q] at hm;exact h m d hm)
   refine ΨX
   ·show ((if (NameKind.free == ζg)=true then _ else _) >>= _)=_
    rw[if_pos ζ,e]
    exact h1
   ·rcases hm with hm | hm
    ·rcases FC.mp hm with z | z
     ·cases z
      exact .inr (by rw[Ii,οE];rfl)
     ·exact .inl z
    ·refine .inr ?_
     rw[Ii]
     cases q:(m == n) with
     | true=>rfl
     | false=>exact hm
  ·have hb:χ3=false:=by simpa using hk
   obtain⟨cl,h1,h2,h3⟩:=jR r acc ϊo h;refine ΨX
   ·show ((if χ3=true then _ else _) >>= _)=_
    rw[if_neg οa]
    exact h1
   ·rcases hm with hm | hm
    ·rcases FC.mp hm with z | z
     ·cases z
      exact absurd rfl hk
     ·exact .inl z
    ·exact .inr hm
theorem pF {env:Env}{scope:γ5} (hf:∀n,(n,ζg)∈scope.names->∃c,env.cells.lookup n=some c) :
  ∃cl:List Γ9,closureFor γu env=pure cl/\Ξ1/\∀n,(n,ζg)∈scope.names->(cl.lookup n).isSome=true:=by
 obtain⟨cl,h1,h2,h3⟩:=jR ψM [] hf (λn c h=>by simp at h)
 refine #[cl,?_,h2,λn h=>h3 n πO];unfold closureFor
 have:(forIn scope.names ([]:List (Str × Addr)) (λx r=>match x with
    | (name,kind)=>if (kind == ζg)=true then do
      let c ← cellOf env name
      pure ξw
     else pure οq):Sem οc)=pure cl:=h1
 first
  | exact this
  | (rw[show ∀x:Sem (List (Str × Addr)),(x >>= λcs=>pure cs)=x from λx=>by simp];exact this)
  | (simp only[bind_pure];exact this)
theorem cJ {env:Env}:∀(names:ο6) (x:Str),
  (names.map λ(n,k)=>if τ9=true then (n,ζb) else (n,k)).lookup x =
   (names.lookup x).map λk=>if ΔO=true then NameKind.cell else k
 | [],x=>rfl
 | (n,k) :: r,x=>by
  have ih:=cJ (env:=env) r x
  show LI x ((if τ9=true then (n,ζb) else (n,k)) :: _)=_
  cases q:(x == n) with
  | true =>
   have e:=eq_of_beq q;subst e
   by_cases hc:ΔO=true
   ·rw[if_pos hc]
    simp only[Ii,q,Ks,if_pos hc]
   ·rw[if_neg hc]
    simp only[Ii,q,Ks,if_neg hc]
  | false =>
   by_cases hc:τ9=true
   ·rw[if_pos hc]
    show 249
   ·rw[if_neg hc]
    show 249
def Ay (N:ώ) (osc sc:γ5) (cap:η) (own:ώ):Bool :=
 169e8 && sc.names.all (λy=>(y.2 != .cell) && 134e4 && Δ8) &&
  cap.all (λi=>match N[i]? with | some x=>sc.names.lookup x == some .free | none=>false) && own.all (λx=>sc.names.lookup x == some .local) && decide ((cap.map (λi=>N.getD i Qd)++own).Nodup)
structure i_ (N:ώ) (osc sc:γ5) (cap:η) (own:ώ):Prop where
 kind:sc.kind=.function
 nocell:∀y∈sc.names,y.2≠.cell
 locs:∀y∈sc.names,y.2=.local->sc.names.lookup y.1=some .local
 free1:∀y∈sc.names,y.2=.free->sc.names.lookup y.1=some .free
 frees:∀y∈sc.names,y.2=.free->osc.names.lookup y.1=some .cell\/osc.names.lookup y.1=some .free
 capf:∀i∈cap,∃x,N[i]?=some x/\sc.names.lookup x=some .free
 owns:∀x∈own,sc.names.lookup x=some .local
 nd:(cap.map όo++own).Nodup
theorem i_.of {N:ώ}{osc sc:γ5}{cap:η}{own:ώ} (h:Ay N osc sc cap own=true):i_ N osc sc cap own:=by
 unfold Ay at h;show 250
 have all:=IM.mp h2;refine #[eq_of_beq h1,λy hy=>?_,λy hy e=>?_,λy hy e=>?_,λy hy e=>?_,λi hi=>?_,λx hx=>?_,of_decide_eq_true h5]
 ·have q:=all y hy
  simp only[IU] at q;intro e;rw[e] at q;exact absurd q.1.1 ζ
 ·have q:=all y hy
  show 46;rcases q.1.2 with z | z
  ·show 47
  ·exact eq_of_beq z
 ·have q:=all y hy
  show 46;rcases q.2 with z | z
  ·show 47
  ·exact eq_of_beq z.1
 ·have q:=all y hy
  show 46;rcases q.2 with z | z
  ·show 47
  ·show 251
 ·have q:=IM.mp h3 i hi
  cases e:N[i]? with
  | none=>rw[e] at q;cases q
  | some x=>rw[e] at q;exact ϋd
 ·exact eq_of_beq (IM.mp h4 x hx)
abbrev fF (N:ώ) (cap:η) (own:ώ):List Str:=cap.map όo++own
abbrev cn (σ:St) (cap:η) (own:ώ):St:=cap.map (λi=>(σ[i]?).join)++own.map λ_=>none
def da (X:Cx) (sc:γ5) (cl:δx) (C:Addr) (cap:η) (own:ώ) (s₀:ξ) (H₀:Hp) (ex:Φ):Cx :=
 { X with N:=fF X.N cap own,s₀:=s₀,H₀:=H₀,env:=compEnvC sc cl C X.env,outer:=X.stack,stack:=X.stack,ex:=ex,fn:=λ_=>false,pn:=[],xe:=λ_ _=>False }
variable {fp:List Addr}{t':Nat}
section
variable {X:Cx}{pins:List (Addr × Obj)}{σ:St}{H:Hp}{s:Shared}{sc:Scope}{cl:List (Str × Addr)}{cap:List Nat}{own:List Str}
theorem uN (S:θY) {x:Str}{C:Addr} (h:ΔC):(x,ζg)∈sc.names:=by
 show 86
 rw[e] at h
 cases q:sc.names.lookup x with
 | none=>rw[q] at h;rcases h with z | z <;> cases z
 | some k =>
  have hm:=Kr q
  have hk:k=.free:=by
   rw[q] at h;show 252
   by_cases c:μf=true
   ·simp only[IU] at c
    exact eq_of_beq c.1.1
   ·rw[if_neg c] at h
    rcases h with z | z
    ·exact absurd z (S.nocell _ hm)
    ·exact z
  rw[hk] at hm;exact hm
theorem Az (S:θY) {x:Str}{C:Addr} (h:ΩT):(compEnvC sc cl C ρ).kindOf x=some .cell\/(compEnvC sc cl C ρ).kindOf x=some .free:=by
 show 86
 show 253
 split
 ·exact .inl rfl
 ·exact .inr rfl
theorem Inv.block {h':Heap} (I:χ) (S:θY) (hc1:Ξ2) (hc2:ΘB)
  (hf:μD) (hlt:Ωi) {m:Ϝ} (hn:ϊT) (k:ξh) :
  Inv (da X sc cl Ω cap own s H fp) [] οI H { s with heap:=h',toks:=t' }:=by
 refine⟨⟨I.mod,εD,ξ2,ωK,B_ _,λx y c a b=>I.ok.inj x y c (hc1 x c a) (hc1 y c b),λx hx=>?_,λx c z=>absurd z (by show ¬ (τ=true);decide),I.ok.hd,ψL,.inl rfl,λb hb=>⟨F0 ω3,λx c e=>(hf b hb).2.2.2.2.1 x c ιi⟩,I.bs,FG πN I.sz,λb o e hb=>?_,λb hb z=>?_,I.stack,ωn⟩,
  rfl,εk,Un.kept k,ΨN,λx c e=>?_,I.hok.fresh Θ,λx c e=>I.freeC x c ιi,λp hp=>absurd hp ξj,I.hok.kept k,?_⟩
 ·have hm:=uN S hx
  exact OI.mp (hc2 x hm)
 ·rcases(hf b hb).2.2.2.1 with z | z
  ·exact I.ok.noex b o e z
  ·exact absurd ΩA δ9
 ·rcases FC.mp (I.stkSub b z) with q | q
  ·exact(hf b hb).2.1 q
  ·exact(hf b hb).2.2.1 q
 ·by_cases hi:i < cap.length
  ·have h:(fF X.N cap own)[i]?=some x:=e1
   have g:71e6[i]?=some 14e2:=e2;rw[fF,Ky εV,FM,s_ hi] at h
   rw[cn,Ky εV,FM,s_ hi] at g
   simp only[Ks,N5] at h g;obtain⟨y,hy,hl⟩:=S.capf _ ρ5
   have D:x=y:=by
    rw[<- h,v_,hy];rfl
   subst D
   have ev:σ[cap[i]]?=some 14e2:=by
    cases q:σ[cap[i]]? with
    | none=>rw[q] at g;cases g
    | some o=>rw[q] at g;show 254
   obtain⟨m0,J,E⟩:=I.loc
   have hm:=Kr hl
   have j:=S.frees _ hm rfl;obtain⟨u,ru,lk⟩:=E _ x v hy ev (j.elim (λz=>.inr (.inl z)) λz=>.inr (.inr z));refine⟨u,ru,.inr ⟨Az S hl,?_⟩⟩;obtain⟨c,hc⟩:=OI.mp (hc2 x hm);refine⟨c,hc,?_⟩;rcases lk with ⟨z,_⟩ | ⟨_,c',G,q⟩
   ·have z':X.env.scope.names.lookup x=some .local:=z
    rcases j with w | w <;> (rw[z'] at w;cases w)
   ·have:=hc1 x c hc
    rw[G] at this
    cases this;obtain⟨o,ho,hd⟩:=q;exact όT
  ·have g:71e6[i]?=some 14e2:=e2
   rw[cn,Ld εV,FM] at g
   cases q:own[i - (cap.map λi=>(σ[i]?).join).length]? with
   | none=>rw[q] at g;cases g
   | some o=>rw[q] at g;cases g
 ·obtain⟨v,o,ho,hd⟩:=I.cell x c ιi
  exact ϋW
 ·show (cn σ cap own).length=(fF X.N cap own).length
  simp[cn,fF]
def Lx (X:Cx) (ifs:εC) (t:TT):Prop :=
 ∀(pins:ϗ) (s:ξ) (σ:St) (H:Hp) (Q:εW),Inv X pins σ H s->t σ H Q →
  wpAny Ξ X.A (forIn ifs true λc r=>if r=true then do let ok ← isTrue c X.env (eval c X.env);pure (ForInStep.yield ok) else pure (ForInStep.yield r)) (TP X pins σ Q) X.xe s
def bE:TT:=λ_ H Q=>Q true H
theorem aR:Lx X [] bE:=λ_ _ _ H _ I h=>wpAny_tests_nil #[H,I,h]
theorem cY {c:Expr}{t:TT} (h:PT X c t):Lx X [c] t:=λpins s σ H Q I q=>wpAny_tests_one (h pins s σ H Q I q)
end
variable {A:Around}{s:Shared}
theorem rU {prog:Ϧ}{R:όe}{elt target iter:Expr}{ifs:εC}{scope:γ5}{it acc:μ}{env:Env} (I:Nat->Shared->Prop)
  (turn:∀n s,I n s->wpAny (model prog w) A (pyNext it) (λr s₁=>match r with
   | none=>R ρM s₁
   | some v=>wpAny γe A (letOwnedTupleGo target it v) (λ_ s₁=>wpAny γe A (assign target env v) (λ_ s₂ =>
     wpAny γe A (forIn ifs true λc r=>if r=true then do let ok ← isTrue c env (eval c env);pure (ForInStep.yield ok) else pure (ForInStep.yield r)) (λok s₃ =>
      if ok=true then wpAny γe A (eval elt env) (λx s₄ =>
       wpAny γe A (call (.builtin "list.append") [acc,x]) (λ_ s₅=>∃m,m < n∧I m s₅) εf s₄) εf s₃
      else ∃m,m < n/\I m s₃) εf s₂) εf s₁) εf s₁) εf s)
  (n:Nat) (h:I n s) :
  codeAny γe A (.compLoop ΞB 0 it acc env) R s:=by
 refine codeAny_loop rfl I (λn s hI=>?_) n h
 show wpAny _ A ((compTurn ΞB 0 it acc env).onRaise (λx=>do noteFrame x env;theTreesLotGoes x)) _ _ s
 refine wpAny_noted ?_;rw[compTurn_list];refine wpAny_noRaise ?_;refine E_ (Qp (E_ (IT (turn n s hI) (λr s₁ h₁=>?_) λ_ _ h'=>h')))
 cases r with
 | none=>exact Ga h₁
 | some v =>
  refine E_ (IT h₁ (λ_ s₁ h₁=>?_) λ_ _ h'=>h');refine E_ (IT h₁ (λ_ s₂ h₂=>E_ (IT h₂ (λok s₃ h₃=>?_) λ_ _ h'=>h')) λ_ _ h'=>h')
  cases ok with
  | false=>exact Ga ⟨rfl,h₃⟩
  | true =>
   exact E_ (E_ (IT h₃ (λx s₄ h₄=>E_ (IT h₄ (λ_ s₅ h₅=>Ga (Ga #[rfl,h₅])) λ_ _ h'=>h')) λ_ _ h'=>h'))
def bA (J:It) (g:TG) (tt:TT) (te:TE) (σ0:St) (H1:Hp) (D:Addr) (Q:ζC):Prop :=
 ∃W:Nat->Nat->List V->St->Hp->Prop,(∃m,W 0 m [] σ0 (upd H1 D δr))/\∀i m ys σ H,W i m ys σ H->H D=some γV ∧
  ((J.stop i H/\Q H)\/(J.go i H/\∀x H',J.yld i H x H'->g x σ H' λσ2 H2=>tt σ2 H2 λb H3 =>
   if b=true then te σ2 H3 λv H4=>H4 D=some γV/\ys.length < sizeLine/\∃m',m' < m/\W (i+1) m' ωt σ2 (upd H4 D (.lst ωt))
   else ∃m',m' < m/\W (i+1) m' ys σ2 H3))
def pG (cap:η) (own:ώ) (wi:TI) (g:TG) (tt:TT) (te:TE):TE:=λσ H Q=>wi σ H λJ H1=>∀D,H1 D=none->bA J g tt te οI H1 D (λH'=>Q γ0 H')
section
variable {X:Cx}{sc:Scope}{cap:List Nat}{own:List Str}{tg iter elt:Expr}{ifs:List Expr}{pos:Pos}{wi:TI}{g:TG}{tt:TT}{te:TE}
theorem rV {use:ϊU}{ppos:Pos}{pins:ϗ}{Q:γj}{R:ϥ} (hc:γi) (S:θY) (hi:η3)
  (hg:τf) (ht:τc) (he:τd)
  (hs:Φr) (I:χ) (h:pG cap own wi g tt te σ H Q)
  (fin:ΓY) :
  wpAny Ξ X.A Δf R X.xe s:=by
 obtain⟨cl,ad,a6,b4⟩:=pF (env:=ρ) (scope:=sc) λn hn=>X.env.cells.lookup n |> λ_=>I.ok.has n ύh;refine UP (use:=use) rfl hs ad εD S.locs Θu;obtain⟨it,fp,tn,J,H2,rfl,I2,T,a2,f2,q⟩:=h2;refine Uk ?_;obtain⟨D,hD⟩:∃D,D=s2.heap.objs.size:=ϊ
 have cr:H2 D=none:=by rw[hD];exact I2.hok.fresh Θ
 have I3:Inv X pins σ οd { s2 with heap:=s2.heap.push { cls:=.type "list",dict:=none,data:=.seq ([]:List Value).toArray } }:=by
  show 255
 have b0:∀b∈fp,b≠D:=λb hb z=>by
  obtain⟨o,ho,_⟩:=T.obj _ _ a2 b hb;show 256
 have f3:∀b∈fp,GZ X pins οd b:=λb hb=>#[by rw[ae (b0 b hb)];exact(f2 b hb).1,(f2 b hb).2]
 have cv:tn 0 127e8:=T.keep _ _ _ a2 λb _ o e=>FZ _ e
 rw[<- hD];obtain⟨W,⟨m0,w0⟩,turn⟩:=q D cr
 generalize cw:({ s2 with heap:=s2.heap.push { cls:=.type "list",dict:=none,data:=.seq ([]:List Value).toArray } }:Shared)=s3 at I3 ⊢
 have Z:tn 0 s3.heap:=by rw[<- cw];exact cv
 refine RY ωQ (by intro y hy;simp at hy) (λh1 b6 cs=>?_) S.kind
 have hk:∀b u,s3.heap.get? b=some u->h1.get? b=some u:=λb u e=>cs.extBut b u η8 μ7
 have G:∀b∈fp,b < s3.heap.objs.size:=λb hb=>by
  show 257
 have I4:=I3.block (t':=s3.toks+([]:List Γc).length) S a6 b4 f3 G b6 hk
 have fC:∀H',H' s3.heap.objs.size=none->GZ X pins H' s3.heap.objs.size:=λH' hn=>I3.fpOk Θ hn;obtain⟨C,hC⟩:∃C,C=s3.heap.objs.size:=ϊ;rw[<- hC] at I4 fC;rw[<- hC];obtain⟨Xc,j⟩:∃Xc,Xc=da X sc cl C cap own s3 (upd H2 D (.lst [])) fp:=ϊ;rw[<- j] at I4
 have gX:PG Xc tg g:=j ▸ hg cl C s3 _ fp
 have tX:Lx Xc ifs tt:=j ▸ ht cl C s3 _ fp
 have eX:PE Xc elt te:=j ▸ he cl C s3 _ fp
 have x1:Xc.prog=X.prog:=by rw[j];rfl
 have x2:Xc.w=X.w:=by rw[j];rfl
 have x3:Xc.K=X.K:=by rw[j];rfl
 have x4:Xc.calm=true:=by rw[j];exact hc
 have x5:Xc.A=X.A:=by rw[j];rfl
 have x6:Xc.env=compEnvC sc cl C X.env:=by rw[j];rfl
 have x7:Xc.xe=λ_ _=>False:=by rw[j];rfl
 have E:∀{H':Hp},μG->∀b∈fp,GZ Xc [] H' b:=λhn b hb=>by
  rw[j];refine #[hn b hb,?_,?_,.inl hb,λx c e=>(f3 b hb).2.2.2.2.1 x c (a6 x c e),λp hp=>absurd hp ξj]
  ·show b≠C
   rw[hC];exact F0 (G b hb)
  ·intro z
   rcases FC.mp (I3.stkSub b z) with q | q
   ·show 258
   ·show 259
 have aw:tn 0 h1:=T.keep _ _ _ Z λb _ o e=>hk b o e
 have U:∀s4:Shared,s4 = { s3 with heap:=h1,toks:=s3.toks+([]:List Γc).length } →
   codeAny Ξ X.A (.compLoop θF 0 μ3 γ0 (compEnvC sc cl C ρ)) Ξ3 s4:=by
  rintro s4 rfl;refine rU (λn s'=>∃i σ' H' ys,Inv Xc [] σ' H' s'/\tn i s'.heap/\(∀b∈fp,H' b=none)/\H' D=some (.lst ys)/\W i n ys σ' H') ?_ m0 ⟨0,_,_,[],I4,aw,λb hb=>(f3 b hb).1,ac,w0⟩;rintro n s5 ⟨i,σ5,H5,ys,I5,an,a5,c2,w5⟩;obtain⟨_,O⟩:=turn i n ys σ5 H5 w5;rcases O with ⟨stop,qq⟩ | ⟨go,step⟩
  ·have td:=T.done Xc x1 x2 x3 x4 i [] s5 σ5 H5 εf I5 (E a5) an stop
   rw[x5] at td;refine C_ td λr s6 ⟨hr,I6⟩=>?_;subst hr
   show compPost _ _ _ _ _ _ _ ρM s6
   obtain⟨m6,a1,_⟩:=id I6.loc;rw[x6] at a1
   have u6:=I6.base
   have a0:=I6.hok
   have cc:H5 C=none:=by have:=I6.free;rw[x6] at this;exact this
   have b2:s6.os=s3.os:=by have:=I6.os;rw[j] at this;exact this
   rw[j] at u6 a0
   have IX:Inv X pins σ H5 s6:=I3.call' (s':=s6) b2 u6 a0 I6.bare λb hb=>ΔT;exact fin D C H5 s6 m6 IX a1 (fC H5 cc) qq
  ·have ti:=T.item Xc x1 x2 x3 x4 i [] s5 σ5 H5 εf I5 (E a5) an go
   rw[x5] at ti;refine C_ ti λr s6 ⟨u,hr,h6⟩=>?_;subst hr;refine C_ h6 λ_ s7 ⟨x,H7,I7,r7,y7,Y,ce⟩=>?_
   have cy:=I7.pinned (E ce) ϑs
   have a7:=gX _ s7 σ5 H7 x u _ cy r7 ϐO;rw[x1,x2,x5,x6,x7] at a7;refine C_ a7 λ_ s8 ⟨σ8,H8,I8,q8⟩=>?_
   have a8:=tX _ s8 σ8 H8 _ I8 q8;rw[x1,x2,x5,x6,x7] at a8
   have again:∀{σ9:St}{H9:Hp}{s9:ξ}{zs:δ}{m':Nat},Inv Xc οr σ9 H9 s9->H9 D=some ηa->m' < n->W (i+1) m' zs σ9 H9 →
     ∃m,m < n/\∃i σ' H' ys,Inv Xc [] σ' H' s9/\tn i s9.heap/\μG/\H' D=some γV/\W i m ys σ' H':=λ{σ9 H9 s9 zs m'} I9 hz hm w9=>by
    refine Δc;obtain⟨o,e,d⟩:=T.obj _ _ Y b hb;exact(I9.pin (b,o) νY).2.1
   refine C_ a8 λok s9 ⟨H9,I9,q9⟩=>?_
   cases ok with
   | false =>
    rw[if_neg Hk] at q9 ⊢;obtain⟨m',hm,w9⟩:=q9;exact again I9 (turn _ _ _ _ _ w9).1 hm w9
   | true =>
    rw[if_pos rfl] at q9 ⊢
    have a9:=eX _ s9 σ8 H9 _ I9 q9;rw[x1,x2,x5,x6,x7] at a9;refine C_ a9 λv ch ⟨y,a4,ck,b1,bm,bt,m',hm,b3⟩=>?_
    have aT:=bi (X:=Xc) οr ch σ8 a4 γ0 [y] γ0 [v] (λ_ a3=>a3=upd a4 D ώu) ck rfl (.cons b1 .nil) #[D,ys,y,rfl,rfl,bm,bt,rfl];rw[x1,x2,x5,x7] at aT;refine C_ aT λ_ c3 ⟨_,a3,b5,_,c0⟩=>?_;subst c0;exact again b5 ac hm b3
 exact SK πy (T.self _ 0 _ _ _ aw πy)
theorem bc (S:θY) (hc:γi) (hi:η3)
  (hg:τf) (ht:τc) (he:τd)
  (hs:∀x,foldedSetIterable iter ρ x=pure x:=by intro _;rfl):PE X θF (pG cap own wi g tt te):=by
 intro j s σ H Q I h;rw[ϑt];refine rV (use:=none) hc S hi hg ht he hs I h λD C H' s' m I' hn hf q=>?_;refine ϊV;obtain⟨f0,f1,f2,f3,f4,f5⟩:=hf;exact Δt
theorem cK {i:Nat}{x:Str}{pos' spos:Pos} (hN:ιp) (hi':ηU) (hx:ι9) (S:θY) (hc:γi) (hi:η3)
  (hg:τf) (ht:τc) (he:τd)
  (hsw:swapsWith θF ϋQ spos.line X.env=pure true:=by rfl) (hs:∀x,foldedSetIterable iter ρ x=pure x:=by intro _;rfl)
  (hf:X.fn x=true\/X.env.scope.names.lookup x=some .local:=by first | exact .inl rfl | exact .inr rfl | assumption) :
  PS X (.Assign [.Name x pos'] θF spos) (λD σ H=>pG cap own wi g tt te σ H λv H1=>D.nx οh H1):=by
 intro j s σ H D I h;rw[exec_Assign_Name_used _ _ _ _ hsw];refine E_ (Qp (E_ ?_))
 show wpAny _ X.A (do let _ ← comprehension (.ListComp elt [⟨tg,iter,ifs,0⟩] sc pos) sc X.env _ (newList []) false (eval iter X.env) (some (assign (.Name x pos') X.env))) _ _ s
 refine E_ (C_ (rV (use:=some (assign ΓO ρ)) (R:=λ_ s'=>SP X j D .next s') hc S hi hg ht he hs I h λA C H' s' m I' hn G q=>?_) (λ_ s' hq=>Ga (Ga hq)));obtain⟨f0,f1,f2,f3,f4,f5⟩:=G;refine Te (rB I' hN hi' hx (v:=.ref A) rfl (λE J ⟨a,sa,ha⟩=>?_) hf)
 have O:C≠a:=by
  rcases ha with z | z
  ·rw[z];exact f1
  ·exact λw=>f4 x a z w.symm
 refine #[m,hn.sameBut sa O,λh' sb=>?_];exact #[_,H',J.turned (t':=E.toks) μ8 f0 f1 f3 f4 f5,q]
end
section
variable {X:Cx}{pins:List (Addr × Obj)}{σ:St}{H:Hp}{s:Shared}{h':Heap}
theorem Inv.turnedUp {o:HO} (I:χ) (hf:μD) (k:Ξ9) (ha:χc)
  (new:ΨV):Inv X pins σ θI { s with heap:=h',toks:=t' }:=by
 have ne:∀b u,s.heap.get? b=some u->b≠a:=λb u e=>F0 (GU εG ha)
 have nH:H a=none:=I.hok.fresh ha
 have nb:∀b u,H b=some u->b≠a:=λb u e z=>by rw[z,nH] at e;cases e
 have nf:∀b u,H b=some u->b∉fp:=λb u e z=>by rw[(hf b z).1] at e;cases e
 refine I.step (g':=νw) (d':=s.drawn) (ch:=fp) ΔE ΨY Φ8
  (λb o _ e n=>by rw[ae (ne b o e)];exact n) (λb o hc e=>?_) (λb xs e=>by rw[ae ω4];exact e) (λb o u e=>by rw[ae ω4];exact e) (λb ps e=>#[#[],by rw[ae ω4,e];simp])
  (λm hm=>by
   obtain⟨oL,es,ep,ho,r⟩:=hm
   exact Ξp) ϐ9 εk
 ·exact ύi
 ·by_cases hb:b=a
  ·subst hb;rw[ac] at e;cases e;exact new
  ·rw[ae hb] at e
   refine(I.hok b u e).stay ϊj (λc q=>by rw[ae (nb c _ q)];exact q) λc xs q=>by rw[ae (nb c _ q)];exact q
   rcases hc with z | z
   ·rw[z];exact nf b u e
   ·exact nf c _ z
theorem Inv.turnedL (I:χ) (hf:μD) (k:Ξ9):Inv X pins σ H { s with heap:=h',toks:=t' }:=by
 have nf:∀b u,H b=some u->b∉fp:=λb u e z=>by rw[(hf b z).1] at e;cases e
 refine I.step (g':=νw) (d':=s.drawn) (ch:=fp) ΔE ΨY Φ8
  (λb o _ e n=>n) (λb o hc e=>ύi) (λb xs e=>e) (λb o u e=>e) (λb ps e=>#[#[],by rw[e];simp])
  (λm hm=>by
   obtain⟨oL,es,ep,ho,r⟩:=hm
   exact Ξp) ϐ9 εk
 refine(I.hok b u e).stay (λc v hc q=>k c v ?_ q) (λ_ q=>q) λ_ _ q=>q;rcases hc with z | z
 ·rw[z];exact nf b u e
 ·exact nf c _ z
end
def Ls (K:m_) (l1 l2:Addr) (xs ys:δ):It :=
 ⟨λi H=>c_ K H l1 xs/\c_ K H l2 ys/\i < xs.length/\i < ys.length,λi H x H'=>∃T u v,H T=none/\x=.ref T/\xs[i]?=some u/\ys[i]?=some v/\H'=upd H T (.tup [u,v]),
  λi H=>c_ K H l1 xs/\c_ K H l2 ys/\(xs.length<=i\/ys.length<=i)⟩
structure Lw (z TI TO i1 i2:Addr):Prop where
 TIz:TI≠z
 TOz:TO≠z
 i1z:i1≠z
 i2z:i2≠z
 TITO:TI≠TO
 TIi1:TI≠i1
 TIi2:TI≠i2
 TOi1:TO≠i1
 TOi2:TO≠i2
 i12:i1≠i2
theorem Dx (n:Nat):Lw (n+4) (n+2) (n+3) n (n+1) :=
 ⟨(by omega:(n+2:Nat)≠n+4),(by omega:(n+3:Nat)≠n+4),(by omega:(n:Nat)≠n+4),(by omega:(n+1:Nat)≠n+4),(by omega:(n+2:Nat)≠n+3),(by omega:(n+2:Nat)≠n),
  (by omega:(n+2:Nat)≠n+1),(by omega:(n+3:Nat)≠n),(by omega:(n+3:Nat)≠n+1),(by omega:(n:Nat)≠n+1)⟩
variable {h:Heap}
theorem cM {b:Addr}{x y:γF}{o:Obj}{T:ζ7} (hl:h.IsList a x) (ho:χV) (hc:o.cls=.type T) (hT:T ≠ "list"):a≠b:=by
 rintro rfl;obtain⟨o',j,g,_⟩:=hl;rw[ho] at j
 cases j;rw[hc] at g
 cases g;exact hT rfl
variable {l1 l2:Addr}
theorem Lw.apart {z TI TO i1 i2:Addr}{a b c d:μ}{k1 k2:Nat}{xs ys:γF} (F:ώv) (hz:SS h z TI TO a) (hTO:Sa h TO b c) (h1:h.IsListIter i1 l1 k1) (h2:h.IsListIter i2 l2 k2)
  (hl1:h.IsList l1 xs) (hl2:h.IsList l2 ys):PySem.ZipApart z TI TO i1 i2 l1 l2:=by
 obtain⟨o1,e1,c1,_⟩:=id h1;obtain⟨o2,e2,c2,_⟩:=id h2
 exact⟨F.TIz,F.TOz,F.i1z,F.i2z,F.TITO,F.TIi1,F.TIi2,F.TOi1,F.TOi2,F.i12,
  cM (y:=xs) hl1 hz rfl ζ,cM (y:=xs) hl1 hTO rfl ζ,cM (y:=xs) hl1 e1 c1 ζ,cM (y:=xs) hl1 e2 c2 ζ,
  cM (y:=xs) hl2 hz rfl ζ,cM (y:=xs) hl2 hTO rfl ζ,cM (y:=xs) hl2 e1 c1 ζ,cM (y:=xs) hl2 e2 c2 ζ⟩
variable {elts:List Expr}
theorem B1 {x1}{tp:Pos}{z TI TO i1 i2 l1 l2:Addr} (F:ώv) (xs ys:δ) :
  IK P w K ι3 ύj [z,TI,TO,i1,i2] z (λi h=>SS h z TI TO .none/\Sa h TI (.ref i1) (.ref i2)/\(∃a b,Sa h TO a b)/\h.IsListIter i1 l1 i/\h.IsListIter i2 l2 i) where
 mem:=by simp
 obj:=λi h st b hb=>by
  obtain⟨hz,j,⟨a,c,g⟩,⟨o1,e1,c1,d1⟩,o2,e2,c2,d2⟩:=st;show 48;rcases hb with rfl | rfl | rfl | rfl | rfl
  ·exact Θi
  ·exact #[_,j,λv q=>by have q':Data.seq _ _=Data.cell v:=q;cases q']
  ·exact #[_,g,λv q=>by have q':Data.seq _ _=Data.cell v:=q;cases q']
  ·exact Φo
  ·exact #[o2,e2,λv q=>by rw[d2] at q;cases q]
 keep:=λi h h' st k=>by
  obtain⟨hz,j,⟨a,b,g⟩,h1,h2⟩:=st;exact #[k z ϒ _ hz,k TI (by simp) _ j,#[a,b,k TO (by simp) _ g],h1.at λo e=>k i1 (by simp) o e,h2.at λo e=>k i2 (by simp) o e]
 item:=by
  show 260;obtain⟨q1,q2,b1,b2⟩:=hg;show 261
  show 262
  have hy:ys[i]?=some ys[i]:=s_ b2;obtain⟨u,hu,ru⟩:=D.get hx;obtain⟨v,hv,rv⟩:=G.get hy
  have lt:∀{c o},s.heap.get? c=some o->c≠s.heap.objs.size:=λe=>F0 εG;refine PySem.wpAny_pyNext_zip_item ΞC hz j g h1 h2 θK ζP (x:=u) (y:=v) μI (by simpa using hv) λh' a1 a2 a3 a4 a5 a6 hk=>?_
  refine #[_,rfl,PySem.wpAny_letOwnedTupleGo_zip a1 λU O sb=>?_]
  have Y:s.heap.objs.size≠z:=(lt hz).symm
  have kk:∀b u,b∉[z,TI,TO,i1,i2]->s.heap.get? b=some u->U.get? b=some u:=λb u hb e=>by
   show 135;exact sb.extBut _ _ hb.1 (hk b u hb.1 hb.2.2.1 hb.2.2.2.1 hb.2.2.2.2 e)
  refine⟨.ref Ω,upd H Ω (.tup [xs[i],ys[i]]),I.turnedUp (t':=δS) hf kk Θ ⟨by show 2<=εt;decide,[u,v],.cons ru (.cons rv .nil),⟨_,sb.extBut _ _ Y a5,rfl,_,rfl⟩⟩,rfl,
   ⟨_,_,_,I.hok.fresh Θ,rfl,hx,hy,rfl⟩,⟨O,sb.extBut _ _ F.TIz (hk _ _ F.TIz F.TITO F.TIi1 F.TIi2 j),⟨_,_,sb.extBut _ _ F.TOz a2⟩,a3.at λo e=>sb.extBut _ _ F.i1z e,a4.at λo e=>sb.extBut _ _ F.i2z e⟩,λb hb=>?_⟩
  have:b≠s.heap.objs.size:=by
   show 263;obtain⟨o2,e2,_⟩:=id h2;show 48;rcases hb with rfl | rfl | rfl | rfl | rfl
   ·exact lt hz
   ·exact lt j
   ·exact lt g
   ·exact lt e1
   ·exact lt e2
  show 264
 done:=by
  show 260;obtain⟨q1,q2,R⟩:=hg;show 261
  have l1:=D.length
  have l2:=G.length;refine PySem.wpAny_pyNext_zip_end δ3 ΞC hz j g h1 h2 θK ζP ?_ λh' hk=>Ξq
  ·rcases R with q | q
   ·exact .inl υz
   ·exact .inr υz
  ·simp only[FC,GH,or_false,not_or] at hb
   exact hk b u hb.1 hb.2.2.1 hb.2.2.2.1 hb.2.2.2.2 e
 self:=λ_ _ _ _ _ st h=>Ug st.1 h
section
variable {X:Cx}
inductive AA (K:m_) (R:δZ) (vs:δ) (H1:Hp):Prop
 | mk:∀l1 l2 xs ys,vs=[.ref l1,.ref l2]->c_ K H1 l1 xs->c_ K H1 l2 ys->R (Ls K l1 l2 xs ys) H1->AA K R vs H1
def O0 (K:m_) (ta:TA):TI:=λσ H R=>ta σ H λvs H1=>AA K R vs H1
theorem B2:bootBuiltins "zip" = some (.type "zip"):=by decide +kernel
theorem pH {x1}{tp:Pos}{a b:Expr}{ta:TA}{p pos:Pos} (hg:Gl X "zip") (hm:X.mg "zip" = none) (ha:ϑi) (hs:starEach [a,b] X.env=[(τ,eval a ρ),(τ,eval b ρ)]:=by rfl) (hs2:starEach [b] X.env=[(τ,eval b ρ)]:=by rfl) :
  PI X ι3 (.Call (.Name "zip" p) [a,b] [] pos) (O0 X.K ta):=by
 intro g s σ H R I h;refine Call_ (cG I hg hm B2 (M9 (C_ (ha pos g s σ H _ I h) λus s1 ⟨vs,H1,I1,r1,q1⟩=>?_) (by rw[hs,hs2]) (by rw[hs2];rfl)))
 obtain⟨l1,l2,xs,ys,e,h1,h2,q⟩:=q1;subst e;obtain⟨u,v,rfl,ru,rv⟩:=fB r1
 cases ru
 cases rv;obtain⟨j,E,p1,_⟩:=I1.list h1;obtain⟨D,G,p2,_⟩:=I1.list h2;refine PySem.call_zip_2 θK ζP λh' a1 a2 a3 a4 a5 a6 a7=>?_;refine Ug a1 ?_
 refine⟨s1.heap.objs.size+4,[s1.heap.objs.size+4,s1.heap.objs.size+2,s1.heap.objs.size+3,δ2,s1.heap.objs.size+1],_,_,H1,rfl,I1.kept (t':=ζ3) λb o e=>a7 b o e,B1 (Dx _) xs ys,
  ⟨a1,a2,⟨_,_,a3⟩,a4,a5⟩,λb hb=>?_,q⟩
 have:s1.heap.objs.size<=b:=by
  show 48;rcases hb with rfl | rfl | rfl | rfl | rfl
  ·exact MS _ 4
  ·exact MS _ 2
  ·exact MS _ 3
  ·show 38
  ·exact MS _ 1
 exact I1.fpOk this όU
end
variable {ys:List V}
theorem xB {D:GW} (Pv:η1) (h0:ζy) (hl:Θz) (he:όV)
  (hs:∀i u v T σ H,i < xs.length->xs[i]?=some u->ys[i]?=some v->H T=none->Pv i σ H->g ζh σ υF λσ2 H2=>tb { D with nx:=Pv (i+1),ct:=Pv (i+1),bk:=D.nx } σ2 H2) (hd:θU) :
  ∃W:Nat->Nat->St->Hp->Prop,ζq/\∀i m σ H,W i m σ H →
   145e6\/((Ls K l1 l2 xs ys).go i H/\∃N:St->Hp->Prop,εP/\∀x H',(Ls K l1 l2 xs ys).yld i H x H'->g x σ H' λσ2 H2=>tb { D with nx:=N,ct:=N,bk:=D.nx } σ2 H2):=by
 refine θO
 rintro i m σ H ⟨rfl,hi,p⟩;obtain⟨q1,q2⟩:=hl i σ H hi p
 by_cases hlt:i < xs.length
 ·refine .inr Δh
  obtain⟨T,u,v,hT,rfl,hu,hv,rfl⟩:=y;exact hs i u v T σ H hlt hu hv hT p
 ·have e:i=xs.length:=by omega
  exact .inl ΞD
inductive Dt where
 | non | bl (b:Bool) | int (i:Int) | str (x:Str) | lst (l:List Dt) | tup (l:List Dt)
mutual
def FU:Dt->Dt->Bool
 | .non,.non=>true
 | .bl a,.bl b=>a == b
 | .bl a,.int b=>όk == b
 | .int a,.bl b=>a == όl
 | .int a,.int b=>a == b
 | .str a,.str b=>a == b
 | .lst a,.lst b=>G7 a b
 | .tup a,.tup b=>G7 a b
 | _,_=>false
def G7:List Dt->List Dt->Bool
 | [],[]=>true
 | a :: as,b :: bs=>FU a b && G7 as bs
 | [],_ :: _=>false
 | _ :: _,[]=>false
end
mutual
def Gh:Dt->Nat
 | .lst a=>cu a+1
 | .tup a=>cu a+1
 | _=>0
def cu:List Dt->Nat
 | []=>0
 | a :: as=>max (Gh a) (cu as)
end
mutual
def h_ (K:m_) (H:Hp):V->Dt->Prop
 | v,.non=>v=.non
 | v,.bl b=>v=.bl b
 | v,.int i=>v=.int i
 | v,.str x=>v=.str x
 | v,.lst ds=>∃a xs,v=.ref a/\c_ K H a xs/\Fu K H xs ds
 | v,.tup ds=>∃a xs,v=.ref a/\Gn K H a xs/\Fu K H xs ds
def Fu (K:m_) (H:Hp):List V->List Dt->Prop
 | xs,[]=>xs=[]
 | xs,d :: ds=>∃v vs,xs=v :: vs/\h_ K H v d/\Fu K H vs ds
end
theorem ni:∀{a b:ηf},G7 a b=true->a.length=b.length
 | [],[],_=>rfl
 | x :: a,y :: b,h=>by
  rw[G7,IU] at h;rw[Io,Io,ni h.2]
 | [],_ :: _,h=>by rw[G7] at h;cases h
 | _ :: _,[],h=>by rw[G7] at h;cases h
theorem Fu.length {K:m_}{H:Hp}:∀{ds:ηf}{xs:δ},Fu K H xs ds->xs.length=ds.length
 | [],xs,h=>by rw[Fu] at h;rw[h];rfl
 | d :: ds,xs,h=>by
  show 87;obtain⟨v,vs,rfl,_,t⟩:=h;rw[Io,Io,Fu.length t]
theorem Fu.get {K:m_}{H:Hp}:∀{ds:ηf}{xs:δ} (j:Nat) (h1:j < xs.length) (h2:ϑu),Fu K H xs ds->h_ K H xs[j] ds[j]
 | d :: ds,xs,j,h1,h2,h=>by
  show 87;obtain⟨v,vs,rfl,s,t⟩:=h
  cases j with
  | zero=>exact s
  | succ j=>exact Fu.get j οo οp t
theorem hJ:∀{a b:ηf},a.length=b.length->G7 a b=(r_ a.length).all λj=>FU (a.getD j .non) (b.getD j .non)
 | [],[],_=>by rw[G7];rfl
 | x :: a,y :: b,h=>by
  have ih:=hJ (a:=a) (b:=b) (by simpa using h)
  rw[G7,ih,Io,PZ,P7,RT];rfl
theorem xC:∀{ds:ηf}{j:Nat} (h:ϑu),Gh ds[j]<=cu ds
 | d :: ds,j,h=>by
  rw[cu]
  cases j with
  | zero=>exact Nat.le_max_left _ _
  | succ j =>
   have h':j < ds.length:=by simpa using h
   exact FG (xC (ds:=ds) (j:=j) h') (Nat.le_max_right _ _)
mutual
theorem fi:∀d:Dt,FU d d=true
 | .non=>by rw[FU]
 | .bl b=>by rw[FU];exact beq_self_eq_true _
 | .int b=>by rw[FU];exact beq_self_eq_true _
 | .str b=>by rw[FU];exact beq_self_eq_true _
 | .lst l=>by rw[FU];exact lc l
 | .tup l=>by rw[FU];exact lc l
theorem lc:∀l:List Dt,G7 l l=true
 | []=>by rw[G7]
 | d :: l=>by rw[G7,fi d,lc l];rfl
end
section
variable {X:Cx}{pins:List (Addr × Obj)}{σ:St}{H:Hp}{s:Shared}
mutual
theorem B3 (I:χ):∀{d d':Dt}{v:V},h_ X.K H v d->h_ X.K H v d'->d=d'
 | .non,d',v,h,h'=>by
  show 88
  cases d' <;> rw[h_] at h' <;> first | (obtain⟨a,xs,z,_⟩:=h';cases z) | rfl | cases h'
 | .bl b,d',v,h,h'=>by
  show 88
  cases d' <;> rw[h_] at h' <;> first | (obtain⟨a,xs,z,_⟩:=h';cases z) | (cases h';rfl) | cases h'
 | .int b,d',v,h,h'=>by
  show 88
  cases d' <;> rw[h_] at h' <;> first | (obtain⟨a,xs,z,_⟩:=h';cases z) | (cases h';rfl) | cases h'
 | .str b,d',v,h,h'=>by
  show 88
  cases d' <;> rw[h_] at h' <;> first | (obtain⟨a,xs,z,_⟩:=h';cases z) | (cases h';rfl) | cases h'
 | .lst ds,d',v,h,h'=>by
  show 265
  cases d' with
  | lst ds' =>
   show 89
   cases z
   have:=I.list_inj q q';show 266
  | tup ds' =>
   show 89
   cases z;obtain⟨its,_,p,_⟩:=I.list q;obtain⟨its',_,p',_⟩:=I.tuple q';exact absurd rfl (Ux γB p')
  | _=>rw[h_] at h';cases h'
 | .tup ds,d',v,h,h'=>by
  show 265
  cases d' with
  | tup ds' =>
   show 89
   cases z
   have:=I.tuple_inj q q';show 266
  | lst ds' =>
   show 89
   cases z;obtain⟨its,_,p,_⟩:=I.tuple q;obtain⟨its',_,p',_⟩:=I.list q';exact absurd rfl (Ux πz p)
  | _=>rw[h_] at h';cases h'
theorem fJ (I:χ):∀{ds ds':ηf}{xs:δ},Fu X.K H xs ds->Fu X.K H xs ds'->ds=ds'
 | [],ds',xs,h,h'=>by
  show 87;subst h
  cases ds' with
  | nil=>rfl
  | cons d' ds'=>rw[Fu] at h';obtain⟨_,_,z,_⟩:=h';cases z
 | d :: ds,ds',xs,h,h'=>by
  show 87;obtain⟨v,vs,rfl,q,t⟩:=h
  cases ds' with
  | nil=>rw[Fu] at h';cases h'
  | cons d' ds' =>
   rw[Fu] at h';obtain⟨v',vs',z,q',t'⟩:=h'
   cases z;rw[B3 I q q',fJ I t t']
end
def zj:Dt->Bool
 | .lst _=>false
 | .tup _=>false
 | _=>true
theorem xD (I:χ) {A:Ϟ}{d d':Dt}{v v':V}{u u':μ} (h:h_ X.K H v d) (h':h_ X.K H v' d') (r:ηi) (r':k_ v' u') (f:zj d=true) (hu:A.units < cLine):GS A s u u' 56e2:=by
 have j:∀(T:GS A s u u' νe),GS A s u u' 56e2:=λT=>T
 cases d with
 | lst l=>exact absurd (show false=true from f) Hk
 | tup l=>exact absurd (show false=true from f) Hk
 | non =>
  show 90;cases r
  cases d' with
  | lst l=>simp only[h_] at h';obtain⟨a,xs,rfl,q,t⟩:=h';cases r';obtain⟨g,rv,p,_⟩:=I.list q;show 49;exact GS.none_list γB hu
  | tup l=>simp only[h_] at h';obtain⟨a,xs,rfl,q,t⟩:=h';cases r';obtain⟨g,rv,p,_⟩:=I.tuple q;show 49;exact GS.none_tuple p hu
  | non=>simp only[h_] at h';show 13;exact bW (y:=.non) (x:=.non) rfl r' rfl rfl
  | bl b=>simp only[h_] at h';show 13;exact bW (y:=.non) (x:=.bl b) rfl r' rfl rfl
  | int b=>simp only[h_] at h';show 13;exact bW (y:=.non) (x:=.int b) rfl r' rfl rfl
  | str b=>simp only[h_] at h';show 13;exact bW (y:=.non) (x:=.str b) rfl r' rfl rfl
 | bl c =>
  show 90
  cases d' with
  | lst l=>cases r;show 136;exact GS.bool_list c γB hu
  | tup l=>cases r;show 137;exact GS.bool_tuple c p hu
  | non=>simp only[h_] at h';show 13;exact bW (y:=.bl c) (x:=.non) r r' rfl rfl
  | bl b=>simp only[h_] at h';show 13;exact bW (y:=.bl c) (x:=.bl b) r r' rfl rfl
  | int b=>simp only[h_] at h';show 13;exact bW (y:=.bl c) (x:=.int b) r r' rfl rfl
  | str b=>simp only[h_] at h';show 13;exact bW (y:=.bl c) (x:=.str b) r r' rfl rfl
 | int c =>
  show 90
  cases d' with
  | lst l=>obtain⟨t,rfl⟩:=r;show 136;exact GS.int_list c _ γB hu
  | tup l=>obtain⟨t,rfl⟩:=r;show 137;exact GS.int_tuple c _ p hu
  | non=>simp only[h_] at h';show 13;exact bW (y:=.int c) (x:=.non) r r' rfl rfl
  | bl b=>simp only[h_] at h';show 13;exact bW (y:=.int c) (x:=.bl b) r r' rfl rfl
  | int b=>simp only[h_] at h';show 13;exact bW (y:=.int c) (x:=.int b) r r' rfl rfl
  | str b=>simp only[h_] at h';show 13;exact bW (y:=.int c) (x:=.str b) r r' rfl rfl
 | str c =>
  show 90
  cases d' with
  | lst l=>obtain⟨t,rfl⟩:=r;show 136;exact GS.str_list c _ γB hu
  | tup l=>obtain⟨t,rfl⟩:=r;show 137;exact GS.str_tuple c _ p hu
  | non=>simp only[h_] at h';show 13;exact bW (y:=.str c) (x:=.non) r r' rfl rfl
  | bl b=>simp only[h_] at h';show 13;exact bW (y:=.str c) (x:=.bl b) r r' rfl rfl
  | int b=>simp only[h_] at h';show 13;exact bW (y:=.str c) (x:=.int b) r r' rfl rfl
  | str b=>simp only[h_] at h';show 13;exact bW (y:=.str c) (x:=.str b) r r' rfl rfl
def eJ (ds ds':ηf) (j:Nat):Bool:=FU (ds.getD j .non) (ds'.getD j .non)
variable {ds ds':List Dt}{its:List Value}
theorem fj {xs':δ}{its':ψ} (t:Fu X.K H xs ds) (t':Fu X.K H xs' ds') (rv:j_ xs its) (rv':j_ xs' its')
  (ih:∀(d d':Dt) (v v':V) (u u':μ),Gh d<=cu ds->h_ X.K H v d->h_ X.K H v' d'->k_ v u->k_ v' u'->GS A s u u' νe) :
  ∀j (h1:j < its.toArray.size) (h2:j < its'.toArray.size),GS A s its.toArray[j] its'.toArray[j] (eJ ds ds' j):=by
 intro j h1 h2
 have l1:=rv.length
 have l2:=rv'.length
 have k1:=t.length
 have k2:=ωu;simp only[Gk] at h1 h2
 have b1:j < xs.length:=by omega
 have b2:j < xs'.length:=by omega
 have c1:j < ds.length:=by omega
 have c2:j < ds'.length:=by omega
 obtain⟨u,hu,ru⟩:=rv.get (s_ b1);obtain⟨u',h,g⟩:=rv'.get (s_ b2)
 have e1:its.toArray[j]=u:=by
  have:=(Gr.mp hu).2
  simpa using this
 have e2:its'.toArray[j]=u':=by
  have:=(Gr.mp h).2
  simpa using this
 rw[e1,e2]
 have g1:ds.getD j .non=ds[j]:=by rw[v_,s_ c1];rfl
 have g2:ds'.getD j .non=ds'[j]:=by rw[v_,s_ c2];rfl
 unfold eJ;rw[g1,g2];exact ih _ _ _ _ _ _ (xC c1) (Fu.get j b1 c1 t) (Fu.get j b2 c2 t') ru g
theorem jS (h:ds.length≠ds'.length):G7 ds ds'=false:=by
 cases q:G7 ds ds' with
 | false=>rfl
 | true=>exact absurd (ni q) h
theorem qJ:((r_ (min ds.length ds'.length)).all (eJ ds ds') && ds.length == ds'.length)=G7 ds ds':=by
 by_cases h:ds.length=ds'.length
 ·rw[h,UE,οE,Sy,hJ h,h]
  rfl
 ·rw[jS h,beq_eq_false_iff_ne.mpr h,Tk]
theorem mv (I:χ):∀(n:Nat) (A:Ϟ) (d d':Dt) (v v':V) (u u':μ),Gh d<=n->h_ X.K H v d->h_ X.K H v' d'->k_ v u->k_ v' u'->A.units+n < cLine->GS A s u u' 56e2:=by
 intro n
 induction n with
 | zero =>
  show 267;refine xD I h h' r r' ?_ hu
  cases d with
  | lst l=>simp only[Gh] at hn;omega
  | tup l=>simp only[Gh] at hn;omega
  | _=>rfl
 | succ n ih =>
  show 267
  have g:A.units < cLine:=by omega
  have J:A.in1.units+n < cLine:=by
   have:A.in1.units=A.units+1:=rfl;omega
  cases fd:zj d with
  | true=>exact xD I h h' r r' fd g
  | false =>
   cases d with
   | lst l =>
    show 268
    cases r;obtain⟨G,rv,p,_⟩:=I.list q
    cases d' with
    | non=>simp only[h_] at h';show 91;exact GS.list_none γB g
    | bl b=>simp only[h_] at h';show 91;exact GS.list_bool b γB g
    | int b=>simp only[h_] at h';show 92;exact GS.list_int b _ γB g
    | str b=>simp only[h_] at h';show 92;exact GS.list_str b _ γB g
    | tup l' =>
     show 93
     show 269;show 49;exact GS.list_tuple γB p' g
    | lst l' =>
     have h2:=h';show 93
     show 270
     by_cases e:a=a'
     ·subst e
      have:xs=E:=I.list_inj q q';show 16
      show 271
     ·refine Sw e ?_
      have Q:=rv.length
      have R:=j.length
      show 50
      show 272
      show 138
      ·have:=T6 (A:=A) (e:=eJ l l') γB πz υr g Δq
       show 273
       rw[hs] at this;rw[hJ hl];show 11
      ·rw[jS hl]
       exact UD γB πz τE g
   | tup l =>
    show 268
    cases r;obtain⟨G,rv,p,_⟩:=I.tuple q
    cases d' with
    | non=>simp only[h_] at h';show 91;exact GS.tuple_none p g
    | bl b=>simp only[h_] at h';show 91;exact GS.tuple_bool b p g
    | int b=>simp only[h_] at h';show 92;exact GS.tuple_int b _ p g
    | str b=>simp only[h_] at h';show 92;exact GS.tuple_str b _ p g
    | lst l' =>
     show 93
     show 270;show 49;exact GS.tuple_list p πz g
    | tup l' =>
     show 93
     show 269
     by_cases e:a=a'
     ·subst e
      have:xs=E:=I.tuple_inj q q';show 16
      show 271
     ·refine Sw e ?_
      have Q:=rv.length
      have R:=j.length
      show 50
      show 272
      have:=TC (A:=A) (e:=eJ l l') p p' g Δq
      show 273
      have O:D.toArray.size=l'.length:=by simp only[Gk];omega
      rw[hs,O,qJ] at this;show 11
   | _=>cases fd
end
section
variable {X:Cx}
def Fe:Dt->Dt->Bool
 | .lst _,.tup _=>false
 | .tup _,.lst _=>false
 | _,_=>true
inductive Mp (K:m_) (neg:Bool) (x y:V) (H:Hp) (Q:VK):Prop
 | mk:∀d d',h_ K H x d->h_ K H y d'->zj d=false->Fe d d'=true->((∃p,y=.ref p))->Gh d<=60->(Q (.bl (if neg then !FU d d' else FU d d')) H)->Mp K neg x y H Q
theorem AB (hu:όp):HH X ϐ3 (Mp X.K τ):=by
 show 235;show 274
 cases ry
 show 275
 have J:X.A.in1.units+60 < cLine:=by
  show 276
 have fin:∀b,b=FU d d'->EP X O σ Q πp s:=λb e=>Ψ7
 cases d with
 | lst l =>
  show 94
  show 10;obtain⟨E,rv,p,_⟩:=I.list q1
  cases d' with
  | tup l' =>
   show 95
   show 277;exact Th.list_tuple γB p2 D _ _ _ _ ϊa
  | lst l' =>
   show 95
   show 278
   have T:=rv.length
   show 96
   show 50
   show 97
   show 138
   ·have hs:E.toArray.size=l.length:=by simp only[Gk];omega
    refine T6 (A:=X.A) (e:=eJ l l') γB ζP υr D Δl _ _ _ _ ιm
    show 279
   ·refine UD γB ζP τE D _ _ _ _ ιm
    show 280
  | _=>simp only[h_] at h2;cases h2
 | tup l =>
  show 94
  show 10;obtain⟨E,rv,p,_⟩:=I.tuple q1
  cases d' with
  | lst l' =>
   show 95
   show 278;exact Th.tuple_list p ζP D _ _ _ _ ϊa
  | tup l' =>
   show 95
   show 277
   have T:=rv.length
   show 96
   show 50
   show 97
   have hs:E.toArray.size=l.length:=by simp only[Gk];omega
   have R:j.toArray.size=l'.length:=by simp only[Gk];omega
   refine TC (A:=X.A) (e:=eJ l l') p p2 D Δl _ _ _ _ ιm
   show 49;rw[hs,R,qJ]
  | _=>simp only[h_] at h2;cases h2
 | _=>cases fd
theorem hU (hu:όp):HH X ύ8 (Mp X.K true):=by
 intro J s σ H x y v u Q I rx ry h;show 274
 cases ry
 show 275
 have G:X.A.in1.units+60 < cLine:=by
  show 276
 have fin:∀b,b=(!FU d d')->EP X J σ Q πp s:=λb e=>Ψ7
 cases d with
 | lst l =>
  show 94
  show 10;obtain⟨j,rv,p,_⟩:=I.list q1
  cases d' with
  | lst l' =>
   show 281
   cases z;obtain⟨E,g,p2,_⟩:=I.list q'
   have R:=rv.length
   show 96
   show 50
   show 97
   show 138
   ·have hs:j.toArray.size=l.length:=by simp only[Gk];omega
    refine Sc.lists (A:=X.A) (e:=eJ l l') γB ζP υr D Δm _ _ _ _ ιm
    show 279
   ·refine Sc.lists_lengths γB ζP τE D _ _ _ _ ιm
    show 280;rfl
  | tup l'=>cases sk
  | _=>simp only[h_] at h2;cases h2
 | tup l =>
  show 94
  show 10;obtain⟨j,rv,p,_⟩:=I.tuple q1
  cases d' with
  | tup l' =>
   show 281
   cases z;obtain⟨E,g,p2,_⟩:=I.tuple q'
   have R:=rv.length
   show 96
   show 50
   show 97
   have hs:j.toArray.size=l.length:=by simp only[Gk];omega
   have O:E.toArray.size=l'.length:=by simp only[Gk];omega
   refine Sc.tuples (A:=X.A) (e:=eJ l l') p p2 D Δm _ _ _ _ ιm
   show 49;rw[hs,O,qJ]
  | lst l'=>cases sk
  | _=>simp only[h_] at h2;cases h2
 | _=>cases fd
end
variable {D:Addr}
theorem a_.up {H':Hp}{o:HO} (s:γN) (n:πU):a_ H (upd H' D o):=λb u e=>by rw[ae (aq e n)];exact s b u e
variable {J:It}{n:Nat}{src f:Nat->V}{te:TE}{cs:St}{H1:Hp}{Q:Hp->Prop}
theorem lg {k:Nat} (hD:γz) (hk:γU) (hn:ε0)
  (stop:ι0) (go:θW) (yld:τi)
  (he:∀i H (R:γj),i < n->a_ H1 H->ζp->te οe H R)
  (hQ:ξf):bA J δn bE te δk H1 D Q:=by
 refine #[λi m ys σ H=>m=n - i/\i<=n/\a_ H1 H/\ys=(r_ i).map f/\H D=some γV/\∃o,σ=cs++[o],ΞH,?_];rintro i m ys σ H ⟨rfl,hi,sm,rfl,hd,o,rfl⟩;refine θ0
 by_cases hlt:i < n
 ·refine .inr θV
  obtain⟨rfl,rfl⟩:=yld i H x H' hlt sm y
  have e:(cs++[o]).set k ψb=cs++[some (src i)]:=by
   show 139
  unfold bj;rw[e];unfold bE;refine HS ?_;refine he i H' _ hlt sm λH4 s4=>#[s4 _ _ hd,?_,n - (i+1),by omega,rfl,hlt,(sm.trans s4).up hD,?_,ac,_,rfl]
  ·rw[o_,Gf]
   omega
  ·rw[M7,HU]
   rfl
 ·have e:i=n:=by omega
  subst e;exact .inl υk
theorem gI {f:V->V}{k:Nat} (hs:ψC) (hD:γz) (hk:γU) (hn:ι4)
  (he:∀x H (R:γj),x∈xs->a_ H1 H->ΩU->te ψc H R)
  (hQ:∀H,a_ H1 H->H D=some (.lst (xs.map f))->Q H):bA πQ δn bE te δk H1 D Q:=by
 refine lg (src:=λi=>xs.getD i .non) (f:=λi=>f ρH) (n:=γm) hD hk hn τS τz μy ι1 (λH sm hd=>hQ H sm ?_)
 ·obtain⟨e,y⟩:=y
  refine πl
  have:=y xs ψO;rw[v_,this];rfl
 ·refine he _ H R ?_ sm r
  rw[v_,s_ hi];exact IV hi
 ·rw[hd]
  congr 2
  apply Oh
  ·simp
  ·intro i h1 h2
   simp at h1 h2
   simp[h1]
theorem wL {lo:Int}{k:Nat} (hD:γz) (hk:γU) (hn:ε0)
  (he:∀i H (R:γj),i < n->a_ H1 H->ζp->te (cs++[some ϑj]) H R)
  (hQ:ξf):bA (KG lo n) δn bE te δk H1 D Q :=
 lg (src:=λi=>.int (lo+(i:Nat))) hD hk hn χY χt τT he hQ
theorem jg {k:Nat} (hD:γz) (hk:γU) (hn:ε0)
  (he:∀i H (R:γj),i < n->a_ H1 H->ζp->te μx H R)
  (hQ:ξf):bA πV δn bE te δk H1 D Q :=
 wL hD hk hn (λi H R hi sm r=>by
  show 98
  rw[e]
  exact he i H R hi sm r) hQ
section
variable {X:Cx}{K:m_}
theorem d6 {e:Expr}{f:Str}{ta:TE} (hK:ηn) (he:PE X e ta) (hb:ΞA):PE X χ1 (NX K ta f):=by
 subst hK;exact ak he hb
theorem cp (hK:ηn):Nt X (Mn K):=by subst hK;exact ax
theorem xE (hK:ηn):Nt X (Ma K):=by subst hK;exact cI
theorem tU (hK:ηn):bI X χK (fg K):=by subst hK;exact aG
end
def pI:List Expr->Option (List Int)
 | []=>some []
 | .Constant (.int i) _ _ :: r=>(pI r).map (i :: ·)
 | _=>none
theorem xF {X:Cx}:∀{es:εC}{is:γq},pI es=some is->PA X es (λ_ H Q=>Q (is.map δp) H)
 | [],is,h=>by
  cases h;exact ab
 | e :: es,is,h=>by
  unfold pI at h
  split at h
  ·rename_i z
   cases z
  ·rename_i i j pos r heq
   cases heq
   cases q:pI es with
   | none=>rw[q] at h;cases h
   | some js =>
    rw[q] at h
    cases h;intro pos pins s σ H Q I hq;exact aa ai (xF q) εM pos pins s σ H Q I hq
  ·cases h
theorem p0 {j:Int} (h:(0:Int) < j):(0:Int) < j:=h
def O6 (h:Heap) (x C:Addr) (od tb:γG) (fl:μ):Prop :=
 ∃oe vs,h.get? x=some oe/\oe.cls=.ref C/\oe.dict=od/\oe.data=.fields vs ∧
  match tb with
  | none=>vs[1]?=some Kw
  | some T=>vs[1]?=some ζh/\T≠x/\∃oT ts,h.get? T=some oT/\oT.data=.fields ts/\ts[3]?=some fl
section
variable {P:Program}{w:World}{K:m_}{mg:Str->Option Value}{base:Heap}{N:List Str}{qual:Str}{scope:Scope}{f:Addr}{cd:Value}{A:Around}{outer:List Env}{s:Shared}{H:Hp}{E E':XK}
end
section
variable {P:Program}{w:World}{K:m_}{mg:Str->Option Value}{base:Heap}
end
section
variable {X:Cx}{E:XK}{c:Str}{C Pk:Addr}{p cpos pos:Pos}{e:Expr}{es:List Expr}{t:TA}
end
section
variable {X:Cx}{pins:List (Addr × Obj)}{σ:St}{H:Hp}{s:Shared}{h':Heap}
def XP (X:Cx) (pins:ϗ) (EX:St->XK) (e:μ) (s':ξ):Prop :=
 ∃(x C T:Addr) (od:γG) (σ:St) (H':Hp),e=.ref x/\Inv X pins σ H' s'/\O6 εO x C od (some T) .none/\X.s₀.heap.get? x=none/\X.s₀.heap.get? T=none/\H' x=none/\H' T=none ∧
  (∀p∈X.pn++pins,p.1≠x/\p.1≠T)/\EX σ γY od H'
end
abbrev Sq:=St->Hp->VK->XK->Prop
section
variable {X:Cx}{k:Nat}{f C:Addr}{fd:FuncData}{ps:List Str}{sp:Sp}{dvs:List V}{ds:List Value}{x m:Str}{p pos apos:Pos}{e o:Expr}{es:List Expr}{te:TE}{ta:TE}{t:TA}
end
abbrev Sj:=GW->(St->XK)->St->Hp->Prop
section
variable {X:Cx}{e:Expr}{te:Sq}{t:TS}{u:Sj}{st:Stmt}{rest:List Stmt}{pos:Pos}
end
section
variable {X:Cx}{pins:List (Addr × Obj)}{σ:St}{H:Hp}{s:Shared}{x C T:Addr}{od:Option Addr}{fl:Value}
end
abbrev TH:=GW->Addr->Option Addr->St->Hp->Prop
section
variable {X:Cx}{c n:Str}{C':Addr}{i:Nat}{p pos:Pos}{b₀:Stmt}{suite:List Stmt}{hs:List ExceptHandler}{ts:TS}{th:TH}
end
section
variable {prog:Program}{w:World}{A:Around}{E:Value->Shared->Prop}{s:Shared}{K:m_}{x C Pk:Addr}{ox:Obj}{od:Option Obj}{name:Str}{tk:Tok}{fill expr:Bool}{r:Builtin.ObjectAttr.Found}{Q:Value->Shared->Prop}
end
section
variable {X:Cx}
theorem uO:∀{cs:Φ}{its:ψ},j_ ϐP its->its=cs.map F_
 | [],_,.nil=>rfl
 | c :: _,_,.cons p q=>by rw[uO q];cases (show _=F_ c from p);rfl
end
abbrev TJ:=St->Hp->(Hp->Prop)->Prop
section
variable {X:Cx}{e v₁ v₂:Expr}{es:List Expr}{n:Nat}{te:TE}{t:TJ}{pos:Pos}
end
section
variable {prog:Program}{w:World}{A:Around}{E:Value->Shared->Prop}{s:Shared}{K:m_}{C Pk f:Addr}{rest:List Value}
end
section
variable {prog:Program}{w:World}{A:Around}{E:Value->Shared->Prop}{s:Shared}{K:m_}{x C Pk:Addr}{ox:Obj}{od:Option Obj}{name:Str}{v:Value}{Q:Unit->Shared->Prop}
end
section
variable {fl:Bool}{X:Cx}{pins:List (Addr × Obj)}{σ:St}{H:Hp}{s:Shared}{x C Pk:Addr}{f:Str}{A:Around}{E:Value->Shared->Prop}
end
section
variable {X:Cx}{o e value:Expr}{f:Str}{pos pos':Pos}{ta tv:TE}
end
section
variable {prog:Program}{w:World}{A:Around}{E:Value->Shared->Prop}{s:Shared}{K:m_}{x C Pk:Addr}{oe:Obj}{vs:Array Value}{us:List Value}{Q:Value->Shared->Prop}
end
section
variable {X:Cx}{P c:Str}{p pos apos:Pos}{e:Expr}{es:List Expr}{t:TA}{Pk:Addr}
end
def Sg (H:Hp) (x:Addr):Hp:=λb=>if b=x then none else H b
section
variable {X:Cx}{pins:List (Addr × Obj)}{σ:St}{H:Hp}{s:Shared}{x:Addr}{φ:Heap->Prop}
end
section
variable {X:Cx}{E:XK}{c:Str}{C Pk f:Addr}{fd:FuncData}{ps:List Str}{sp:Sp}{k:Nat}{p cpos pos:Pos}{e:Expr}{es:List Expr}{t:TA}
end
structure A_ (H:Hp) (ps:Φ) (n:Nat) (row:Nat->List V):Prop where
 len:ps.length=n
 nd:ps.Nodup
 on:∀j p,ps[j]?=some p->H p=some ϐQ
section
variable {H H':Hp}{ps:List Addr}{n:Nat}{row:Nat->List V}{p:Addr}
theorem A_.same (h:μU) (s:γN):A_ H' ps n row:=#[δ5,h.nd,λj p e=>s _ _ (h.on j p e)]
theorem A_.none:A_ H [] 0 row:=#[rfl,M_,λj p e=>by simp at e]
theorem A_.ne (h:μU) (hp:H p=R9):p∉ps:=λm=>by
 obtain⟨j,hj,e⟩:=LH m
 have:=h.on j p ύQ
 rw[hp] at this
 show 8
theorem A_.snoc (h:μU) (np:p∉ps) (hp:H p=some (.lst (row n))):A_ H πv (n+1) row:=by
 refine #[by rw[Hr,δ5];rfl,MR.mpr #[h.nd,by simp,λa ha b hb e=>?_],λj q e=>?_]
 ·rw[Ge.mp hb] at e
  exact np (e ▸ ha)
 ·rw[OD] at e
  split at e
  ·show 140
  ·rename_i hj
   have g:j - ps.length=0:=by
    by_cases z:j - ps.length=0
    ·exact z
    ·rw[Hj οH] at e;cases e
   have s:j=n:=by have:=δ5;omega
   rw[g] at e
   cases e;rw[s];exact hp
theorem A_.get (h:μU) {j:Nat} (hj:j < n):∃p,ps[j]?=some p/\H p=some ϐQ/\p∈ps:=by
 have hl:j < ps.length:=by rw[δ5];exact hj
 exact #[ps[j],s_ hl,h.on j _ (s_ hl),IV hl]
theorem A_.upd (h:μU) (hp:p∉ps) {o:HO}:A_ (upd H p o) ps n row:=by
 refine #[δ5,h.nd,λj q e=>?_]
 have:q≠p:=λz=>hp ϊC
 rw[ae this];show 140
end
theorem uP {K:m_}{H:Hp}:∀(ns:γq),Fu K H δB ΓM
 | []=>by simp[Fu]
 | n :: ns=>by
  rw[Ie,Ie,Fu];exact #[_,_,rfl,by simp[h_],uP ns]
theorem xG:∀(ns:γq),cu ΓM=0
 | []=>by simp[cu]
 | n :: ns=>by
  rw[Ie,cu,xG ns,Gh];rfl
  all_goals (intro _ h;cases h)
variable {row:Nat->List V}
theorem rW {k:Nat} (hD:γz) (hk:γU) (hn:ε0)
  (stop:ι0) (go:θW) (yld:τi)
  (he:∀i H (R:γj),i < n->a_ H1 H->μh->te οe H R)
  (hQ:τ6):bA J δn bE te δk H1 D Q:=by
 refine⟨λi m ys σ H=>m=n - i/\i<=n/\a_ H1 H/\(∃ps:List Addr,ys=ps.map V.ref/\A_ H ps i row/\Γf/\D∉ps)/\H D=some γV/\∃o,σ=cs++[o],
  ⟨n,rfl,GO _,(a_.refl _).up hD,Ψe,ac,none,rfl⟩,?_⟩
 rintro i m ys σ H ⟨rfl,hi,sm,⟨ps,rfl,hr,hf,g⟩,hd,o,rfl⟩;refine θ0
 by_cases hlt:i < n
 ·refine .inr θV
  obtain⟨rfl,rfl⟩:=yld i H x H' hlt sm y
  have e:(cs++[o]).set k ψb=cs++[some (src i)]:=by
   show 139
  unfold bj;rw[e];unfold bE;refine HS ?_;refine he i H' _ hlt sm λp H4 hp s4 h4=>#[s4 _ _ hd,?_,n - (i+1),by omega,rfl,hlt,(sm.trans s4).up hD,Ψ8,ac,_,rfl]
  ·rw[o_,hr.len]
   omega
  ·have np:p≠D:=λz=>by rw[z,hd] at hp;cases hp
   have h:=hr.ne hp;refine((hr.same s4).snoc h h4).upd ?_;intro z;rcases Hi.mp z with z | z
   ·exact g z
   ·exact np (Ge.mp z).symm
  ·intro q hq
   rcases Hi.mp hq with z | z
   ·exact hf q z
   ·rw[Ge.mp z]
    exact sm.free hp
  ·intro z
   rcases Hi.mp z with z | z
   ·exact g z
   ·rw[Ge.mp z] at hd
    rw[hd] at hp;cases hp
 ·have e:i=n:=by omega
  subst e;exact .inl #[stop H sm,hQ ps H sm hd hr hf g]
theorem pJ {k:Nat} (hD:γz) (hk:γU) (hn:ε0)
  (he:∀i H (R:γj),i < n->a_ H1 H->μh->te μx H R)
  (hQ:τ6):bA πV δn bE te δk H1 D Q :=
 rW (src:=λi=>.int (0+(i:Nat))) hD hk hn χY χt τT (λi H R hi sm r=>by
  show 98
  rw[e]
  exact he i H R hi sm r) hQ
theorem pK {k:Nat} (hs:ψC) (hD:γz) (hk:γU) (hn:ι4)
  (he:∀i x H (R:γj),xs[i]?=some x->a_ H1 H->μh->te ψc H R)
  (hQ:Δi):bA πQ δn bE te δk H1 D Q:=by
 refine rW (src:=λi=>xs.getD i .non) hD hk hn τS τz μy ι1 hQ
 ·obtain⟨e,y⟩:=y
  refine πl
  have:=y xs ψO;rw[v_,this];rfl
 ·refine he i _ H R ?_ sm r
  rw[v_,s_ hi];rfl
variable {X:Cx}
theorem uQ:∀{ns:γq}{its:ψ},j_ δB its->IntsAre its ns
 | [],_,.nil=>.nil
 | n :: ns,_,.cons r rs=>by
  show 213;exact .cons n t (uQ rs)
theorem oK:∀{ns:γq}{its:ψ},IntsAre its ns->j_ δB its
 | _,_,.nil=>.nil
 | _,_,.cons n t rs=>.cons ιh (oK rs)
theorem uR {vs:ψ}{out:γF}:∃e,(sortedAll h vs out).get? (h.objs.size+1)=some (seqObj "list" out e):=by
 unfold sortedAll;refine sortedHeap_at (n:=0) (Heap.get?_push_at ?_ rfl)
 simp[Heap.update,Heap.push]
inductive j7 (K:m_) (xs:δ) (H:Hp) (Q:VK):Prop
 | mk:∀(p:Addr) (ns:List Int),xs=[.ref p]->c_ K H p (ns.map V.int)->ns.length < 64->(∀l ns',H l=none->ns'.Perm ns->OP (λx y=>x<=y) ns'->Q ηd ΨZ)->j7 K xs H Q
theorem wM:bI X οs (j7 X.K):=by
 intro G s σ H xs us Q I r h;obtain⟨p,ns,rfl,hq,hl,q⟩:=h;show 39
 show 10;obtain⟨j,r',pl,hz⟩:=I.list hq
 have g:=νa;rw[o_] at g;refine sorted_ints (ns:=ns) ζ1 (uQ r') γ λout E hi hp hs=>?_
 obtain⟨e,he⟩:=uR (h:=ύ) (vs:=j) (out:=out)
 have hv:=oK hi
 have D:=hv.length;rw[o_,hp.length_eq] at D;refine #[.ref Ϛ,_,I.laid (t':=δS) (λb o' z=>sortedAll_old z) θN (show p_ Ϡ X.w _ _ _ (.lst (E.map δp)) from ϊb),rfl,q _ _ όf hp hs]
 ·rw[o_,hp.length_eq]
  exact FG (K_ hl) ζ
 ·rw[he]
def gJ (r:Addr) (lo hi:Int) (h:Heap):Prop:=∃t u v,IsRange h r lo hi 1 t u v
inductive jq (xs:δ) (H:Hp) (Q:VK):Prop
 | mk:∀j:Int,xs=[.int j]->(∀r,H r=none->Q (.ref r) (upd H r (.ext (gJ r 0 j))))->jq xs H Q
theorem uS:bI X ϐa (jq):=by
 show 282;obtain⟨j,rfl,q⟩:=h;obtain⟨u,rfl,t,rfl⟩:=ca r;refine call_range_1 #[.ref Ω,_,I.laid χ4 Θ (show p_ Ϡ X.w _ _ _ (.ext (gJ Ω 0 j)) from ψd),rfl,q _ ζW]
 ·exact όq
 ·exact χM
 ·rintro h1 h2 ⟨t,u,v,e⟩ k
  exact ύR
theorem zk {lo:Int}:∀{n:Nat}{acc:γF},ItemsOf (λi v=>∃t,v=Kv (lo+(i:Int) * 1) t) acc n->j_ ((r_ n).map λi:Nat=>V.int π8) acc.toList:=by
 intro n acc ⟨h1,h2⟩
 have:∀(xs:ψ) (k:Nat),(∀(j:Nat) (v:μ),xs[j]?=some v->∃t,v=Kv (lo+((k+j:Nat):Int) * 1) t)->j_ ((List.range' k γm).map λi:Nat=>V.int π8) xs:=by
  intro xs
  induction xs with
  | nil=>intro k _;exact .nil
  | cons x xs ih =>
   intro k hx;obtain⟨t,ht⟩:=hx 0 x rfl;rw[Io,List.range'_succ,Ie];refine .cons #[t,?_] (ih (k+1) λj v e=>?_)
   ·rw[ht,Qj,Int.mul_one]
   ·obtain⟨t',e'⟩:=hx (j+1) v ηQ
    exact #[t',by rw[e'];congr 3;omega]
 have h3:=this acc.toList 0 λj v e=>by
  obtain⟨t,ht⟩:=h2 j v ηQ
  exact #[t,by rw[ht,Qn]]
 rw[List.range_eq_range',← h1]
 simpa using h3
inductive iK (xs:δ) (H:Hp) (Q:VK):Prop
 | mk:∀(r:Addr) (lo hi:Int),xs=[.ref r]->H r=some (.ext (gJ r lo hi))->-(2 ^ 20)<=lo->lo < 2 ^ 20->-(2 ^ 20)<=hi->hi < 2 ^ 20->(∀l,H l=none->Q (.ref l) (upd H l (.lst ((r_ (hi - lo).toNat).map λi:Nat=>V.int π8))))->iK xs H Q
theorem j8 (hc:γi):bI X ψa (iK):=by
 intro j s σ H xs us Q I rv h;obtain⟨r,lo,hi,rfl,hr,b1,b2,b3,b4,q⟩:=h;obtain⟨u,rfl,rx⟩:=ca rv
 show 10;obtain⟨t,u,v,e⟩:=(I.hok r _ hr).1;refine call_list_range (n:=(hi - lo).toNat) δ3 e ?_ ?_ ?_ λh' tk g c' kp e1 it=>?_
 ·have e1:Oz lo hi 1=((hi - lo).toNat:Int):=by rw[ψm];split <;> omega
  unfold RQ;rw[e1]
  have fl:∀i:Int,-(2 ^ 22)<=i->i < 2 ^ 22->Qe i=true:=λi h1 h2=>by
   unfold Qe
   simp
   omega
  rw[fl lo γ γ,fl hi γ γ,fl 1 γ γ,fl _ γ γ,if_pos ζ,fl (hi+(1 - 1)) γ γ]
  simp
 ·rw[ψm];split <;> omega
 ·omega
 ·refine #[.ref Ω,_,I.laid (t':=tk) kp Θ (show p_ Ϡ X.w _ h' _ (.lst ((r_ (hi - lo).toNat).map λi:Nat=>V.int π8)) from #[?_,ωR,c',zk it,e1]),rfl,q _ ζW]
  rw[o_,Gf];exact FG (show (hi - lo).toNat<=2 ^ 21 by omega) ζ
section
variable {K:m_}
theorem j9 (hK:ηn):bI X ψa (fh K):=by
 subst hK;exact bK
end
theorem uT {ns ns':γq} (hp:ns'.Perm ns) (hs:OP (λx y=>x<=y) ns') (h:ns.Perm ((r_ n).map λi:Nat=>(i:Int))):ns'=(r_ n).map λi:Nat=>(i:Int):=by
 refine Qu (le:=λx y=>x<=y) ΩC hs ?_ (hp.trans h);rw[Rf];exact OE.imp λh=>by omega
def Mf (K:m_) (l:Addr) (xs:δ):It :=
 #[λi H=>c_ K H l xs/\i < γm,λi H x H'=>∃T u,H T=none/\x=.ref T/\xs[i]?=some u/\H'=upd H T ϋe,λi H=>c_ K H l xs/\xs.length<=i]
theorem AC {x1}{tp:Pos}{z it l:Addr} (zi:z≠it) (xs:δ) :
  IK P w K ι3 ψP [z,it] z (λi h=>(∃old,PySem.IsEnum h z it (i:Nat) old)/\h.IsListIter it l i) where
 mem:=by simp
 obj:=λi h st b hb=>by
  obtain⟨⟨old,hz⟩,o1,e1,c1,d1⟩:=st;show 48;rcases hb with rfl | rfl
  ·exact Θi
  ·exact Φo
 keep:=λi h h' st k=>by
  obtain⟨⟨old,hz⟩,h1⟩:=st;exact #[#[old,k z ϒ _ hz],h1.at λo e=>k it (by simp) o e]
 item:=by
  show 283;obtain⟨q1,b1⟩:=hg;show 284
  show 262;obtain⟨u,hu,ru⟩:=g.get hx
  have lt:∀{c o},s.heap.get? c=some o->c≠s.heap.objs.size:=λe=>F0 εG;refine PySem.wpAny_pyNext_enum_item hz h1 θK (x:=u) μI zi λh' a1 a2 a3 a4 hk=>?_
  refine #[_,rfl,PySem.wpAny_letOwnedTupleGo_enum a1 λJ D sb=>?_]
  have O:s.heap.objs.size≠z:=(lt hz).symm
  have kk:∀b u,b∉[z,it]->s.heap.get? b=some u->J.get? b=some u:=λb u hb e=>by
   show 135;exact sb.extBut _ _ hb.1 (hk b u hb.1 hb.2 e)
  refine⟨.ref Ω,upd H Ω (.tup [.int (i:Nat),xs[i]]),I.turnedUp (t':=s.toks+1) hf kk Θ ⟨by show 2<=εt;decide,[.int (i:Nat) δS,u],.cons ϊ ϐb,⟨_,sb.extBut _ _ O a3,rfl,_,rfl⟩⟩,rfl,
   ⟨_,_,I.hok.fresh Θ,rfl,hx,rfl⟩,⟨⟨_,D⟩,a2.at λo e=>sb.extBut _ _ zi.symm e⟩,λb hb=>?_⟩
  have:b≠s.heap.objs.size:=by
   show 263;show 48;rcases hb with rfl | rfl
   ·exact lt hz
   ·exact lt e1
  show 264
 done:=by
  show 283;obtain⟨q1,Q⟩:=hg;show 284
  have l1:=νl;refine PySem.wpAny_pyNext_enum_end δ3 hz h1 θK υz λh' hk=>Ξq
  show 135;exact hk b u hb.2 e
 self:=λ_ _ _ _ _ ⟨⟨_,hz⟩,_⟩ h=>Ts hz h
section
variable {X:Cx}
inductive xH (K:m_) (R:δZ) (vs:δ) (H1:Hp):Prop
 | mk:∀l xs,vs=[.ref l]->c_ K H1 l xs->R (Mf K l xs) H1->xH K R vs H1
def Ff (K:m_) (ta:TA):TI:=λσ H R=>ta σ H λvs H1=>xH K R vs H1
theorem qK:bootBuiltins "enumerate" = some (.type "enumerate"):=by decide +kernel
theorem gT {x1}{tp:Pos}{a:Expr}{ta:TA}{p pos:Pos} (hg:Gl X "enumerate") (hm:X.mg "enumerate" = none) (ha:ψJ) (hs:starEach [a] X.env=[(τ,eval a ρ)]:=by rfl) :
  PI X ι3 (.Call (.Name "enumerate" p) [a] [] pos) (Ff X.K ta):=by
 intro g s σ H R I h;refine Call_ (cG I hg hm qK ΔY);obtain⟨l,xs,e,h1,q⟩:=q1;subst e;obtain⟨u,rfl,ru⟩:=ca r1
 cases ru;obtain⟨j,D,p1,_⟩:=I1.list h1;refine PySem.call_enumerate_list θK λh' a1 a2 a3 a4=>?_;refine Ts a1 ?_;refine #[s1.heap.objs.size+1,[s1.heap.objs.size+1,δ2],_,_,H1,rfl,I1.kept (t':=ζ3) λb o e=>a4 b o e,AC (Nat.succ_ne_self _) xs,#[#[_,a1],a2],λb hb=>?_,q]
 have:s1.heap.objs.size<=b:=by
  show 48;rcases hb with rfl | rfl
  ·exact MS _ 1
  ·show 38
 exact I1.fpOk this όU
end
variable {l:Addr}
theorem jT {D:GW} (Pv:η1) (h0:ζy) (hl:∀i σ H,i<=xs.length->Pv i σ H->c_ K H l xs)
  (hs:∀i u T σ H,i < xs.length->xs[i]?=some u->H T=none->Pv i σ H->g ζh σ (upd H T ϋe) λσ2 H2=>tb { D with nx:=Pv (i+1),ct:=Pv (i+1),bk:=D.nx } σ2 H2) (hd:θU) :
  ∃W:Nat->Nat->St->Hp->Prop,ζq/\∀i m σ H,W i m σ H →
   ((Mf K l xs).stop i H/\D.nx σ H)\/((Mf K l xs).go i H/\∃N:St->Hp->Prop,εP/\∀x H',(Mf K l xs).yld i H x H'->g x σ H' λσ2 H2=>tb { D with nx:=N,ct:=N,bk:=D.nx } σ2 H2):=by
 refine θO
 rintro i m σ H ⟨rfl,hi,p⟩
 have q1:=hl i σ H hi p
 by_cases hlt:i < xs.length
 ·refine .inr #[#[q1,hlt],Pv (i+1),λσ' H' p'=>Γw,λx H' y=>?_]
  obtain⟨T,u,hT,rfl,hu,rfl⟩:=y;exact hs i u T σ H hlt hu hT p
 ·have e:i=xs.length:=by omega
  exact .inl #[#[q1,by omega],hd σ H ξ3]
theorem qM {es:εC}{k:Nat}{t:Lo} (hK:ηn) (hc:γi) (h:ωk) (hn:(assignEach es ρ).length=n:=by rfl) (hst:(assignEach es ρ).findIdx? (·.1)=none:=by rfl):PG X χz (JR K n t):=by
 subst hK;exact c7 hc h hn hst
theorem rX {stt:Nat->St}{Ok:St->Prop}{σ0:St} (hD:γz) (hn:ε0) (h0:Ok σ0) (hok:υA)
  (stop:ι0) (go:θW)
  (tg:Δe)
  (he:∀i H (R:γj),i < n->a_ H1 H->ζp->te (stt i) H R)
  (hQ:ξf):bA J g bE te σ0 H1 D Q:=by
 refine #[λi m ys σ H=>m=n - i/\i<=n/\a_ H1 H/\ys=(r_ i).map f/\H D=some γV/\Ok σ,#[n,rfl,GO _,(a_.refl _).up hD,rfl,ac,h0],?_];rintro i m ys σ H ⟨rfl,hi,sm,rfl,hd,ho⟩;refine θ0
 by_cases hlt:i < n
 ·refine .inr θV
  refine tg i σ H x H' _ hlt sm ho y λH'' s2=>?_;unfold bE;refine HS ?_;refine he i H'' _ hlt οU λH4 s4=>#[35e9 _ _ hd,?_,n - (i+1),by omega,rfl,hlt,(sm.trans ηX).up hD,?_,ac,hok i hlt]
  ·rw[o_,Gf]
   omega
  ·rw[M7,HU]
   rfl
 ·have e:i=n:=by omega
  subst e;exact .inl υk
theorem zl {stt:Nat->St}{Ok:St->Prop}{σ0:St} (hD:γz) (hn:ε0) (h0:Ok σ0) (hok:υA)
  (stop:ι0) (go:θW)
  (tg:Δe)
  (he:∀i H (R:γj),i < n->a_ H1 H->μh->te (stt i) H R)
  (hQ:τ6):bA J g bE te σ0 H1 D Q:=by
 refine⟨λi m ys σ H=>m=n - i/\i<=n/\a_ H1 H/\(∃ps:List Addr,ys=ps.map V.ref/\A_ H ps i row/\Γf/\D∉ps)/\H D=some γV/\Ok σ,
  ⟨n,rfl,GO _,(a_.refl _).up hD,Ψe,ac,h0⟩,?_⟩
 rintro i m ys σ H ⟨rfl,hi,sm,⟨ps,rfl,hr,hf,h⟩,hd,ho⟩;refine θ0
 by_cases hlt:i < n
 ·refine .inr θV
  refine tg i σ H x H' _ hlt sm ho y λH'' s2=>?_;unfold bE;refine HS ?_;refine he i H'' _ hlt οU λp H4 hp s4 h4=>#[35e9 _ _ hd,?_,n - (i+1),by omega,rfl,hlt,(sm.trans ηX).up hD,Ψ8,ac,hok i hlt]
  ·rw[o_,hr.len]
   omega
  ·have np:p≠D:=λz=>by rw[z,s2 _ _ hd] at hp;cases hp
   have j:=(hr.same s2).ne hp;refine((hr.same (s2.trans s4)).snoc j h4).upd ?_;intro z;rcases Hi.mp z with z | z
   ·exact h z
   ·exact np (Ge.mp z).symm
  ·intro q hq
   rcases Hi.mp hq with z | z
   ·exact hf q z
   ·rw[Ge.mp z]
    exact(sm.trans s2).free hp
  ·intro z
   rcases Hi.mp z with z | z
   ·exact h z
   ·rw[Ge.mp z] at hd
    rw[s2 _ _ hd] at hp;cases hp
 ·have e:i=n:=by omega
  subst e;exact .inl #[stop H sm,hQ ps H sm hd hr hf h]
theorem qN {k:Nat} (hk:γU) {T:Addr}{u v:V}{o1 o2:ζ2}{H:Hp}{R:θH} (hT:H T=none) (q:∀H'',a_ H H''->R ϋX H'') :
  JR K 2 (fA δn (fA (bj (k+1)) KY)) ζh (cs++[o1,o2]) υF R:=by
 refine #[T,_,rfl,Gn.of ac,rfl,_,_,rfl,_,_,rfl,rfl,?_]
 have e:((cs++[o1,o2]).set k δI).set (k+1) δs=cs++[some u,some v]:=by
  subst hk
  have e1:(Mx cs).succ - Mx cs=1:=by omega
  rw[M0 _ _ Θ,M0 _ _ θN,LX,e1];rfl
 rw[e];exact q _ λb o e=>by rw[ae (aq e hT)];exact e
theorem AD {k:Nat} (h1:c_ K H1 l1 xs) (h2:c_ K H1 l2 ys) (hl:όV) (hD:γz) (hk:γU) (hn:ι4)
  (he:∀i u v H (R:γj),xs[i]?=some u->ys[i]?=some v->a_ H1 H->ζp->te ϋX H R)
  (hQ:τj):bA ύj τJ bE te χC H1 D Q:=by
 refine rX (n:=γm) (stt:=λi=>cs++[xs[i]?,ys[i]?]) (Ok:=λσ=>∃o1 o2,σ=cs++[o1,o2]) hD hn ι5 υv (λH sm=>#[sm.seq h1,sm.seq h2,.inl Θ]) (λi H hi sm=>#[sm.seq h1,sm.seq h2,hi,by omega]) ξt ι1 hQ
 ·obtain⟨o1,o2,rfl⟩:=ho
  obtain⟨T,u,v,hT,rfl,hu,hv,rfl⟩:=y;exact qN hk hT λg s=>by rw[<- hu,← hv];exact q g s
 ·rw[s_ hi,s_ γ]
  exact he i _ _ H R ηg (s_ γ) sm r
theorem zm {k:Nat} (h1:c_ K H1 l xs) (hD:γz) (hk:γU) (hn:ι4)
  (he:∀i u H (R:γj),xs[i]?=some u->a_ H1 H->μh->te ΨD H R)
  (hQ:Δi):bA ψP τJ bE te χC H1 D Q:=by
 refine zl (n:=γm) (stt:=λi=>cs++[some νH,xs[i]?]) (Ok:=λσ=>∃o1 o2,σ=cs++[o1,o2]) hD hn ι5 υv Ω0 Ψp ξt ι1 hQ
 ·obtain⟨o1,o2,rfl⟩:=ho
  obtain⟨T,u,hT,rfl,hu,rfl⟩:=y;exact qN hk hT λg s=>by rw[<- hu];exact q g s
 ·rw[s_ hi]
  exact he i _ H R ηg sm r
theorem B4 {D:GW} (Pv:η1) (h0:ζy) (hl:Θz) (he:xs.length<=ys.length)
  (hs:∀i u v T σ H,i < xs.length->xs[i]?=some u->ys[i]?=some v->H T=none->Pv i σ H->g ζh σ υF λσ2 H2=>tb { D with nx:=Pv (i+1),ct:=Pv (i+1),bk:=D.nx } σ2 H2) (hd:θU) :
  ∃W:Nat->Nat->St->Hp->Prop,ζq/\∀i m σ H,W i m σ H →
   145e6\/((Ls K l1 l2 xs ys).go i H/\∃N:St->Hp->Prop,εP/\∀x H',(Ls K l1 l2 xs ys).yld i H x H'->g x σ H' λσ2 H2=>tb { D with nx:=N,ct:=N,bk:=D.nx } σ2 H2):=by
 refine θO
 rintro i m σ H ⟨rfl,hi,p⟩;obtain⟨q1,q2⟩:=hl i σ H hi p
 by_cases hlt:i < xs.length
 ·refine .inr Δh
  obtain⟨T,u,v,hT,rfl,hu,hv,rfl⟩:=y;exact hs i u v T σ H hlt hu hv hT p
 ·have e:i=xs.length:=by omega
  exact .inl ΞD
theorem rY {prog:Ϧ}{w:Ϣ}{A:Ϟ}{E:ϥ}{it l:Addr}{items:γF} (hne:l≠it) :
  ∀(n i:Nat) (s:ξ) (Q:υw),s.heap.IsListIter it l i->s.heap.IsList l items->i+n<=items.size →
   (∀h':Heap,h'.IsListIter it l (i+n)->LY it ύ h'->Q (P2 n όW) { s with heap:=h' })->wpAny γe A (draw (F_ it) n) Q E s
 | 0,i,s,Q,hi,hl,hn,h=>by
  rw[draw.eq_1];exact Ga (h ύ hi (LY.refl _ _))
 | n+1,i,s,Q,hi,hl,hn,h=>by
  rw[draw.eq_2];obtain⟨o,e1,e2,nn,e3⟩:=hl
  have hx:items[i]?=some items[i]:=Array.getElem?_eq_getElem γ
  refine E_ (TX hi #[o,e1,e2,nn,e3] hx λh1 i1 s1=>?_);show 9;refine E_ (JK (rY hne n (i+1) _ _ i1 #[o,by rw[<- e1];exact s1.2 l hne,e2,nn,e3] γ λh2 i2 s2=>Ga ?_))
  have e:P2 (n+1) όW=items[i] :: P2 n (Qv (i+1) ρL):=by
   rw[Qk (by simpa using(by omega:i < items.size))]
   rfl
  rw[<- e];exact h h2 (by rw[show i+(n+1)=i+1+n by omega];exact i2) (LY.trans s1 s2)
theorem oM {prog:Ϧ}{E:ϥ}{items:γF}{Q:υw} (hh:η6) (hl:s.heap.IsList l items)
  (h:∀h':Heap,Uy Ω ύ h'->Q ρL { s with heap:=h' }):wpAny γe A (unpackItems (F_ l) items.size none) Q E s:=by
 obtain⟨o,e1,e2,nn,e3⟩:=id hl
 have g:l≠s.heap.objs.size:=F0 ιz;unfold unpackItems notIterableAtAll;refine E_ (E_ (wpAny_specialOf #[o,e1,e2] slot_list_iter.lookup (wpAny_ite_true rfl ηG)));refine Re rfl ?_;refine E_ (JK (Na hl ?_));dsimp only
 have G:(s.heap.push { cls:=KI "list_iterator",data:=Data.fields [F_ l,Kv 0 0].toArray }).IsList l items:=#[o,FZ _ e1,e2,nn,e3]
 have D:(s.heap.push { cls:=KI "list_iterator",data:=Data.fields [F_ l,Kv 0 0].toArray }).IsListIter Ω l 0:=μ0
 refine E_ (JK (rY g items.size 0 _ _ D G γ λh1 i1 s1=>?_))
 have j:P2 items.size (Qv 0 ρL)=items.toList:=by
  rw[SW];exact M8 ϒ
 rw[j];refine Re ϒ ?_
 have H:h1.IsList l items:=#[o,(s1.2 l g).trans (FZ _ e1),e2,nn,e3];refine E_ (JK (Ta hh i1 H ϒ λh2 x2=>?_))
 refine Re rfl (Ga (h h2 λb o' hb e=>?_));refine x2 b o' hb ?_
 show h1.get? b=_
 rw[s1.2 b hb];exact FZ _ e
section
variable {X:Cx}{pos:Pos}
inductive C2 (K:m_) (n:Nat) (t:Lo) (v:V) (σ:St) (H:Hp) (Q:θH):Prop
 | mk:∀a xs,v=.ref a->c_ K H a xs->xs.length=n->t xs σ H Q->C2 K n t v σ H Q
theorem Dy {es:εC}{k:Nat}{t:Lo} (hc:γi) (h:ωk)
  (hn:(assignEach es ρ).length=n:=by rfl) (hst:(assignEach es ρ).findIdx? (·.1)=none:=by rfl):PG X χz (C2 X.K n t):=by
 intro g s σ H v u Q I r hw;obtain⟨a,xs,e1,hq,hl,hw⟩:=hw;subst e1
 cases r;obtain⟨j,rv,ht,hz⟩:=I.list hq;rw[assign_Tuple];refine E_ (Qp ?_);unfold unpack
 have D:(assignEach es ρ).length=j.toArray.size:=by simp[hn,← hl,rv.length]
 rw[D,hst];obtain⟨o,nn,e1,e2,e3,e4⟩:=ht;refine E_ (JK (oM δ3 ⟨o,e1,e2,nn,by first | exact e3 | exact e4⟩ λh' hx=>?_))
 have I1:Inv X g σ H { s with heap:=h' }:=I.kept (t':=s.toks) λb o e=>hx b o η8 e;exact h g _ σ H xs _ Q I1 όM hw
end
section
variable {X:Cx}{e:Expr}{es:List Expr}{n:Nat}{te:TE}{t:TJ}{pos:Pos}
end
theorem rZ {α:Type} (f:α->Bool) (d:α):∀(l:ε3),(r_ l.length).any ϋf=l.any f:=λl=>by
 rw[Oi,MW,MW]
 constructor
 ·rintro⟨i,hi,e⟩
  have hi:=GG.mp hi;rw[v_,s_ hi] at e;exact #[_,IV hi,e]
 ·rintro⟨x,hx,e⟩
  show 285;refine #[i,GG.mpr hi,?_];show 141;exact e
theorem AE {α:Type} (f:α->Bool) (d:α):∀(l:ε3),(r_ l.length).all ϋf=l.all f:=λl=>by
 rw[Oi,IM,IM]
 constructor
 ·intro h x hx
  show 285
  have:=h i (GG.mpr hi);rw[v_,s_ hi] at this;show 11
 ·intro h i hi
  have hi:=GG.mp hi;show 286
section
variable {X:Cx}
theorem uU {ns:γq} (rv:j_ δB its) {i:Nat}{v:μ} (h:ϋz):∃t,v=Kv εX t:=by
 show 287
 have hi:i < ns.length:=by
  show 288
 obtain⟨u,hu,ru⟩:=rv.get (i:=i) (x:=V.int ns[i]) ϋA
 rw[h'] at hu
 cases hu;obtain⟨t,rfl⟩:=ru;exact #[t,by rw[v_,s_ hi];rfl]
theorem xI {bs:δG} (rv:j_ (bs.map V.bl) its) {i:Nat}{v:μ} (h:ϋz):v=OB (bs.getD i τ):=by
 show 287
 have hi:i < bs.length:=by
  show 288
 obtain⟨u,hu,ru⟩:=rv.get (i:=i) (x:=V.bl bs[i]) ϋA
 rw[h'] at hu
 cases hu;show 141;exact ru
inductive nj (K:m_) (xs:δ) (H:Hp) (Q:VK):Prop
 | mk:∀(p:Addr) (ns:List Int),xs=[.ref p]->c_ K H p (ns.map V.int)->(Q (.bl (ns.any λi=>i != 0)) H)->nj K xs H Q
theorem r0 (hc:γi):bI X χN (nj X.K):=by
 show 232;obtain⟨p,ns,rfl,hq,q⟩:=h;show 39
 show 99
 show 289;refine #[_,_,_,_,_,_,λi=>ns.getD i 0 != 0,rfl,OK (A:=νJ) (show X.A.in1.handled=none from I.ok.hd hc) Ω p j εc,Γt,λi v s' Q' E' hv q'=>?_,λh' tk kp=>?_]
 ·obtain⟨t,rfl⟩:=uU rv hv
  exact P.truthy_int q'
 ·have hl:g.toArray.size=ns.length:=by
   show 65
   show 33
  rw[hl,rZ (λi:Int=>i != 0) 0 ns];exact τ4
inductive nu (K:m_) (xs:δ) (H:Hp) (Q:VK):Prop
 | mk:∀(p:Addr) (bs:List Bool),xs=[.ref p]->c_ K H p (bs.map V.bl)->(Q (.bl (bs.all λb=>b)) H)->nu K xs H Q
theorem AF (hc:γi):bI X (.builtin "all") (nu X.K):=by
 show 290
 show 99
 have j:p≠s.heap.objs.size:=F0 ιz;refine call_all_walk ξK;refine ΓW
 ·rw[xI rv hv]
  exact LJ q'
 ·have hl:g.toArray.size=bs.length:=by
   show 65
   show 33
  rw[hl,AE (λb:Bool=>b) τ bs];exact τ4
end
theorem cB {k:Nat} (hs:ψC) (hD:γz) (hk:γU) (hn:ι4)
  (he:∀i x H (R:γj),xs[i]?=some x->a_ H1 H->ζp->te ψc H R)
  (hQ:τj):bA πQ δn bE te δk H1 D Q:=by
 refine lg (src:=λi=>xs.getD i .non) (f:=f) (n:=γm) hD hk hn τS τz μy ι1 hQ
 ·obtain⟨e,y⟩:=y
  refine πl
  have:=y xs ψO;rw[v_,this];rfl
 ·refine he i _ H R ?_ sm r
  rw[v_,s_ hi];rfl
theorem jh {k:Nat}{b:ιt}{tt:TT} (hD:γz) (hk:γU) (hn:ε0)
  (stop:ι0) (go:θW) (yld:τi)
  (ht:∀i H (R:εW),i < n->a_ H1 H->υa->tt οe H R)
  (he:∀i H (R:γj),i < n->b i=true->a_ H1 H->ζp->te οe H R)
  (hQ:ΘC):bA J δn tt te δk H1 D Q:=by
 refine #[λi m ys σ H=>m=n - i/\i<=n/\a_ H1 H/\ys=((r_ i).filter b).map f/\H D=some γV/\∃o,σ=cs++[o],ΞH,?_];rintro i m ys σ H ⟨rfl,hi,sm,rfl,hd,o,rfl⟩;refine θ0
 by_cases hlt:i < n
 ·refine .inr θV
  obtain⟨rfl,rfl⟩:=yld i H x H' hlt sm y
  have e:(cs++[o]).set k ψb=cs++[some (src i)]:=by
   show 139
  unfold bj;rw[e];refine ht i H' _ hlt sm λH4 s4=>?_
  have er:(r_ (i+1)).filter b=(r_ i).filter b++(if b i=true then [i] else []):=by
   rw[M7,Sd]
   congr 1
   by_cases z:b i=true
   ·rw[if_pos z,Rh z,Og]
   ·rw[if_neg z,Ru z,Og]
  by_cases z:b i=true
  ·rw[if_pos z]
   refine he i H4 _ hlt z (sm.trans s4) λH5 s5=>#[s5 _ _ (s4 _ _ hd),?_,n - (i+1),by omega,rfl,hlt,((sm.trans s4).trans s5).up hD,?_,ac,_,rfl]
   ·rw[o_]
    have:=JG b (r_ i);rw[Gf] at this;omega
   ·rw[er,if_pos z,HU]
    rfl
  ·rw[if_neg z]
   refine #[n - (i+1),by omega,rfl,hlt,sm.trans s4,?_,s4 _ _ hd,_,rfl]
   rw[er,if_neg z,MZ]
 ·have e:i=n:=by omega
  subst e;exact .inl υk
theorem dM {b:ιt}{k:Nat}{tt:TT} (hD:γz) (hk:γU) (hn:ε0)
  (ht:∀i H (R:εW),i < n->a_ H1 H->υa->tt μx H R)
  (he:∀i H (R:γj),i < n->b i=true->a_ H1 H->ζp->te μx H R)
  (hQ:ΘC):bA πV δn tt te δk H1 D Q :=
 jh (src:=λi=>.int (0+(i:Nat))) hD hk hn χY χt τT (λi H R hi sm r=>by
  show 98
  rw[e];exact ht i H R hi sm r) (λi H R hi hb sm r=>by
  show 98
  rw[e]
  exact he i H R hi hb sm r) hQ
variable {X:Cx}
def Ly (D:Addr) (H H':Hp):Prop:=∀y o,y≠D->H y=some o->H' y=some o
theorem AG {k:Nat} (Z:Nat->List V->Hp->Prop) (hD:γz) (hk:γU) (hn:ε0)
  (h0:∀H,a_ H1 H->Z 0 [] H)
  (he:∀i ys H (R:γj),i < n->a_ H1 H->H D=some γV->Z i ys H->(∀v H4,a_ H H4->(∀H5,Ly D H4 H5->Z (i+1) ωt H5)->R v H4)->te μx H R)
  (hQ:∀ys H,a_ H1 H->H D=some γV->Z n ys H->Q H):bA πV δn bE te δk H1 D Q:=by
 refine⟨λi m ys σ H=>m=n - i/\i<=n/\a_ H1 H/\Z i ys H/\ys.length=i/\H D=some γV/\∃o,σ=cs++[o],
  ⟨n,rfl,GO _,(a_.refl _).up hD,h0 _ ((a_.refl _).up hD),rfl,ac,none,rfl⟩,?_⟩
 rintro i m ys σ H ⟨rfl,hi,sm,hz,hl,hd,o,rfl⟩;refine θ0
 by_cases hlt:i < n
 ·refine .inr #[hlt,λx H' y=>?_]
  obtain⟨rfl,rfl⟩:x=.int (0+(i:Nat))/\H'=H:=#[y.2,y.1]
  have e0:(0:Int)+(i:Nat)=(i:Nat):=by omega
  have e:(cs++[o]).set k (some ύk)=cs++[some νH]:=by
   rw[hk,M0 _ _ Θ,LX,e0];rfl
  unfold bj;rw[e];unfold bE;refine HS ?_;refine he i ys H' _ hlt sm hd hz λv H4 s4 z4=>#[s4 _ _ hd,?_,n - (i+1),by omega,rfl,hlt,(sm.trans s4).up hD,z4 _ (λy o ny e=>by rw[ae ny];exact e),by rw[Hr,hl];rfl,ac,_,rfl]
  rw[hl];omega
 ·have e:i=n:=by omega
  subst e;exact .inl #[B_ _,hQ ys H sm hd hz]
theorem zn {k:Nat} (h1:c_ K H1 l xs) (hD:γz) (hk:γU) (hn:ι4)
  (he:∀i u H (R:γj),xs[i]?=some u->a_ H1 H->ζp->te ΨD H R)
  (hQ:τj):bA ψP τJ bE te χC H1 D Q:=by
 refine rX (n:=γm) (stt:=λi=>cs++[some νH,xs[i]?]) (Ok:=λσ=>∃o1 o2,σ=cs++[o1,o2]) hD hn ι5 υv Ω0 Ψp ξt ι1 hQ
 ·obtain⟨o1,o2,rfl⟩:=ho
  obtain⟨T,u,hT,rfl,hu,rfl⟩:=y;exact qN hk hT λg s=>by rw[<- hu];exact q g s
 ·rw[s_ hi]
  exact he i _ H R ηg sm r
variable {X:Cx}
inductive jr (xs:δ) (H:Hp) (Q:VK):Prop
 | mk:∀i j:Int,xs=[.int i,.int j]->(∀r,H r=none->Q (.ref r) (upd H r (.ext (gJ r i j))))->jr xs H Q
theorem uV:bI X ϐa (jr):=by
 show 216;obtain⟨u,u',rfl,⟨t,rfl⟩,t',rfl⟩:=fB r;refine call_range_2 #[.ref Ω,_,I.laid χ4 Θ (show p_ Ϡ X.w _ _ _ (.ext (gJ Ω i j)) from ψd),rfl,q _ ζW]
 ·exact όq
 ·exact χM
 ·rintro h1 h2 ⟨t,u,v,e⟩ k
  exact ύR
end L2
namespace GF
end GF
namespace L2
open PySem PySem.Spec PyProof.Rows
theorem pM {M:Model}{A:Ϟ}{E:ϥ}:∀(names:ο6) (acc:δx) (s:ξ) (Q:Ω1),names.filter θZ=[]->Q acc s →
  wpAny M A (forIn names acc (λx r=>match x with
    | (name,kind)=>if (kind == ζb)=true then do
      let c ← alloc { cls:=.type "cell",data:=.cell none }
      pure ξw
     else pure οq):Sem οc) Q E s
 | [],acc,s,Q,_,h=>Ga h
 | (n,k) :: r,acc,s,Q,hf,h=>by
  rw[Q9]
  have hb:(k == ζb)=false:=by
   cases q:(k == NameKind.cell) with
   | false=>rfl
   | true=>rw[Qi,if_pos q] at hf;cases hf
  show 291
  refine E_ ?_
  show 292
  rw[if_neg οa]
  exact Ga (pM r acc s Q hf h)
theorem r6 {M:Model}{A:Ϟ}{E:ϥ}{y:Str}:∀(names:ο6) (acc:δx) (s:ξ) (Q:Ω1),names.filter θZ=[(y,ζb)] →
  Q ((y,Ω) :: acc) { s with heap:=s.heap.push { cls:=.type "cell",data:=.cell none } } →
  wpAny M A (forIn names acc (λx r=>match x with
    | (name,kind)=>if (kind == ζb)=true then do
      let c ← alloc { cls:=.type "cell",data:=.cell none }
      pure ξw
     else pure οq):Sem οc) Q E s
 | [],acc,s,Q,hf,h=>by cases hf
 | (n,k) :: r,acc,s,Q,hf,h=>by
  rw[Q9];refine E_ ?_
  show 292
  cases hb:(k == NameKind.cell) with
  | false =>
   show 291
   show 119;exact Ga (r6 r acc s Q hf h)
  | true =>
   rw[Qi,if_pos hb] at hf;obtain⟨e1,e2⟩:=Qr hf
   cases e1;show 25;exact E_ (wpAny_alloc (Ga (pM r _ _ Q e2 h)))
variable {scope:Scope}
theorem zo {M:Model}{A:Ϟ}{E:ϥ}{s:ξ}{globals:Addr}{closure:δx}{qual:Str}{func:γG}{code:μ}{around:Option Env}{builtins:Addr}{Q:Env->Shared->Prop}{y:Str}
  (hc:scope.names.filter θZ=[(y,ζb)])
  (h:∀h':Heap,h'.Ns Ω ψn->(∀b u,s.heap.get? b=some u->h'.get? b=some u)->h'.IsCell Ϛ none →
   Q (newEnv γu Ω globals ((y,s.heap.objs.size+1) :: closure) qual func code around builtins) { s with heap:=h' }) :
  wpAny M A (newFunctionEnv γu globals closure [] qual func code around builtins) Q E s:=by
 unfold newFunctionEnv;refine E_ (wpAny_alloc (E_ (r6 _ _ _ _ hc ?_)))
 have hs:(s.heap.push { cls:=.type Φ0,data:=.dict #[] }).objs.size=s.heap.objs.size+1:=by simp[Heap.push]
 have:=h ((s.heap.push { cls:=.type Φ0,data:=.dict #[] }).push { cls:=.type "cell",data:=.cell none }) ?_ ?_ ?_
 ·rw[<- hs] at this
  exact E_ (Ga (Ga this))
 ·exact(Heap.Ns.new _ _).push _
 ·exact λb u e=>FZ _ μ7
 ·rw[<- hs]
  exact #[_,G4 _ rfl,rfl]
def xJ (N:ώ) (osc sc:γ5) (cap:η) (y:Str):Bool :=
 169e8 && (sc.names.filter θZ == [(y,ζb)]) && (sc.names.lookup y == some .cell) && sc.names.all (λy=>134e4 && Δ8) &&
  cap.all (λi=>match N[i]? with | some x=>sc.names.lookup x == some .free | none=>false)
structure GK (N:ώ) (osc sc:γ5) (cap:η) (y:Str):Prop where
 kind:sc.kind=.function
 one:sc.names.filter θZ=[(y,ζb)]
 mine:sc.names.lookup y=some .cell
 locs:∀y∈sc.names,y.2=.local->sc.names.lookup y.1=some .local
 free1:∀y∈sc.names,y.2=.free->sc.names.lookup y.1=some .free
 frees:∀y∈sc.names,y.2=.free->osc.names.lookup y.1=some .cell\/osc.names.lookup y.1=some .free
 capf:∀i∈cap,∃x,N[i]?=some x/\sc.names.lookup x=some .free
theorem GK.of {N:ώ}{osc sc:γ5}{cap:η}{y:Str} (h:xJ N osc sc cap y=true):GK N osc sc cap y:=by
 unfold xJ at h;show 250
 have all:=IM.mp h4;refine #[eq_of_beq h1,eq_of_beq h2,eq_of_beq h3,λy hy e=>?_,λy hy e=>?_,λy hy e=>?_,λi hi=>?_]
 ·have q:=all y hy
  show 46;rcases q.1 with z | z
  ·show 47
  ·exact eq_of_beq z
 ·have q:=all y hy
  show 46;rcases q.2 with z | z
  ·show 47
  ·exact eq_of_beq z.1
 ·have q:=all y hy
  show 46;rcases q.2 with z | z
  ·show 47
  ·show 251
 ·have q:=IM.mp h5 i hi
  cases e:N[i]? with
  | none=>rw[e] at q;cases q
  | some x=>rw[e] at q;exact ϋd
def d7 (X:Cx) (sc:γ5) (cl:δx) (C:Addr) (cap:η) (y:Str) (s₀:ξ) (H₀:Hp) (ex:Φ):Cx :=
 { X with N:=fF X.N cap [y],s₀:=s₀,H₀:=H₀,env:=compEnvC sc χZ C X.env,outer:=X.stack,stack:=X.stack,ex:=ex,fn:=λx=>x == y,pn:=[],xe:=λ_ _=>False }
variable {x:Str}{c:Addr}{h':Heap}
section
variable {X:Cx}{pins:List (Addr × Obj)}{σ:St}{H:Hp}{s:Shared}{sc:Scope}{cl:List (Str × Addr)}{cap:List Nat}{y:Str}
theorem tV (S:ξL) {x:Str}{C:Addr} (h:ΔC):x=y\/(x,ζg)∈sc.names:=by
 show 86
 rw[e] at h
 cases q:sc.names.lookup x with
 | none=>rw[q] at h;rcases h with z | z <;> cases z
 | some k =>
  have hm:=Kr q
  by_cases hk:k=.free
  ·rw[hk] at hm
   exact .inr hm
  ·rw[q] at h
   show 252
   have g:χ3=false:=by simpa using hk
   rw[g] at h;simp only[R0,N9,if_false] at h;rcases h with z | z
   ·have:(x,ζb)∈sc.names.filter 42e3:=G1.mpr #[by rw[z] at hm;exact hm,rfl]
    rw[S.one] at this
    simp at this
    exact .inl this
   ·exact absurd z hk
theorem zp {C:Addr} (h:ΩT):(compEnvC sc cl C ρ).kindOf x=some .cell\/(compEnvC sc cl C ρ).kindOf x=some .free:=by
 show 86
 show 253
 split
 ·exact .inl rfl
 ·exact .inr rfl
theorem cN {n:Str}{C:Addr} (h:((y,C) :: cl).lookup n=some c):(n=y/\c=C)\/cl.lookup n=some c:=by
 rw[Ii] at h
 cases q:(n == y) with
 | true =>
  rw[q] at h
  cases h;exact .inl #[eq_of_beq q,rfl]
 | false =>
  rw[q] at h;exact .inr h
theorem pN {n:Str}{C:Addr} (h:n≠y):((y,C) :: cl).lookup n=cl.lookup n:=by
 rw[Ii]
 have:(n == y)=false:=by simpa using h
 show 19
theorem Inv.blockC {fp:Φ}{t':Nat} (I:χ) (S:ξL) (hc1:Ξ2) (hc2:ΘB)
  (hf:μD) (hlt:Ωi) {m:Ϝ} (hn:ϊT) (k:ξh) (hcell:h'.IsCell Ϛ none) :
  Inv (d7 X sc cl Ω cap y s H fp) [] ψ0 H { s with heap:=h',toks:=t' }:=by
 have j:∀n c,cl.lookup n=some c->c < s.heap.objs.size:=λn c e=>by
  obtain⟨v,q⟩:=I.cell n c (hc1 n c e);exact q.lt
 refine⟨⟨I.mod,εD,ξ2,ωK,B_ _,λx z c a b=>?_,λx hx=>?_,λx c e1 e2=>?_,I.ok.hd,ψL,.inl rfl,λb hb=>⟨F0 ω3,λx c e=>?_⟩,I.bs,FG πN I.sz,λb o e hb=>?_,λb hb z=>?_,I.stack,ωn⟩,
  rfl,εk,Un.kept k,ΨN,λx c e=>?_,I.hok.fresh Θ,λx c e=>?_,λp hp=>absurd hp ξj,I.hok.kept k,?_⟩
 ·rcases cN a with ⟨ex,ec⟩ | a2
  ·rcases cN b with ⟨ez,_⟩ | b2
   ·exact ex.trans ez.symm
   ·exact absurd (Td (ec ▸ j _ _ b2)) δ9
  ·rcases cN b with ⟨ez,ec⟩ | b2
   ·exact absurd (Td (ec ▸ j _ _ a2)) δ9
   ·exact I.ok.inj x z c (hc1 x c a2) (hc1 z c b2)
 ·by_cases hy:x=y
  ·subst hy
   exact #[_,by show LI x ((x,_) :: cl)=_;rw[Ii,οE]]
  ·rcases tV S hx with hm | hm
   ·exact absurd hm hy
   ·obtain⟨c,hc⟩:=OI.mp (hc2 x hm)
    exact #[c,(pN hy).trans hc]
 ·have ey:x=y:=eq_of_beq e1
  rcases cN e2 with ⟨_,rfl⟩ | e2
  ·exact Lb _
  ·subst ey
   have g:LI x ((x,s.heap.objs.size+1) :: cl)=some c:=by assumption
   rw[Ii,οE] at g
   cases g;exact Lb _
 ·rcases cN e with ⟨_,rfl⟩ | e
  ·exact Of (IL ω3)
  ·exact(hf b hb).2.2.2.2.1 x c ιi
 ·rcases(hf b hb).2.2.2.1 with z | z
  ·exact I.ok.noex b o e z
  ·exact absurd ΩA δ9
 ·rcases FC.mp (I.stkSub b z) with q | q
  ·exact(hf b hb).2.1 q
  ·exact(hf b hb).2.2.1 q
 ·by_cases hi:i < cap.length
  ·have h:(fF X.N cap [y])[i]?=some x:=e1
   have g:104e4[i]?=some 14e2:=e2;rw[fF,Ky εV,FM,s_ hi] at h
   rw[cn,Ky εV,FM,s_ hi] at g
   simp only[Ks,N5] at h g;obtain⟨z,hy,hl⟩:=S.capf _ ρ5
   have E:x=z:=by
    rw[<- h,v_,hy];rfl
   subst E
   have ev:σ[cap[i]]?=some 14e2:=by
    cases q:σ[cap[i]]? with
    | none=>rw[q] at g;cases g
    | some o=>rw[q] at g;show 254
   obtain⟨m0,Q,G⟩:=I.loc
   have hm:=Kr hl
   have D:=S.frees _ hm rfl
   have J:x≠y:=λz=>by rw[z,S.mine] at hl;cases hl
   obtain⟨u,ru,lk⟩:=G _ x v hy ev (D.elim (λz=>.inr (.inl z)) λz=>.inr (.inr z));refine⟨u,ru,.inr ⟨zp hl,?_⟩⟩;obtain⟨c,hc⟩:=OI.mp (hc2 x hm);refine⟨c,(pN J).trans hc,?_⟩;rcases lk with ⟨z,_⟩ | ⟨_,c',O,q⟩
   ·have z':X.env.scope.names.lookup x=some .local:=z
    rcases D with w | w <;> (rw[z'] at w;cases w)
   ·have:=hc1 x c hc
    rw[O] at this
    cases this;obtain⟨o,ho,hd⟩:=q;exact όT
  ·have g:104e4[i]?=some 14e2:=e2
   rw[cn,Ld εV,FM] at g
   cases q:[y][i - (cap.map λi=>(σ[i]?).join).length]? with
   | none=>rw[q] at g;cases g
   | some o=>rw[q] at g;cases g
 ·rcases cN e with ⟨_,rfl⟩ | e
  ·exact #[none,hcell]
  ·obtain⟨v,o,ho,hd⟩:=I.cell x c ιi
   exact ϋW
 ·rcases cN e with ⟨_,rfl⟩ | e
  ·exact I.hok.fresh θN
  ·exact I.freeC x c ιi
 ·show (cn σ cap [y]).length=(fF X.N cap [y]).length
  simp[cn,fF]
end
section
variable {X:Cx}{sc:Scope}{cap:List Nat}{y:Str}{tg iter elt:Expr}{ifs:List Expr}{pos:Pos}{wi:TI}{g:TG}{tt:TT}{te:TE}
theorem zq {use:ϊU}{ppos:Pos}{pins:ϗ}{s:ξ}{σ:St}{H:Hp}{Q:γj}{R:ϥ} (hc:γi) (S:ξL) (hi:η3)
  (hg:Θv) (ht:Θp) (he:Θq)
  (hs:Φr) (I:χ) (h:pG cap [y] wi g tt te σ H Q)
  (fin:ΓY) :
  wpAny Ξ X.A Δf R X.xe s:=by
 obtain⟨cl,an,bm,b5⟩:=pF (env:=ρ) (scope:=sc) λn hn=>X.env.cells.lookup n |> λ_=>I.ok.has n ύh;refine UP (use:=use) rfl hs an εD S.locs Θu;obtain⟨it,fp,tn,J,H2,rfl,I2,T,a3,f2,q⟩:=h2;refine Uk ?_;obtain⟨D,hD⟩:∃D,D=s2.heap.objs.size:=ϊ
 have cs:H2 D=none:=by rw[hD];exact I2.hok.fresh Θ
 have I3:Inv X pins σ οd { s2 with heap:=s2.heap.push { cls:=.type "list",dict:=none,data:=.seq ([]:List Value).toArray } }:=by
  show 255
 have b1:∀b∈fp,b≠D:=λb hb z=>by
  obtain⟨o,ho,_⟩:=T.obj _ _ a3 b hb;show 256
 have f3:∀b∈fp,GZ X pins οd b:=λb hb=>#[by rw[ae (b1 b hb)];exact(f2 b hb).1,(f2 b hb).2]
 have cv:tn 0 127e8:=T.keep _ _ _ a3 λb _ o e=>FZ _ e
 rw[<- hD];obtain⟨W,⟨m0,w0⟩,turn⟩:=q D cs
 generalize cw:({ s2 with heap:=s2.heap.push { cls:=.type "list",dict:=none,data:=.seq ([]:List Value).toArray } }:Shared)=s3 at I3 ⊢
 have Z:tn 0 s3.heap:=by rw[<- cw];exact cv
 refine zo S.one λh1 cc hk ad=>?_
 have E:∀b∈fp,b < s3.heap.objs.size:=λb hb=>by
  show 257
 have I4:=I3.blockC (t':=s3.toks) S bm b5 f3 E cc hk ad
 have fC:∀H',H' s3.heap.objs.size=none->GZ X pins H' s3.heap.objs.size:=λH' hn=>I3.fpOk Θ hn;obtain⟨C,hC⟩:∃C,C=s3.heap.objs.size:=ϊ;rw[<- hC] at I4 fC;rw[<- hC];obtain⟨Xc,j⟩:∃Xc,Xc=d7 X sc cl C cap y s3 (upd H2 D (.lst [])) fp:=ϊ;rw[<- j] at I4
 have gX:PG Xc tg g:=j ▸ hg cl C s3 _ fp
 have tX:Lx Xc ifs tt:=j ▸ ht cl C s3 _ fp
 have eX:PE Xc elt te:=j ▸ he cl C s3 _ fp
 have x1:Xc.prog=X.prog:=by rw[j];rfl
 have x2:Xc.w=X.w:=by rw[j];rfl
 have x3:Xc.K=X.K:=by rw[j];rfl
 have x4:Xc.calm=true:=by rw[j];exact hc
 have x5:Xc.A=X.A:=by rw[j];rfl
 have x6:Xc.env=compEnvC sc χZ C X.env:=by rw[j];rfl
 have x7:Xc.xe=λ_ _=>False:=by rw[j];rfl
 have G:∀{H':Hp},μG->∀b∈fp,GZ Xc [] H' b:=λhn b hb=>by
  rw[j];refine #[hn b hb,?_,?_,.inl hb,λx c e=>?_,λp hp=>absurd hp ξj]
  ·show b≠C
   rw[hC];exact F0 (E b hb)
  ·intro z
   rcases FC.mp (I3.stkSub b z) with q | q
   ·show 258
   ·show 259
  ·rcases cN e with ⟨_,rfl⟩ | e
   ·rw[hC]
    exact Of (IL (E b hb))
   ·exact(f3 b hb).2.2.2.2.1 x c (bm x c e)
 have aT:tn 0 h1:=T.keep _ _ _ Z λb _ o e=>hk b o e
 have U:∀s4:Shared,s4 = { s3 with heap:=h1,toks:=s3.toks } →
   codeAny Ξ X.A (.compLoop θF 0 μ3 γ0 (compEnvC sc χZ C ρ)) Ξ3 s4:=by
  rintro s4 rfl;refine rU (λn s'=>∃i σ' H' ys,Inv Xc [] σ' H' s'/\tn i s'.heap/\(∀b∈fp,H' b=none)/\H' D=some (.lst ys)/\W i n ys σ' H') ?_ m0 ⟨0,_,_,[],I4,aT,λb hb=>(f3 b hb).1,ac,w0⟩;rintro n s5 ⟨i,σ5,H5,ys,I5,aw,a6,c2,w5⟩;obtain⟨_,O⟩:=turn i n ys σ5 H5 w5;rcases O with ⟨stop,qq⟩ | ⟨go,step⟩
  ·have td:=T.done Xc x1 x2 x3 x4 i [] s5 σ5 H5 εf I5 (G a6) aw stop
   rw[x5] at td;refine C_ td λr s6 ⟨hr,I6⟩=>?_;subst hr
   show compPost _ _ _ _ _ _ _ ρM s6
   obtain⟨m6,a2,_⟩:=id I6.loc;rw[x6] at a2
   have u6:=I6.base
   have a1:=I6.hok
   have ce:H5 C=none:=by have:=I6.free;rw[x6] at this;exact this
   have b3:s6.os=s3.os:=by have:=I6.os;rw[j] at this;exact this
   rw[j] at u6 a1
   have IX:Inv X pins σ H5 s6:=I3.call' (s':=s6) b3 u6 a1 I6.bare λb hb=>ΔT;exact fin D C H5 s6 m6 IX a2 (fC H5 ce) qq
  ·have ti:=T.item Xc x1 x2 x3 x4 i [] s5 σ5 H5 εf I5 (G a6) aw go
   rw[x5] at ti;refine C_ ti λr s6 ⟨u,hr,h6⟩=>?_;subst hr;refine C_ h6 λ_ s7 ⟨x,H7,I7,r7,y7,Y,ch⟩=>?_
   have cy:=I7.pinned (G ch) ϑs
   have a7:=gX _ s7 σ5 H7 x u _ cy r7 ϐO;rw[x1,x2,x5,x6,x7] at a7;refine C_ a7 λ_ s8 ⟨σ8,H8,I8,q8⟩=>?_
   have a8:=tX _ s8 σ8 H8 _ I8 q8;rw[x1,x2,x5,x6,x7] at a8
   have again:∀{σ9:St}{H9:Hp}{s9:ξ}{zs:δ}{m':Nat},Inv Xc οr σ9 H9 s9->H9 D=some ηa->m' < n->W (i+1) m' zs σ9 H9 →
     ∃m,m < n/\∃i σ' H' ys,Inv Xc [] σ' H' s9/\tn i s9.heap/\μG/\H' D=some γV/\W i m ys σ' H':=λ{σ9 H9 s9 zs m'} I9 hz hm w9=>by
    refine Δc;obtain⟨o,e,d⟩:=T.obj _ _ Y b hb;exact(I9.pin (b,o) νY).2.1
   refine C_ a8 λok s9 ⟨H9,I9,q9⟩=>?_
   cases ok with
   | false =>
    rw[if_neg Hk] at q9 ⊢;obtain⟨m',hm,w9⟩:=q9;exact again I9 (turn _ _ _ _ _ w9).1 hm w9
   | true =>
    rw[if_pos rfl] at q9 ⊢
    have a9:=eX _ s9 σ8 H9 _ I9 q9;rw[x1,x2,x5,x6,x7] at a9;refine C_ a9 λv ck ⟨y,a5,cr,b2,bt,b0,m',hm,b4⟩=>?_
    have a0:=bi (X:=Xc) οr ck σ8 a5 γ0 [y] γ0 [v] (λ_ a4=>a4=upd a5 D ώu) cr rfl (.cons b2 .nil) #[D,ys,y,rfl,rfl,bt,b0,rfl];rw[x1,x2,x5,x7] at a0;refine C_ a0 λ_ c3 ⟨_,a4,b6,_,c0⟩=>?_;subst c0;exact again b6 ac hm b4
 exact SK πy (T.self _ 0 _ _ _ aT πy)
theorem B5 (S:ξL) (hc:γi) (hi:η3)
  (hg:Θv) (ht:Θp) (he:Θq)
  (hs:∀x,foldedSetIterable iter ρ x=pure x:=by intro _;rfl):PE X θF (pG cap [y] wi g tt te):=by
 intro j s σ H Q I h;rw[ϑt];refine zq (use:=none) hc S hi hg ht he hs I h λD C H' s' m I' hn hf q=>?_;refine ϊV;obtain⟨f0,f1,f2,f3,f4,f5⟩:=hf;exact Δt
end
section
variable {X:Cx}
end
def dQ (q:Str) (c:Addr):HO:=.ext λh=>h.CodeRec γw q
def Hs (fa:Addr) (fd:γp):HO:=.ext λh=>h.get? fa=some { cls:=.type "function",data:=.func fd }
structure K8 (X:Cx) (c P:Addr):Prop where
 cd:X.env.code=.ref c
 hd:LZ X.K c P=true
 blt:X.base.BuiltinsAt X.mg P
 ne:mainGlobals≠P
variable {P:Program}{w:World}{h:Heap}{q:Str}
section
variable {X:Cx}{pins:List (Addr × Obj)}{σ:St}{H:Hp}{s:Shared}
theorem B6 (e:h.CodeRec γw q):p_ P w H h c (dQ q c):=by
 refine #[e,?_,λh1 h2 e1 k=>?_]
 ·obtain⟨c',o,vs,t,e1,e2,_⟩:=e
  cases e1;exact #[o,e2]
 ·obtain⟨c',o,vs,t,e1,e2,e3⟩:=e1
  cases e1;exact #[c,o,vs,t,rfl,k o e2,e3]
theorem xK {fa:Addr}{fd:γp} (e:h.get? fa=some { cls:=.type "function",data:=.func fd }):p_ P w H h fa 111e1:=#[e,#[_,e],λh1 h2 e1 k=>k _ e1]
theorem Inv.fnew {P c':Addr}{ps more:γF}{fd:γp}{tk:Nat} (I:χ) (hP:H P=some εb) (x:Uy P ύ h') (h1:s.heap.objs.size<=c') (h2:c' < ε6) (cr:h'.CodeRec ιT q) (ht:h'.get? P=some (OM (ps++more))) :
  Inv X pins σ (upd τC ε6 οf) { s with heap:=h'.push { cls:=.type "function",data:=.func fd },toks:=tk }:=by
 have J:P < s.heap.objs.size:=(I.hok P _ hP).lt
 have j:s.heap.objs.size<=h'.objs.size:=FG h1 (K_ h2)
 have nP:∀b,H b=none->b≠P:=λb e z=>by rw[z,hP] at e;cases e
 have D:∀b o,s.heap.get? b=some o->b≠c'/\b≠h'.objs.size:=λb o e=>#[F0 (GU εG h1),F0 (GU εG j)]
 have h:∀b u,H b=some u->b≠c'/\b≠h'.objs.size:=λb u e=>#[F0 (GU (I.hok b u e).lt h1),F0 (GU (I.hok b u e).lt j)]
 have g:∀b o,b≠P→s.heap.get? b=some o→(h'.push { cls:=.type "function",data:=.func fd }).get? b=some o:=λb o hb e=>FZ _ (x b o hb e)
 have at_:∀b u,b≠P->H b=some u->upd τC ε6 οf b=some u:=λb u hb e=>by
  rw[ae (h b u e).2,ae (h b u e).1,ae hb];exact e
 have G:upd τC ε6 οf P=some 83e0:=by
  rw[ae (h P _ hP).2,ae (h P _ hP).1];exact ac
 refine I.step (g':=s.gens) (d':=s.drawn) (ch:=[]) (λ_ z=>nomatch z) (λb o _ _ _ e n=>g b o (nP b n) e) (λb o _ _ _ e n=>⟨o.slots,g b o (nP b n) e⟩) (λb o _ e n=>?_) (λb o _ e=>?_) (λb xs e=>at_ b _ (λz=>by rw[z,hP] at e;cases e) e) (λb o u e=>at_ b _ (λz=>by rw[z,hP] at e;cases e) e) (λb O e=>?_) (λm hm=>?_) (λb u e=>?_) I.bare
 ·rw[ae (D b o e).2,ae (D b o e).1,ae (nP b n)]
  exact n
 ·by_cases z:b=P
  ·rw[z]
   exact #[_,FZ _ ht]
  ·exact #[o,g b o z e]
 ·by_cases z:b=P
  ·subst z
   rw[hP] at e
   cases e;exact #[more,G]
  ·exact #[#[],by rw[at_ b _ z e];simp]
 ·obtain⟨o,es,ep,ho,r⟩:=hm
  exact #[o,es,ep,g _ o (nP _ ζm) ho,r]
 ·by_cases z1:b=h'.objs.size
  ·rw[z1,ac] at e
   cases e;rw[z1];exact xK ω6
  rw[ae z1] at e
  by_cases z2:b=c'
  ·rw[z2,ac] at e
   cases e;rw[z2];refine B6 ?_;obtain⟨E,o,vs,t,e1,e2,e3⟩:=cr;exact #[E,o,vs,t,e1,FZ _ e2,e3]
  rw[ae z2] at e
  by_cases z3:b=P
  ·rw[z3,ac] at e
   cases e;rw[z3];exact FZ _ ht
  rw[ae z3] at e;refine(I.hok b u e).stay (λc v hc q=>g c v ?_ q) (λc q=>at_ c _ (λz=>by rw[z,hP] at q;cases q) q) λc xs q=>at_ c _ (λz=>by rw[z,hP] at q;cases q) q
  rcases hc with z | z
  ·rw[z];exact z3
  ·exact λy=>by rw[y,hP] at z;cases z
theorem Inv.fhit {fd:γp}{tk:Nat} (I:χ) (x:∀b o,s.heap.get? b=some o->h'.get? b=some o) (le':s.heap.objs.size<=ε6) :
  Inv X pins σ (upd H ε6 οf) { s with heap:=h'.push { cls:=.type "function",data:=.func fd },toks:=tk } :=
 I.laid (t':=tk) (λb u e=>FZ _ (x b u e)) le' (xK ω6)
inductive Le (P:Addr) (pos:Pos) (q:Str) (mk:μl) (σ:St) (H:Hp) (Q:VK):Prop
 | mk:∀ps,H P=some (.tbl ps)->TriplesOk ps.toList->(((codeAmong pos ps.toList=none/\∀(c' fa:Addr) (doc pm ctv:Value),H c'=none->H fa=none->fa≠c'->Q (.ref fa) (upd (upd (upd H P (.tbl (ps ++ [rawInt pos.line,rawInt pos.col,.ref c'].toArray))) c' (dQ q c')) fa (Hs fa (mk doc pm (.ref c') ctv))))\/∃c',codeAmong pos ps.toList=some (.ref c')/\H c'=some (dQ q c')/\∀(fa:Addr) (doc pm ctv:Value),H fa=none->Q (.ref fa) (upd H fa (Hs fa (mk doc pm (.ref c') ctv)))))->Le P pos q mk σ H Q
theorem Inv.blt {P:Addr} (I:χ) (b:X.base.BuiltinsAt X.mg P):s.heap.BuiltinsAt X.mg P:=by
 obtain⟨bm,o,e1,e2,e3,e4,e5,e6,e7,e8⟩:=b;exact #[bm,o,e1,e2,e3,e4,I.bk _ _ e5,e6,e7,e8]
theorem Inv.nsg (I:χ):s.heap.Ns εK X.mg:=by
 obtain⟨o,es,ep,ho,r⟩:=I.mod.glob;exact #[o,es,ep,I.bk _ _ ho,r]
theorem oN {P:Addr}{name:Str}{params:θa}{body:Expr}{pos:Pos}{ln:Nat}{clos:δx}{Q:VK} (T:πW) (hcl:Ω2) (I:χ)
  (h:Le P pos q (λ_ pm cdv ctv=>Kg name q ζe body γu clos pm cdv ctv) σ H Q) :
  wpAny Ξ X.A (makeFunction name q ζe (.expr body) γu ρ [] [] [] pos ln) δz X.xe s:=by
 obtain⟨ps,hP,tr,h⟩:=h
 have hd:=Ua ηm T.hd
 have tb:s.heap.get? P=some (OM ps):=I.hok P _ hP;rcases h with ⟨hn,h⟩ | ⟨c',hs,hc,h⟩
 ·refine PySem.W.kla_makeFunction hcl ξ2 I.nsg T.cd hd tb tr hn T.ne ϑv λc' ctv h' tk x h1 h2 cr ht=>?_
  refine #[.ref ε6,_,I.fnew (more:=[rawInt θd,rawInt pos.col,.ref c'].toArray) hP x h1 h2 cr ht,rfl,h c' ε6 .none _ ctv (I.hok.fresh h1) (I.hok.fresh (FG h1 (K_ h2))) (Of h2)]
 ·refine PySem.W.kla_makeFunctionHit hcl ξ2 I.nsg T.cd hd tb tr hs ϑv λctv h' tk x g=>?_
  exact #[.ref ε6,_,I.fhit x g,rfl,h ε6 .none _ ctv (I.hok.fresh g)]
theorem Ex {P:Addr}{params:θa}{body:Expr}{pos:Pos}{clos:δx} (T:πW) (hcl:Ω2) (h1:defaultsOf ζe X.env=([],[]):=by rfl) :
  PE X (.Lambda ζe body γu pos) (Le P pos ζJ (λ_ pm j g=>Kg νO ζJ ζe body γu clos pm j g)):=by
 intro D s σ H Q I h;exact Rj h1 (oN T hcl I h)
end
def Ia (c:Addr) (v:V):HO:=.ext λh=>∃u,k_ v u/\h.IsCell c δI
def Kc (cvs:List (Addr × V)) (H:Hp):Hp:=λb=>match cvs.lookup b with
 | some v=>some πX
 | none=>H b
def HL (cvs:List (Addr × V)) (H:Hp):Hp:=λb=>match cvs.lookup b with
 | some _=>none
 | none=>H b
section
variable {cvs:List (Addr × V)}{H:Hp}{b:Addr}{v:V}
theorem li (e:όX):Kc cvs H b=some 79e3:=by unfold Kc;rw[e]
theorem bO (e:ύS):Kc cvs H b=H b:=by unfold Kc;rw[e]
theorem fm (e:όX):HL cvs H b=none:=by unfold HL;rw[e]
theorem bv (e:ύS):HL cvs H b=H b:=by unfold HL;rw[e]
theorem Dz {u:μ} (r:ηi) (e:h.IsCell c δI):p_ P w H h c 45e6:=by
 obtain⟨o,e1,e2⟩:=e;refine #[#[u,r,o,e1,e2],#[o,e1],λh1 h2 ⟨u',r',o',g,j⟩ k=>#[u',r',o',k _ g,j]]
theorem xL (x:δ4) (free:∀c v,cvs.lookup c=some v->H c=none) (cel:∀c v,cvs.lookup c=some v->∃u,k_ v u/\h.IsCell c δI):Gc P w (Kc cvs H) h:=λb o e=>by
 have out:∀c u,H c=some u->cvs.lookup c=none:=λc u e=>by
  cases q:cvs.lookup c with
  | none=>rfl
  | some v=>rw[free c v q] at e;cases e
 cases q:cvs.lookup b with
 | some v =>
  rw[li q] at e
  cases e;obtain⟨u,r,z⟩:=cel b v q;exact Dz r z
 | none =>
  rw[bO q] at e;exact(x b o e).stay ώw (λc z=>by rw[bO (out c _ z)];exact z) λc xs z=>by rw[bO (out c _ z)];exact z
theorem B7 (x:δ4) (cel:∀c v,cvs.lookup c=some v->H c=some ιw):Gc P w θ3 h:=λb o e=>by
 cases q:cvs.lookup b with
 | some v=>rw[fm q] at e;cases e
 | none =>
  rw[bv q] at e;refine(x b o e).stay ώw (λc z=>?_) λc xs z=>?_
  ·cases q2:cvs.lookup c with
   | none=>rw[bv q2];exact z
   | some v=>rw[cel c v q2] at z;cases z
  ·cases q2:cvs.lookup c with
   | none=>rw[bv q2];exact z
   | some v=>rw[cel c v q2] at z;cases z
end
structure fo (N P:ώ) (sc:γ5):Prop where
 kind:sc.kind=.function
 co:sc.isCoroutine=false
 gen:sc.isGenerator=false
 nd:N.Nodup
 pre:N.take P.length=P
 par:∀x∈P,sc.names.lookup x=some .local
 nocell:∀y∈sc.names,y.2≠.cell
def Jq (q:Str) (scope:γ5) (L fa:Addr) (cd:μ) (clos:δx):Env:=newEnv γu L εK clos (q++Go ".<locals>.") (some fa) cd none ψX
def Mc (P:Ϧ) (w:Ϣ) (K:m_) (mg:Ϝ) (base:Heap) (N:ώ) (env:Env) (A:Ϟ) (outer:γ4) (s:ξ) (H:Hp):Cx where
 prog:=P
 w:=w
 K:=K
 mg:=mg
 base:=base
 A:=A.deeper env
 N:=N
 s₀:=s
 H₀:=H
 env:=env
 outer:=outer
 stack:=env :: outer
 ex:=[]
 calm:=true
 fn:=λ_=>false
 pn:=[]
 xe:=λ_ _=>False
def C3 (ps:ώ) (vs:δ) (scope:γ5) (clos:δx) (cvs:χO) (N:ώ) (σ:St):Prop :=
 σ.length=N.length/\∀(i:Nat) (x:Str) (v:V),N[i]?=some x->σ[i]?=some δs->156e8\/(scope.names.lookup x=some .free/\∃c,clos.lookup x=some c/\cvs.lookup c=some v)
structure Mm (scope:γ5) (clos:δx) (cvs:χO) (H:Hp):Prop where
 inj:∀x y c,clos.lookup x=some c->clos.lookup y=some c->x=y
 has:∀x,scope.names.lookup x=some .free->∃c,clos.lookup x=some c
 val:∀x c,clos.lookup x=some c->∃v,cvs.lookup c=some v
 at_:∀c v,cvs.lookup c=some v->H c=some ιw
section
variable {P:Program}{w:World}{K:m_}{mg:Str->Option Value}{base:Heap}{A:Around}{outer:List Env}{s:Shared}{H:Hp}{N ps:List Str}{scope:Scope}{fa:Addr}{q:Str}{cd:Value}{clos:List (Str × Addr)}{cvs:List (Addr × V)}{vs:List V}{us:List Value}{σ0:St}{h':Heap}{tk:Nat}
theorem xM:∀{ps:ώ}{us:ψ}{i:Nat}{x:Str}{u:μ},ps.Nodup->ps[i]?=some x->us[i]?=some u->(ps.zip us).reverse.lookup x=some u
 | ps,us,i,x,u,nd,e1,e2=>by
  have hm:(x,u)∈(ps.zip us).reverse:=SQ.mpr (Gi (i:=i) (Uo (z:=(x,u)).mpr #[e1,e2]))
  have uq:∀v,(x,v)∈(ps.zip us).reverse->v=u:=λv hv=>by
   obtain⟨j,hj⟩:=Lc (SQ.mp hv);obtain⟨j1,j2⟩:=Uo.mp hj
   have:i=j:=oE nd e1 j1;show 16;rw[e2] at j2;exact(FK j2).symm
  generalize (ps.zip us).reverse=l at hm uq
  induction l with
  | nil=>exact absurd hm GH
  | cons p l ih =>
   obtain⟨y,v⟩:=p;rw[Ii]
   by_cases e:x=y
   ·subst e
    simp only[beq_self_eq_true];rw[uq v Im]
   ·have:(x == y)=false:=beq_eq_false_iff_ne.mpr e
    show 19;refine ih ?_ λv hv=>uq v (Hl _ hv);rcases FC.mp hm with z | z
    ·exact absurd (Prod.mk.inj z).1 e
    ·exact z
theorem DA (S:οV) (hd:η6) (e0:δY) (r:ηc) (C:χm) (h0:ΩD)
  (hn:h'.Ns Ω λx=>(ps.zip us).reverse.lookup x) (hs:ΔZ) :
  Inv (Mc P w K mg base N ΦF A Δ s θ3) [] σ0 θ3 { s with heap:=h',toks:=tk }:=by
 have hk:∀b o,s.heap.get? b=some o->h'.get? b=some o:=λb o e=>by
  show 100
 have j:∀b:Addr,b∉([]:List Addr):=λb=>GH
 have h:∀x c,clos.lookup x=some c->∃v u,cvs.lookup c=some v/\k_ v u/\s.heap.IsCell c 15e8:=λx c e=>by
  obtain⟨v,hv⟩:=C.val x c e;obtain⟨⟨u,r,z⟩,_⟩:=(show p_ P w H ύ c ιw from e0.hok c _ (C.at_ c v hv));exact #[v,u,hv,r,z]
 have ik:∀{c u},s.heap.IsCell c δI->h'.IsCell c 15e8:=λ⟨o,e1,e2⟩=>όr
 refine⟨⟨e0.mod,εD,rfl,rfl,B_ _,C.inj,λx hx=>?_,ύT,λ_=>hd,Around.frames_deeper πs,.inr μT,λb z=>absurd z (j b),λb o e=>⟨(e0.bs b o e).1,?_⟩,e0.bsz,λb _ _=>j b,λb z=>absurd z (j b),ρ3,λb hb=>?_⟩,
  rfl,νo,Un.kept hk,ΨO,λx c e=>?_,?_,λx c e=>?_,λp hp=>absurd (show p∈([]:List ηu) from hp) ϒ,(B7 e0.hok C.at_).kept hk,h0.1⟩
 ·rcases hx with hx | hx
  ·exact absurd rfl Θs
  ·exact C.has x hx
 ·have:=(e0.bs b o e).2
  cases z:cvs.lookup b with
  | none=>exact(bv z).trans this
  | some v=>exact fm z
 ·have:=e0.frf b hb
  cases z:cvs.lookup b with
  | none=>exact(bv z).trans this
  | some v=>exact fm z
 ·rcases h0.2 i x v h1 h2 with ⟨hp,hv⟩ | ⟨hf,c,hc,hv⟩
  ·obtain⟨u,hu,rv⟩:=r.get hv
   have D:ps.Nodup:=by rw[<- S.pre];exact S.nd.sublist πS
   exact #[u,rv,.inl #[S.par x (Gi hp),xM D hp hu]]
  ·obtain⟨v',u,g,ru,z⟩:=h x c hc
   rw[hv] at g
   cases g;exact ΦQ
 ·obtain⟨v',u,g,ru,z⟩:=h x c e
  exact #[_,ik z]
 ·have:=e0.hok.fresh Θ
  show HL cvs H s.heap.objs.size=none
  cases z:cvs.lookup s.heap.objs.size with
  | none=>exact(bv z).trans this
  | some v=>exact fm z
 ·obtain⟨v',u,g,_⟩:=h x c e
  exact fm g
end
abbrev TR:=(V->St->Hp->Prop)->St->Hp->Prop
def ND (X:Cx) (body:ζw) (t:TR):Prop:=∀(pins:ϗ) (s:ξ) (σ:St) (H:Hp) (R:V->St->Hp->Prop),Inv X pins σ H s->t R σ H →
 wpAny Ξ X.A (execs body ρ) (λf s'=>∃v σ' H' u,f=.ret u/\Inv X pins σ' H' s'/\k_ v u/\R v σ' H') X.xe s
def QU (t:TS) (u:TR):TR:=λR σ H=>t { nx:=u R,rt:=λ_ _=>False } σ H
def QF (te:TE):TR:=λR σ H=>te σ H λv H'=>R v σ H'
section
variable {X:Cx}{st:Stmt}{rest:List Stmt}{t:TS}{u:TR}{e:Expr}{te:TE}{pos:Pos}
theorem oO (h1:ιq) (h2:ND X rest u):ND X π4 (QU t u):=by
 show 61;refine Qf (C_ (h1 g s σ H { nx:=u R,rt:=λ_ _=>False } I h) λf s1 q=>?_)
 cases f with
 | next =>
  show 199;exact h2 g s1 σ' H' R I' q
 | ret v=>obtain⟨_,_,_,_,_,q⟩:=q;show 142
 | brk=>obtain⟨_,_,_,q⟩:=q;show 142
 | cont=>obtain⟨_,_,_,q⟩:=q;show 142
theorem DB (he:εh):ND X [.Return ωL pos] (QF te):=by
 show 61;refine Qf (Tv ΘP);exact #[x,σ,H1,v,rfl,I1,r1,q1]
end
def AH (N:ώ) (scope:γ5) (cs:δx) (σ:St) (cvs:χO):Prop:=∀c v,cvs.lookup c=some v->∃(i:Nat) (y:Str),N[i]?=some y/\σ[i]?=some δs/\cs.lookup y=some c/\scope.names.lookup y=some .cell
section
variable {P:Program}{w:World}{K:m_}{mg:Str->Option Value}{base:Heap}
end
abbrev MO:=V->List V->Hp->VK->Prop
def pO (P:Ϧ) (w:Ϣ) (K:m_) (mg:Ϝ) (base:Heap) (k:Nat) (sp:MO):Prop :=
 ∀(A:Ϟ) (outer:γ4) (s:ξ) (H:Hp) (f:V) (us:ψ) (vs:δ) (Q:VK),Fv k A->F3 P w K mg base A Δ s H->j_ vs us->sp f vs H Q →
  ∃fa fd,f=.ref fa/\H fa=some ω5/\codeAny ϛ A υ6 (CR HV Δ P w H s Q E0) s
section
variable {X:Cx}{k:Nat}{sp:MO}{x m:Str}{p pos apos:Pos}{e o:Expr}{es:List Expr}{ta:TE}{t:TA}{i:Nat}{pins:List (Addr × Obj)}{σ:St}{H:Hp}{s:Shared}{Q:VK}{us:List Value}{vs:List V}{f:V}
theorem DC {u:μ} (F:ΨE) (hr:θe) (I:χ) (rf:k_ f u) (r:ηc) (h:sp f vs H Q) :
  ∃fa ob fd,u=.ref fa/\s.heap.get? fa=some ob/\ob.data=.func fd/\wpAny Ξ X.A (call ζK us) δz X.xe s:=by
 obtain⟨fa,fd,rfl,hf,hc⟩:=F X.A δK s H f us vs Q hr I.env0 r h;obtain rfl:u=.ref fa:=rf;refine #[fa,_,fd,rfl,(I.hok fa _ hf).1,rfl,?_];refine Nc (Nd hc λr s' hq=>?_)
 cases r with
 | error e=>exact False.elim hq
 | ok fl =>
  cases fl with
  | ret u=>exact I.after hq
  | next=>exact False.elim hq
  | brk=>exact False.elim hq
  | cont=>exact False.elim hq
inductive uW (K:m_) (m:Str) (sp:MO) (t:TA) (σ:St) (Q:VK) (x:V) (H1:Hp):Prop
 | mk:∀a C dx fs fa fd,x=.ref a->H1 a=some (.ins C dx fs)->HN K C->f_ K C m->fs.lookup m=some (.ref fa)->H1 fa=some (Hs fa fd)->(t σ H1 λvs H2=>H2 fa=some ω5/\sp ζK vs H2 Q)->uW K m sp t σ Q x H1
def Ey (K:m_) (m:Str) (sp:MO) (ta:TE) (t:TA):TE:=λσ H Q=>ta σ H λx H1=>uW K m sp t σ Q x H1
theorem B8 {pl:ιu} (F:ΨE) (hr:θe) (ho:ν9) (ha:η2) (he:starEach δm X.env=(τ,eval e ρ) :: starEach es X.env:=by rfl)
  (ht:eval ξi X.env=(do
   let ov ← eval o X.env
   standAt πg
   let (f,first) ← holding [ov] (getMethod ov m pl)
   callWith pos f first 90e1 ξq):=by rfl) :
  PE X ξi (Ey X.K m sp ta t):=by
 intro g s σ H Q I h;refine Qo (pl:=pl) (C_ ΓK λu s1 ⟨x,H1,I1,rx,a,C,dx,fs,fa,fd,ex,ea,cl,na,l,hf,q⟩=>?_) ht;subst ex;obtain rfl:u=F_ a:=rx;obtain⟨mA,O,_⟩:=gS I1.hok ea;obtain⟨od,J,_⟩:=O.look;refine PySem.W.method_usual I1.kIn J (OC (cl.get m)).1 (OC (cl.get m)).2 na rfl ?_;refine jQ I1 ea cl na l λu2 s2 I2 ru=>?_;obtain rfl:u2=F_ fa:=ru
 refine callWith_def (fd:=fd) (o:={ cls:=.type "function",data:=.func fd }) rfl (C_ (ha pos g s2 σ H1 _ I2 q) λus s3 ⟨vs,H2,I3,r,j,q2⟩=>?_) he
 obtain⟨E,ob,D,e1,e2,e3,e4⟩:=DC (f:=.ref fa) (u:=.ref fa) F hr I3 rfl r q2
 cases e1;exact #[(I3.hok fa _ j).1,e4]
end
theorem AI {K:m_}{mg mb:Ϝ}{CX:KE}{k:Nat}{fa a:Addr}{fd:γp}{sp:Sp}{s₁:ξ}{vs:ψ}{ns:γq}{ts:Φ}
  (KX:K.In θD) (hns:s₁.heap.Ns εK mg) (hb:s₁.heap.Ns ψX mb) (hbb:∀x:Str,x ≠ "__name__" → mb x=bootBuiltins x) (hlim:s₁.heap.NoLimit) (hg:s₁.gens = #[])
  (ha:s₁.heap.get? a=some { cls:=.type "list",data:=.seq δQ }) (hi:ϑw) (hl:ns.length≤sizeLine) (hr:Fv k θf)
  (hT:∀p∈ts,s₁.heap.get? p=some (OM #[])) (hTK:∀p∈ts,K.lookup p=none) (hTc:∀p∈ts,∃c,LZ K c p=true)
  (hbm:∃bm ob,mg "__builtins__" = some (.ref bm)∧bm≠builtinsNs∧s₁.heap.get? bm=some ob∧ob.cls=.type "module" ∧ ob.dict=some builtinsNs∧ob.data=.plain)
  (F:∀base:Heap,K.In base->base.Ns εK mg->ΞI->F7 P w K mg base CX k fa fd [x] sp) (hbind:∀(s:ξ) (u:μ),BindsTo s fd ξ0 [(x,u)])
  (hsp:∀H:Hp,c_ K H a δB->τX->sp [.ref a] H ϋY λ_ _ _=>False)
  (hCX:∀H e s',CX [] H s₁ ύl e s'->False) :
  codeAny ϛ θf τQ τ8 s₁:=by
 have rv:=rN hi
 have Q:=hi.length
 have aT:a∉ts:=λz=>by
  have:=hT a z;rw[ha] at this
  show 8
 have G:∀H:Hp,(∀b,b∉ts->H b=none\/∃o xs,H b=some (.frz o γP))->τX->c_ K H a δB->Gc P w H s₁.heap->(∀b,H b≠none->b=a\/b∈ts)->(H a≠none->K.lookup a=none) →
   codeAny ϛ θf τQ τ8 s₁:=by
  intro H hO J hS hok hA hK
  have g:∀{b:Addr}{o:Obj},s₁.heap.get? b=some o->H b=none->(IH θD H).get? b=some o:=λe n=>BQ e n
  have U:∀{b:Addr}{o:Obj}{es:ψ1}{ep:Nat},s₁.heap.get? b=some o->o.data=.dict es ep->H b=none:=λ{b o es ep} e d=>by
   cases q:H b with
   | none=>rfl
   | some u =>
    rcases hA b (by rw[q];simp) with e' | e'
    ·subst e'
     rw[ha] at e;cases e
     have d':Data.seq δQ _=Data.dict es ep:=d
     cases d'
    ·rw[hT b e'] at e;cases e
     cases d
  have j:∀{b:Addr}{m:Ϝ},s₁.heap.Ns b m->(IH θD H).Ns b m:=λ{b m} ⟨o,es,ep,e,d,r⟩=>#[o,es,ep,g e (U e d),d,r]
  have O:K.In 103e3:=λb o e=>g (KX b o e) (by
   cases q:H b with
   | none=>rfl
   | some u =>
    rcases hA b (by rw[q];simp) with e' | e'
    ·subst e'
     rw[hK (by rw[q];simp)] at e;cases e
    ·rw[hTK b e'] at e;cases e)
  have hM:Om K mg 103e3:=#[O,j hns,#[mb,j hb,hbb],let ⟨mc,h1,h2⟩:=hlim;#[mc,j h1,h2]]
  have e0:F3 P w K mg χP θf [] s₁ H:=#[rfl,hM,λb o e=>Df e,RX (zS _ _),ρ6,λb hb=>absurd (show b∈([]:List Addr) from hb) ϒ,hok,.of_eq hg]
  have T:∀p∈ts,mainGlobals≠p/\(IH θD H).BuiltinsAt mg p:=λp hp=>by
   refine #[λz=>?_,?_]
   ·obtain⟨o,es,ep,ho,hd,_⟩:=hns
    rw[z,hT p hp] at ho
    cases ho
    cases hd
   obtain⟨bm,ob,b1,b2,b3,b4,b5,b6⟩:=hbm;refine #[bm,ob,b1,b2,λz=>?_,λz=>?_,g b3 ?_,b4,b5,b6]
   ·obtain⟨o,es,ep,ho,hd,_⟩:=hns
    rw[z,ho] at b3
    cases b3;rw[b6] at hd
    cases hd
   ·rw[z,hT p hp] at b3
    cases b3
    cases b6
   ·cases q:H bm with
    | none=>rfl
    | some u =>
     rcases hA bm (by rw[q];simp) with e' | e'
     ·rw[e',ha] at b3
      cases b3
      cases b6
     ·rw[hT bm e'] at b3
      cases b3
      cases b6
  refine Nd ((F _ O (j hns) T).run θf [] s₁ H #[[.ref a],[]] [.ref a] [.ref a] _ _ hr e0 (hbind s₁ εj) ώp (hsp H hS J)) λr s' h=>?_
  cases r with
  | error e=>exact(hCX H e s' h).elim
  | ok fl =>
   cases fl with
   | next=>exact False.elim h
   | brk=>exact False.elim h
   | cont=>exact False.elim h
   | ret u =>
    obtain⟨v,H',os,bare,un,D,r',q⟩:=h
    have q':v=.bl true:=q;subst q';obtain rfl:u=OB true:=r';refine #[rfl,#[λb o e=>?_,λb o e=>un.there b o e ϒ],os,bare]
    by_cases hb:b∈ts
    ·obtain⟨more,z⟩:=un.tbls b _ (J b hb)
     have z2:s'.heap.get? b=some _:=D b _ z;rw[hT b hb] at e
     cases e;obtain⟨cc,R⟩:=hTc b hb;exact .inr (.inl #[((Ua KX R).tab (hT b hb)).isCodeTable,rfl,#[],more,rfl,z2])
    refine .inl ?_
    cases q:H b with
    | none=>exact un.keep b o e q (by intro z;exact absurd (show b∈([]:List Addr) from z) ϒ) (by simp)
    | some u =>
     rcases hO b hb with z | ⟨ob,xs,z⟩
     ·rw[q] at z;cases z
     ·have z2:=un.frzs b ob _ z
      obtain⟨e1,_⟩:=hok b _ z;obtain⟨e2,_⟩:=D b _ z2;rw[e] at e1;cases e1;exact e2
 have tab:∀(H:Hp) b,b∈ts->p_ P w H θD b 83e2:=λH b hb=>hT b hb
 cases hk:K.lookup a with
 | some o =>
  have e:=KX a o hk;rw[ha] at e
  cases e;refine G (λb=>if b∈ts then some ρA else none) (λb hb=>.inl (if_neg hb)) ϋZ (.inr #[_,δQ,_,hk,rfl,rfl,rfl,by rw[Gk,Q];exact hl,by simpa using rv]) ϐc ϑx λz=>absurd (if_neg aT) z
  ·by_cases hb:b∈ts
   ·have z':=(if_pos hb).symm.trans z
    cases z';exact tab _ b hb
   ·have z':=(if_neg hb).symm.trans z
    cases z'
  ·by_cases hb:b∈ts
   ·exact .inr hb
   ·exact absurd (if_neg hb) z
 | none =>
  refine G (λb=>if b∈ts then some ρA else if b=a then some (.frz { cls:=.type "list",data:=.seq δQ } (.lst δB)) else none) οK ϋZ (.inl (.inr #[{ cls:=.type "list",data:=.seq δQ },(if_neg aT).trans (if_pos rfl)])) ϐc ϑx λ_=>hk
  ·by_cases hb2:b=a
   ·exact .inr #[_,_,(if_neg hb).trans (if_pos hb2)]
   ·exact .inl Ω3
  ·by_cases hb:b∈ts
   ·have z':=(if_pos hb).symm.trans z
    cases z';exact tab _ b hb
   ·have z':=(if_neg hb).symm.trans z
    by_cases hb2:b=a
    ·have E:=(if_pos hb2).symm.trans z'
     cases E;subst hb2;exact #[ha,by rw[o_];exact hl,vs,_,rv,ha]
    ·have E:=(if_neg hb2).symm.trans z'
     cases E
  ·by_cases hb:b∈ts
   ·exact .inr hb
   ·by_cases hb2:b=a
    ·exact .inl hb2
    ·exact absurd Ω3 z
theorem KW {l:SE}{n k:Nat}{q:Ϧ}{loose:ώ}{XP:υ0}{YP:χB}{d:DefRec}{K:Params->m_}{CX:World->KE}{sp:World->Sp}{ts:Φ}
  (hn:ψq) (hn2:ε0) (hdf:χ2) (hr:Fv k θf)
  (hY:ΔL)
  (F:∀(w:Ϣ) (mg:Ϝ) (fa:Addr) (h:Heap),(K νG).In h->h.Ns εK mg->mg d.name=some ζK →
   ∃fd:FuncData,(∀(s:ξ) (u:μ),BindsTo s fd ξ0 [(x,u)])/\ΦR/\Φs ∧
    ∀base:Heap,(K νG).In base->base.Ns εK mg->ΞI->F7 l.prog w μa mg base (CX w) k fa fd [x] (sp w))
  (hsp:∀(w:Ϣ) (H:Hp) (a:Addr) (ns:γq),ns.length<=n->c_ μa H a δB->τX->sp w [.ref a] H ϋY λ_ _ _=>False)
  (hCX:∀(w:Ϣ) (H:Hp) (s:ξ) (e:μ) (s':ξ),CX w [] H s ύl e s'->False) :
  Ut q loose XP YP π7 d [] 100e2:=by
 refine Att.Jy hn hdf λw s₀ s₁ mg mb fa o pm cd U a vs ns G Y ho hd Z J E D j hg=>?_;obtain⟨KX,hT⟩:=hY w _ Y;obtain⟨fd,hb,R,Q,hF⟩:=F w mg fa _ KX G.T.g J;exact AI KX G.T.g G.T.b G.T.builtins G.T.nolimit hg E D (FG j hn2) hr hT R Q G.T.bmain hF hb (λH hS O=>hsp w H a ns j hS O) λH e s'=>hCX w H s₁ e s'
end L2
namespace L2
open PySem PySem.W PyProof.Rows
section
variable {α β:Type}{n:Nat}{lt:Nat->Nat->Bool}
def GP (n:Nat) (lt:Nat->Nat->Bool):KasT α->(α->Prop)->Prop
 | .ret a,Q=>Q a
 | .ask i j k,Q=>i < n/\j < n/\GP n lt (k ωS) Q
theorem GP.bind {f:α->KasT β}{Q:β->Prop}:∀(t:KasT α),GP n lt t (λa=>GP n lt (f a) Q)->GP n lt (t.bind f) Q
 | .ret _,h=>h
 | .ask _ _ k,h=>⟨h.1,h.2.1,GP.bind (k _) h.2.2⟩
theorem GP.mono {Q Q':ωT} (hq:∀a,Q a->Q' a):∀(t:KasT α),GP n lt t Q->GP n lt t Q'
 | .ret a,h=>hq a h
 | .ask _ _ k,h=>⟨h.1,h.2.1,GP.mono hq (k _) h.2.2⟩
theorem GP.wp {cmp:Nat->Nat->(Bool->Shared->Prop)->Shared->Prop}{R:ώj}{s:ξ} (hc:∀i j (C:ύm),i < n->j < n->C ωS s->cmp i j C s):∀(t:KasT α),GP n lt t (λa=>R a s)->t.kasWp cmp R s
 | .ret _,h=>h
 | .ask i j k,h=>hc i j _ h.1 h.2.1 (GP.wp hc (k ωS) h.2.2)
end
structure Pm (n:Nat) (p:θb):Prop where
 pm:p.Perm (r_ n).toArray
section
variable {n:Nat}{p:Array Nat}{z:Nat->Int}
theorem Pm.size (h:εm):p.size=n:=by rw[h.pm.size_eq];simp
theorem Pm.lt (h:εm) (hn:εp) (i:Nat):p.getD i 0 < n:=by
 by_cases hi:i < p.size
 ·have e:p.getD i 0=p[i]:=by simp[OS,hi]
  rw[e]
  have:=(Qg.mp h.pm).mem_iff.mp (show p[i]∈p.toList by simp)
  simpa using this
 ·have e:p.getD i 0=0:=by simp[OS,hi]
  rw[e];exact hn
theorem Pm.inj (h:εm) {i j:Nat} (hi:i < n) (hj:j < n) (e:p.getD i 0=p.getD j 0):i=j:=by
 have hs:=h.size
 have nd:p.toList.Nodup:=(Qg.mp h.pm).nodup_iff.mpr (by simpa using MB)
 have e1:p.getD i 0=p.toList[i]'(by simpa[hs] using hi):=by simp[OS,hs,hi]
 have e2:p.getD j 0=p.toList[j]'(by simpa[hs] using hj):=by simp[OS,hs,hj]
 rw[e1,e2] at e
 by_cases q:i=j
 ·exact q
 ·exact absurd e (by
   rcases Nat.lt_or_gt_of_ne q with q | q
   ·exact RR.mp nd i j _ _ q
   ·exact λz=>RR.mp nd j i _ _ q εq)
def Kz (z:γM) (p:θb) (i:Nat):Int:=z (p.getD i 0)
def Up (z:γM) (p:θb) (m:Nat):Prop:=∀i j,i < j->j < m->Kz z p i < Kz z p j
def Dn (z:γM) (p:θb) (m:Nat):Prop:=∀i j,i < j->j < m->Kz z p j < Kz z p i
theorem ur {q:θb}{i j:Nat} (h:p[i]?=q[j]?):Kz z p i=Kz z q j:=by
 unfold Kz;rw[Ub,Ub,h]
theorem Pm.ne (h:εm) (hn:εp) (hz:ζR) {i j:Nat} (hi:i < n) (hj:j < n) (ij:i≠j):Kz z p i≠Kz z p j:=λe=>ij (h.inj hi hj (hz _ _ (h.lt hn _) (h.lt hn _) e))
theorem Pm.rev (h:εm) (i j:Nat):Pm n (kas_rev p i j):=#[(mirror_perm p i j _).trans h.pm]
theorem Pm.bub (h:εm) (i j:Nat):Pm n (bubble p i j):=#[(bubble_perm p i j).trans h.pm]
variable (z) in
abbrev Jb:Nat->Nat->Bool:=λi j=>decide (z i < z j)
theorem uX (h:εm) (hn:εp) (hz:ζR):∀(f m:Nat),1<=m->m+f<=n->Up z p m->GP n θi (kas_asc p f m) λm'=>m<=m'/\m'<=m+f/\Up z p m'/\(m'=m+f\/Kz z p m' < Kz z p (m' - 1))
 | 0,m,_,_,u=>⟨B_ _,B_ _,u,.inl rfl⟩
 | f+1,m,h1,hm,u=>by
  refine μw
  show 293
  ·rw[show Jb z μZ ι7=true from decide_eq_true c]
   show 66;exact #[B_ _,by omega,u,.inr c]
  ·rw[show Jb z μZ ι7=false from decide_eq_false c]
   show 143
   have c':Kz z p ιX < Kz z p m:=by
    show 294
    omega
   refine GP.mono (λm' q=>#[by omega,by omega,q.2.2.1,?_]) _ (uX h hn hz f (m+1) γ γ λi j g hj=>?_)
   ·rcases q.2.2.2 with q | q
    ·exact .inl γ
    ·exact .inr q
   ·by_cases hjm:j < m
    ·exact u i j g hjm
    ·obtain rfl:j=m:=by omega
     show 295
     ·rw[him];exact c'
     ·exact OG Ψq c'
theorem xN (h:εm) (hn:εp) (hz:ζR):∀(f m:Nat),1<=m->m+f<=n->Dn z p m->GP n θi (kas_desc f p m 0) λr=>r.1=p/\r.2.2=0/\m<=r.2.1/\r.2.1<=m+f/\Dn z p r.2.1
 | 0,m,_,_,u=>⟨rfl,rfl,B_ _,B_ _,u⟩
 | f+1,m,h1,hm,u=>by
  refine μw
  show 293
  ·rw[show Jb z μZ ι7=true from decide_eq_true c]
   show 9;rw[if_pos rfl,if_neg ζ]
   refine GP.mono (λr q=>#[q.1,q.2.1,by omega,by omega,q.2.2.2.2]) _ (xN h hn hz f (m+1) γ γ λi j hij hj=>?_)
   by_cases hjm:j < m
   ·exact u i j hij hjm
   ·obtain rfl:j=m:=by omega
    show 295
    ·rw[him];exact c
    ·exact OG c Ψq
  ·rw[show Jb z μZ ι7=false from decide_eq_false c]
   show 143
   have c':Kz z p ιX < Kz z p m:=by
    show 294
    omega
   refine μw;rw[show Jb z ι7 μZ=true from decide_eq_true c'];show 66;exact #[rfl,rfl,B_ _,MS _ _,u]
theorem Ez (h:εm) {m:Nat} (hm:m<=n) (u:Dn z p m):Up z ϐd m:=by
 intro i j s hj
 have g:∀k,k < m->Kz z ϐd k=Kz z p (m - 1 - k):=λk hk=>by
  refine ur ?_;unfold kas_rev;rw[getElem?_mirror_all (by rw[h.size];exact hm),if_pos #[GO _,hk],Qn]
 rw[g i γ,g j hj]
 exact u _ _ γ γ
theorem B9 (h:εm) (hn:εp) (hz:ζR) {m:Nat} (h1:1<=m) (hm:m<=n) (u:Dn z p m):GP n θi (kas_tail3 m n p) λr=>Pm n r.2/\1<=r.1/\r.1<=n/\Up z r.2 r.1:=by
 unfold kas_tail3;refine GP.bind _ (GP.mono (λm' q=>?_) _ (uX (h.rev 0 m) hn hz (n - m) m h1 γ (Ez h hm u)))
 exact #[h.rev 0 m,by omega,by omega,q.2.2.1]
theorem Ca (h:εm) (h2:2<=n) (hz:ζR):GP n θi (kas_count n p) λr=>Pm n r.2/\1<=r.1/\r.1<=n/\Up z r.2 r.1:=by
 have hn:0 < n:=by omega
 unfold kas_count;refine GP.bind _ (GP.mono (λm q=>?_) _ (uX h hn hz ρ7 1 (B_ 1) γ λi j _ _=>by omega))
 by_cases e:m=n
 ·rw[if_pos ηQ]
  exact ΨP
 ·rw[if_neg ηQ]
  by_cases e1:m > 1
  ·rw[if_pos e1]
   refine μw;rw[show Jb z (p.getD 0 0) ι7=true from decide_eq_true (q.2.2.1 0 ιX γ γ)]
   show 66;exact ΨP
  ·rw[if_neg e1]
   obtain rfl:m=1:=by omega
   have c:Kz z p 1 < Kz z p 0:=by
    rcases q.2.2.2 with c | c
    ·omega
    ·exact c
   unfold kas_descPart;refine GP.bind _ (GP.mono (λr q'=>?_) _ (xN h hn hz (n - (1+1)) (1+1) γ γ λi j g hj=>?_))
   ·obtain⟨p',m',q0⟩:=r
    obtain⟨e1,e2,e3,e4,e5⟩:=q';dsimp only at e1 e2 e3 e4 e5 ⊢;subst e1 e2;show 144
    exact B9 h hn hz γ γ e5
   ·obtain rfl:j=1:=by omega
    obtain rfl:i=0:=by omega
    exact c
theorem oP (h:εm) (hn:εp) (hz:ζR) {k:Nat} (hk:ιJ) (u:Up z p k):∀(f l r:Nat),r<=l+f->l<=r->r<=k->(∀i,i < l->Kz z p i < Kz z p k)->(∀i,r<=i->i < k->Kz z p k < Kz z p i) →
  GP n θi (kas_place p k f l r) λl'=>l'<=k/\(∀i,i < l'->Kz z p i < Kz z p k)/\(∀i,l'<=i->i < k->Kz z p k < Kz z p i)
 | 0,l,r,hf,hl,hr,h1,h2=>by
  show 296
  exact ϐR
 | f+1,l,r,hf,hl,hr,h1,h2=>by
  unfold kas_place
  by_cases e:l ≥ r
  ·rw[if_pos e]
   show 296
   exact ϐR
  ·rw[if_neg e]
   refine μw
   by_cases c:Kz z p k < Kz z p ρN
   ·rw[show Jb z (p.getD k 0) ϋB=true from decide_eq_true c]
    show 66;refine oP h hn hz hk u f l ρN γ γ γ h1 λi hi g=>?_
    show 297
    ·rw[q];exact c
    ·exact OG c (u _ _ γ g)
   ·rw[show Jb z (p.getD k 0) ϋB=false from decide_eq_false c]
    show 143
    have c':Kz z p ρN < Kz z p k:=by
     have:=h.ne hn hz (show k < n by omega) (show (l+r) / 2 < n by omega) γ
     omega
    refine oP h hn hz hk u f ((l+r) / 2+1) r γ γ hr (λi hi=>?_) h2
    show 297
    ·rw[q];exact c'
    ·exact OG (u _ _ γ γ) c'
theorem AJ (hn:εp) (hz:ζR):∀(f:Nat) (p:θb) (k:Nat),Pm n p->k+f<=n->Up z p k->GP n θi (kas_bin f p k) λp'=>Pm n p'/\Up z p' (k+f)
 | 0,p,k,h,_,u=>⟨h,u⟩
 | f+1,p,k,h,hk,u=>by
  unfold kas_bin;refine GP.bind _ (GP.mono (λl q=>?_) _ (oP h hn hz (show k < n by omega) u k 0 k γ γ Θ (λi hi=>absurd hi (JW i)) λi h1 h2=>by omega))
  obtain⟨q1,q2,q3⟩:=q;refine GP.mono (λp' q'=>#[q'.1,by rw[show k+(f+1)=k+1+f by omega];exact q'.2]) _ (AJ hn hz f _ (k+1) (h.bub k ρ8) γ λi j hij hj=>?_)
  have g:∀i,Kz z (bubble p k ρ8) i=if i=l then Kz z p k else if l < i/\i<=k then Kz z p (i - 1) else Kz z p i:=λi=>by
   have e:=getElem?_bubble (xs:=p) (src:=k) (by rw[h.size];omega) ρ8 γ i
   rw[show k - ρ8=l by omega] at e
   by_cases c1:i=l
   ·rw[if_pos c1] at e ⊢;exact ur e
   ·rw[if_neg c1] at e ⊢
    by_cases c2:l < i/\i<=k
    ·rw[if_pos c2] at e ⊢;exact ur e
    ·rw[if_neg c2] at e ⊢;exact ur e
  rw[g i,g j]
  repeat' split
  all_goals first
   | (exfalso;omega)
   | exact q2 _ (by omega)
   | exact q3 _ (by omega) (by omega)
   | exact u _ _ (by omega) (by omega)
theorem xO (h2:2<=n) (hz:ζR):GP n θi (kas_sort n) λp=>Pm n p/\Up z p n:=by
 unfold kas_sort;refine GP.bind _ (GP.mono (λr q=>?_) _ (Ca (p:=(r_ n).toArray) ω7 h2 hz));obtain⟨m,p⟩:=r;obtain⟨q1,q2,q3,q4⟩:=q;dsimp only at q1 q2 q3 q4 ⊢
 by_cases c:m < n
 ·rw[if_pos c]
  have e:max m 1=m:=by omega
  rw[e];refine GP.mono (λp' q'=>#[q'.1,?_]) _ (AJ γ hz (n - m) p m q1 γ q4)
  have:=q'.2
  rwa [show m+(n - m)=n by omega] at this
 ·rw[if_neg c]
  obtain rfl:m=n:=by omega
  exact #[q1,q4]
end
end L2
namespace L2
open PySem PySem.Spec PySem.W PyProof.Rows
section
variable {P:Program}{w:World}{K:m_}{mg:Str->Option Value}{base:Heap}{A A':Around}{outer:List Env}{s s':Shared}{H H':Hp}
theorem F3.nofr (e0:δY) {b:Addr}{o:Obj} (e:base.get? b=some o):b∉GY outer:=λhb=>by
 have:=(e0.funs.mem hb).1;show 189
theorem F3.after (e0:δY) (hA:A'.frames=A.frames) (un:Un δl [] H H' ύ εO) (hok:ύU) (bare:ώY) (hsz:s.heap.objs.size<=s'.heap.objs.size):F3 P w K mg base A' Δ s' H':=by
 have g:∀b:Addr,b∉([]:List Addr):=λb=>GH;refine #[hA.trans πs,e0.mod,λb o e=>?_,FG e0.bsz hsz,?_,λb hb=>?_,hok,bare]
 ·obtain⟨h1,h2⟩:=e0.bs b o e
  exact #[un.keep b o h1 h2 (e0.nofr e) (g b),un.free b o h1 h2 (g b)]
 ·have all:∀(l:γ4),(∀b∈GY l,b∈GY Δ)->s.heap.FunFrames base l->s'.heap.FunFrames base l:=by
   intro l
   induction l with
   | nil=>intro _ _;trivial
   | cons env r ih =>
    show 190
    have hL:L∈GY outer:=hs L Ψz
    obtain⟨sl,e⟩:=un.slot L o ho (e0.frf L hL) hL (g L);exact Δx
  exact all Δ ϐC ρ3
 ·obtain⟨_,o,ho,_⟩:=e0.funs.mem hb
  exact un.free b o ho (e0.frf b hb) (g b)
theorem F3.lt (e0:δY) {b:Addr} (hb:b∈GY Δ):b < s.heap.objs.size:=by
 obtain⟨_,o,ho,_⟩:=e0.funs.mem hb;exact FO ho
end
def G9 (c:Int) (n:Nat):HO:=.tup [.int c,.int (n:Nat)]
section
variable {P:Program}{w:World}{A:Around}{s:Shared}{H:Hp}
theorem xP {t u:Addr}{c d:Int}{m n:Nat}{Q:ύm}{E:ϥ} (hok:ψ2) (h1:H t=some (G9 c m)) (h2:H u=some (G9 d n)) (hcalm:η6) (hu:ύn) (q:Q (decide χn) s) :
  wpAny ϛ A (keyLt' ψe (.ref t) (.ref u)) Q E s:=by
 obtain⟨_,J,r,ot,e1,e2,n1,e3⟩:=hok t _ h1;obtain⟨_,D,r',ou,g,O,G,j⟩:=hok u _ h2;obtain⟨x,y,rfl,⟨t1,rfl⟩,⟨t2,rfl⟩⟩:=fB r;obtain⟨x',y',rfl,⟨t3,rfl⟩,⟨t4,rfl⟩⟩:=fB r';refine kat_lt e1 e3 g j ?_;refine kat_cons (Rq ?_)
 by_cases h:c=d
 ·rw[show (c == d)=true from by simpa using h]
  refine kat_yes (kat_cons (Rq ?_))
  by_cases h':m=n
  ·subst h h'
   rw[show (((m:Nat):Int) == ((m:Nat):Int))=true from by simp]
   refine kat_yes (kat_nil ?_)
   have e:decide (c < c\/c=c/\m < m)=false:=decide_eq_false γ
   rw[e] at q;exact q
  ·rw[show (((m:Nat):Int) == ((n:Nat):Int))=false from by
    have:((m:Nat):Int)≠((n:Nat):Int):=by omega
    simpa using this]
   refine kat_no ?_;rw[show (true && (0+1 == 0))=false from rfl];refine kat_one _ _ ?_;refine lt_int ?_
   have e:decide χn=decide (((m:Nat):Int) < ((n:Nat):Int)):=by
    by_cases z:m < n
    ·rw[decide_eq_true (by omega:((m:Nat):Int) < (n:Nat)),decide_eq_true (.inr #[h,z])]
    ·rw[decide_eq_false (by omega:¬ ((m:Nat):Int) < (n:Nat)),decide_eq_false γ]
   show 145
 ·rw[show (c == d)=false from by simpa using h]
  refine kat_no ?_;rw[show (true && (0 == 0))=true from rfl];refine oneLt_int ?_
  have e:decide χn=decide (c < d):=by
   by_cases z:c < d
   ·rw[decide_eq_true z,decide_eq_true (.inl z)]
   ·rw[decide_eq_false z,decide_eq_false γ]
  rw[e] at q;exact q
def IE (ck:γM) (m n:Nat):Prop:=ck m < ck n\/ck m=ck n/\m < n
instance (ck:Nat->Int) (m n:Nat):Decidable (IE ck m n):=inferInstanceAs (Decidable (_\/_/\_))
def Gw (H:Hp) (ck:γM):List Nat->List Value->Prop
 | [],[]=>True
 | n :: ns,k :: ks=>(∃t,k=.ref t/\H t=some ρJ)/\Gw H ck ns ks
 | _,_=>False
theorem Gw.snoc {ck:γM}{n:Nat}{t:Addr} (h:H t=some ρJ):∀{ns:η}{ks:ψ},Gw H ck ns ks->Gw H ck (ns++[n]) (ks++[.ref t])
 | [],[],_=>⟨⟨t,rfl,h⟩,ρ6⟩
 | [],_ :: _,z=>z.elim
 | _ :: _,[],z=>z.elim
 | _ :: _,_ :: _,z=>⟨z.1,Gw.snoc h z.2⟩
theorem Gw.imp {H':Hp}{ck:γM} (h:∀t xs,H t=some ε7->H' t=some ε7):∀{ns:η}{ks:ψ},Gw H ck ns ks->Gw H' ck ns ks
 | [],[],_=>trivial
 | [],_ :: _,z=>z.elim
 | _ :: _,[],z=>z.elim
 | _ :: _,_ :: _,⟨⟨t,e,z⟩,r⟩=>⟨⟨t,e,h t _ z⟩,Gw.imp h r⟩
theorem Gw.length {ck:γM}:∀{ns:η}{ks:ψ},Gw H ck ns ks->ks.length=ns.length
 | [],[],_=>rfl
 | [],_ :: _,z=>z.elim
 | _ :: _,[],z=>z.elim
 | _ :: _,_ :: _,z=>by rw[Io,Io,Gw.length z.2]
theorem Gw.get {ck:γM}:∀{ns:η}{ks:ψ}{i:Nat},Gw H ck ns ks->i < ns.length->∃t,ks.getD i Kw=.ref t/\H t=some (G9 (ck εX) εX)
 | [],_,i,_,hi=>absurd hi (JW i)
 | _ :: _,[],_,z,_=>z.elim
 | _ :: _,_ :: _,0,⟨⟨t,e,z⟩,_⟩,_=>⟨t,e,z⟩
 | _ :: ns,_ :: ks,i+1,z,hi=>Gw.get (ns:=ns) (ks:=ks) (i:=i) z.2 εV
theorem Gw.tups {ck:γM} (hok:ψ2):∀{ns:η}{ks:ψ},Gw H ck ns ks->∃fs:List Value,KatTups ύ ks fs/\fs.length=ns.length/\∀v∈fs,∃i t,v=Kv i t
 | [],[],_=>Φh
 | [],_ :: _,z=>z.elim
 | _ :: _,[],z=>z.elim
 | _ :: ns,_ :: ks,⟨⟨t,e,z⟩,r⟩=>by
  obtain⟨fs,h1,h2,h3⟩:=Gw.tups hok r;show 298;subst e;refine Θ9
  rcases FC.mp hv with rfl | hv
  ·exact εJ
  ·exact h3 v hv
def LD (ck:γM) (ns:η) (B:Int) (i:Nat):Int:=ck εX * B+(ns.getD i 0:Nat)
theorem pP {ck:γM}{ns:η}{B:Nat} (hB:οF) {i j:Nat} (hi:i < δ0) (hj:j < δ0):LD ck ns B i < LD ck ns B j ↔ IE ck εX 43e8:=by
 have mem:∀i,i < ns.length->ns.getD i 0 < B:=λi h=>hB _ (by rw[v_,s_ h];exact IV h)
 have a:=mem i hi
 have b:=mem j hj;unfold LD IE;generalize ns.getD i 0=m at a;generalize ns.getD j 0=n at b;generalize ck m=c;generalize ck n=d
 constructor
 ·intro h
  rcases Int.lt_trichotomy c d with z | z | z
  ·exact .inl z
  ·subst z;exact .inr #[rfl,by omega]
  ·exfalso
   have:(d+1) * (B:Int)<=c * B:=SL γ γ
   show 299
 ·intro h
  rcases h with z | ⟨rfl,z⟩
  ·have:(c+1) * (B:Int)<=d * B:=SL γ γ
   show 299
  ·omega
end
end L2
namespace L2
open PySem PySem.Spec PySem.W PyProof.Rows
section
variable {fs ex:List Addr}{H H':Hp}{h h' h'':Heap}{x:Addr}{P:Program}{w:World}
theorem Un.turn (u:ύo) (hx:ϐS) (k:∀b o,b≠x->h'.get? b=some o->h''.get? b=some o):Un fs ex H H' h h'' where
 keep:=λb o e n hb he=>k b o οt (u.keep b o e n hb he)
 slot:=λb o e n hb he=>let ⟨sl,z⟩:=u.slot b o e n hb he;#[sl,k b _ οt z]
 free:=u.free
 there:=λb o e he=>let ⟨o',z⟩:=u.there b o e he;#[o',k b _ οt z]
 tups:=u.tups
 frzs:=u.frzs
 tbls:=u.tbls
theorem Gc.turn (ok:δ4) (hx:ωU) (k:∀b o,b≠x->h.get? b=some o->h'.get? b=some o):Gc P w H h':=λb o e=>by
 have ne:∀c u,H c=some u->c≠x:=λc u e z=>by rw[z,hx] at e;cases e
 refine(ok b o e).stay (λc v hc q=>k c v ?_ q) (λ_ q=>q) λ_ _ q=>q;rcases hc with z | z
 ·rw[z];exact ne b o e
 ·exact ne c _ z
theorem Un.trk {o:HO} (u:ύo) (hx:ϐS) (n:H' x=none):Un fs ex H (upd H' x o) h h' where
 keep:=u.keep
 slot:=u.slot
 free:=λb q e m he=>by
  rw[ae οt];exact u.free b q e m he
 there:=u.there
 tups:=λb xs e=>by
  have z:=u.tups b xs e;rw[ae ωV];exact z
 frzs:=λb q v e=>by
  have z:=u.frzs b q v e;rw[ae ωV];exact z
 tbls:=λb ps e=>by
  obtain⟨m,z⟩:=u.tbls b ps e;exact #[m,by rw[ae ωV];exact z]
theorem Gc.trk {o:HO} (ok:δ4) (n:ωU) (new:p_ P w ζs h x o):Gc P w ζs h:=λb u e=>by
 by_cases hb:b=x
 ·show 187
 ·rw[ae hb] at e
  exact(ok b u e).stay χQ (λc q=>by rw[ae (aq q n)];exact q) λc xs q=>by rw[ae (aq q n)];exact q
end
def cO (ns:η):List V:=ns.map λn=>.int ((n:Nat):Int)
theorem jU {ns:η}{vs:ψ} (r:οW):vs.length=ns.length/\∀i,i < ns.length->∃t,vs.getD i Kw=Kv (ns.getD i 0:Nat) t:=by
 have hl:=πP;unfold cO at hl;rw[o_] at hl;refine #[hl.symm,λi hi=>?_]
 obtain⟨u,h1,t,rfl⟩:=r.get (i:=i) (x:=.int ((ns.getD i 0:Nat):Int)) (by
  unfold cO;rw[FM,s_ hi,v_,s_ hi]
  rfl)
 exact #[t,by rw[v_,h1];rfl]
section
variable {P:Program}{w:World}{K:m_}{mg:Str->Option Value}{base:Heap}{A:Around}{outer:List Env}{s:Shared}{H:Hp}{k:Nat}{sp:MO}{l fa:Addr}{vs:List Value}{ns:List Nat}{ck:Nat->Int}{B:Nat}{Q:VK}{E:Value->Shared->Prop}
theorem AK {s':ξ}{H':Hp}{D kS:Addr}{ks:ψ}{e e1:Nat}{R:ϋg} (hA:η6) (hAu:ύn) (r:οW) (nd:πY) (hB:οF) (h64:ψf)
  (hok:ύU) (hD:s'.heap.get? D=some ο7) (hk:s'.heap.get? kS=some ΩV) (hDk:D≠kS) (hK:Gw H' ck ns ks)
  (fin:∀(h':Heap) (ms:η) (out:ψ) (c:Nat),(∀b o,b≠D→b≠kS→s'.heap.get? b=some o→h'.get? b=some o)→h'.get? D=some (seqObj "list" out.toArray c)→j_ (cO ms) out→ms.Perm ns→ms.Pairwise ιA→R όs { s' with heap:=h' }) :
  wpAny ϛ A (ksk_end D τ δQ e1 πA ks.toArray) R E s':=by
 obtain⟨G,aw⟩:=jU r
 have an:=hK.length
 have tail:∀(st:SortSt) (p:θb),Pm δ0 p->arrOf st=p.map ΦV->failedOf st=none->(∀i j,i < j->j < ns.length->IE ck (ns.getD (p.getD i 0) 0) (ns.getD (p.getD j 0) 0))->wpAny ϛ A (ksk_tail D τ e1 πA st) R E s':=by
  intro st p hp U hf ad
  have Y:=kat_snds (ks:=ks) (vs:=vs) γ U
  have Z:=hp.size
  have s1:=MF εO kS δv
  have J:(s'.heap.update kS δv).get? D=some 67e9:=(s1.2 D hDk).trans hD
  have s2:=MF (s'.heap.update kS δv) D Φw
  obtain⟨c2,O⟩:∃c2,((s'.heap.update kS (Obj.mapSeq λ_=>(#[]:Array Value))).update D (Obj.mapSeq λ_=>(arrOf st).map (·.2))).get? D=some (seqObj "list" ((arrOf st).map (·.2)) c2):=#[_,get?_update_seq J λ_=>(arrOf st).map (·.2)]
  unfold ksk_tail;show 6
  refine E_ (listUpdate_at hk rfl ?_ 83e4 ιY)
  refine E_ (OR ?_);refine E_ (seqEpoch_at J rfl ?_);simp only[N9,if_false]
  refine E_ (listUpdate_at J rfl ?_ 48e4 (by
   show 300
   rw[Y,Gk,o_,MG,Z,θB];omega))
  rw[hf];simp only[bne_self_eq_false,N9,if_false]
  have O:=O.trans (congrArg ΨF Y)
  have pl:p.toList.Perm 196e7:=by simpa using Qg.mp hp.pm
  have pin:∀i∈p.toList,i < ns.length:=λi hi=>GG.mp ύp;refine Ga (fin _ (p.toList.map λi=>ns.getD i 0) _ c2 (λb o hb aT q=>?_) O ?_ ?_ ?_)
  ·rw[s2.2 b hb,s1.2 b aT];exact q
  ·unfold cO
   rw[GB]
   have:∀(ls:η),(∀i∈ls,i < δ0)->j_ (ls.map ((λn:Nat=>V.int ((n:Nat):Int)) ∘ λi=>ns.getD i 0)) (ls.map λi=>vs.getD i Kw):=by
    intro ls
    induction ls with
    | nil=>intro _;exact .nil
    | cons i ls ih =>
     intro hl;obtain⟨t,e⟩:=aw i (hl i δi);exact .cons #[t,e] (ih λj hj=>hl j (.tail _ hj))
   exact this _ pin
  ·have e0:(r_ δ0).map ζX=ns:=by
    apply JY
    show 146
    show 301
    ·rw[Ib hi,s_ hi,Ks,v_,s_ hi]
     rfl
    ·rw[Hj δw,Hj γ]
     rfl
   have:=pl.map λi=>ns.getD i 0
   rwa [e0] at this
  ·rw[Rf,RR]
   intro i j hi hj H
   have:=ad i j H (by rw[MG,Z] at hj;exact hj)
   have g:∀m (hm:m < p.toList.length),p.getD m 0=p.toList[m]:=λm hm=>by
    have:m < p.size:=by simpa using hm
    simp[OS,this]
   rw[g i hi,g j hj] at this;show 11
 unfold ksk_end;try dsimp only
 simp only[N9,if_false]
 by_cases h2:vs.toArray.size < 2
 ·rw[if_pos h2,if_pos h2]
  rw[Gk,G] at h2;refine E_ ηG;rw[ϐe];refine E_ ηG;try dsimp only
  refine tail _ (r_ δ0).toArray ω7 ?_ rfl (λi j H hj=>by omega)
  have e:=kas_range (ks.toArray.zip δQ);rw[show (ks.toArray.zip δQ).size=ns.length by simp[an,G]] at e
  rw[e]
 ·rw[if_neg h2,if_neg h2]
  rw[Gk,G] at h2;obtain⟨fs,t1,t2,t3⟩:=hK.tups hok
  refine E_ Θw
  ·obtain⟨i,t,rfl⟩:=t3 v hv
   exact Looks.of_pure rfl
  rw[show ϊp=true from rfl]
  have hz:∀i j,i < ns.length->j < ns.length->LD ck ns B i=LD ck ns B j->i=j:=λi j hi hj e=>by
   have n1:¬ IE ck εX 43e8:=λz=>by have:=(pP hB hi hj).mpr z;omega
   have n2:¬ IE ck ιe 23e5:=λz=>by have:=(pP hB hj hi).mpr z;omega
   have e3:ns.getD i 0=ns.getD j 0:=by
    unfold IE at n1 n2;generalize ck (ns.getD i 0)=c at n1 n2;generalize ck (ns.getD j 0)=d at n1 n2;omega
   rw[v_,s_ hi,v_,s_ hj] at e3;exact(L0 nd).mp e3
  have ask:(kas_sort ωv).kasWp (kas_ask P w A ψe ks) (λp h=>h=s'/\Pm δ0 p/\Up π9 p δ0) s':=by
   rw[G];refine GP.wp (lt:=Jb π9) (n:=δ0) ϋh _ Ξi
   obtain⟨t,e1,e2⟩:=hK.get hi;obtain⟨u,e3,e4⟩:=hK.get hj;show 302;refine xP hok e2 e4 hA hAu ?_
   have e5:decide (ck εX < ck 43e8\/ck εX=ck ιe/\ns.getD i 0 < ns.getD j 0)=Jb π9 i j:=by
    show _=decide _
    rw[ώx];exact(pP hB hi hj).symm
   rw[e5];exact q
  refine E_ (IT (kat_run (Q:=λs h=>∃p:Array Nat,arrOf s=p.map ΦV/\failedOf s=none/\h=s'/\Pm δ0 p/\Up π9 p δ0) γ γ γ (λp' s h a1 a2 a3 a4=>ύV) ask) ?_ λ_ _ x=>x)
  rintro⟨⟨⟩,s⟩ h ⟨p,U,hf,rfl,hp,hu⟩;try dsimp only
  refine tail s p hp U hf λi j H hj=>?_
  have:=hu i j H hj;exact(pP hB (hp.lt γ i) (hp.lt γ j)).mp this
end
end L2
namespace L2
open PySem PySem.Spec PySem.W PyProof.Rows
section
variable {P:Program}{w:World}{K:m_}{mg:Str->Option Value}{base:Heap}{A:Around}{outer:List Env}{s:Shared}{H:Hp}{k:Nat}{sp:MO}{l fa:Addr}{vs:List Value}{ns:List Nat}{ck:Nat->Int}{B:Nat}{Q:VK}{E:Value->Shared->Prop}
structure AL (P:Ϧ) (w:Ϣ) (outer:γ4) (s:ξ) (H:Hp) (D kS:Addr) (e1:Nat) (ck:γM) (ns:η) (s':ξ) (H':Hp) (ks:ψ) (e:Nat):Prop where
 os:s'.os=s.os
 bare:AllBare s'.gens
 un:Un δl [] H H' ύ εO
 hok:Gc P w H' εO
 same:a_ H H'
 hD:s'.heap.get? D=some ο7
 nD:H' D=none
 hk:s'.heap.get? kS=some ΩV
 nk:H' kS=none
 keys:Gw H' ck ns ks
theorem zr {D kS:Addr}{e1:Nat}{s5:ξ}{R:ϋg} (hr:ιE) (e0:δY) (r:οW) (nd:πY) (hB:οF) (h64:ψf)
  (hf:∀(s':ξ) (H':Hp) (n:Nat) (x:μ),n∈ns->a_ H H'->F3 P w K mg base A Δ s' H'->Un δl [] H H' ύ s'.heap->k_ χ5 x->codeAny ϛ A Ωt Δz s')
  (nDs:s.heap.objs.size<=D) (nks:s.heap.objs.size<=kS) (hDk:D≠kS) (S5:AL P w Δ s H D kS e1 ck [] s5 H [] 0)
  (fin:∀(s':ξ) (H':Hp) (ms:η),s'.os=s.os->AllBare s'.gens->Un δl [] H μC ύ s'.heap->Gc P w μC s'.heap->a_ H H'->H' D=none->ms.Perm ns->ms.Pairwise ιA->R όs s') :
  wpAny ϛ A (ksk_rest D ζK τ δQ e1 πA) R E s5:=by
 obtain⟨J,U⟩:=jU r
 have h:∀b:Addr,b∉([]:List Addr):=λb=>GH
 have ad:∀{s':ξ},(∃o,s'.heap.get? D=some o)->s.heap.objs.size<=s'.heap.objs.size:=λ{s'} ⟨o,z⟩=>FG nDs (K_ (FO z))
 have a1:D∉GY outer:=λz=>absurd (e0.lt z) (OL.mpr nDs)
 have an:kS∉GY outer:=λz=>absurd (e0.lt z) (OL.mpr nks);unfold ksk_rest;refine E_ (wpAny_rule ?_);rw[<- Array.forIn_toList];refine E_ (ksk_fold (I:=λj s'=>∃H' ks e,AL P w Δ s H D kS e1 ck (ns.take j) s' H' ks e) vs 0 s5 #[H,[],0,S5] (λj x s' hx hI=>?_) λs' hI=>?_)
 ·obtain⟨H',ks,e,S⟩:=hI
  rw[Qn] at S ⊢
  have hj:j < ns.length:=by rw[<- J];exact(Gr.mp hx).1
  have hn:ns.getD j 0∈ns:=by rw[v_,s_ hj];exact IV hj
  obtain⟨t,ex⟩:=U j hj;rw[v_,hx] at ex
  have ex:x=_:=ex
  have a2:=e0.after (A':=A) rfl S.un S.hok S.bare (ad #[_,S.hD])
  have hc:=hf s' H' _ x hn S.same a2 S.un #[t,ex];refine E_ (wpAny_attempt (Nc (Nd hc λrs g hq=>?_)))
  cases rs with
  | error _=>exact False.elim hq
  | ok fl =>
   cases fl with
   | next=>exact False.elim hq
   | brk=>exact False.elim hq
   | cont=>exact False.elim hq
   | ret u =>
    obtain⟨v,H'',os,bare,un,hok,rv,q⟩:=hq;obtain⟨ta,rfl,T,sm⟩:=q;obtain rfl:u=.ref ta:=rv
    have a0:=un.keep D _ S.hD S.nD a1 (h D)
    have G:=un.keep kS _ S.hk S.nk an (h kS)
    have aw:=un.free D _ S.hD S.nD (h D)
    have Q:=un.free kS _ S.hk S.nk (h kS)
    have s1:=MF g.heap kS Ω4
    have k1:∀b o,b≠kS->g.heap.get? b=some o->(g.heap.update kS Ω4).get? b=some o:=λb o hb z=>(s1.2 b hb).trans z
    have ea:(RJ ks).push ρT=RJ (ks++[.ref ta]):=by simp
    have O:=ϑy;rw[Kx,Qx γ] at O
    obtain⟨c2,aT⟩:∃c2,(g.heap.update kS (Obj.mapSeq (·.push (.ref ta)))).get? kS=some (seqObj "list" (RJ (ks++[.ref ta])) c2):=#[_,by rw[← ea];exact get?_update_seq G (·.push ρT)]
    show wpAny _ _ (do Builtin.List.listUpdate πA (·.push ρT);pure (ForInStep.yield PUnit.unit)) _ _ _
    refine E_ (listUpdate_at G rfl ?_ 83e4 (FG (RX (Array.size_push ..)) ρC))
    refine Ga #[rfl,H'',ks++[.ref ta],c2,os.trans S.os,bare,(S.un.trans un).turn nks k1,hok.turn Q k1,λb o z=>sm b o (S.same b o z),(k1 D _ hDk a0),aw,aT,Q,?_];rw[List.take_succ,s_ hj]
    have eg:ns.getD j 0=ns[j]:=by rw[v_,s_ hj];rfl
    rw[eg] at T;exact Gw.snoc T (S.keys.imp λt xs z=>un.tups t xs z)
 ·obtain⟨H',ks,e,S⟩:=hI
  rw[Qn,J,MC] at S
  have O:=ϑy;refine E_ (listItems_at S.hk rfl ?_);refine AK hr.hd hr.units r nd hB h64 S.hok S.hD S.hk hDk S.keys λh' ms Z c kp hD rv pm pw=>?_
  have u1:Un δl [] H H' ύ h':=#[λb o z n hb he=>?_,λb o z n hb he=>?_,S.un.free,λb o z he=>?_,S.un.tups,S.un.frzs,S.un.tbls]
  have Y:Gc P w H' h':=λb o z=>by
   have ne:∀c u x,H' x=none->H' c=some u->c≠x:=λc u x n z y=>by rw[y,n] at z;cases z
   refine(S.hok b o z).stay (λc v hc q=>?_) (λ_ q=>q) λ_ _ q=>q;rcases hc with rfl | y
   ·exact kp c v (ne c o _ S.nD z) (ne c o _ S.nk z) q
   ·exact kp c v (ne c _ _ S.nD y) (ne c _ _ S.nk y) q
  refine fin _ H' ms S.os S.bare (u1.trk nDs S.nD) (Y.trk S.nD #[?_,Z,c,rv,hD]) S.same S.nD pm pw
  ·unfold cO
   rw[o_,πa,θB];omega
  ·exact kp b o χ6 χ7 (S.un.keep b o z n hb he)
  ·obtain⟨sl,y⟩:=S.un.slot b o z n hb he
   exact #[sl,kp b _ χ6 χ7 y]
  ·obtain⟨o',y⟩:=S.un.there b o z he
   exact #[o',kp b _ χ6 χ7 y]
theorem AM (hr:Fv (k+2) A) (e0:δY) (hl:s.heap.IsList l δQ) (r:οW) (nd:πY) (hB:οF) (h64:ψf)
  (hf:∀(s':ξ) (H':Hp) (n:Nat) (x:μ),n∈ns->a_ H H'->F3 P w K mg base πB Δ s' H'->Un δl [] H H' ύ s'.heap->k_ χ5 x->codeAny ϛ πB Ωt Δz s')
  (hq:∀(D:Addr) (H':Hp) (ms:η),H D=none->H' D=none->a_ H H'->ms.Perm ns->ms.Pairwise ιA->Q γ0 μC) :
  wpAny ϛ A (call οs [.ref l] [ύq]) (λu s'=>CE Δ P w H s Q u s') E s:=by
 obtain⟨T,U⟩:=jU r;refine call_function_entry_kw kind_sorted plain_sorted ψD (ksk_s1 _ _) ?_;unfold Builtin.«sorted»
 refine E_ (m:=checkCount "sorted" 1 1 _) ηG
 refine E_ Φ1
 refine E_ Ψr
 have G:((s.heap.push δa).update Ω ζS).objs.size=s.heap.objs.size+1:=by
  rw[RB,ω8]
 have g:(((s.heap.push δa).update Ω ζS).push ζU).get? Ϛ=some 29e4:=by
  rw[<- G];exact G4 _ rfl
 have keep:∀b o,s.heap.get? b=some o→(((s.heap.push δa).update Ω ζS).push ζU).get? b=some o:=λb o q=>by
  have j:b < s.heap.objs.size:=FO q;rw[P3 _ _ _ (by rw[G];exact F0 (IL j)),Tr _ _ _ _ (F0 j),P3 _ _ _ (F0 j)]
  exact q
 show wpAny _ _ _ _ _ { s with heap:=((s.heap.push δa).update s.heap.objs.size ζS).push ζU }
 rw[G]
 generalize (((s.heap.push (seqObj "list" #[] 0)).update s.heap.objs.size (Obj.mapSeq (· ++ vs.toArray))).push (seqObj "list" vs.toArray 0))=h2 at g keep
 refine E_ (JK (wpAny_call_entry_kw ϐU ϑz ϐf ?body (ksk_l1 _ _)))
 show wpAny ϛ πB (Builtin.«list.sort» #[[.ref Ϛ],[ύq]]) _ _ _
 rw[ksk_t1];unfold ksk_tree
 have s1:=MF h2 Ϛ δv
 obtain⟨e1,O⟩:∃e1,(h2.update (s.heap.objs.size+1) (Obj.mapSeq λ_=>(#[]:Array Value))).get? (s.heap.objs.size+1)=some (seqObj "list" #[] e1):=Ψf
 refine E_ ϋi;refine E_ ΘA
 refine E_ (seqEpoch_at O rfl ?_);refine E_ Θr
 refine E_ ψg;refine JK ?_
 have J:∀b o,s.heap.get? b=some o→(((h2.update Ϛ δv).push ηL).push δa).get? b=some o:=λb o q=>by
  show 303
 have R:s.heap.objs.size+1 < h2.objs.size:=FO g
 have h:((h2.update Ϛ δv).push ηL).objs.size=h2.objs.size+1:=by rw[ω8,RB]
 have fr:∀a,s.heap.objs.size<=a->H a=none:=λa z=>e0.hok.fresh z
 refine zr (D:=s.heap.objs.size+1) (A:=πB) (outer:=Δ) (s:=s) (H:=H) (s5:={ s with heap:=((h2.update Ϛ δv).push ηL).push δa }) (kS:=((h2.update Ϛ δv).push ηL).objs.size) hr.in1.in1 (e0.after rfl Un.refl e0.hok e0.bare Θ) r nd hB h64 hf θN (by have:=h;omega) (F0 (by have:=h;omega))
  #[rfl,νo,Un.kept J,e0.hok.kept J,λ_ _ z=>z,FZ _ (FZ _ O),fr _ γ,G4 _ rfl,fr _ (by rw[h];omega),ρ6] ?_
 intro s' H' ms os bare un hok sm nD pm pw;exact #[_,rfl,Ga #[_,rfl,.ref Ϛ,_,os,bare,un,hok,rfl,hq _ H' ms (fr _ γ) nD sm pm pw]]
end
def AN (ps:ώ) (vs:δ) (scope:γ5) (clos:δx) (cv:οJ) (N:ώ) (σ:St):Prop :=
 σ.length=N.length/\∀(i:Nat) (x:Str) (v:V),N[i]?=some x->σ[i]?=some δs->156e8\/(scope.names.lookup x=some .free/\(∃c,clos.lookup x=some c)/\cv.lookup x=some v)
structure NC (scope:γ5) (clos:δx) (cv:οJ) (H:Hp) (h:Heap):Prop where
 inj:∀x y c,clos.lookup x=some c->clos.lookup y=some c->x=y
 has:∀x,scope.names.lookup x=some .free->∃c,clos.lookup x=some c
 val:∀x c,clos.lookup x=some c->∃v u,cv.lookup x=some v/\k_ v u/\h.IsCell c δI/\H c=none
section
variable {P:Program}{w:World}{K:m_}{mg:Str->Option Value}{base:Heap}{A:Around}{outer:List Env}{s:Shared}{H:Hp}{N ps:List Str}{scope:Scope}{fa:Addr}{q:Str}{cd:Value}{clos:List (Str × Addr)}{cv:List (Str × V)}{vs:List V}{us:List Value}{σ0:St}{h':Heap}{tk:Nat}
theorem Cb (S:οV) (hd:η6) (e0:δY) (r:ηc) (C:ϊD) (h0:ΩW)
  (hn:h'.Ns Ω λx=>(ps.zip us).reverse.lookup x) (hs:ΔZ) :
  Inv (Mc P w K mg base N ΦF A Δ s H) [] σ0 H { s with heap:=h',toks:=tk }:=by
 have hk:∀b o,s.heap.get? b=some o->h'.get? b=some o:=λb o e=>by
  show 100
 have h:∀b:Addr,b∉([]:List Addr):=λb=>GH
 have ik:∀{c u},s.heap.IsCell c δI->h'.IsCell c 15e8:=λ⟨o,e1,e2⟩=>όr
 refine⟨⟨e0.mod,εD,rfl,rfl,B_ _,C.inj,λx hx=>?_,ύT,λ_=>hd,Around.frames_deeper πs,.inr μT,λb z=>absurd z (h b),e0.bs,e0.bsz,λb _ _=>h b,λb z=>absurd z (h b),ρ3,e0.frf⟩,
  rfl,νo,Un.kept hk,ΨO,λx c e=>?_,?_,λx c e=>?_,λp hp=>absurd (show p∈([]:List ηu) from hp) ϒ,e0.hok.kept hk,h0.1⟩
 ·rcases hx with hx | hx
  ·exact absurd rfl Θs
  ·exact C.has x hx
 ·rcases h0.2 i x v h1 h2 with ⟨hp,hv⟩ | ⟨hf,⟨c,hc⟩,hv⟩
  ·obtain⟨u,hu,rv⟩:=r.get hv
   have j:ps.Nodup:=by rw[<- S.pre];exact S.nd.sublist πS
   exact #[u,rv,.inl #[S.par x (Gi hp),xM j hp hu]]
  ·obtain⟨v',u,g,ru,z,_⟩:=C.val x c hc
   rw[hv] at g
   cases g;exact ΦQ
 ·obtain⟨v',u,g,ru,z,_⟩:=C.val x c e
  exact #[_,ik z]
 ·exact e0.hok.fresh Θ
 ·obtain⟨v',u,g,_,_,n⟩:=C.val x c e
  exact n
theorem uY {k:Nat}{name:Str}{params:θa}{body:Expr}{pm ctv:μ}{c':Addr}{Q:VK}{E:XK}{t:TE} (S:οV) (hr:ν2) (e0:δY) (r:ηc)
  (hf:Θf) (hc:όY) (hb:ΔF)
  (C:ϊD) (h0:ΩW)
  (ht:PE (Mc P w K mg base N Φ6 A Δ s H) body t) (hq:t σ0 H Q) :
  codeAny ϛ A υ6 ϊE s:=by
 have g:s.heap.NoLimit:=e0.mod.nolimit.keeps λb o e=>(e0.bs b o e).1
 have ho:s.heap.get? fa=some { cls:=.type "function",data:=.func Γj }:=(e0.hok fa _ hf).1
 have j:s.heap.CodeRec ιT q:=(e0.hok c' _ hc).1;refine TM πT ho rfl S.co S.gen rfl j ?_;rw[hb];refine Ga ?_;refine RY ωQ Ωj ύr εD
 have hk:∀b o,s.heap.get? b=some o->h'.get? b=some o:=λb o e=>by
  show 100
 refine ϋC
 have I:=Cb (q:=q) (fa:=fa) (cd:=.ref c') (tk:=s.toks+(ps.zip us).length) S hr.hd e0 r C h0 hn hs;refine IT ϋD Ω5 λe s' h=>False.elim h;exact ΦC
end
section
variable {X:Cx}{pins:List (Addr × Obj)}{σ:St}{H:Hp}{s:Shared}
theorem uZ {P:Addr}{pos:Pos}{q:Str}{mk:μl}{Q:VK} (h:Le P pos q mk σ H Q):Le P pos q mk σ H λv H2=>Q v H2/\∃fa c' doc pm ctv,v=.ref fa/\H2 fa=some ΨQ/\H2 c'=some 82e2:=by
 obtain⟨ps,hP,tr,h⟩:=h;refine⟨ps,hP,tr,?_⟩;rcases h with ⟨hn,h⟩ | ⟨c',hs,hc,h⟩
 ·refine .inl #[hn,λc' fa doc pm ctv n1 n2 ne=>#[h c' fa doc pm ctv n1 n2 ne,fa,c',doc,pm,ctv,rfl,ac,?_]]
  rw[ae ne.symm];exact ac
 ·refine .inr #[c',hs,hc,λfa doc pm ctv n=>#[h fa doc pm ctv n,fa,c',doc,pm,ctv,rfl,ac,?_]]
  rw[ae (aq hc n)];exact hc
inductive u0 (K:m_) (j:Nat) (tb:TE) (σ:St) (Q:VK) (x:V) (H2:Hp):Prop
 | mk:∀(l:Addr) (ns:List Nat) (ck:Nat->Int) (B:Nat) (vy:V),x=.ref l->c_ K H2 l (cO ns)->ns.Nodup->((∀n∈ns,n < B))->ns.length < 64->σ[j]?=some (some vy)->((∀(n:Nat) (H':Hp),n∈ns->a_ H2 H'->tb [some (.int ((n:Nat):Int)),some vy] H' λv H''=>∃t,v=.ref t/\H'' t=some ρJ/\a_ H' H''))->(∀(D:Addr) (H':Hp) (ms:η),H2 D=none->H' D=none->a_ H2 H'->ms.Perm ns->ms.Pairwise ιA->Q γ0 μC)->u0 K j tb σ Q x H2
def EA (K:m_) (P:Addr) (lpos:Pos) (q:Str) (mk:μl) (j:Nat) (te tb:TE):TE:=λσ H Q=>te σ H λx H1=>Le P lpos q mk σ H1 λ_ H2=>u0 K j tb σ Q x H2
theorem Cc {c P cy:Addr}{p y:Str}{j k:Nat}{e:Expr}{te tb:TE}{params:θa}{body:Expr}{scope:γ5}{lpos kp p0 pos:Pos} (T:πW) (hcl:closureFor γu X.env=pure [(y,cy)]) (hr:Fv (k+3) X.A) (hg:Gl X "sorted") (hm:X.mg "sorted" = none) (he:εh)
  (S:fo [p,y] [p] γu) (hyf:scope.names.lookup y=some .free) (hfr:∀q∈scope.names,q.2=.free->q.1=y) (hcy:X.env.cells.lookup y=some cy) (hky:X.env.kindOf y=some .cell) (hfn:X.fn y=true) (hj:X.N[j]?=some y)
  (hb:∀(pm cdv ctv u:μ),bindArgs (Kg νO ζJ ζe body γu [(y,cy)] pm cdv ctv) ξ0=pure [(p,u)])
  (hbody:∀(A:Ϟ) (outer:γ4) (s:ξ) (H:Hp) (fa c':Addr),Fv k (A.deeper ΔU)→PE (Mc Ϡ X.w X.K X.mg δ7 [p,y] ΔU A Δ s H) body tb)
  (h1:defaultsOf ζe X.env=([],[]):=by rfl) (hs:starEach [e] X.env=(τ,eval e ρ) :: starEach [] X.env:=by rfl) (hs2:backTo pos ζY=(τ,eval e ρ) :: backTo pos 69e4:=by rfl) (hs3:(backTo pos ζY).any (·.1)=false:=by rfl) :
  PE X (.Call (.Name "sorted" p0) [e] [ΞJ] pos) (EA X.K P lpos ζJ Δn j te tb):=by
 intro G s σ H Q I h;refine M4 (cG I hg hm Mz ?_ 0e3 ζ)
 refine callWith_kw ?_ hs2 hs3 rfl rfl
 refine C_ ((aa he ab hs) pos G s σ H (λvs H1=>match vs with
  | [x]=>Le P lpos ζJ Δn σ H1 (λ_ H2=>u0 X.K j tb σ Q x H2)
  | _=>False) I h) ?_
 rintro us s1 ⟨vs,H1,I1,rv,q1⟩
 match vs,rv,q1 with
 | [x],rv,q1 =>
  obtain⟨u,rfl,rx⟩:=ca rv;refine kws_cons (Rj h1 (C_ ό0 λf s2 ⟨vf,H2,I2,rf,q2,fa,c',_,pm,ctv,ad,a1,aT⟩=>?_));subst ad;obtain rfl:f=F_ fa:=rf;obtain⟨l,ns,ck,B,vy,rfl,J,nd,hB,U,hσ,Z,hq⟩:=q2;obtain rfl:u=F_ l:=rx;refine kws_nil ?_;obtain⟨a2,ri,pl,_⟩:=I2.list J;refine IT (AM (K:=X.K) (mg:=X.mg) (base:=δ7) (ck:=ck) (B:=B) (ns:=ns) (Q:=Q) hr I2.env0 ζ1 ri nd hB U (λs3 H3 n xv hn sm e0 un R=>?_) hq) ϊq λ_ _ z=>z;obtain⟨m,a3,hl⟩:=I2.loc;obtain⟨uy,aw,lk⟩:=hl j y vy hj hσ (.inr (.inl hky))
  have an:s2.heap.IsCell cy (some uy):=by
   rcases lk with ⟨z,_⟩ | ⟨_,c2,ec,z⟩
   ·rw[hky] at z;cases z
   ·rw[hcy] at ec;cases ec;exact z
  obtain⟨oc,ho,hd⟩:=id an
  have D:=I2.freeC y cy hcy
  have nf:cy∉GY X.stack:=λz=>by
   rcases FC.mp (I2.stkSub cy z) with e | a0
   ·exact I2.cne y cy hcy e
   ·obtain⟨_,o2,Y,_⟩:=I2.ok.funs.mem a0
    exact absurd (FO Y) (OL.mpr (I2.ok.cab y cy hfn hcy))
  have O:=un.keep cy oc ho D nf GH
  have E:=un.free cy oc ho D GH
  have L1:∀x c,[(y,cy)].lookup x=some c->x=y/\c=cy:=λx c e=>by
   show 40
   split at e
   ·rename_i hxy
    cases e;exact #[eq_of_beq hxy,rfl]
   ·cases e
  have g:[(y,cy)].lookup y=some cy:=by rw[Ii];simp
  have L3:[(y,vy)].lookup y=some vy:=by rw[Ii];simp
  refine uY (cv:=[(y,vy)]) (vs:=[.int ((n:Nat):Int)]) (us:=[xv]) (σ0:=[some χ5,some vy]) S (k:=k) hr.in1.in1 e0 (.cons R .nil) (sm _ _ a1) (sm _ _ aT) (hb _ _ _ _) #[λx z c e1 e2=>((L1 x c e1).1).trans ((L1 z c e2).1).symm,λx hx=>#[cy,by have e:x=y:=hfr (x,.free) (Kr hx) rfl;rw[e];exact g],λx c e=>?_] ΩE (hbody _ _ _ _ _ _ ((hr.in1.in1).deeper _)) (Z n H3 hn sm)
  ·obtain⟨rfl,rfl⟩:=L1 x c e
   exact #[vy,uy,L3,aw,#[oc,O,hd],E]
  ·match i,e1,e2 with
   | 0,e1,e2=>exact .inl υx
   | 1,e1,e2 =>
    cases e1
    cases e2;exact .inr #[hyf,#[cy,g],L3]
end
structure HQ (K:m_) (x qual:Str) (st:Stmt) (f:Addr) (fd:γp) (c t:Addr):Prop where
 ex:∃(oc:μ) (od:γG) (kV doc pm:μ) (an:γG) (ct:μ) (osl:εT),
  fd=IF x qual θA δq δg .none kV doc pm an γw ct/\K.lookup f=some υu/\KQ K γw qual=true
 kp:Jt K γd=true
 hd:LZ K c t=true
section
variable {P:Program}{w:World}{K:m_}{mg:Str->Option Value}{base:Heap}{x qual:Str}{st:Stmt}{f c t:Addr}{fd:FuncData}{N ps:List Str}{k:Nat}{sp:Sp}
theorem HQ.fun (F:HQ K x qual st f fd c t):KH K x qual st f fd:=by
 obtain⟨oc,od,kV,g,pm,an,ct,osl,e,lk,h⟩:=F.ex;exact #[#[oc,od,kV,g,pm,an,_,ct,osl,e,lk,h],F.kp]
theorem HQ.ok (F:ο1) (S:η4) (len:θT)
  (hbody:∀(A:Ϟ) (outer:γ4) (s:ξ) (H:Hp) (vs:δ) (Q:VK) (E:XK),Fv k τh->sp vs H Q E →
   ∃t,Ht (Hu HV P w K mg base N qual δg f γw A Δ s H E).nox δq t/\t { nx:=λ_ H'=>Q .non H',rt:=Q } 15e4 H):F7 P w K mg base HV (k+1) f fd ps sp:=by
 obtain⟨oc,od,kV,D,pm,an,ct,osl,rfl,lk,g⟩:=F.ex;refine za lk g S len λA outer s H vs Q E hr j=>?_;obtain⟨t,h,q⟩:=hbody A Δ s H vs Q E hr j;exact χX
theorem xQ {oc:μ}{od an:γG}{osl:εT}{kV doc pm ct:μ} (l:K.lookup f=some #[oc,od,.func Θm,osl])
  (hc:KQ K γw qual=true) (hk:η0) (hd:ψr):HQ K x qual st f Θm c t:=#[#[oc,od,kV,doc,pm,an,ct,osl,rfl,l,hc],hk,hd]
theorem HQ.tab {A:Ϟ}{outer:γ4}{s:ξ}{H:Hp}{E:XK}{sc:γ5} (F:ο1) (hb:base.BuiltinsAt mg t) (ne:mainGlobals≠t):K8 (Hu HV P w K mg base N qual sc f γw A Δ s H E).nox c t:=#[rfl,F.hd,hb,ne]
end
end L2
namespace L2
open PySem PySem.Spec PySem.W PyProof.Rows
theorem r9:∀{ts:Φ}{us:ψ},j_ Γi us->us=ts.map F_
 | [],_,.nil=>rfl
 | t :: ts,_,.cons h r=>by rw[Ie,← r9 r];cases h;rfl
theorem sd:∀(ts:Φ),j_ Γi (ts.map F_)
 | []=>.nil
 | t :: ts=>.cons rfl (sd ts)
section
variable {X:Cx}
end
variable {X:Cx}
section
variable {κ:Type} [DecidableEq κ]
def G3 (kvs:εy) (k:κ):Option V:=(kvs.find? λkv=>decide ρt).map (·.2)
def HP (kvs:εy) (k:κ) (v:V):List ρh :=
 if ξx=true then kvs.map (λkv=>if kv.1=k then (kv.1,v) else kv) else kvs++[(k,v)]
theorem hV {p:κ × V}{r:εy}{k:κ} (e:p.1=k):G3 (p :: r) k=some p.2:=by simp[G3,NZ,e]
theorem hZ {p:κ × V}{r:εy}{k:κ} (e:¬ p.1=k):G3 (p :: r) k=G3 r k:=by simp[G3,NZ,e]
theorem oQ (k:κ):∀kvs:List ρh,ξx=(G3 kvs k).isSome
 | []=>rfl
 | p :: r=>by
  rw[Ob]
  show 147
  ·simp only[hV e,decide_eq_true e,Q6,Option.isSome_some]
  ·rw[hZ e,decide_eq_false e,Qa];exact oQ k r
theorem nA (kvs:εy) (k:κ) (v:V):(HP kvs k v).length<=kvs.length+1:=by
 unfold HP
 split
 ·rw[o_];omega
 ·rw[Hr,Io,Tj];omega
theorem u3 {kvs:εy}{k:κ} (v:V) (h:G3 kvs k=none):HP kvs k v=kvs++[(k,v)]:=by
 unfold HP;rw[oQ,h];exact if_neg ζ
theorem G_.isSome_eq {o:ζ2}{u:ψz} (r:G_ o u):o.isSome=u.isSome:=by
 cases o with
 | none=>cases u with
  | none=>rfl
  | some _=>exact(show False from r).elim
 | some _=>cases u with
  | none=>exact(show False from r).elim
  | some _=>rfl
theorem KV.val {kvs:εy}{vs:μJ} (r:ζz) (k:κ):G_ ω9 (valueAt vs k):=by
 show 148
 induction r with
 | nil=>exact True.intro
 | @cons p q ps qs h t ih =>
  obtain⟨h1,h2⟩:=h
  show 147
  ·have e':q.1=k:=h1.symm.trans e
   have b:valueAt πC k=some q.2:=by simp[valueAt,NZ,e']
   show 304
  ·have e':¬ q.1=k:=λz=>e ΓR
   have b:valueAt πC k=valueAt qs k:=by simp[valueAt,NZ,e']
   show 305
theorem KV.any {kvs:εy}{vs:μJ} (r:ζz) (k:κ):ξx=vs.any λkv=>decide 82e5:=by
 show 148
 induction r with
 | nil=>rfl
 | cons h t ih=>rw[Ob,Ob,ih,h.1]
theorem KV.repl {kvs:εy}{vs:μJ} (r:ζz) (k:κ) {y:V}{u:μ} (ry:εl) :
  KV ΞT (vs.map λkv=>if kv.1=k then (kv.1,u) else kv):=by
 unfold KV at r ⊢
 induction r with
 | nil=>exact .nil
 | @cons p q ps qs h t ih =>
  rw[Ie,Ie];refine .cons ?_ ih;obtain⟨h1,h2⟩:=h
  by_cases e:p.1=k
  ·rw[if_pos e,if_pos ύW];exact #[h1,ry]
  ·rw[if_neg e,if_neg ϋj];exact #[h1,h2]
theorem KV.put {kvs:εy}{vs:μJ} (r:ζz) (k:κ) {y:V}{u:μ} (ry:εl):KV (HP kvs k y) (stored vs k u):=by
 unfold HP stored;rw[r.any k]
 by_cases e:(vs.any λkv=>decide ρt)=true
 ·show 242;exact r.repl k ry
 ·rw[if_neg e,if_neg e];exact Paired.snoc r #[rfl,ry]
theorem KV.length {kvs:εy}{vs:μJ} (r:ζz):kvs.length=vs.length:=Paired.length r
end
variable {P:Program}{w:World}
theorem pQ {k:Key}{u:μ} (r:k_ (kV k) u):(bC P w).is k u=true:=by
 cases k with
 | inl i=>obtain⟨t,e⟩:=(show ∃t,u=Kv i t from r);subst e;exact wA P w i t
 | inr x=>obtain⟨t,e⟩:=(show ∃t,u=OJ x t from r);subst e;exact wB P w x t
theorem sf {P:Ϧ}{w:Ϣ}:∀{ks:νm}{us:ψ},j_ (ks.map kV) us->ItemsAre ηC ks us
 | [],_,r=>by rw[RE] at r;cases r;exact .nil
 | k :: ks,_,r=>by
  rw[Ie] at r
  cases r with
  | cons h t=>exact .cons (pQ h) (sf t)
abbrev KT (H:Hp):List ϐg->List υc->Prop:=Paired λp q=>p.1=q.1/\H q.2.1=some όL/\k_ p.2 q.2.2
variable {H:Hp}{kvs:List (List Key × V)}{xs:List (List Key × Addr × Value)}
theorem KT.val (r:πh) (k:νm):G_ ω9 ((atKey xs k).map (·.2)):=by
 induction r with
 | nil=>exact True.intro
 | @cons p q ps qs h t ih =>
  obtain⟨h1,_,h2⟩:=h
  show 147
  ·have e':q.1=k:=h1.symm.trans e
   have b:atKey πC k=some q.2:=by simp[atKey,NZ,e']
   show 304
  ·have e':¬ q.1=k:=λz=>e ΓR
   have b:atKey πC k=atKey qs k:=by simp[atKey,NZ,e']
   show 305
theorem KT.repl (r:πh) (k:νm) {y:V}{u:μ} (ry:εl) :
  KT H ΞT (xs.map (putAt k u)):=by
 induction r with
 | nil=>exact .nil
 | @cons p q ps qs h t ih =>
  rw[Ie,Ie];refine .cons ?_ ih;obtain⟨h1,h2,h3⟩:=h;unfold putAt
  by_cases e:p.1=k
  ·rw[if_pos e,if_pos ύW];exact #[h1,h2,ry]
  ·rw[if_neg e,if_neg ϋj];exact #[h1,h2,h3]
theorem KT.put (r:πh) (k:νm) {b:Addr}{y:V}{u:μ} (hb:H b=some χD) (ry:εl) :
  KT H (HP kvs k y) (storedH xs k b u):=by
 have e:ξx=(atKey xs k).isSome:=by
  rw[oQ,(r.val k).isSome_eq,Rs]
 unfold HP storedH;rw[e]
 by_cases q:(atKey xs k).isSome=true
 ·rw[if_pos q,if_pos q];exact r.repl k ry
 ·rw[if_neg q,if_neg q];exact Paired.snoc r #[rfl,hb,ry]
variable {H':Hp}
theorem KT.keeps (r:πh) (ht:∀b ys,H b=some (.tup ys)->H' b=some (.tup ys)):KT H' kvs xs :=
 Paired.mapP r λ_ _ z=>ΩR
section
variable {P:Program}{w:World}{H:Hp}{h:Heap}{a:Addr}
theorem C4 {u:HO} (ok:δ4) (e:Rd H a u):p_ P w H h a u:=e.ok ok
theorem dR {kvs:δA} (ok:δ4) (e:Rd H a ηw):kvs.length<=sizeLine/\ηS=false/\∃vs,KV kvs vs/\h.DictOf ηC a vs :=
 show p_ P w H h a ηw from C4 ok e
theorem C5 {kvs:δA} (ok:δ4) (e:χu):kvs.length<=sizeLine/\ηS=false/\∃vs,KV kvs vs/\h.DictOf ηC a vs:=dR ok ωN
theorem lj {ks:νm} (ok:δ4) (e:H a=some ύs):(tupleKind ηC).is h ks a:=by
 obtain⟨_,g,r,o,h1,h2,n,h3⟩:=(show p_ P w H h a ύs from ok a _ e);exact #[o,εc,n,h1,h2,h3,by simpa using sf r]
theorem pR (ok:δ4) (e:Rd H a ιs):kvs.length<=sizeLine/\ηS=false ∧
  ∃xs,KT H kvs xs/\h.DictOfH υY a xs:=by
 obtain⟨z,y,xs,r,o,es,ep,h1,h2,h3,h4,h5⟩:=(show p_ P w H h a ιs from C4 ok e);refine #[z,y,xs,r,o,es,ep,h1,h2,h3,h4,λx hx=>?_,h5]
 have all:∀{l:List ϐg}{m:List υc},KT H l m->∀x∈m,(tupleKind ηC).is h x.1 x.2.1:=by
  intro l m q
  induction q with
  | nil=>intro x hx;exact nomatch hx
  | @cons p q ps qs hq t ih =>
   intro x hx;rcases FC.mp hx with e | hx
   ·subst e
    exact lj ok (by rw[<- hq.1];exact hq.2.1)
   ·exact ih x hx
 exact all r x hx
theorem Fg (ok:δ4) (e:H a=some ιs):kvs.length<=sizeLine/\ηS=false ∧
  ∃xs,KT H kvs xs/\h.DictOfH υY a xs:=pR ok ωN
end
def GV (H:Hp) (a:Addr) (y:V) (r:ζ2):Prop :=
 (∃kvs k,Rd H a ηw/\y=kV k/\r=G3 kvs k)\/∃kvs k b,Rd H a ιs/\y=.ref b/\H b=some χD/\r=G3 kvs k
def Jd (H:Hp) (a:Addr) (y v:V) (H':Hp):Prop :=
 (∃kvs k,H a=some ηw/\y=kV k/\kvs.length < sizeLine/\H'=upd H a ύt) ∨
 ∃kvs k b,H a=some ιs/\y=.ref b/\H b=some χD/\kvs.length < sizeLine/\H'=upd H a (.dT (HP kvs k v))
theorem GV.k {H:Hp}{a:Addr}{kvs:δA}{k:Key} (e:χu):GV H a (kV k) 111e5:=.inl #[kvs,k,.inl e,rfl,rfl]
theorem Jd.k {H:Hp}{a:Addr}{kvs:δA}{k:Key}{v:V} (e:χu) (hl:kvs.length < εt):Jd H a (kV k) v (upd H a ύt):=.inl #[kvs,k,e,rfl,hl,rfl]
variable {Q:Value->Shared->Prop}
section
variable {X:Cx}{pins:List (Addr × Obj)}{σ:St}{H:Hp}{s:Shared}{a:Addr}{y v:V}{u r:Value}{o:Option V}{A:Around}{E:Value->Shared->Prop}
theorem Inv.big (I:χ):sysModules < s.heap.objs.size:=by
 have h:mainGlobals < s.heap.objs.size:=(I.mod.glob.keeps I.bk).lt;exact P5 ζ h
theorem AO (hu:οB) (I:χ) (g:GV H a y δs) (ry:εl) (h:∀w' s',Inv X pins σ H s'->k_ v w'->Q w' s') :
  wpAny Ξ A (getItem εj u) Q E s:=by
 rcases g with ⟨G,k,e,ey,l⟩ | ⟨G,k,b,e,ey,eb,l⟩
 ·subst ey
  obtain⟨z,hd,vs,D,dd⟩:=dR γ9 e;obtain⟨w',hw,j⟩:=G_.some_of (v:=v) (o:=valueAt vs k) ϊF
  exact wpAny_getItem_of ρ9 ωW hw (h w' _ θ7 j)
 ·subst ey
  cases (show u=F_ b from ry);obtain⟨z,hd,xs,D,dd⟩:=pR γ9 e;obtain⟨w',hw,j⟩:=G_.some_of (v:=v) (o:=(atKey xs k).map (·.2)) ϊF
  obtain⟨p,hp,J⟩:=UB.mp hw;refine wpAny_getItem_heap ο2 οX dd hp ?_;rw[J];exact h w' _ θ7 j
theorem Pu (hu:οB) (I:χ) (g:ωa) (ry:εl) (h:∀s',Inv X pins σ H s'->Q (.bool o.isSome) s') :
  wpAny Ξ A (compareOp .In u εj) Q E s:=by
 rcases g with ⟨D,k,e,ey,l⟩ | ⟨D,k,b,e,ey,eb,l⟩
 ·subst ey
  obtain⟨z,hd,vs,j,dd⟩:=dR γ9 e;refine wpAny_in_of ρ9 hd ωW ?_;rw[<- (j.val k).isSome_eq,← l];exact h _ θ7
 ·subst ey
  cases (show u=F_ b from ry);obtain⟨z,hd,xs,j,dd⟩:=pR γ9 e;refine wpAny_in_heap ο2 οX hd dd ?_
  have q:=(j.val k).isSome_eq;rw[Rs] at q;rw[<- q,← l];exact h _ θ7
theorem DD (hu:οB) (I:χ) (g:ωa) (ry:εl) (h:∀s',Inv X pins σ H s'->Q (.bool (!o.isSome)) s') :
  wpAny Ξ A (compareOp .NotIn u εj) Q E s:=by
 rcases g with ⟨D,k,e,ey,l⟩ | ⟨D,k,b,e,ey,eb,l⟩
 ·subst ey
  obtain⟨z,hd,vs,j,dd⟩:=dR γ9 e;refine wpAny_notIn_of ρ9 hd ωW ?_;rw[<- (j.val k).isSome_eq,← l];exact h _ θ7
 ·subst ey
  cases (show u=F_ b from ry);obtain⟨z,hd,xs,j,dd⟩:=pR γ9 e;refine wpAny_notIn_heap ο2 οX hd dd ?_
  have q:=(j.val k).isSome_eq;rw[Rs] at q;rw[<- q,← l];exact h _ θ7
theorem xR {h':Heap}{t':Nat}{ob:HO} (I:χ) (mu:NE (H a)) (hs:LY a ύ h') (he:∃q,h'.get? a=some q) (new:p_ Ϡ X.w (upd H a ob) h' a ob) :
  Inv X pins σ (upd H a ob) { s with heap:=h',toks:=t' } :=
 I.write (x:=a) (e:=a) mu γL (λb q hb z=>(hs.2 b hb).trans z) he new
theorem EB {h':Heap}{kvs:δA}{vs:ι6} (z:όt) (hd:ηS=τ) (rel:ζz) (dd:h'.DictOf ηC a vs) :
  p_ P w H' h' a 33e2:=#[z,hd,vs,rel,dd]
theorem AQ {Q:Unit->Shared->Prop} (hu:οB) (I:χ) (g:Jd H a y v H') (ry:εl) (rv:k_ v r) (h:∀s',Inv X pins σ H' s'->Q () s') :
  wpAny Ξ A (setItem εj u r) Q E s:=by
 rcases g with ⟨D,k,e,ey,l,eH⟩ | ⟨D,k,b,e,ey,eb,l,eH⟩
 ·subst ey eH
  obtain⟨z,hd,vs,j,dd⟩:=C5 γ9 e
  have hz:vs.length<=sizeLine:=by rw[<- j.length];exact z
  have hl:(HP D k v).length<=sizeLine:=by have:=nA D k v;omega
  refine wpAny_setItem_pairs (hsz:=hz) ρ9 dd λh' G hs=>h _ ?_
  have he:∃q,h'.get? a=some q:=let ⟨q,_,_,hq,_⟩:=G;#[q,hq];exact xR I υ9 hs he (EB hl hd (j.put k rv) G)
 ·subst ey eH
  cases (show u=F_ b from ry);obtain⟨z,hd,xs,j,dd⟩:=Fg γ9 e
  have hz:xs.length<=sizeLine:=by rw[<- Paired.length j];exact z
  have hl:(HP D k v).length<=sizeLine:=by have:=nA D k v;omega
  refine wpAny_setItem_heap (hsz:=hz) ο2 οX dd λh' G hs=>h _ ?_;obtain⟨q,es,ep,hq,h2,h3,h4,_,h5⟩:=G;refine xR I υ9 hs #[q,hq] #[hl,hd,_,(j.put k eb rv).keeps λc ys ec=>?_,q,es,ep,hq,h2,h3,h4,h5]
  rw[ae (bo ec e (λz=>nomatch z))];exact ec
end
section
variable {X:Cx}{pins:List (Addr × Obj)}{σ:St}{H:Hp}{s:Shared}{a:Addr}{kvs:List (Key × V)}{k:Key}{u:Value}{A:Around}{E:Value->Shared->Prop}
end
def Nn (i:Expr):Prop:=∀ov iv,subscripted i τ ov iv=operate [ov,iv] (getItem ov iv)
theorem DE {prog:Ϧ}{A:Ϟ}{E:ϥ}{s:ξ}{env:Env}{value slice:Expr}{pos:Pos}{T id:ζ7}
  (hl:typeLookup πt "__getitem__" = pure όi) (hs:Nn ιH)
  (h:wpAny γe A (eval ζi env) (λo s₁=>wpAny γe A (eval ιH env) (λi s₂=>s₂.TypeIs o T/\wpAny γe A ϑn Q E s₂) E s₁) E s) :
  wpAny γe A (eval (.Subscript ζi ιH pos) env) Q E s:=by
 refine Subscript_ (IT h (λo s₁ h₁=>IT h₁ (λi s₂ h₂=>?_) λ_ _ x=>x) λ_ _ x=>x);obtain⟨hT,h₂⟩:=h₂;unfold subscriptTail;refine E_ ?_;rw[getitemInPython_of_ne hT.not_modules];refine E_ (wpAny_specialOf hT hl ?_)
 have fin:wpAny γe A (subscripted ιH τ o i) (λr s₃=>wpAny γe A (letTemporaryGo ζi o r >>= λ_=>pure r) Q E s₃) E s₂:=by
  rw[hs o i];exact wpAny_operating (IT h₂ (λr s₃ h₃=>E_ (wpAny_letTemporaryGo (Ga h₃))) λ_ _ x=>x)
 first
  | exact Ga (E_ fin)
  | exact E_ (Ga (E_ fin))
  | exact E_ fin
theorem wN {pins:ϗ}{σ:St}{s:ξ}{a:Addr}{y:V}{o:ζ2} (I:χ) (g:ωa):s.TypeIs εj "dict":=by
 rcases g with ⟨h,k,e,_,_⟩ | ⟨h,k,b,e,_,_,_⟩
 ·obtain⟨_,_,vs,_,dd⟩:=dR γ9 e
  exact dd.typeIs
 ·obtain⟨_,_,xs,_,dd⟩:=pR γ9 e
  exact dd.typeIs
inductive xS (Q:VK) (x y:V) (H2:Hp):Prop
 | mk:∀a v,x=.ref a->GV H2 a y (some v)->Q v H2->xS Q x y H2
def Fh (td ty:TE):TE:=λσ H Q=>td σ H λx H1=>ty σ H1 λy H2=>xS Q x y H2
inductive AR (Q:VK) (y x:V) (H2:Hp):Prop
 | mk:∀a o,x=.ref a->GV H2 a y o->Q (.bl o.isSome) H2->AR Q y x H2
def Pl (ty td:TE):TE:=λσ H Q=>ty σ H λy H1=>td σ H1 λx H2=>AR Q y x H2
inductive si (Q:VK) (y x:V) (H2:Hp):Prop
 | mk:∀a o,x=.ref a->GV H2 a y o->Q (.bl (!o.isSome)) H2->si Q y x H2
def DF (ty td:TE):TE:=λσ H Q=>ty σ H λy H1=>td σ H1 λx H2=>si Q y x H2
inductive xT (D:GW) (σ:St) (v x y:V) (H3:Hp):Prop
 | mk:∀a H4,x=.ref a->Jd H3 a y v H4->D.nx σ H4->xT D σ v x y H3
def Fi (td ty tv:TE):TS:=λD σ H=>tv σ H λv H1=>td σ H1 λx H2=>ty σ H2 λy H3=>xT D σ v x y H3
section
variable {X:Cx}{o i e value:Expr}{pos pos' tpos:Pos}{td ty tv:TE}
theorem jt (hu:οu) (ho:πD) (hi:πE) (hs:Nn i):PE X χ0 (Fh td ty):=by
 show 77;refine DE PySem.F.slot_dict_getitem.lookup hs (C_ (ho j s σ H _ I h) λu s1 ⟨x,H1,I1,rx,q1⟩=>C_ (hi j s1 σ H1 _ I1 q1) λiv s2 ⟨y,H2,I2,ry,a,v,ex,g,q2⟩=>?_);show 81;exact #[wN I2 g,AO hu I2 g ry λw' s3 I3 D=>#[v,H2,I3,D,q2]]
theorem AT (hu:οu) (hi:πE) (ho:πD):PC X .In i o (Pl ty td):=by
 show 77;refine C_ χf λiv s1 ⟨y,H1,I1,ry,q1⟩=>C_ υB λu s2 ⟨x,H2,I2,rx,a,ov,ex,g,q2⟩=>?_;show 81;exact Pu hu I2 g ry λs3 I3=>#[.bl ov.isSome,H2,I3,rfl,q2]
theorem sj (hu:οu) (hi:πE) (ho:πD):PC X .NotIn i o (DF ty td):=by
 show 77;refine C_ χf λiv s1 ⟨y,H1,I1,ry,q1⟩=>C_ υB λu s2 ⟨x,H2,I2,rx,a,ov,ex,g,q2⟩=>?_;show 81;exact DD hu I2 g ry λs3 I3=>#[.bl (!ov.isSome),H2,I3,rfl,q2]
theorem mw (hu:οu) (ho:πD) (hi:πE) (hv:ψo) (hs:swapsWith ζi (some (.Subscript o i pos')) θd X.env=pure τ) :
  PS X (.Assign [.Subscript o i pos'] ζi pos) (Fi td ty tv):=by
 intro j s σ H D I h;refine wpAny_Assign_Subscript (C_ (hv j s σ H _ I h) λr s1 ⟨v,H1,I1,rv,q1⟩=>C_ υB λu s2 ⟨x,H2,I2,rx,q2⟩=>C_ (hi j s2 σ H2 _ I2 q2) λiv s3 ⟨y,H3,I3,ry,a,H4,ex,g,q3⟩=>?_) hs;subst ex;obtain rfl:u=F_ a:=rx;exact AQ hu I3 g ry rv λs4 I4=>#[σ,H4,I4,q3]
end
theorem Cd (h:Heap) (hb:sysModules < πd):p_ P w H (h.push { cls:=.type "dict",data:=.dict #[] }) πd πZ :=
 #[GO _,beq_eq_false_iff_ne.mpr (F5 (F0 hb)),[],.nil,Heap.DictOf.new h]
def EC:TE:=λ_ H Q=>∀p,H p=none->Q γR (upd H p πZ)
section
variable {X:Cx}{pos:Pos}
theorem oR:PE X (.Dict [] [] pos) EC:=λpins s σ H Q I h =>
 wpAny_Dict_empty #[.ref Ω,_,I.laid (a:=Ω) (o:=.dK []) (t':=δS) όQ Θ (Cd ύ I.big),rfl,h _ ζW]
end
structure M1 (X:Cx) (o:Expr) (m:Str) (apos:Pos) (e:Expr) (cpos:Pos):Prop where
 base:attributeBase o m ρ οL=eval o ρ
 few:((backTo cpos ζY).all ψp && (backToKw cpos ρr).all χi
  && decide (([e]:List Expr).length+([]:List Keyword).length+τD < 30))=true
 line:ξJ=true
 trees:backTo cpos ζY=[(τ,eval e ρ)]
structure M2 (X:Cx) (o:Expr) (m:Str) (apos:Pos) (e f:Expr) (cpos:Pos):Prop where
 base:attributeBase o m ρ οL=eval o ρ
 few:((backTo cpos ϋE).all ψp && (backToKw cpos ρr).all χi
  && decide (([e,f]:List Expr).length+([]:List Keyword).length+τD < 30))=true
 line:ξJ=true
 trees:backTo cpos ϋE=[(τ,eval e ρ),(τ,eval f ρ)]
section
variable {X:Cx}{pins:List (Addr × Obj)}{σ:St}{H:Hp}{s:Shared}{a:Addr}{y d:V}{u r:Value}{o:Option V}{A:Around}{E:Value->Shared->Prop}
end
section
variable {X:Cx}{o e f:Expr}{apos cpos:Pos}{td ty tx:TE}
end
section
variable {X:Cx}{pins:List (Addr × Obj)}{σ:St}{H:Hp}{s:Shared}{a:Addr}{kvs:List (Key × V)}{A:Around}{E:Value->Shared->Prop}
end
section
variable {X:Cx}{pins:List (Addr × Obj)}{σ:St}{H:Hp}{s:Shared}{a:Addr}{y:V}{u:Value}{A:Around}{E:Value->Shared->Prop}
end
section
variable {X:Cx}
end
section
variable {κ:Type} [DecidableEq κ]
end
section
variable {X:Cx}{pins:List (Addr × Obj)}{σ:St}{H:Hp}{s:Shared}
theorem Inv.freeze {d:Addr}{o:Obj}{kvs:δA} (I:χ) (hd:H d=some ηw) (ho:s.heap.get? d=some o):Inv X pins σ ΩX s:=by
 show 306
 refine #[I.ok,I.os,εk,Δk,εo,νx,?_,λy c e=>?_,λp hp=>?_,λa u e=>?_,θl]
 ·have z:=I.base.free b o e n h
  show 307
 ·have z:=I.base.tups b xs e
  show 149
 ·have z:=I.base.frzs b o u e
  show 149
 ·obtain⟨m,z⟩:=I.base.tbls b ps e
  exact ΘD
 ·show 308
 ·show 309
 ·obtain⟨q1,q2,q3⟩:=I.pin p hp
  exact Φx
 ·have st:∀{a u},p_ Ϡ X.w H ύ a u->p_ Ϡ X.w ΩX ύ a u:=λx =>
   x.stay χQ (λb q=>by rw[ae (λw=>by rw[w,hd] at q;cases q)];exact q) λb xs q=>by rw[ae (λw=>by rw[w,hd] at q;cases q)];exact q
  by_cases ha:a=d
  ·subst ha
   rw[ac] at e
   cases e;exact #[ho,st (I.hok a _ hd)]
  ·rw[ae ha] at e
   exact st (I.hok a u e)
def O3 (d:Addr) (o:Obj) (kvs:δA):It where
 go i H:=H d=some θG/\i < kvs.length
 yld i H x H':=H'=H/\∃k v,kvs[i]?=some (k,v)/\x=kV k
 stop i H:=H d=some θG/\kvs.length<=i
theorem KV.getk {kvs:δA}{vs:ι6} (h:ζz):∀{i:Nat}{k:Key}{v:V},kvs[i]?=some (k,v)->∃u,vs[i]?=some (k,u):=by
 induction h with
 | nil=>intro i k v e;simp at e
 | cons r rs ih =>
  intro i k v e
  cases i with
  | zero =>
   rename_i p q _ _
   show 310
   show 311
   show 16;obtain⟨r1,_⟩:=r;exact #[u',by rw[show k=k' from r1];rfl]
  | succ i=>exact ih ηQ
theorem xU {k:Key}{key:μ} (h:(bC P w).is k key=true):k_ (kV k) key:=by
 rw[yW] at h;rcases bG h with ⟨i,t,rfl,rfl⟩ | ⟨x,t,rfl,rfl⟩
 ·exact ιh
 ·exact ιh
theorem AU {K:m_}{tg:Expr}{kvs:δA}{o:Obj}{es:ψ1}{ep:Nat} (d it:Addr) (ho:ϋG):IK P w K tg (O3 d o kvs) [it] it (λi h=>h.IsKeyIter it d i ωb ep) where
 mem:=by simp
 obj:=λi h st b hb=>by
  show 32
  show 79
 keep:=λi h h' ⟨o,e,c,d⟩ k=>#[o,k it ϒ o e,c,d]
 item:=by
  show 312
  show 313
  show 314
  cases g3
  have hl:=νl;obtain⟨u,hu⟩:=g.getk ηg;rw[hl] at st;show 80
  refine wpAny_pyNext_dict_item st ξM hu λO h' hk D sb=>?_
  show 208;obtain⟨oi,e,c,dd⟩:=id D;rw[<- hl] at D;exact⟨O,rfl,mo (s:={ s with heap:=h' }) e c dd ζ ⟨_,H,I1,xU hk,⟨rfl,_,_,s_ hi,rfl⟩,D,λb hb=>(hf b hb).1⟩⟩
 done:=by
  show 312
  show 313
  show 314
  cases g3
  show 315
  exact wpAny_pyNext_dict_end δ3 st ξM ϐh λh' eb=>θQ
 self:=λ_ _ _ _ _ st h=>wpAny_pyIter_keyiter st h
inductive xV (R:δZ) (x:V) (H1:Hp):Prop
 | mk:∀a kvs,x=.ref a->H1 a=some (.dK kvs)->(∀o,R (O3 a o kvs) (upd H1 a (.frz o (.dK kvs))))->xV R x H1
def Fj (td:TE):TI:=λσ H R=>td σ H λx H1=>xV R x H1
theorem DG {tg l:Expr}{tl:TE} (hl:ν8):PI X tg l (Fj tl):=by
 show 61;refine C_ οj λv s1 ⟨x,H1,I1,r1,q1⟩=>?_;obtain⟨a,E,e,ea,q⟩:=q1;subst e
 cases r1;obtain⟨z,j,vs,D,o,es,ep,g1,g2,g3,g4,g5,g6⟩:=dR I1.hok (.inl ea)
 show 316
 have hl:=D.length;refine wpAny_pyIter_dict j υf ?_;refine #[δ2,[δ2],_,_,_,rfl,I2.kept (t':=ζ3) λb o e=>FZ _ e,AU a _ g3,#[_,G4 _ rfl,rfl,by rw[hl];rfl],λb hb=>?_,q o]
 show 60
 show 317
end
structure NR (K:m_) (Pk:Addr) (m:Str) (f:Addr):Prop where
 sp:RV K ωw "__getattribute__" = some (some (.builtin "type.__getattribute__"))
 rd:PySem.W.readsIn K Pk ϐV=true
 fc:PySem.W.findCls K ωw ϐV m=some (.val γd)
 kp:Jt K γd=true
structure JN (K:m_) (C:Addr):Prop where
 ha:Kh K γY "__class__" = some (some μt)
 hn:RV K μt "__get__" = some Φf
 htk:TU K μt=some true
 hm:S_ K C ώo=some true
theorem JN.of {K:m_}{C a dx:Addr}{fs:οJ} (t:JN K C) (c:HN K C) (e:μE):HF K H εj 11e2:=.ins e c t.ha t.hn t.htk t.hm
section
variable {X:Cx}{CX:KE}{k:Nat}{f Pk:Addr}{fd:FuncData}{ps:List Str}{sp:Sp}{dvs:List V}{ds:List Value}{E:XK}{c m:Str}{p pos apos:Pos}{e:Expr}{es:List Expr}{t:TA}
theorem qO {pl:ιu} (hg:Gl X c) (hm:X.mg c=some ωw) (hu:NR X.K Pk m f) (F:ηI) (hr:θe) (hb:ηT) (hd:θ8) (hx:θ9) (ha:η2)
  (hdb:(c == ("__debug__" : Str))=false:=by decide) (hst:starEach δm X.env=(τ,eval e ρ) :: starEach es X.env:=by rfl) (hpl:(backTo pos εU).any (·.1)=false:=by rfl)
  (ht:eval ΘT X.env=(do
   let ov ← eval (.Name c p) X.env
   standAt πg
   let (f,first) ← holding [ov] (getMethod ov m pl)
   callWith pos f first 90e1 ξq):=by rfl) :
  PE X ΘT 191e6:=by
 intro g s σ H Q I h;refine Qo (pl:=pl) χh ht;refine PySem.W.method_cls ηm hu.sp (PySem.W.cls_value ηm hu.rd hu.fc rfl ?_)
 have I0:=I.tok (s.toks+1);refine P1 (h₀:=δ7) π6 hu.kp (C_ (ha pos g _ σ H _ I0 h) λus s1 ⟨vs,H1,I1,r,q⟩=>#[I1.kIn,?_]) hst hpl;exact pq F hr hb hd hx I1 r q
inductive nB (K:m_) (xs:δ) (H:Hp) (Q:VK):Prop
 | mk:∀x Cp t b,xs=[x,.ref Cp]->HF K H x t->Mu K t (.ref Cp)=some b->Q (.bl b) H->nB K xs H Q
theorem iL:bI X ξZ (nB X.K):=by
 show 246
 cases (show w'=F_ c from g);show 247
theorem PE.or {x:Expr}{t1 t2:TE} (h1:PE X x t1) (h2:PE X x t2):PE X x (λσ H Q=>t1 σ H Q\/t2 σ H Q):=by
 show 15;rcases h with h | h
 ·exact h1 g s σ H Q I h
 ·exact h2 g s σ H Q I h
end
end L2
namespace GF
end GF
namespace L2
open PySem PySem.Spec PyProof.Rows
variable {A:Around}{E:Value->Shared->Prop}{s:Shared}
theorem u4 {M:Model}{v:μ}{Q:Unit→Shared→Prop} (q:Q () s):wpAny M A (checkBuiltinCall "sorted" { pos:=[v] }) Q E s:=by
 have e1:splitId "sorted" = none:=by decide +kernel
 have h:=args_sorted1 v;unfold argsOk at h;unfold checkBuiltinCall;rw[e1]
 have fin:wpAny M A (match Manifest.signature? "sorted" with
   | some sig=>Bind.checkArgs "sorted" sig { pos:=[v] }
   | x=>pure ()) Q E s:=by
  cases hs:Manifest.signature? "sorted" with
  | none=>exact Ga q
  | some sig =>
   rw[hs] at h
   have h:Bind.checkArgs "sorted" sig { pos:=[v] } = pure ():=h
   show wpAny M A (Bind.checkArgs "sorted" sig { pos:=[v] }) Q E s
   rw[h];exact Ga q
 cases builtinKind "sorted" with
 | none=>exact fin
 | some k=>exact fin
theorem AV {prog:Ϧ}{w:Ϣ}{a:Addr}{vs:ψ}{ns:γq}{n:Nat}{Q:Value→Shared→Prop} (h:s.heap.get? a=some (seqObj "list" vs.toArray n)) (hi:ϑw) (hl:vs.length < 64)
  (q:∀(out:γF) (ns':γq),IntsAre out.toList ns'→ns'.Perm ns→OP (λx y=>x≤y) ns'→Q .none { s with heap:=sortedHeap s.heap a vs out }):wpAny γe A (call (.builtin "list.sort") [.ref a]) Q E s:=by
 refine Nc (UN Uq.plain PySem.F.entry_list_sort ?_);refine Uq.check _ _ _ _ _ _ _ _ ϑB (PySem.F.args_list_sort_1 _) ?_;exact list_sort_tree h hi hl λout ns' h1 h2 h3=>q out ns' h1 h2 h3
theorem AW {vs:ι6}{ns:γq}{acc:ψ} (hk:vs.map (·.1)=ns.map Sum.inl) (hl:acc.length=ωv) (h:∀(j:Nat) v,acc[j]?=some v->∃k x,vs[j]?=some (k,x)/\gG k v=true):IntsAre acc ns:=by
 induction acc generalizing vs ns with
 | nil =>
  cases vs with
  | nil =>
   cases ns with
   | nil=>exact .nil
   | cons n ns=>cases hk
  | cons p vs=>cases hl
 | cons v acc ih =>
  cases vs with
  | nil=>cases hl
  | cons p vs =>
   cases ns with
   | nil=>cases hk
   | cons n ns =>
    obtain⟨k,x,e,hv⟩:=h 0 v rfl
    have e:p=(k,x):=FK e;subst e
    have g:=(Qr hk).1
    have g:k=Sum.inl n:=g;subst g
    have hv:P0 n v=true:=hv
    obtain⟨t,rfl⟩:∃t,v=Kv n t:=by
     unfold P0 at hv
     split at hv
     ·rename_i i t hq
      exact #[t,by rw[eq_of_beq hv]]
     ·cases hv
    exact .cons n t (ih (Qr hk).2 (Uw hl) λj u hj=>h (j+1) u hj)
theorem DH {kvs:δA}{vs:ι6} (r:ζz):vs.map (·.1)=kvs.map (·.1):=by
 show 148
 induction r with
 | nil=>rfl
 | cons h _ ih=>rw[Ie,Ie,ih,h.1]
theorem u5 {prog:Ϧ}{w:Ϣ}{d:Addr}{kvs:ι6}{ep:Nat}{Q:υw} (hh:η6) (hsys:(d == sysModules)=τ) (hd:Heap.DictAt (bC prog w) ύ d kvs ep) (hn:όt)
  (q:∀(h':Heap) (tk:Nat) (acc:γF),(∀b o,s.heap.get? b=some o->h'.get? b=some o)->s.heap.objs.size < h'.objs.size->ItemsOf (λi v=>∃k x,kvs[i]?=some (k,x)/\gG k v=true) acc kvs.length->Q acc.toList { s with heap:=h',toks:=tk }) :
  wpAny γe A (collect (.ref d)) Q E s:=by
 unfold collect;refine E_ (wpAny_runValue (OO PySem.F.entry_proto_collect ?_));unfold Builtin.«proto.collect»;refine E_ (MU ?_ (by show 0<=εt;decide))
 refine Ga #[Code.quiet_builtin { pos:=[.ref Ω,.ref d] } γf,?_]
 refine OO PySem.F.entry_list_iadd ?_;unfold Builtin.«list.__iadd__»;refine E_ ?_;unfold slotArgs;refine Ga ?_
 have g:d < s.heap.objs.size:=by
  obtain⟨o,es,g1,_⟩:=id hd;exact FO g1
 rw[Around.under_plainId γf]
 have h:(s.heap.push { cls:=.type "list",data:=.seq #[] }).get? s.heap.objs.size=some { cls:=.type "list",data:=.seq #[] }:=G4 _ rfl
 obtain⟨o,es,g1,g2,g3,g4,g5,g6⟩:=id hd
 refine PySem.W.kdl_extend (A:=A) (R:=λr s'=>match r with
   | Except.ok (Flow.ret v)=>wpAny (model prog w) A (match v with
      | F_ a=>do
       let __do_lift ← load a
       match __do_lift.data with
        | Data.seq xs epoch=>pure xs.toList
        | x=>unsupported "internal:collect"
      | x=>unsupported "internal:collect") Q E s'
   | Except.ok a=>False
   | Except.error e=>E e s') (s:={ s with heap:=s.heap.push { cls:=.type "list",data:=.seq #[] } }) (PySem.W.kdl_dict (knd:=bC prog w) (kvs:=kvs) (ep:=ep) hsys) hh ⟨o,es,FZ _ g1,g2,g3,g4,g5,g6⟩ s.heap.objs.size (Of g) (Of g) ξX 0 h (λh' tk acc c kp hS it=>?_) hn
 dsimp only;refine E_ (wpAny_load hS ?_);dsimp only;refine Ga (q h' tk acc (λb o e=>kp b o η8 μ7) (FO hS) it)
section
variable {X:Cx}
inductive ju (xs:δ) (H:Hp) (Q:VK):Prop
 | mk:∀(p:Addr) (kvs:List (Key × V)) (ns:List Int),xs=[.ref p]->H p=some (.dK kvs)->kvs.map (·.1)=ns.map Sum.inl->ns.length < 64->(∀l ns',H l=none->ns'.Perm ns->OP (λx y=>x<=y) ns'->Q ηd ΨZ)->ju xs H Q
theorem de (hc:γi):bI X οs (ju):=by
 intro Y s σ H xs us Q I r h;obtain⟨p,U,ns,rfl,hp,hk,hl,q⟩:=h;show 39
 show 10;obtain⟨z,J,vs,D,o,es,ep,g1,g2,g3,g4,g5,g6⟩:=dR γ9 (.inl hp)
 have Z:U.length=ns.length:=by
  have:=congrArg Mx hk;show 318
 have ad:=D.length
 have O:vs.map (·.1)=ns.map Sum.inl:=by
  rw[<- hk];exact DH D
 refine Nc (UN γf ψD (u4 ?_))
 unfold Builtin.sorted;refine E_ ?_
 show wpAny _ νJ (pure ()) _ _ s
 refine Ga ?_;refine E_ (u5 (show X.A.in1.handled=none from I.ok.hd hc) J υf γ λh' tk g kp E it=>?_)
 have T:IntsAre ωR ns:=AW O (by rw[MG];exact it.1) λj v hj=>it.2 j v χo
 have G:g.toList.length < 64:=by rw[MG,it.1];omega
 refine E_ (MU ?_ (FG (K_ G) ζ))
 have ha:(h'.push { cls:=.type "list",data:=.seq g.toList.toArray }).get? h'.objs.size=some (seqObj "list" g.toList.toArray 0):=G4 _ rfl
 refine E_ (JK (AV (A:=νJ) (a:=ε6) (n:=0) ha T G λout R h1 h2 h3=>?_));refine Ga ?_;obtain⟨e,he⟩:=sortedHeap_at (vs:=ωR) (out:=out) ha
 have hv:=oK h1;refine #[.ref ε6,_,I.laid (t':=tk) ώz (K_ E) (show p_ Ϡ X.w _ _ _ (.lst (R.map δp)) from ϊb),rfl,q _ _ (I.hok.fresh (K_ E)) h2 h3]
 ·have z':=kp b o' z
  have hb:=FO z';rw[sortedHeap_old (F0 hb) (by rw[Qz];exact IL hb)]
  exact FZ _ z'
 ·rw[o_,h2.length_eq]
  exact FG (K_ hl) ζ
 ·exact he
end
structure GT (K:m_) (mg:Ϝ) (x:Str) (st:Stmt) (f:Addr) (ps:ώ) (c t:Addr):Prop where
 m:mg x=some γd
 F:HQ K x x st f δb c t
 b:Gj K δb ps []
 k:Jt K γd=true
 nl:K.lookup t=none
structure MT (K:m_) (C:Addr) (x q:Str) (st:Stmt) (f:Addr) (ps:ώ) (c t:Addr):Prop where
 me:Hw K C x f
 F:HQ K x q st f δb c t
 b:Gj K δb ps []
 k:Jt K γd=true
 nl:K.lookup t=none
section
variable {K:m_}{h:Heap}{mg:Str->Option Value}{x q:Str}{st:Stmt}{f C c t:Addr}{ps:List Str}{oc:Value}{od an cod:Option Addr}{osl csl:Array (Option Value)}{cvs:Array Value}{kV doc pm ct:Value}
theorem NB (X:K.In h) (G:όR) (a:ΦO) (l:K.lookup f=some #[oc,od,.func (IF x x θA δq δg .none kV doc pm an γw ct),osl]) (hc:KQ K γw x=true) (_:Ξa) (_:ϋH) (hd:ψr) (nl:ϐi) (k:η0) (hb:Lu x x st ps):GT K mg x st f ps c t:=by
 have F:HQ K x x st f δb c t:=by rw[py l];exact xQ l hc k hd
 exact #[Sb X G a,F,F.fun.binds hb,k,nl]
theorem NU (a:τN) (i:οx) (l:K.lookup f=some #[oc,od,.func (IF x q θA δq δg .none kV doc pm an γw ct),osl]) (hc:KQ K γw q=true) (_:Ξa) (_:ϋH) (hd:ψr) (nl:ϐi) (k:η0) (hb:Lu x q st ps):MT K C x q st f ps c t:=by
 have F:HQ K x q st f δb c t:=by rw[py l];exact xQ l hc k hd
 exact #[ψN,F,F.fun.binds hb,k,nl]
end
section
variable {P:Program}{w:World}{K:m_}{mg:Str->Option Value}{base:Heap}
theorem HQ.okA {x qual:Str}{st:Stmt}{f c t:Addr}{fd:γp}{N ps:ώ}{k:Nat}{sp:Sp} (F:ο1) (S:η4)
  (hbody:∀(A:Ϟ) (outer:γ4) (s:ξ) (H:Hp) (vs:δ) (Q:VK) (E:XK),Fv k τh->sp vs H Q E →
   ∃t,Ht (Hu HV P w K mg base N qual δg f γw A Δ s H E).nox δq t/\t { nx:=λ_ H'=>Q .non H',rt:=Q } 15e4 H)
  (len:∀vs H Q E,sp vs H Q E->vs.length=ps.length:=by intro vs H Q E h;first | (cases h;subst_vars;rfl) | ((repeat (obtain⟨_,h⟩:=h));subst_vars;rfl)):F7 P w K mg base HV (k+1) f fd ps sp:=F.ok S len hbody
end
end L2
namespace L2
open PySem PySem.Spec PySem.W PyProof.Rows
variable {i:Nat}
section
variable {P:Program}{w:World}{K:m_}{mg:Str->Option Value}{base:Heap}{A:Around}{outer:List Env}{s:Shared}{H:Hp}{l I S:Addr}{xs:List V}{f:Value}{kf:Nat->Int}
def NS (outer:γ4) (P:Ϧ) (w:Ϣ) (H:Hp) (s:ξ) (k:Int):Value->Shared->Prop:=λu s'=>∃(H':Hp) (t:Tok),u=.int k t/\s'.os=s.os/\AllBare s'.gens/\Un δl [] H H' ύ s'.heap/\Gc P w H' s'.heap/\a_ H H'
structure Gs (P:Ϧ) (w:Ϣ) (outer:γ4) (s:ξ) (H:Hp) (l I S:Addr) (j:Nat) (best:γF) (s':ξ) (H':Hp):Prop where
 os:s'.os=s.os
 bare:AllBare s'.gens
 un:Un δl [] H H' ύ εO
 hok:Gc P w H' εO
 same:a_ H H'
 hS:∃c,s'.heap.get? S=some (seqObj "list" best c)
 nS:H' S=none
 hI:s'.heap.IsListIter I l j
 nI:H' I=none
def GE (kf:γM) (n i:Nat):Prop:=∀j,j < n->kf i<=kf j/\(j < i->kf i < kf j)
theorem GE.more {n:Nat} (h:GE kf n i) (hi:i < n):GE kf (n+1) (if kf n < kf i then n else i):=λj hj=>by
 by_cases z:kf n < kf i
 ·rw[if_pos z]
  by_cases e:j=n
  ·subst e;exact #[N3 _,λy=>absurd y δ9]
  ·have:=h j γ
   exact #[by omega,λ_=>by omega]
 ·rw[if_neg z]
  by_cases e:j=n
  ·subst e;exact #[by omega,λy=>by omega]
  ·exact h j γ
variable {j:Nat}{best:Array Value}{s':Shared}{H':Hp}
structure Kj (P:Ϧ) (w:Ϣ) (K:m_) (mg:Ϝ) (base:Heap) (A:Ϟ) (outer:γ4) (s:ξ) (H:Hp) (l I S:Addr) (xs:δ) (f:μ) (kf:γM):Prop where
 hh:A.handled=none
 e0:F3 P w K mg base A Δ s H
 hl:H l=some γP
 nI:s.heap.objs.size<=I
 nS:s.heap.objs.size<=S
 IS:I≠S
 hf:∀(s':ξ) (H':Hp) (i:Nat) (x:V) (v:μ),xs[i]?=some x->a_ H H'->F3 P w K mg base γy Δ s' H'->Un δl [] H H' ύ s'.heap->k_ x v->wpAny ϛ γy ψE ϊc εf s'
theorem Kj.lI (g:ξl):l≠I:=λe=>by
 have:=g.e0.hok.fresh g.nI;rw[<- e,g.hl] at this;show 8
theorem Gs.moved (m:μn) (nI:s.heap.objs.size<=I) (IS:I≠S) {h':Heap}{tk j':Nat} (k:∀b o,b∉[I]->s'.heap.get? b=some o->h'.get? b=some o) (hI:h'.IsListIter I l j'):Gs P w Δ s H l I S j' best { s' with heap:=h',toks:=tk } H':=by
 have k':∀b o,b≠I->s'.heap.get? b=some o->h'.get? b=some o:=λb o hb e=>k b o ΓL e
 show 150;exact #[m.os,m.bare,m.un.turn nI k',m.hok.turn m.nI k',m.same,#[c,k' S _ IS.symm hS],m.nS,hI,m.nI]
theorem Gs.put (m:μn) (nS:όZ) (IS:I≠S) (bs:γF):Gs P w Δ s H l I S j bs { s' with heap:=s'.heap.update S υG } H':=by
 show 150
 have s1:=MF εO S υG
 have k':∀b o,b≠S->s'.heap.get? b=some o->(s'.heap.update S υG).get? b=some o:=λb o hb e=>(s1.2 b hb).trans e;obtain⟨o,h1,h2⟩:=m.hI;exact #[m.os,m.bare,m.un.turn nS k',m.hok.turn m.nS k',m.same,#[_,get?_update_seq hS λ_=>bs],m.nS,#[o,k' I _ IS h1,h2],m.nI]
theorem oS (g:ξl) {s':ξ}{H':Hp}{j:Nat}{best:γF}{E:ϥ}{Q:Option Value->Shared->Prop} (m:μn) (hj:j<=γm)
  (no:j=xs.length->∀(h':Heap) (tk:Nat),(∀b o,b∉[I]->s'.heap.get? b=some o->h'.get? b=some o)->Q none { s' with heap:=h',toks:=tk })
  (yes:∀x v s'',xs[j]?=some x->k_ x v->Gs P w Δ s H l I S (j+1) best s'' H'->Q δs s''):wpAny ϛ γy (pyNext (.ref I)) Q E s':=by
 obtain⟨_,h,n,rv,J⟩:=m.hok l _ (m.same _ _ g.hl)
 have G:=rv.length
 have W:=OK (prog:=P) (w:=w) (A:=γy) g.hh I l g.lI h.toArray
 have D:s'.heap.IsList l h.toArray:=#[_,J,rfl,n,rfl]
 by_cases e:j < xs.length
 ·refine W.item j s' _ _ ύc #[m.hI,D] λv h' tk hP O hk=>?_
  have hv:h[j]?=some v:=by simpa using hP
  obtain⟨u,e1,e2⟩:=rv.get (s_ e);rw[hv] at e1
  cases e1;exact yes _ v _ (s_ e) e2 (m.moved g.nI g.IS hk O.1)
 ·have e':j=xs.length:=by omega
  refine W.done s' _ _ #[?_,D] λh' tk hk=>no e' h' tk hk;rw[Gk,← G,← e'];exact m.hI
theorem Gs.size (m:μn) (nS:όZ):s.heap.objs.size<=s'.heap.objs.size:=by
 show 150;exact FG nS (K_ (FO hS))
theorem xW (g:ξl) {s':ξ}{H':Hp}{j i:Nat}{best:γF}{x:V}{v:μ}{Q:ϥ}{E:ϥ} (m:μn) (hx:ϑC) (rx:k_ x v)
  (q:∀t s'' H'',Gs P w Δ s H l I S j best s'' H''->Q ϐj s''):wpAny ϛ γy ψE Q E s':=by
 refine IT (g.hf s' H' i x v hx m.same (g.e0.after rfl m.un m.hok m.bare (m.size g.nS)) m.un rx) (λu s'' h=>?_) λ_ _ h=>h.elim;obtain⟨H'',t,rfl,os,bare,un,hok,sm⟩:=h;obtain⟨c,hS⟩:=m.hS;obtain⟨o,h1,h2⟩:=m.hI
 have nf:∀b,s.heap.objs.size<=b->b∉GY outer:=λb hb z=>absurd (g.e0.lt z) (OL.mpr hb)
 have D:∀b:Addr,b∉([]:List Addr):=λb=>GH;exact q t s'' H'' #[os.trans m.os,bare,m.un.trans un,hok,m.same.trans sm,#[c,un.keep S _ hS m.nS (nf S g.nS) (D S)],un.free S _ hS m.nS (D S),#[o,un.keep I _ h1 m.nI (nf I g.nI) (D I),h2],un.free I _ h1 m.nI (D I)]
end
section
variable {P:Program}{w:World}{K:m_}{mg:Str->Option Value}{base:Heap}{A:Around}{outer:List Env}{s:Shared}{H:Hp}{l I S:Addr}{xs:List V}{f:Value}{kf:Nat->Int}{R:Result->Shared->Prop}
theorem Ce (g:ξl)
  (hR:∀(i:Nat) (x:V) (v:μ) (s':ξ) (H':Hp),xs[i]?=some x->k_ x v->GE kf γm i->s'.os=s.os->AllBare s'.gens->Un δl [] H H' ύ s'.heap->Gc P w H' s'.heap->a_ H H'->R (.ok (.ret v)) s') (hfn:Ψg) :
  ∀(r j i:Nat) (s':ξ) (H':Hp) (x:V) (v:μ) (t:Tok),xs.length - j=r->j<=xs.length->i < j->Gs P w Δ s H l I S j [v,.int νR t].toArray s' H'->xs[i]?=some x->k_ x v->GE kf j i →
   codeAny ϛ A (.builtin "min.loop" #[[.ref I,f,.ref S],[]]) R s':=by
 have nm:(toString "min" ++ toString ".loop" : String) = "min.loop":=by decide
 intro r
 induction r with
 | zero =>
  intro j i s' H' x v t hr hj E m hx rx hb;obtain⟨c,hS⟩:=m.hS;refine OO Q7 ?_;rw[Around.under_plainId MV _]
  show wpAny ϛ γy υl _ _ s'
  refine E_ ϐW
  show wpAny ϛ γy Ψh _ _ s'
  refine E_ (NY (oS g m hj (λe h' tk hk=>?_) λy u J hy=>?_))
  ·have k':∀b o,b≠I->s'.heap.get? b=some o->h'.get? b=some o:=λb o hb e=>hk b o ΓL e
   have s1:=MF h' S δv
   have k2:∀b o,b≠S->h'.get? b=some o->(h'.update S δv).get? b=some o:=λb o hb e=>(s1.2 b hb).trans e
   show wpAny ϛ γy (updateSeq S (λ_=>#[]) >>= _) _ _ _
   refine E_ (Rv (k' S _ g.IS.symm hS) rfl ύY);exact hR i x v _ H' hx rx (e ▸ hb) m.os m.bare ((m.un.turn g.nI k').turn g.nS k2) ((m.hok.turn m.nI k').turn m.nS k2) m.same
  ·have:=(Gr.mp hy).1
   omega
 | succ r ih =>
  intro j i s' H' x v t hr hj E m hx rx hb;obtain⟨c,hS⟩:=m.hS;refine OO Q7 ?_;rw[Around.under_plainId MV _]
  show wpAny ϛ γy υl _ _ s'
  refine E_ ϐW
  show wpAny ϛ γy Ψh _ _ s'
  refine E_ (NY (oS g m hj ύZ λy u s1 hy ry m1=>?_))
  rcases hfn with ⟨q,rfl⟩ | ⟨b,rfl⟩
  all_goals
   show wpAny ϛ γy Φi _ _ s1
   refine E_ Φj
   show wpAny ϛ γy (tryCatch (holding [u,.int (kf j) t2] (richCompare .Lt (.int (kf j) t2) ϐj >>= _)) _ >>= _) _ _ s2
   refine E_ (NY (JK (E_ (CmpOf.ints_lt (prog:=P) (w:=w) (A:=γy) (P:=λi v=>∃t,v=.int νR t) kf (λi v h=>h) j i _ _ _ _ _ #[t2,rfl] ιh ?_))));refine E_ (JK (LJ ύY))
   have D:=hb.more E;obtain⟨c2,G⟩:=m2.hS
   by_cases lt:kf j < kf i
   ·simp only[lt,decide_true,if_true]
    refine E_ (Rv G rfl (E_ (OR ?_)));rw[nm];rw[if_pos lt] at D;exact Ga #[plainId_quiet MV _,ih (j+1) j _ H2 y u t2 γ γ (ID j) όu hy ry D]
   ·simp only[lt,decide_false,N9,if_false]
    refine E_ (OR ?_);rw[nm];rw[if_neg lt] at D;exact Ga #[plainId_quiet MV _,ih (j+1) i _ H2 x v t γ γ γ m2 hx rx D]
theorem xX {Q:ϥ}{E:ϥ} (hh:η6) (e0:δY) (hl:χr) (ne:0 < γm) (hfn:Ψg)
  (hf:∀(s':ξ) (H':Hp) (i:Nat) (x:V) (v:μ),xs[i]?=some x->a_ H H'->F3 P w K mg base γy Δ s' H'->Un δl [] H H' ύ s'.heap->k_ x v->wpAny ϛ γy ψE ϊc εf s')
  (hQ:∀(i:Nat) (x:V) (v:μ) (s':ξ) (H':Hp),xs[i]?=some x->k_ x v->GE kf γm i->s'.os=s.os->AllBare s'.gens->Un δl [] H H' ύ s'.heap->Gc P w H' s'.heap->a_ H H'->Q v s') :
  wpAny ϛ A (call ώm [.ref l] [ΓS]) Q E s:=by
 have nm:(toString "min" ++ toString ".loop" : String) = "min.loop":=by decide
 obtain⟨_,h,n,rv,D⟩:=e0.hok l _ hl
 have J:s.heap.IsList l h.toArray:=#[_,D,rfl,n,rfl]
 have ha:argsOk "min" #[[.ref l],[ΓS]]:=kmk_min_key _ _
 refine kmk_tree PySem.F.kind_min PySem.F.plain_min PySem.F.entry_min ha ?_
 show wpAny ϛ γy (UL "min" ["key", "default"] 0 ϋk >>= _) _ _ s
 refine E_ (wpAny_of_eq (show UL "min" ["key", "default"] 0 ϋk=pure [some f,none] from rfl) (E_ (Ga (E_ (Na J ?_)))))
 refine E_ ψg;rw[nm]
 have hS:(s.heap.push { cls:=.type "list_iterator",data:=.fields [.ref l,.int 0 0].toArray }).objs.size=s.heap.objs.size+1:=size_push' ..
 have kp:∀b o,s.heap.get? b=some o→((s.heap.push { cls:=.type "list_iterator",data:=.fields [.ref l,.int 0 0].toArray }).push δa).get? b=some o:=λb o e=>FZ _ μ7
 have g:Kj P w K mg base A Δ s H l Ω (s.heap.push { cls:=.type "list_iterator",data:=.fields [.ref l,.int 0 0].toArray }).objs.size xs f kf:=#[hh,e0,hl,B_ _,by rw[hS];exact Lb _,by rw[hS];exact F0 νy,hf]
 have m0:Gs P w Δ s H l Ω (s.heap.push { cls:=.type "list_iterator",data:=.fields [.ref l,.int 0 0].toArray }).objs.size 0 #[] { s with heap:=(s.heap.push { cls:=.type "list_iterator",data:=.fields [.ref l,.int 0 0].toArray }).push δa } H:=⟨rfl,e0.bare,Un.kept kp,e0.hok.kept kp,a_.refl _,⟨0,G4 _ rfl⟩,e0.hok.fresh g.nS,⟨_,FZ _ ω6,rfl,rfl⟩,e0.hok.fresh Θ⟩
 refine Ga #[plainId_quiet MV _,?_]
 show codeAny ϛ A _ _ { s with heap:=(s.heap.push { cls:=.type "list_iterator",data:=.fields [.ref l,.int 0 0].toArray }).push δa }
 generalize (s.heap.push { cls:=.type "list_iterator",data:=.fields [.ref l,.int 0 0].toArray }).objs.size=S at g m0
 generalize ({ s with heap:=(s.heap.push { cls:=.type "list_iterator",data:=.fields [.ref l,.int 0 0].toArray }).push (seqObj "list" #[] 0) }:Shared)=s0 at m0
 obtain⟨c,G⟩:=m0.hS;refine OO Q7 ?_;rw[Around.under_plainId MV _]
 show wpAny ϛ γy υl _ _ s0
 refine E_ (Rb G rfl ?_)
 show wpAny ϛ γy (tryCatch (pyNext ξX) _ >>= _) _ _ s0
 refine E_ (NY (oS g m0 ιY ύZ λy u s1 hy ry m1=>?_))
 have lp:=Ce g (R:=λr s'=>match r with | .ok (.ret v)=>Q v s' | .ok _=>False | .error e=>E e s') (λi x v s' H' h1 h2 h3 h4 h5 h6 h7 h8=>hQ i x v s' H' h1 h2 h3 h4 h5 h6 h7 h8) hfn
 have l0:GE kf 1 0:=λj' O=>by
  obtain rfl:j'=0:=by omega
  exact #[N3 _,λz=>absurd z δ9]
 rcases hfn with ⟨q,rfl⟩ | ⟨b,rfl⟩
 all_goals
  show wpAny ϛ γy Φi _ _ s1
  refine E_ Φj;obtain⟨c2,j⟩:=m2.hS
  show wpAny ϛ γy (updateSeq S (λ_=>[u,.int (kf 0) t2].toArray) >>= _) _ _ s2
  refine E_ (Rv j rfl ?_);rw[nm];exact Ga #[plainId_quiet MV _,lp _ 1 0 _ H2 y u t2 rfl ne (ID 0) όu hy ry l0]
end
variable {K:m_}
section
variable {X:Cx}
inductive ji (K:m_) (xs:δ) (H:Hp) (Q:VK):Prop
 | mk:∀(p:Addr) (bs:List Bool),xs=[.ref p]->c_ K H p (bs.map V.bl)->(Q (.bl (bs.any λb=>b)) H)->ji K xs H Q
theorem sr (hc:γi):bI X χN (ji X.K):=by
 show 290
 show 99
 show 289;refine ΓW
 ·rw[xI rv hv]
  exact LJ q'
 ·have hl:g.toArray.size=bs.length:=by
   show 65
   show 33
  rw[hl,rZ (λb:Bool=>b) τ bs];exact τ4
theorem zt (hK:ηn) (hc:γi):bI X χN (ji K):=hK ▸ sr hc
theorem Cf {tg l:Expr}{tl:TE} (hK:ηn) (hl:ν8):PI X tg l (CW K tl):=hK ▸ aP hl
end
section
variable {X:Cx}
end
variable {pos:Pos}
section
variable {X:Cx}{pins:List (Addr × Obj)}{σ:St}{H:Hp}{s:Shared}
inductive qP (Q:VK) (x:V) (H1:Hp):Prop
 | mk:∀(l:Addr) (as:List Addr) (n:Nat->Nat),x=.ref l->H1 l=some (.lst (as.map V.ref))->0 < as.length->((∀i p,as[i]?=some p->∃ys,H1 p=some (.lst ys)/\ys.length=n i))->(∀i p H',as[i]?=some p->GE (λi=>((n i:Nat):Int)) ωx i->a_ H1 H'->Q γR H')->qP Q x H1
def DI (te:TE):TE:=λσ H Q=>te σ H λx H1=>qP Q x H1
theorem iM {as:Φ}{x:V} (h:(as.map ϙ)[i]?=some x):∃p,as[i]?=some p/\x=.ref p:=by
 rw[FM] at h
 cases e:as[i]? with
 | none=>rw[e] at h;cases h
 | some p=>rw[e] at h;cases h;exact⟨p,rfl,rfl⟩
theorem AX {e:Expr}{te:TE}{p0 lp kp:Pos} (hc:γi) (hg:Gl X "min") (hm:ώ0) (hg2:Gl X "len") (hm2:X.mg "len" = none) (he:εh)
  (hs:starEach [e] X.env=(τ,eval e ρ) :: starEach [] X.env:=by rfl) (hs2:backTo pos ζY=(τ,eval e ρ) :: backTo pos 69e4:=by rfl) (hs3:(backTo pos ζY).any (·.1)=false:=by rfl) :
  PE X (.Call ώA [e] [#[some "key",.Name "len" lp,kp]] pos) (DI te):=by
 intro g s σ H Q I h;refine M4 Φ2
 refine callWith_kw ?_ hs2 hs3 rfl rfl
 refine C_ ((aa he ab hs) pos g s σ H (λvs H1=>match vs with
  | [x]=>qP Q x H1
  | _=>False) I h) ?_
 rintro us s1 ⟨vs,H1,I1,rv,q1⟩
 match vs,rv,q1 with
 | [x],rv,q1 =>
  obtain⟨u,rfl,rx⟩:=ca rv;obtain⟨l,as,n,rfl,hl,ne,hn,q⟩:=q1;obtain rfl:u=F_ l:=rx;refine kws_cons (cG I1 hg2 hm2 G0 (kws_nil ?_) ζ ζ)
  refine IT (xX (K:=X.K) (mg:=X.mg) (base:=δ7) (outer:=δK) (H:=H1) (kf:=λi=>((n i:Nat):Int)) (Q:=λu s'=>CE δK Ϡ X.w H1 s1 Q u s') (I1.ok.hd hc) I1.env0 hl (by rw[o_];exact ne) (.inr ϊ) (λs3 H3 i x v hx sm e0 un E=>?_) (λi x v s' H' hx rx hb os bare un hok sm=>?_)) (λu s' ce=>I1.after ce) λ_ _ z=>z
  ·obtain⟨p,hp,rfl⟩:=iM hx
   obtain⟨ys,h1,h2⟩:=hn i p hp;obtain rfl:v=F_ p:=E;obtain⟨hz,D,m,ri,ho⟩:=e0.hok p _ (sm _ _ h1)
   have j:=ri.length
   have G:=kY;refine UC (items:=D.toArray) #[_,ho,rfl,m,rfl] μu #[H3,s3.toks+1,?_,rfl,νo,Un.refl,e0.hok,a_.refl _]
   rw[Gk,← j,h2]
  ·rw[o_] at hb
   obtain⟨p,hp,rfl⟩:=iM hx;exact #[_,H',os,bare,un,hok,rx,q i p H' hp hb sm]
inductive zu (tb:TE) (Q:VK) (x:V) (H2:Hp):Prop
 | mk:∀(l:Addr) (xs:List V) (kf:Nat->Int),x=.ref l->H2 l=some (.lst xs)->0 < xs.length->((∀i y H',xs[i]?=some y->a_ H2 H'->tb [some y] H' λv H''=>v=.int νR/\a_ H' H''))->(∀i y H',xs[i]?=some y->GE kf γm i->a_ H2 H'->Q y H')->zu tb Q x H2
def Fk (P:Addr) (lpos:Pos) (q:Str) (mk:μl) (te tb:TE):TE:=λσ H Q=>te σ H λx H1=>Le P lpos q mk σ H1 λ_ H2=>zu tb Q x H2
theorem DJ {c P:Addr}{p:Str}{k:Nat}{e:Expr}{te tb:TE}{params:θa}{body:Expr}{scope:γ5}{lpos kp p0:Pos} (T:πW) (hcl:closureFor γu X.env=pure []) (hc:γi) (hr:Fv (k+3) X.A) (hg:Gl X "min") (hm:ώ0) (he:εh)
  (S:fo [p] [p] γu) (hfr:∀q∈scope.names,q.2≠.free)
  (hb:∀(pm cdv ctv u:μ),bindArgs (Kg νO ζJ ζe body γu [] pm cdv ctv) ξ0=pure [(p,u)])
  (hbody:∀(A:Ϟ) (outer:γ4) (s:ξ) (H:Hp) (fa c':Addr),Fv k (A.deeper Θc)→PE (Mc Ϡ X.w X.K X.mg δ7 [p] Θc A Δ s H) body tb)
  (h1:defaultsOf ζe X.env=([],[]):=by rfl) (hs:starEach [e] X.env=(τ,eval e ρ) :: starEach [] X.env:=by rfl) (hs2:backTo pos ζY=(τ,eval e ρ) :: backTo pos 69e4:=by rfl) (hs3:(backTo pos ζY).any (·.1)=false:=by rfl) :
  PE X (.Call ώA [e] [ΞJ] pos) (Fk P lpos ζJ Δr te tb):=by
 intro j s σ H Q I h;refine M4 Φ2
 refine callWith_kw ?_ hs2 hs3 rfl rfl
 refine C_ ((aa he ab hs) pos j s σ H (λvs H1=>match vs with
  | [x]=>Le P lpos ζJ Δr σ H1 (λ_ H2=>zu tb Q x H2)
  | _=>False) I h) ?_
 rintro us s1 ⟨vs,H1,I1,rv,q1⟩
 match vs,rv,q1 with
 | [x],rv,q1 =>
  obtain⟨u,rfl,rx⟩:=ca rv;refine kws_cons (Rj h1 (C_ ό0 λf s2 ⟨vf,H2,I2,rf,q2,fa,c',_,pm,ctv,R,O,G⟩=>kws_nil ?_));subst R;obtain rfl:f=F_ fa:=rf;obtain⟨l,xs,kf,rfl,hl,ne,J,q⟩:=q2;obtain rfl:u=F_ l:=rx;refine IT (xX (K:=X.K) (mg:=X.mg) (base:=δ7) (outer:=δK) (H:=H2) (kf:=kf) (Q:=λu s'=>CE δK Ϡ X.w H2 s2 Q u s') (I2.ok.hd hc) I2.env0 hl ne (.inl ϊ) (λs3 H3 i x v hx sm e0 un D=>?_) (λi x v s' H' hx rx hb os bare un hok sm=>#[_,H',os,bare,un,hok,rx,q i x H' hx hb sm])) ϊq λ_ _ z=>z;refine Nc (Nd (uY (N:=[p]) (ps:=[p]) (cv:=[]) (vs:=[x]) (us:=[v]) (σ0:=[some x]) (E:=E0) (Q:=λv g=>v=.int νR/\a_ H3 g) S (k:=k+1) hr.in1 e0 (.cons D .nil) (sm _ _ O) (sm _ _ G) (hb _ _ _ _) #[λx z c e1=>(by cases e1),λx hx=>absurd rfl (hfr (x,.free) (Kr hx)),λx c e=>(by cases e)] ⟨rfl,λi x v e1 e2=>?_⟩ (hbody _ _ _ _ _ _ (((hr.in1).deeper _).mono (Lb k))) (J i x H3 hx sm)) λr s' hq=>?_)
  ·match i,e1,e2 with
   | 0,e1,e2=>exact .inl υx
  ·cases r with
   | error _=>exact False.elim hq
   | ok fl =>
    cases fl with
    | next=>exact False.elim hq
    | brk=>exact False.elim hq
    | cont=>exact False.elim hq
    | ret u =>
     obtain⟨v,g,os,bare,un,hok,rv,rfl,sm⟩:=hq;obtain⟨t,rfl⟩:=rv;exact #[g,t,rfl,os,bare,un,hok,sm]
end
section
variable {X:Cx}
end
section
variable {X:Cx}
end
variable {d:Addr}
section
variable {X:Cx}{pins:List (Addr × Obj)}{σ:St}{H:Hp}{s:Shared}
theorem Inv.thaw {o:Obj}{u:HO} (I:χ) (hd:H d=some θ2) (h0:∀o u,X.H₀ d≠some θ2):Inv X pins σ (upd H d u) s:=by
 show 306
 refine #[I.ok,I.os,εk,Δk,εo,νx,?_,λy c e=>?_,λp hp=>?_,λa u' e=>?_,θl]
 ·have z:=I.base.free b o e n h
  show 307
 ·have z:=I.base.tups b xs e
  show 149
 ·have z:=I.base.frzs b o u e
  rw[ae (λw=>h0 o u (by rw[<- w];exact e))];exact z
 ·obtain⟨m,z⟩:=I.base.tbls b ps e
  exact ΘD
 ·show 308
 ·show 309
 ·obtain⟨q1,q2,q3⟩:=I.pin p hp
  exact Φx
 ·have st:∀{a u'},p_ Ϡ X.w H ύ a u'->p_ Ϡ X.w (upd H d u) ύ a u':=λx =>
   x.stay χQ (λb q=>by rw[ae (λw=>by rw[w,hd] at q;cases q)];exact q) λb xs q=>by rw[ae (λw=>by rw[w,hd] at q;cases q)];exact q
  by_cases ha:a=d
  ·subst ha
   rw[ac] at e
   cases e;exact st (I.hok a _ hd).2
  ·rw[ae ha] at e
   exact st (I.hok a u' e)
inductive PR (H0 H H':Hp):Prop
 | no:H'=H->PR H0 H H'
 | one:∀d o u,H d=some (.frz o u)->(∀o u,H0 d≠some (.frz o u))->H'=upd H d u->PR H0 H H'
def C6 (H0:Hp) (t:TS):TS:=λD σ H=>t { D with nx:=λσ' H'=>∃H2,PR H0 H' H2/\D.nx σ' H2 } σ H
theorem DK {st:Stmt}{t:TS} (h:ιq):PS X st (C6 X.H₀ t):=by
 intro g s σ H D I hw;refine C_ οi λf s1 q=>?_
 cases f with
 | next =>
  obtain⟨σ',H',I',H2,tw,q⟩:=q
  cases tw with
  | no e=>subst e;exact⟨σ',_,I',q⟩
  | one d o u e h0 e2=>subst e2;exact⟨σ',_,I'.thaw e h0,q⟩
 | brk=>exact q
 | cont=>exact q
 | ret v=>exact q
theorem KV.getv {kvs:δA}{vs:ι6} (h:ζz):∀{i:Nat}{k:Key}{v:V},kvs[i]?=some (k,v)->∃u,vs[i]?=some (k,u)/\k_ v u:=by
 induction h with
 | nil=>intro i k v e;simp at e
 | cons r rs ih =>
  intro i k v e
  cases i with
  | zero =>
   rename_i p q _ _
   show 310
   show 311
   show 16;obtain⟨r1,r2⟩:=r;exact #[u',by rw[show k=k' from r1];rfl,r2]
  | succ i=>exact ih ηQ
theorem Sn {G:TS->Prop}{tg iter:Expr}{body:ζw}{wi:TI}{g:TG} (hp:μj) (hc:γi) (hi:η3) (hg:πr) (k:∃tb,Ht X body tb/\G (C6 X.H₀ ψx))
  (hs:∀x,foldedSetIterable iter ρ x=pure x:=by intro _;rfl):∃t,PS X υi t/\G t :=
 let ⟨_,hb,q⟩:=k
 #[_,DK (Ac hp hc hi hg hb hs),q]
end
section
variable {X:Cx}
open Classical in
end
section
variable {X:Cx}
end
section
variable {X:Cx}
def jV (v d:Addr) (h:Heap):Prop:=h.IsItemsView v d
inductive xY (x:V) (xs:δ) (H:Hp) (Q:VK):Prop
 | mk:∀d kvs,x=.ref d->xs=[]->H d=some (.dK kvs)->(∀v,H v=none->Q (.ref v) (upd H v (.ext (jV v d))))->xY x xs H Q
theorem AY:On X "dict.items" xY:=by
 intro g s σ H x xs u us Q I rx r h;obtain⟨d,D,rfl,rfl,e,q⟩:=h;obtain rfl:u=F_ d:=rx
 cases r;obtain⟨z,hd,vs,j,dd⟩:=C5 γ9 e;refine call_meetsIn Tq dd.typeIs PySem.F.entry_dict_items (PySem.F.args_dict_items_1 _) (meets_dict_items (bC Ϡ X.w) d hd) #[#[vs,dd],?_];refine #[.ref Ω,_,I.laid χ4 Θ (show p_ Ϡ X.w _ _ _ (.ext (jV Ω d)) from ψd),rfl,q _ ζW]
 ·exact μ0
 ·exact χM
 ·rintro h1 h2 ⟨o,e,r⟩ k
  exact #[o,k _ e,r]
theorem kQ:PySem.entryFor PySem.table "dict_itemiterator.__iter__" = some PySem.Builtin.«dict_keyiterator.__iter__» :=
 PySem.entryFor_alias (id':="dict_keyiterator.__iter__") ώB rfl 6e7 ώB
theorem gb {s:ξ}{it:Addr}{n ep:Nat}{ok ov:μ} (h:Ry ύ it d i n ep ok ov):s.TypeIs μ3 "dict_itemiterator":=by
 first | exact Ry.typeIs h | exact PySem.Heap.IsItemIter.typeIs h | exact ϑB
def Nz (d:Addr) (o:Obj) (kvs:δA):It where
 go i H:=H d=some θG/\i < kvs.length
 yld i H x H':=∃T k v,H T=none/\x=.ref T/\kvs[i]?=some (k,v)/\H'=upd H T ϐk
 stop i H:=H d=some θG/\kvs.length<=i
theorem zw {P:Ϧ}{w:Ϣ}{elts:εC}{x1}{tp:Pos}{kvs:δA}{o:Obj}{es:ψ1}{ep:Nat} (d it:Addr) (ho:ϋG):IK P w K ι3 (Nz d o kvs) [it] it (λi h=>∃ok ov,Ry h it d i ωb ep ok ov) where
 mem:=by simp
 obj:=λi h st b hb=>by
  show 32
  subst e;obtain⟨ok,ov,e⟩:=st;exact #[_,e,λv z=>by have z':Data.fields _=Data.cell v:=z;cases z']
 keep:=λi h h' ⟨ok,ov,e⟩ k=>#[ok,ov,k it ϒ _ e]
 item:=by
  show 319
  show 320
  show 321
  cases g3
  have hl:=νl;obtain⟨u,hu,ru⟩:=g.getv ηg;rw[hl] at st
  have lt:∀{c o},s.heap.get? c=some o->c≠s.heap.objs.size:=λe=>F0 εG;refine wpAny_pyNext_items_item st ξM hu λQ h' hk a1 a3 a4 Y=>?_;refine #[_,rfl,PySem.wpAny_letOwnedTupleGo_items a1 λU D sb=>?_]
  have G:s.heap.objs.size≠it:=(lt st).symm
  have kk:∀b u,b∉[it]->s.heap.get? b=some u->U.get? b=some u:=λb u hb e=>by
   have hb:b≠it:=λy=>hb (by simp[y])
   exact sb.extBut _ _ hb (Y b u hb e)
  rw[<- hl] at D
  refine⟨.ref Ω,upd H Ω (.tup [kV (kvs[i]).1,(kvs[i]).2]),I.turnedUp (t':=δS) hf kk Θ ⟨by show 2<=εt;decide,[Q,u],.cons (xU hk) ϐb,⟨_,sb.extBut _ _ G a3,rfl,_,rfl⟩⟩,rfl,
   ⟨_,_,_,I.hok.fresh Θ,rfl,s_ hi,rfl⟩,⟨_,_,D⟩,λb hb=>?_⟩
  show 32
  rw[e,ae G.symm];exact(hf it ϒ).1
 done:=by
  show 319
  show 320
  show 321
  cases g3
  show 315
  exact wpAny_pyNext_items_end δ3 st ξM ϐh λh' eb=>θQ
 self:=λ_ _ _ _ _ ⟨_,_,st⟩ h=>PySem.wpAny_pyIter_slot (gb st) Tn (PySem.wpAny_call_entry Tn (gb st) kQ (id (PySem.wpAny_pure #[_,rfl,_,_,gb st,PySem.F.slot_dict_itemiterator_next.lookup,h])) (PySem.F.args_dict_itemiterator_iter_1 _))
inductive u7 (R:δZ) (x:V) (H1:Hp):Prop
 | mk:∀v d kvs,x=.ref v->H1 v=some (.ext (jV v d))->H1 d=some (.dK kvs)->(∀o,R (Nz d o kvs) (upd H1 d (.frz o (.dK kvs))))->u7 R x H1
def ED (td:TE):TI:=λσ H R=>td σ H λx H1=>u7 R x H1
theorem Cg {elts:εC}{x1}{tp:Pos}{l:Expr}{tl:TE} (hl:ν8):PI X ι3 l (ED tl):=by
 show 61;refine C_ οj λv s1 ⟨x,H1,I1,r1,q1⟩=>?_;obtain⟨a,d,E,e,ev,ea,q⟩:=q1;subst e
 cases r1;obtain⟨z,D,vs,j,o,es,ep,g1,g2,g3,g4,g5,g6⟩:=dR I1.hok (.inl ea)
 have hv:s1.heap.IsItemsView a d:=(I1.hok a _ ev).1
 show 316
 have hl:=j.length;refine wpAny_pyIter_items hv υf ?_;refine #[δ2,[δ2],_,_,_,rfl,I2.kept (t':=ζ3) λb o e=>FZ _ e,zw d _ g3,#[_,_,by rw[hl];exact G4 _ rfl],λb hb=>?_,q o]
 show 60
 show 317
theorem AZ {o:Obj}{kvs:δA}{g:TG}{tb:TS}{D:GW}{σ:St}{H:Hp} (Pv:η1) (h0:ζy) (hl:∀i σ H,i<=kvs.length->Pv i σ H->H d=some θG)
  (hs:∀i k v T σ H,kvs[i]?=some (k,v)->H T=none->Pv i σ H->g ζh σ (upd H T ϐk) λσ2 H2=>tb { D with nx:=Pv (i+1),ct:=Pv (i+1),bk:=D.nx } σ2 H2) (hd:∀σ H,Pv kvs.length σ H->D.nx σ H) :
  ∃W:Nat->Nat->St->Hp->Prop,ζq/\∀i m σ H,W i m σ H →
   ((Nz d o kvs).stop i H/\D.nx σ H)\/((Nz d o kvs).go i H/\∃N:St->Hp->Prop,εP/\∀x H',(Nz d o kvs).yld i H x H'->g x σ H' λσ2 H2=>tb { D with nx:=N,ct:=N,bk:=D.nx } σ2 H2):=by
 refine #[λi m σ H=>m=kvs.length - i/\i<=kvs.length/\Pv i σ H,#[ωb,by simp,GO _,h0],?_]
 rintro i m σ H ⟨rfl,hi,p⟩
 have q:=hl i σ H hi p
 by_cases hlt:i < kvs.length
 ·refine .inr #[#[q,hlt],Pv (i+1),λσ' H' p'=>#[kvs.length - (i+1),by omega,rfl,hlt,p'],λx H' y=>?_]
  obtain⟨T,k,v,hT,rfl,ek,rfl⟩:=y;exact hs i k v T σ H ek hT p
 ·have e:i=kvs.length:=by omega
  exact .inl #[#[q,by omega],hd σ H ξ3]
end
section
variable {X:Cx}{o:Expr}{lo hi:Option Expr}{pos p2:Pos}{to:TE}{tl th:TO}
end
end L2
namespace L2
open PySem PySem.Spec PySem.W PyProof.Rows
def GR (H:Hp):List ρf->List Addr->Prop
 | [],[]=>True
 | p :: ps,t :: ts=>H t=some (G9 (p.1:Int) p.2)/\GR H ps ts
 | _,_=>False
theorem GR.length {H:Hp}:∀{ps:δy}{ts:Φ},GR H ps ts->ts.length=ps.length
 | [],[],_=>rfl
 | [],_ :: _,z=>z.elim
 | _ :: _,[],z=>z.elim
 | _ :: ps,_ :: ts,⟨_,r⟩=>by rw[Io,Io,GR.length r]
theorem GR.get {H:Hp}:∀{ps:δy}{ts:Φ}{i:Nat},GR H ps ts->i < ps.length->∃t,(ts.map F_).getD i Kw=.ref t/\H t=some ΞK
 | [],[],_,_,hi=>absurd hi θh
 | [],_ :: _,_,z,_=>z.elim
 | _ :: _,[],_,z,_=>z.elim
 | _ :: _,t :: _,0,z,_=>⟨t,rfl,z.1⟩
 | _ :: ps,_ :: ts,i+1,z,hi=>GR.get (ps:=ps) (ts:=ts) (i:=i) z.2 εV
theorem GR.tups {P:Ϧ}{w:Ϣ}{H:Hp}{s:ξ} (hok:ψ2):∀{ps:δy}{ts:Φ},GR H ps ts->∃fs:List Value,KatTups ύ (ts.map F_) fs/\fs.length=ps.length/\∀v∈fs,∃i t,v=Kv i t
 | [],[],_=>Φh
 | [],_ :: _,z=>z.elim
 | _ :: _,[],z=>z.elim
 | _ :: ps,t :: ts,⟨z,r⟩=>by
  obtain⟨fs,h1,h2,h3⟩:=GR.tups hok r;show 298;refine Θ9
  rcases FC.mp hv with rfl | hv
  ·exact εJ
  ·exact h3 v hv
section
variable {X:Cx}
inductive jv (K:m_) (xs:δ) (H:Hp) (Q:VK):Prop
 | mk:∀(p:Addr) (ts:List Addr) (ps:List (Nat × Nat)),xs=[.ref p]->c_ K H p (ts.map V.ref)->GR H ps ts->(ps.map Prod.fst).Nodup->ps.length < 64->(∀(l:Addr) (ts':List Addr),H l=none->ts'.Perm ts->Q (.ref l) (upd H l (.lst (ts'.map V.ref))))->jv K xs H Q
theorem u8 (hc:γi) (hu:X.A.in1.in1.units+64 < cLine):bI X οs (jv X.K):=by
 intro a6 s σ H xs us Q I r h;obtain⟨p,ts,ns,rfl,hq,hK,nd,a8,q⟩:=h;show 39
 show 10;obtain⟨a7,r',pl,hz⟩:=I.list hq;obtain rfl:=r9 r'
 have D:(ts.map F_).length=ns.length:=by rw[o_,hK.length]
 have hl:=pl.isList
 have hg:=λi (hi:i < ns.length)=>hK.get hi;generalize an:ts.map F_=vs at D hg hl;refine Calls.call_function_entry kind_sorted plain_sorted ψD (args_sorted1 _) ?_;unfold Builtin.«sorted»
 refine E_ (m:=checkCount "sorted" 1 1 _) ηG
 refine E_ Φ1
 refine E_ Ψr
 have U:((s.heap.push δa).update Ω ζS).objs.size=s.heap.objs.size+1:=by
  rw[RB,ω8]
 have g:(((s.heap.push δa).update Ω ζS).push ζU).get? Ϛ=some 29e4:=by
  rw[<- U];exact G4 _ rfl
 have keep:∀b o,s.heap.get? b=some o→(((s.heap.push δa).update Ω ζS).push ζU).get? b=some o:=λb o q=>by
  have Y:b < s.heap.objs.size:=FO q;rw[P3 _ _ _ (by rw[U];exact F0 (IL Y)),Tr _ _ _ _ (F0 Y),P3 _ _ _ (F0 Y)]
  exact q
 show wpAny _ _ _ _ _ { s with heap:=((s.heap.push δa).update s.heap.objs.size ζS).push ζU }
 rw[U]
 generalize (((s.heap.push (seqObj "list" #[] 0)).update s.heap.objs.size (Obj.mapSeq (· ++ vs.toArray))).push (seqObj "list" vs.toArray 0))=h2 at g keep
 refine E_ (JK (wpAny_call_entry ϐU ϑz ϐf ?body (args_list_sort _)))
 show wpAny Ξ ψQ (Builtin.«list.sort» #[[.ref Ϛ],[]]) _ _ _
 rw[list_sort_plain]
 have s1:=MF h2 Ϛ δv
 obtain⟨e1,aT⟩:∃e1,(h2.update (s.heap.objs.size+1) (Obj.mapSeq λ_=>(#[]:Array Value))).get? (s.heap.objs.size+1)=some (seqObj "list" #[] e1):=Ψf
 refine E_ ϋi;refine E_ ΘA
 refine E_ (seqEpoch_at aT rfl ?_);refine E_ Θr
 refine E_ ψg;refine JK ?_
 have ad:∀b o,s.heap.get? b=some o→(((h2.update Ϛ δv).push ηL).push δa).get? b=some o:=λb o q=>by
  show 303
 have R:(((h2.update Ϛ δv).push ηL).push δa).get? Ϛ=some 67e9:=FZ _ (FZ _ aT)
 show wpAny Ξ ψQ _ _ _ { s with heap:=((h2.update Ϛ δv).push ηL).push δa }
 generalize (((h2.update (s.heap.objs.size+1) (Obj.mapSeq λ_=>(#[]:Array Value))).push (seqObj "tuple" vs.toArray 0)).push (seqObj "list" #[] 0))=h5 at ad R
 show 9
 have fr:H Ϛ=none:=I.hok.fresh θN
 have hok:Gc Ϡ X.w H h5:=I.hok.kept ad
 by_cases h2:vs.toArray.size < 2
 case' pos =>
  rw[if_pos h2,if_pos h2];rw[Gk,D] at h2;refine E_ ηG;rw[ϐe];refine E_ ηG;show 9
  have J:Pm δ0 (r_ δ0).toArray:=ω7
  have O:arrOf ΘI=(r_ δ0).toArray.map 147e4:=by
   have e:=kas_range (vs.toArray.zip δQ);rw[show (vs.toArray.zip δQ).size=ns.length by simp[D]] at e
   rw[e]
  have hf:failedOf ΘI=none:=rfl;generalize SortSt.mk' general' (vs.toArray.zip vs.toArray) #[] 7 none=st at O hf;generalize (r_ ns.length).toArray=p' at J O
 case' neg =>
  rw[if_neg h2,if_neg h2];rw[Gk,D] at h2;obtain⟨fs,t1,t2,t3⟩:=hK.tups (s:={ s with heap:=h5 }) hok;rw[an] at t1
  refine E_ Θw
  ·obtain⟨i,t,rfl⟩:=t3 v hv
   exact Looks.of_pure rfl
  rw[show ϊp=true from rfl]
  have hz:∀i j,i < ns.length->j < ns.length->((ns.getD i (0,0)).1:Int)=((ns.getD j (0,0)).1:Int)->i=j:=λi j hi hj e=>by
   rw[v_,s_ hi,v_,s_ hj] at e
   have e2:185e2[i]'(by rw[o_];exact hi)=185e2[j]'(by rw[o_];exact hj):=by rw[MA,MA];exact Ql e
   exact(L0 nd).mp e2
  have ask:(kas_sort ωv).kasWp (kas_ask Ϡ X.w ψQ ψe vs) (λp E=>E = { s with heap:=h5 }/\Pm ns.length p/\Up ξv p ns.length) { s with heap:=h5 }:=by
   rw[D];refine GP.wp (lt:=Jb ξv) (n:=δ0) ϋh _ Ξi
   obtain⟨t,e1,e2⟩:=hg i hi;obtain⟨u,e3,e4⟩:=hg j hj;show 302;refine xP (s:={ s with heap:=h5 }) hok e2 e4 δ3 hu ?_
   have e5:decide (((ns.getD i (0,0)).1:Int) < ((ns.getD j (0,0)).1:Int)\/((ns.getD i (0,0)).1:Int)=((ns.getD j (0,0)).1:Int)/\(ns.getD i (0,0)).2 < (ns.getD j (0,0)).2)=Jb ξv i j:=by
    show _=decide _
    rw[ώx];refine #[λh=>h.elim id λh=>?_,.inl]
    have:=hz i j hi hj h.1;show 16;exact absurd h.2 δ9
   rw[e5];exact q
  refine E_ (IT (kat_run (Q:=λZ E=>∃p:Array Nat,arrOf Z=p.map ΦW/\failedOf Z=none/\E = { s with heap:=h5 }/\Pm ns.length p/\Up ξv p ns.length) rfl 0e0 γ (λp' Z E a1 a2 a3 a4=>ύV) ask) ?_ λ_ _ x=>x)
  rintro⟨⟨⟩,st⟩ E ⟨p',O,hf,rfl,J,hu⟩;show 9
 all_goals
  have a5:=kat_snds (ks:=vs) (vs:=vs) rfl O
  have aw:=J.size
  have s2:=MF h5 Ϛ Φw
  obtain⟨c2,G⟩:∃c2,(h5.update (s.heap.objs.size+1) (Obj.mapSeq λ_=>(arrOf st).map (·.2))).get? (s.heap.objs.size+1)=some (seqObj "list" ((arrOf st).map (·.2)) c2):=#[_,get?_update_seq R λ_=>(arrOf st).map (·.2)]
  refine E_ (seqEpoch_at R rfl ?_)
  refine E_ (listUpdate_at R rfl ?_ 48e4 (by
   show 300
   rw[a5,Gk,o_,MG,aw,θB];omega))
  try rw[hf]
  simp only[bne_self_eq_false,N9,if_false]
  have G:=G.trans (congrArg ΨF a5)
  have pl:p'.toList.Perm 196e7:=by simpa using Qg.mp J.pm
  have pin:∀i∈p'.toList,i < ns.length:=λi hi=>GG.mp ύp
  have eo:(p'.toList.map λi=>vs.getD i Kw)=(p'.toList.map λi=>ts.getD i 0).map F_:=by
   rw[GB];refine KA λi hi=>?_
   have a0:i < ts.length:=by rw[hK.length];exact pin i hi
   rw[<- an,v_,FM,s_ a0]
   show _=F_ (ts.getD i 0)
   rw[v_,s_ a0];rfl
  rw[eo] at G;refine Ga #[_,rfl,Ga εz];refine #[.ref Ϛ,_,I.laid (t':=δS) ώz θN (show p_ Ϡ X.w _ _ _ (.lst ((p'.toList.map λi=>ts.getD i 0).map ϙ)) from #[?_,_,c2,sd _,G]),rfl,q _ _ fr ?_]
  ·exact(s2.2 b (F0 (IL (FO z)))).trans (ad b o' z)
  ·rw[o_,o_,MG,aw,θB];omega
  ·have e0:(r_ δ0).map όv=ts:=by
    rw[<- hK.length]
    apply JY
    show 146
    show 151
    ·rw[Ib hi,s_ hi,Ks,v_,s_ hi]
     rfl
    ·rw[Hj δw,Hj γ]
     rfl
   have:=SX όv pl
   rwa [e0] at this
end
end L2
namespace L2
open PySem PyProof.Rows
structure Jl (K:m_) (x qual:Str) (st:Stmt) (f:Addr) (fd:γp) (ds:ψ):Prop where
 ex:∃(oc:μ) (od:γG) (T:Addr) (kV doc pm:μ) (an:γG) (cdv ct:μ) (osl:εT),
  fd=IF x qual θA δq δg ζh kV doc pm an cdv ct/\K.lookup f=some υu/\KQ K cdv qual=true/\∃tc td n ts,K.lookup T=some Ω6
 kp:Jt K γd=true
variable {x qual:Str}{st:Stmt}{f:Addr}{ds:List Value}{ps:List Str}
section
variable {P:Program}{w:World}{K:m_}{mg:Str->Option Value}{base:Heap}
theorem Jl.ok {fd:γp}{N:ώ}{k:Nat}{sp:Sp} (F:υH) (S:η4) (len:θT)
  (hbody:∀(cdv:μ) (A:Ϟ) (outer:γ4) (s:ξ) (H:Hp) (vs:δ) (Q:VK) (E:XK),Fv k μi->sp vs H Q E →
   ∃t,Ht (Hu HV P w K mg base N qual δg f cdv A Δ s H E).nox δq t/\t { nx:=λ_ H'=>Q .non H',rt:=Q } 15e4 H):F7 P w K mg base HV (k+1) f fd ps sp:=by
 obtain⟨oc,od,T,kV,D,pm,an,cdv,ct,osl,rfl,lk,g,_⟩:=F.ex;refine za lk g S len λA outer s H vs Q E hr j=>?_;obtain⟨t,h,q⟩:=hbody cdv A Δ s H vs Q E hr j;exact χX
theorem Jl.binds {fd:γp}{ws:ψ} (F:υH) (m:Nat) (hm:m+ws.length=ρl)
  (h:∀(T:Addr) (kV doc pm:μ) (an:γG) (cdv ct:μ) (us:ψ),ιr=m->∃k:Option ϑD->Sem ό1,
   bindArgs τg ηy=seqItems? ζh >>= k/\k (some ds.toArray)=pure (ps.zip (us++ws))):Gj K fd ps ws:=by
 obtain⟨oc,od,T,kV,doc,pm,an,cdv,ct,osl,rfl,lk,g,tc,td,n,ts,hT⟩:=F.ex;intro s us X hl;obtain⟨k,h1,h2⟩:=h T kV doc pm an cdv ct us (by rw[Hr] at hl;omega)
 exact PySem.W.binds_K X rfl hT rfl h1 h2
theorem DM {T:Addr}{oc:μ}{od an:γG}{osl:εT}{kV doc pm cdv ct:μ}{tc:μ}{td:γG}{n:Nat}{ts:εT}
  (l:K.lookup f=some #[oc,od,.func τg,osl]) (lt:K.lookup T=some Ω6)
  (c:οz) (k:η0):Jl K x qual st f τg ds:=#[#[oc,od,T,kV,doc,pm,an,cdv,ct,osl,rfl,l,c,tc,td,n,ts,lt],k]
end
section
variable {X:Cx}
inductive ll (K:m_) (xs:δ) (H:Hp) (Q:VK):Prop
 | mk:∀(x C dx:Addr) (fs:List (Str × V)) (tp:Addr) (cs:List Addr) (b:Bool),xs=[.ref x,.ref tp]->H x=some (.ins C dx fs)->HN K C->JN K C->H tp=some (.tup (cs.map V.ref))->PySem.W.kitAny K (.ref C) (cs.map F_)=some b->Q (.bl b) H->ll K xs H Q
theorem zx:bI X ξZ (ll X.K):=by
 show 127;obtain⟨x,C,dx,fs,tp,cs,b,rfl,ex,cl,ty,et,e,q⟩:=h;obtain⟨u1,w',rfl,r1,r2⟩:=fB r
 cases (show u1=F_ x from r1)
 cases (show w'=F_ tp from r2);obtain⟨_,g,ri,o,h1,h2,n,h3⟩:=(show p_ Ϡ X.w H ύ tp (.tup ϐP) from I.hok tp _ et)
 have ei:g=cs.map F_:=uO ri;subst ei;obtain⟨oc,D,dt,sl⟩:=o
 cases (show oc=KI "tuple" from h2)
 cases (show dt=_ from h3);obtain⟨mA,O,_⟩:=gS I.hok ex;obtain⟨od,J,_⟩:=O.look;exact PySem.W.kia_tup (SG (cl.get _) cl.hd ty.ha ty.hn ty.htk ty.hm) I.kIn J h1 e (λz=>nomatch z) λtk=>⟨.bl b,H,I.tok tk,rfl,q⟩
end
def Pf (x q:Str) (st:Stmt) (ps:ώ):Prop:=∀(T:Addr) (kV doc pm:μ) (an:γG) (cdv ct:μ) (us:ψ),ιr=ps.length->∃k:Option ϑD->Sem ό1,bindArgs ΘE ηy=seqItems? ζh >>= k/\k (some [Kw].toArray)=pure ηE
structure ME (K:m_) (C:Addr) (x q:Str) (st:Stmt) (f:Addr) (ps:ώ):Prop where
 me:Hw K C x f
 F:Jl K x q st f δb [Kw]
 b:Gj K δb ps []
 k:Jt K γd=true
section
variable {K:m_}{h:Heap}{mg:Str->Option Value}{x q:Str}{st:Stmt}{f C T:Addr}{ps:List Str}{oc:Value}{od an:Option Addr}{osl:Array (Option Value)}{kV doc pm cdv ct:Value}{tc:Value}{td:Option Addr}{n:Nat}{ts:Array (Option Value)}
theorem NG (a:τN) (i:οx) (l:K.lookup f=some #[oc,od,.func ΘE,osl]) (lt:K.lookup T=some #[tc,td,.seq [Kw].toArray n,ts]) (c:ϐ8) (k:η0) (hb:Pf x q st ps):ME K C x q st f ps:=by
 have F:Jl K x q st f δb [Kw]:=by rw[py l];exact DM l lt c k
 refine #[ψN,F,F.binds (ws:=[]) ρl rfl λT kV doc pm an cdv ct us hl=>?_,k];obtain⟨k,h1,h2⟩:=hb T kV doc pm an cdv ct us hl;exact #[k,h1,by rw[MZ];exact h2]
end
section
variable {P:Program}{w:World}{K:m_}{mg:Str->Option Value}{base:Heap}
theorem Jl.okA {fd:γp}{N:ώ}{k:Nat}{sp:Sp} (F:υH) (S:η4)
  (hbody:∀(cdv:μ) (A:Ϟ) (outer:γ4) (s:ξ) (H:Hp) (vs:δ) (Q:VK) (E:XK),Fv k μi->sp vs H Q E →
   ∃t,Ht (Hu HV P w K mg base N qual δg f cdv A Δ s H E).nox δq t/\t { nx:=λ_ H'=>Q .non H',rt:=Q } 15e4 H)
  (len:∀vs H Q E,sp vs H Q E->vs.length=ps.length:=by intro vs H Q E h;first | (cases h;subst_vars;rfl) | ((repeat (obtain⟨_,h⟩:=h));subst_vars;rfl)):F7 P w K mg base HV (k+1) f fd ps sp:=F.ok S len hbody
end
section
variable {P:Program}{w:World}{K:m_}{mg:Str->Option Value}{base:Heap}{A:Around}{outer:List Env}{s:Shared}{H:Hp}{N ps:List Str}{scope:Scope}{fa:Addr}{q:Str}{cd:Value}{clos:List (Str × Addr)}{cvs:List (Addr × V)}{vs:List V}{us:List Value}{σ0:St}{h':Heap}{tk:Nat}
theorem Ch {s':ξ}{H':Hp}{σ':St}{env:Env}{v:V}{u:μ}{Q:VK} (C:χm) (e0:δY) (J:Inv (Mc P w K mg base N env A Δ s θ3) [] σ' H' s') (rv:ηi) (hq:ΦG->Q v (Kc cvs H')):CE Δ P w H s Q u s':=by
 have B:Un δl [] θ3 H' ύ s'.heap:=J.base
 have h:∀b,(∀v,H b≠some πX)->cvs.lookup b=none:=λb hb=>by
  cases z:cvs.lookup b with
  | none=>rfl
  | some v=>exact absurd (C.at_ b v z) (hb v)
 have g:∀b,H b=none->cvs.lookup b=none:=λb hb=>h b λv z=>by rw[hb] at z;cases z
 have j:∀b:Addr,b∉([]:List Addr):=λb=>GH
 have D:∀c v,cvs.lookup c=some v->c∉GY outer:=λc v e z=>by
  have:=e0.frf c z;rw[C.at_ c v e] at this
  show 8
 have cell:∀c v,cvs.lookup c=some v->H' c=none/\∃u,k_ v u/\s'.heap.IsCell c 15e8:=λc v e=>by
  obtain⟨⟨u,r,o,e1,e2⟩,_⟩:=(show p_ P w H ύ c ιw from e0.hok c _ (C.at_ c v e));exact #[B.free c o e1 (fm e) (j c),u,r,o,B.keep c o e1 (fm e) (D c v e) (j c),e2]
 refine #[v,Kc cvs H',J.os,J.bare,#[λb o e n hb hx=>?_,λb o e n hb hx=>?_,λb o e n hx=>?_,λb o e hx=>B.there b o e hx,λb xs e=>?_,λb o x e=>?_,λb ps e=>?_],xL J.hok ϊd (λc v e=>(cell c v e).2),rv,hq λc v e=>(cell c v e).1]
 ·exact B.keep b o e υI hb hx
 ·exact B.slot b o e υI hb hx
 ·exact(bO (g b n)).trans (B.free b o e υI hx)
 ·have z:=h b λv y=>by rw[e] at y;cases y
  exact(bO z).trans (B.tups b xs χR)
 ·have z:=h b λv y=>by rw[e] at y;cases y
  exact(bO z).trans (B.frzs b o x χR)
 ·have z:=h b λv y=>by rw[e] at y;cases y
  obtain⟨more,y⟩:=B.tbls b ps χR;exact #[more,(bO z).trans y]
theorem Ci {k:Nat}{name:Str}{params:θa}{body:Expr}{pm ctv:μ}{c':Addr}{Q:VK}{E:XK}{t:TE} (S:οV) (hr:ν2) (e0:δY) (r:ηc)
  (hf:Θf) (hc:όY) (hb:ΔF)
  (C:χm) (h0:ΩD)
  (ht:PE (Mc P w K mg base N Φ6 A Δ s θ3) body t) (hq:t σ0 θ3 (λv H'=>ΦG->Q v (Kc cvs H'))) :
  codeAny ϛ A υ6 ϊE s:=by
 have g:s.heap.NoLimit:=e0.mod.nolimit.keeps λb o e=>(e0.bs b o e).1
 have ho:s.heap.get? fa=some { cls:=.type "function",data:=.func Γj }:=(e0.hok fa _ hf).1
 have j:s.heap.CodeRec ιT q:=(e0.hok c' _ hc).1;refine TM πT ho rfl S.co S.gen rfl j ?_;rw[hb];refine Ga ?_;refine RY ωQ Ωj ύr εD
 have hk:∀b o,s.heap.get? b=some o->h'.get? b=some o:=λb o e=>by
  show 100
 refine ϋC
 have I:=DA (q:=q) (fa:=fa) (cd:=.ref c') (tk:=s.toks+(ps.zip us).length) S hr.hd e0 r C h0 hn hs;refine IT ϋD Ω5 λe s' h=>False.elim h;exact Ch C e0 J rv q
end
theorem lq {ns:γq} (h:πY):∀i,i<=ns.length->firstMet (λj=>ns.getD j 0) i=ns.take i
 | 0,_=>rfl
 | i+1,hi=>by
  rw[firstMet_succ,lq h i γ]
  unfold step_dedup
  have e:ns[i]?=some 23e5:=by rw[v_,s_ γ];rfl
  rw[if_neg,L5,e]
  ·rfl
  ·intro z
   obtain⟨x,hx,y⟩:=MW.mp z;obtain⟨j,hj⟩:=Lc hx
   have g:=(Gr.mp hj).1;rw[Kx] at g;rw[R7 γ] at hj
   have e2:=eq_of_beq y;rw[e2,← e] at hj;exact absurd ((List.getElem?_inj γ h).mp hj) γ
section
variable {X:Cx}
inductive nE (K:m_) (xs:δ) (H:Hp) (Q:VK):Prop
 | mk:∀l (ns:List Int),xs=[.ref l]->c_ K H l (ns.map V.int)->ns.Nodup->ns.length < 4000->(∀p S,H p=none->Q (.ref p) (upd H p (.set S ns.length)))->nE K xs H Q
theorem A0 (hc:γi):bI X (.type "set") (nE X.K):=by
 show 127;obtain⟨l,ns,rfl,hq,nd,hn,q⟩:=h;show 39
 show 10;obtain⟨g,rv,pl,hz⟩:=I.list hq
 have hl:g.toArray.size=ns.length:=by
  show 65
  show 33
 refine call_set_list δ3 ζ1 (zb rv) (by rw[hl];exact GU (Nat.succ_lt_succ hn) ζ) λh' tk hS k=>?_
 rw[hl,lq nd _ Θ,MC] at hS;exact #[.ref Ω,_,I.laid (t':=tk) (λb o e=>k b o εG e) Θ (show p_ Ϡ X.w _ h' _ (.set _ δ0) from hS),rfl,q _ _ I.fresh]
inductive nF (xs:δ) (H:Hp) (Q:VK):Prop
 | mk:∀p S n,xs=[.ref p]->H p=some (.set S n)->Q (.int (n:Nat)) H->nF xs H Q
theorem A1:bI X χK nF:=by
 show 282;obtain⟨p,S,n,rfl,hp,q⟩:=h;show 39
 show 10;obtain⟨o,es,ep,t,e1,e2,e3,_,_,e4,e5,e6⟩:=(show s.heap.SetOf (intKind Ϡ X.w) p S n from I.hok p _ hp);exact call_len_set e1 e2 e3 e5 (OG (Int.ofNat_lt.mpr e4) ζ) #[.int n,H,I.tok _,#[s.toks+1,by rw[e6]],q]
end
end L2
namespace My
open PySem L2 PyProof.Rows
local macro_rules
 | `(tactic| exists $f:ident $a)=>`(tactic| (refine $f $a ?_;intro u_))
 | `(tactic| exists $f:ident)=>`(tactic| (refine $f ?_;intro u_))
def z_ (i : Nat) : Stmt := PySem.Challenge.pw_spareplank_k57_a_stripe_asked.main.body.getD i ϋV
abbrev lr:Stmt:=aC ιB 0
abbrev dh:Stmt:=aC ιB 1
abbrev jw:Stmt:=aC ιB 2
abbrev ke:Stmt:=aC ιB 3
abbrev lu:Stmt:=aC ιB 4
abbrev kh:Stmt:=aC ιB 5
abbrev A7:Stmt:=z_ 35
abbrev ki:Stmt:=z_ 36
abbrev lw:Stmt:=z_ 37
abbrev lx:Stmt:=z_ 38
abbrev sw:Stmt:=z_ 39
abbrev sy:Stmt:=z_ 40
abbrev sB:Stmt:=z_ 41
abbrev nG:Stmt:=z_ 42
abbrev kj:Stmt:=aC ιC 0
abbrev ia:Stmt:=aC ιC 2
abbrev iN:Stmt:=aC ιC 3
abbrev iO:Stmt:=aC ιC 5
abbrev iP:Stmt:=aC ιC 6
abbrev iQ:Stmt:=z_ 47
abbrev iR:Stmt:=z_ 48
abbrev km:Stmt:=z_ 49
abbrev nJ:Stmt:=aC ηh 0
abbrev nK:Stmt:=aC ηh 5
abbrev gg:Stmt:=aC ηh 12
abbrev lz:Stmt:=aC ηh 6
abbrev ib:Stmt:=aC ηh 8
abbrev iS:Stmt:=aC ηh 7
abbrev ic:Stmt:=aC ηh 1
abbrev jx:Stmt:=aC ηh 2
abbrev nM:Stmt:=z_ 2
abbrev ko:Stmt:=aC εn 0
abbrev lA:Stmt:=aC εn 1
abbrev kq:Stmt:=aC εn 2
abbrev eV:Stmt:=aC εn 3
abbrev jy:Stmt:=aC εn 4
abbrev jz:Stmt:=aC εn 5
abbrev gh:Stmt:=aC εn 7
abbrev jA:Stmt:=aC εn 9
abbrev iT:Stmt:=aC εn 10
abbrev gj:Stmt:=aC εn 11
abbrev ie:Stmt:=aC εn 6
abbrev jB:Stmt:=aC εn 8
abbrev sE:Stmt:=z_ 19
abbrev iU:Stmt:=z_ 20
abbrev sH:Stmt:=z_ 21
abbrev nN:Stmt:=z_ 22
abbrev pS:Stmt:=z_ 23
abbrev kr:Stmt:=z_ 24
abbrev iV:Stmt:=z_ 25
abbrev u9:Stmt:=z_ 26
abbrev lB:Stmt:=z_ 27
abbrev iW:Stmt:=z_ 43
abbrev kt:Stmt:=aC ιC 1
abbrev lC:Stmt:=aC νq 0
abbrev ku:Stmt:=aC νq 1
abbrev kx:Stmt:=aC νq 2
abbrev iX:Stmt:=aC νq 4
abbrev jC:Stmt:=aC νq 5
abbrev ig:Stmt:=aC (z_ 57) 0
abbrev gm:Stmt:=aC (z_ 57) 1
abbrev ii:Stmt:=aC (z_ 58) 0
abbrev gq:Stmt:=aC (z_ 58) 1
abbrev fK:Stmt:=aC (z_ 58) 3
abbrev gr:Stmt:=aC (z_ 59) 0
abbrev fL:Stmt:=aC (z_ 59) 1
abbrev gu:Stmt:=aC (z_ 59) 3
abbrev nO:Stmt:=z_ 66
abbrev lE:Stmt:=z_ 67
abbrev jD:Stmt:=z_ 68
abbrev ky:Stmt:=z_ 69
abbrev lF:Stmt:=aC νr 0
abbrev im:Stmt:=aC νr 1
abbrev io:Stmt:=aC νr 3
abbrev ip:Stmt:=aC νr 5
abbrev eC:Stmt:=aC νr 6
abbrev jE:Stmt:=z_ 75
abbrev nQ:Stmt:=aC γk 0
abbrev nR:Stmt:=aC γk 1
abbrev iq:Stmt:=aC γk 2
abbrev ir:Stmt:=aC γk 3
abbrev lG:Stmt:=aC γk 4
abbrev nU:Stmt:=aC γk 7
abbrev kA:Stmt:=aC γk 14
abbrev iu:Stmt:=aC γk 19
abbrev fM:Stmt:=aC γk 26
abbrev jF:Stmt:=aC γk 9
abbrev lH:Stmt:=aC γk 11
abbrev iw:Stmt:=aC γk 12
abbrev jG:Stmt:=aC γk 13
abbrev nV:Stmt:=aC γk 15
abbrev pT:Stmt:=aC γk 16
abbrev nX:Stmt:=aC γk 17
abbrev kB:Stmt:=aC γk 18
abbrev gv:Stmt:=aC γk 20
abbrev lJ:Stmt:=aC γk 21
abbrev gw:Stmt:=aC γk 22
abbrev fN:Stmt:=aC γk 23
abbrev eW:Stmt:=aC γk 24
abbrev gy:Stmt:=aC γk 25
abbrev ix:Stmt:=z_ 29
abbrev pU:Stmt:=aC ζ4 0
abbrev nY:Stmt:=aC ζ4 1
abbrev gz:Stmt:=aC ζ4 2
abbrev jH:Stmt:=aC ζ4 3
abbrev iy:Stmt:=aC ζ4 4
abbrev sI:Stmt:=aC ζ4 7
abbrev iz:Stmt:=aC ζ4 8
abbrev eD:Stmt:=aC ζ4 9
abbrev jI:Stmt:=aC ζ4 10
abbrev gA:Stmt:=aC ζ4 11
abbrev sJ:Stmt:=z_ 78
abbrev sK:Stmt:=z_ 79
abbrev C7:Stmt:=z_ 80
abbrev xZ:Stmt:=z_ 81
abbrev yd:Stmt:=z_ 82
abbrev ye:Stmt:=z_ 83
abbrev A9:Stmt:=z_ 84
abbrev yf:Stmt:=z_ 85
abbrev yg:Stmt:=z_ 86
abbrev yj:Stmt:=z_ 87
abbrev C8:Stmt:=z_ 88
theorem QN:al ["self", "rule", "after"] ["self", "rule"] (ah lr):=y_
theorem NI:al ["self", "symbol", "after"] ["self"] (ah dh):=y_
theorem QD:al ["self", "one", "twice"] ["self", "one"] (ah jw):=y_
theorem Md:al ["self", "one", "other", "product", "doubled", "digits"] ["self", "one", "other"] (ah ke):=y_
theorem tW:al ["self", "one"] ["self", "one"] (ah lu):=y_
theorem Mh:al ["self", "one", "many", "product", "square", "digits"] ["self", "one", "many"] (ah kh):=y_
theorem QE:al ["many", "at", "some"] ["many", "at"] (ah A7):=y_
theorem qQ:al ["field", "factor", "line"] ["field", "factor", "line"] (ah ki):=y_
theorem tY:al ["one", "other"] ["one", "other"] (ah lw):=y_
theorem QO:al ["lines", "start", "place", "at"] ["lines", "start", "place"] (ah lx):=y_
theorem QM:al ["lines", "one", "other", "some"] ["lines", "one", "other"] (ah sw):=y_
theorem No:al ["field", "lines", "at", "place", "head", "some", "number", "line"] ["field", "lines", "at", "place"] (ah sy):=y_
theorem LS:al ["field", "lines", "known", "place", "some", "heads", "other", "found", "by"] ["field", "lines", "known", "place"] (ah sB):=y_
theorem Oy:al ["lines", "heads", "many", "place", "make", "head", "line"] ["lines", "heads", "many", "place"] (ah nG):=y_
theorem QQ:al ["self", "field", "many", "step"] ["self", "field", "many"] (ah kj):=y_
theorem MH:al ["self", "block", "base", "some", "rest", "at"] ["self", "block"] (ah ia):=y_
theorem NQ:al ["self", "some", "base", "block", "symbol"] ["self", "some"] (ah iN):=y_
theorem oU:al ["self", "factor", "block"] ["self", "factor", "block"] (ah iO):=y_
theorem NA:al ["self", "factors", "some", "total", "factor", "block"] ["self", "factors", "some"] (ah iP):=y_
theorem PD:al ["weights", "data", "some"] ["weights"] (ah iQ):=y_
theorem Ow:al ["field", "weights", "some", "weight", "role"] ["field", "weights"] (ah iR):=y_
theorem Px:al ["weights", "total", "line", "other"] ["weights", "total"] (ah km):=y_
theorem va:al ["self", "blocks", "weights"] ["self", "blocks", "weights"] (ah nJ):=y_
theorem vb:al ["self", "known", "role"] ["self", "known", "role"] (ah nK):=y_
theorem lL:al ["self", "role"] ["self", "role"] (ah gg):=y_
theorem tZ:al ["self", "known", "role"] ["self", "known", "role"] (ah lz):=y_
theorem MI:al ["self", "by", "row", "line", "factor", "equation", "told"] ["self", "by", "row"] (ah ib):=y_
theorem Q4:al ["self", "row", "role", "told"] ["self", "row", "role"] (ah iS):=y_
theorem mE:al ["self"] ["self"] (ah ic):=y_
theorem pV:al ["self", "total", "role"] ["self", "total", "role"] (ah jx):=y_
theorem QS:al ["code", "known", "some", "role"] ["code", "known", "some"] (ah nM):=y_
theorem qS:al ["self", "code", "ask", "costs"] ["self", "code", "ask", "costs"] (ah ko):=y_
theorem t8:al ["self", "role"] ["self", "role"] (ah lA):=y_
theorem qT:al ["self", "role"] ["self", "role"] (ah kq):=y_
theorem QG:al ["self", "some", "role"] ["self", "some"] (ah eV):=y_
theorem pW:al ["self"] ["self"] (ah jy):=y_
theorem pX:al ["self", "some"] ["self", "some"] (ah jz):=y_
theorem lM:al ["self", "some"] ["self", "some"] (ah gh):=y_
theorem QR:al ["self", "free"] ["self"] (ah jA):=y_
theorem Nj:al ["self", "some", "order", "known", "way", "role"] ["self", "some"] (ah iT):=y_
theorem lN:al ["self", "role"] ["self", "role"] (ah gj):=y_
theorem QK:al ["self", "some", "known"] ["self", "some"] (ah ie):=y_
theorem QP:al ["self", "some", "left"] ["self", "some"] (ah jB):=y_
theorem zy:al ["code", "totals", "role"] ["code", "totals", "role"] (ah sE):=y_
theorem Pe:al ["asking", "news", "code", "totals"] ["asking", "news"] (ah iU):=y_
theorem zz:al ["code", "totals", "news"] ["code", "totals", "news"] (ah sH):=y_
theorem vc:al ["code", "totals", "news"] ["code", "totals", "news"] (ah nN):=y_
theorem ML:al ["asking", "rest", "change", "ways", "some", "price", "detours", "shorter"] ["asking", "rest", "change"] (ah pS):=y_
theorem NT:al ["asking", "news", "total", "code", "line", "roles", "some"] ["asking", "news", "total"] (ah kr):=y_
theorem Nq:al ["asking", "news", "total", "code", "line", "roles", "some"] ["asking", "news", "total"] (ah iV):=y_
theorem Nf:al ["asking", "news", "totals", "by_rest", "laid", "role", "total"] ["asking", "news", "totals", "by_rest"] (ah u9):=y_
theorem LW:al ["asking", "news", "code", "totals", "rest", "change", "way", "laid", "known"] ["asking", "news"] (ah lB):=y_
theorem QL:al ["data", "sums", "weights"] ["data", "sums"] (ah iW):=y_
theorem qU:al ["self", "block"] ["self", "block"] (ah kt):=y_
theorem t9:al ["self", "held"] ["self", "held"] (ah lC):=y_
theorem qV:al ["self", "at"] ["self", "at"] (ah ku):=y_
theorem qX:al ["self"] ["self"] (ah kx):=y_
theorem oV:al ["self", "at"] ["self", "at"] (ah iX):=y_
theorem pY:al ["self", "at", "block"] ["self", "at", "block"] (ah jC):=y_
theorem mF:al ["self", "held", "cost"] ["self", "held", "cost"] (ah ig):=y_
theorem lO:al ["self"] ["self"] (ah gm):=y_
theorem mG:al ["self", "many"] ["self", "many"] (ah ii):=y_
theorem lP:al ["self", "at"] ["self", "at"] (ah gq):=y_
theorem kR:al ["self", "at", "block"] ["self", "at", "block"] (ah fK):=y_
theorem lQ:al ["self", "held"] ["self", "held"] (ah gr):=y_
theorem kT:al ["self", "at"] ["self", "at"] (ah fL):=y_
theorem lR:al ["self"] ["self"] (ah gu):=y_
theorem vd:al ["planks", "shift"] ["planks", "shift"] (ah nO):=y_
theorem ua:al ["planks", "step"] ["planks", "step"] (ah lE):=y_
theorem pZ:al ["data", "planks", "stripes"] ["data", "planks", "stripes"] (ah jD):=y_
theorem QX:al ["planks", "turns", "turn"] ["planks", "turns"] (ah ky):=y_
theorem ub:al ["self", "data", "planks", "stripes", "turns"] ["self", "data", "planks", "stripes", "turns"] (ah lF):=y_
theorem mH:al ["self", "at"] ["self", "at"] (ah im):=y_
theorem Q5:al ["self", "stripe", "role", "turn"] ["self", "stripe", "role"] (ah io):=y_
theorem mI:al ["self", "stripe"] ["self", "stripe"] (ah ip):=y_
theorem jJ:al ["self", "stripe"] ["self", "stripe"] (ah eC):=y_
theorem qc:al ["planks", "stripes", "slots"] ["planks", "stripes", "slots"] (ah jE):=y_
theorem ve:al ["self", "planks", "stripes", "slots"] ["self", "planks", "stripes", "slots"] (ah nQ):=y_
theorem vg:al ["self", "plank"] ["self", "plank"] (ah nR):=y_
theorem mJ:al ["self", "plank", "some"] ["self", "plank", "some"] (ah iq):=y_
theorem mK:al ["self", "plank", "cost"] ["self", "plank", "cost"] (ah ir):=y_
theorem uc:al ["self", "plank", "stripe"] ["self", "plank", "stripe"] (ah lG):=y_
theorem vh:al ["self", "plank", "stripe"] ["self", "plank", "stripe"] (ah nU):=y_
theorem qY:al ["self"] ["self"] (ah kA):=y_
theorem QY:al ["self", "plank", "spare"] ["self", "plank"] (ah iu):=y_
theorem kU:al ["self", "plank", "stripe"] ["self", "plank", "stripe"] (ah fM):=y_
theorem qd:al ["self", "plank"] ["self", "plank"] (ah jF):=y_
theorem ud:al ["self", "plank", "stripe"] ["self", "plank", "stripe"] (ah lH):=y_
theorem mL:al ["self"] ["self"] (ah iw):=y_
theorem Ot:al ["self", "some", "slot", "note"] ["self"] (ah jG):=y_
theorem vi:al ["self", "plank", "stripe"] ["self", "plank", "stripe"] (ah nV):=y_
theorem wO:al ["self", "plank", "stripe", "block"] ["self", "plank", "stripe", "block"] (ah pT):=y_
theorem vj:al ["self", "slot", "stripe", "pairs"] ["self", "slot", "stripe", "pairs"] (ah nX):=y_
theorem qZ:al ["self", "slot"] ["self", "slot"] (ah kB):=y_
theorem lS:al ["self"] ["self"] (ah gv):=y_
theorem ue:al ["self", "event"] ["self", "event"] (ah lJ):=y_
theorem lT:al ["self", "slot"] ["self", "slot"] (ah gw):=y_
theorem kW:al ["self", "plank"] ["self", "plank"] (ah fN):=y_
theorem jW:al ["self", "stripe"] ["self", "stripe"] (ah eW):=y_
theorem lU:al ["self", "plank", "stripe"] ["self", "plank", "stripe"] (ah gy):=y_
theorem mM:al ["code", "shape", "rack"] ["code", "shape", "rack"] (ah ix):=y_
theorem wP:al ["self", "code", "shape", "rack"] ["self", "code", "shape", "rack"] (ah pU):=y_
theorem QJ:al ["self", "stripes"] ["self"] (ah nY):=y_
theorem lV:al ["self"] ["self"] (ah gz):=y_
theorem qe:al ["self"] ["self"] (ah jH):=y_
theorem Os:al ["self", "stripe", "rack", "order", "costs"] ["self", "stripe"] (ah iy):=y_
theorem NP:al ["self", "at", "some", "plan", "stripe", "news", "first"] ["self", "at", "some"] (ah sI):=y_
theorem QW:al ["self", "at", "some", "block"] ["self", "at", "some"] (ah iz):=y_
theorem NO:al ["self", "at", "some", "news", "more", "block", "place"] ["self", "at", "some"] (ah eD):=y_
theorem QZ:al ["self", "stripe", "news", "laid"] ["self", "stripe", "news"] (ah jI):=y_
theorem LQ:al ["self", "group", "slot", "planned", "stripe", "pairs", "plank", "block"] ["self", "group"] (ah gA):=y_
theorem zA:al ["_law_script", "_law_k"] ["_law_script", "_law_k"] (ah sJ):=y_
theorem Km:al ["_law_script", "_law_cell", "_law_rule", "_law_many", "_law_sums", "_law_data", "_law_stripes", "_law_step"] ["_law_script"] (ah sK):=y_
theorem Lh:al ["_law_numbers_here", "_law_rule", "_law_many", "_law_data", "_law_sums", "_law_stripes", "_law_slots", "_law_step", "_law_code", "_law_shape"] ["_law_numbers_here"] (ah C7):=y_
theorem Q3:al ["_law_cell", "_law_k", "_law_limit_here", "_law_number"] ["_law_cell", "_law_k", "_law_limit_here"] (ah xZ):=y_
theorem MK:al ["_law_numbers_here", "_law_top", "_law_limit_here", "_law_k"] ["_law_numbers_here"] (ah yd):=y_
theorem Cj:al ["_law_role", "_law_stripe", "_law_numbers_here"] ["_law_role", "_law_stripe", "_law_numbers_here"] (ah ye):=y_
theorem PK:al ["_law_row_here", "_law_plank_here", "_law_cell", "_law_numbers_here", "_law_limit_here", "_law_rack", "_law_k"] ["_law_row_here", "_law_plank_here", "_law_cell", "_law_numbers_here", "_law_limit_here"] (ah A9):=y_
theorem Ck:al ["_law_plank_here", "_law_cell", "_law_stripe", "_law_numbers_here"] ["_law_plank_here", "_law_cell", "_law_stripe", "_law_numbers_here"] (ah yf):=y_
theorem Cm:al ["_law_found", "_law_due"] ["_law_found", "_law_due"] (ah yg):=y_
theorem Ny:al ["_law_row_here", "_law_asking", "_law_role", "_law_stripe", "_law_plank_here", "_law_price_here", "_law_many", "_law_again", "_law_found", "_law_done"] ["_law_row_here", "_law_asking", "_law_role", "_law_stripe", "_law_plank_here", "_law_price_here"] (ah yj):=y_
theorem JI:al ["_law_script", "_law_numbers_here", "_law_limit_here", "_law_row_here", "_law_size", "_law_planks", "_law_plank_here", "_law_stripe", "_law_asking", "_law_prices", "_law_role", "_law_k", "_law_again"] ["_law_script"] (ah C8):=y_
set_option genInjectivity false in
structure q_ where
 (C_Field C_Blocks C_Code C_Asking C_Plank C_SlowPlank C_LostPlank C_SparePlank C_Shape C_Rack C_Row f0 f1 f2 f3 f4 f5 f6 f7 f8 f9 f10 f11 f12 f13 f14 f15 f16 f17 f18 f19 f20 f21 f22 f23 f24 f25 f26 f27 f28 f29 f30 f31 f32 f33 f34 f35 f36 f37 f38 f39 f40 f41 f42 f43 f44 f45 f46 f47 f48 f49 f50 f51 f52 f53 f54 f55 f56 f57 f58 f59 f60 f61 f62 f63 f64 f65 f66 f67 f68 f69 f70 f71 f72 f73 f74 f75 f76 f77 f78 f79 f80 f81 f82 f83 f84 f85 f86 f87 f88 f89 f90 f91 f92 f93 f94 f95 f96 f97 f98 f99 f100 f101 f102 f103 f104 f105 f106 f107 f108 f109 f110 f111 f112 f113 f114 f115 f116 f117 f118 f119 f120 f121 c38 t38 c47 t47 c105 t105:Addr)
 (t_LEAST_RULE t_GREATEST_RULE t_MOST_SYMBOLS t_MOST_ROLES t_MOST_SUMS_codes t_LEAST_PLANKS t_MOST_PLANKS t_MOST_SUMS_shapes t_MOST_STRIPES t_MOST_TURNS t_MOST_SLOTS t_LEAST_COST t_MOST_COST:Tok)
structure O1 (K:ηl) (mg:Ϝ) (a:q_):Prop where
 m_Field:mg "Field" = some (.ref γA)
 A07:HN K γA
 Ab3:f_ K γA "rule"
 Aa3:f_ K γA "width"
 A33:f_ K γA "last"
 Ae7:Mk K γA a.f0
 m_Blocks:mg "Blocks" = some (.ref γH)
 A09:HN K γH
 A36:f_ K γH "field"
 Aa0:f_ K γH "many"
 A63:f_ K γH "limit"
 Ae6:Mk K γH a.f14
 m_Code:mg "Code" = some (.ref γb)
 A02:HN K γb
 A37:f_ K γb "blocks"
 A58:f_ K γb "sums"
 A22:f_ K γb "data"
 A31:f_ K γb "roles"
 A47:f_ K γb "lines"
 Ae5:Mk K γb a.f22
 m_Asking:mg "Asking" = some (.ref γ1)
 A01:HN K γ1
 A19:f_ K γ1 "code"
 A93:f_ K γ1 "ask"
 A24:f_ K γ1 "costs"
 A25:f_ K γ1 "row"
 A27:f_ K γ1 "asked"
 Ad3:Mk K γ1 a.f31
 m_Plank:mg "Plank" = some οG
 A12:HN K δN
 A41:f_ K δN "held"
 A91:Mk K δN a.f54
 m_SlowPlank:mg "SlowPlank" = some οg
 A17:HN K εu
 A79:f_ K εu "held"
 Ab2:f_ K εu "cost"
 Ae9:Mk K εu a.f59
 m_LostPlank:mg "LostPlank" = some ζZ
 A20:HN K γW
 Ab0:f_ K γW "held"
structure PQ (K:ηl) (mg:Ϝ) (a:q_):Prop where
 Ad9:Mk K γW a.f61
 m_SparePlank:mg "SparePlank" = some ζV
 A11:HN K γI
 A78:f_ K γI "held"
 A59:f_ K γI "mark"
 Ac9:Mk K γI a.f64
 m_Shape:mg "Shape" = some (.ref γC)
 A08:HN K γC
 A67:f_ K γC "data"
 A64:f_ K γC "planks"
 A90:f_ K γC "stripes"
 A80:f_ K γC "size"
 A74:f_ K γC "turns"
 Ac7:Mk K γC a.f71
 m_Rack:mg "Rack" = some (.ref ό)
 A00:HN K ό
 A75:f_ K ό "planks"
 A51:f_ K ό "stripes"
 A62:f_ K ό "slots"
 A05:f_ K ό "shelf"
 A65:f_ K ό "slate"
 A77:f_ K ό "left"
 A61:f_ K ό "gone"
 A72:f_ K ό "done"
 Ac6:Mk K ό a.f77
 m_Row:mg "Row" = some (.ref γn)
 A04:HN K γn
 A84:f_ K γn "code"
 A56:f_ K γn "shape"
 A15:f_ K γn "rack"
 Af0:Mk K γn a.f101
 x0:MD K γA "__init__" "Field.__init__" lr a.f0 ["self", "rule"]
 x1:MD K γA "doublings_of_one" "Field.doublings_of_one" dh a.f1 ["self"]
 x2:MD K γA "double" "Field.double" jw a.f2 ["self", "one"]
 x3:MD K γA "times" "Field.times" ke a.f3 ["self", "one", "other"]
 x4:MD K γA "back" "Field.back" lu a.f4 ["self", "one"]
 x5:MD K γA "power" "Field.power" kh a.f5 ["self", "one", "many"]
 x6:GD K mg "unit" A7 a.f6 ["many", "at"]
 x7:GD K mg "scaled_line" ki a.f7 ["field", "factor", "line"]
 x8:GD K mg "sum_of_two" lw a.f8 ["one", "other"]
structure PY (K:ηl) (mg:Ϝ) (a:q_):Prop where
 x9:GD K mg "first_with" lx a.f9 ["lines", "start", "place"]
 x10:GD K mg "swapped" sw a.f10 ["lines", "one", "other"]
 x11:GD K mg "cleared" sy a.f11 ["field", "lines", "at", "place"]
 x12:GD K mg "told_of" sB a.f12 ["field", "lines", "known", "place"]
 x13:GD K mg "free_make" nG a.f13 ["lines", "heads", "many", "place"]
 x14:MD K γH "__init__" "Blocks.__init__" kj a.f14 ["self", "field", "many"]
 x15:MD K γH "symbols" "Blocks.symbols" ia a.f15 ["self", "block"]
 x16:MD K γH "joined" "Blocks.joined" iN a.f16 ["self", "some"]
 x17:MD K γH "scaled" "Blocks.scaled" iO a.f17 ["self", "factor", "block"]
 x18:MD K γH "summed" "Blocks.summed" iP a.f18 ["self", "factors", "some"]
 x19:GD K mg "check_lengths" iQ a.f19 ["weights"]
 x20:GD K mg "check_weights" iR a.f20 ["field", "weights"]
 x21:GD K mg "equation_of" km a.f21 ["weights", "total"]
 x22:MD K γb "__init__" "Code.__init__" nJ a.f22 ["self", "blocks", "weights"]
 x23:MD K γb "told" "Code.told" nK a.f23 ["self", "known", "role"]
 x24:MD K γb "check_role" "Code.check_role" gg a.f24 ["self", "role"]
 x25:MD K γb "fixes" "Code.fixes" lz a.f25 ["self", "known", "role"]
 x26:MD K γb "summed_by" "Code.summed_by" ib a.f26 ["self", "by", "row"]
 x27:MD K γb "reckoned" "Code.reckoned" iS a.f27 ["self", "row", "role"]
 x28:MD K γb "equations" "Code.equations" ic a.f28 ["self"]
 x29:MD K γb "touches" "Code.touches" jx a.f29 ["self", "total", "role"]
 x30:GD K mg "fixes_all" nM a.f30 ["code", "known", "some"]
 x31:MD K γ1 "__init__" "Asking.__init__" ko a.f31 ["self", "code", "ask", "costs"]
 x32:MD K γ1 "may" "Asking.may" lA a.f32 ["self", "role"]
 x33:MD K γ1 "take" "Asking.take" kq a.f33 ["self", "role"]
 x34:MD K γ1 "take_along" "Asking.take_along" eV a.f34 ["self", "some"]
 x35:MD K γ1 "known" "Asking.known" jy a.f35 ["self"]
 x36:MD K γ1 "fixes" "Asking.fixes" jz a.f36 ["self", "some"]
 x37:MD K γ1 "cost_sum" "Asking.cost_sum" gh a.f37 ["self", "some"]
 x38:MT K γ1 "order" "Asking.order" jA a.f38 ["self"] a.c38 ζ8
 x39:MD K γ1 "detour" "Asking.detour" iT a.f39 ["self", "some"]
 x40:MD K γ1 "block_of" "Asking.block_of" gj a.f40 ["self", "role"]
 x41:MD K γ1 "unfixed" "Asking.unfixed" ie a.f41 ["self", "some"]
 x42:MD K γ1 "price" "Asking.price" jB a.f42 ["self", "some"]
 x43:GD K mg "touched" sE a.f43 ["code", "totals", "role"]
 x44:GD K mg "sums_to_write" iU a.f44 ["asking", "news"]
 x45:GD K mg "rest_of" sH a.f45 ["code", "totals", "news"]
 x46:GD K mg "change_of" nN a.f46 ["code", "totals", "news"]
 x47:GT K mg "next_way" pS a.f47 ["asking", "rest", "change"] a.c47 γZ
 x48:GD K mg "sum_by_rest" kr a.f48 ["asking", "news", "total"]
structure Ph (K:ηl) (mg:Ϝ) (a:q_):Prop where
 x49:GD K mg "sum_by_change" iV a.f49 ["asking", "news", "total"]
 x50:GD K mg "to_lay" u9 a.f50 ["asking", "news", "totals", "by_rest"]
 x51:GD K mg "new_blocks" lB a.f51 ["asking", "news"]
 x52:GD K mg "plain_weights" iW a.f52 ["data", "sums"]
 x53:MD K γH "good" "Blocks.good" kt a.f53 ["self", "block"]
 x54:MD K δN "__init__" "Plank.__init__" lC a.f54 ["self", "held"]
 x55:MD K δN "there" "Plank.there" ku a.f55 ["self", "at"]
 x56:MD K δN "price" "Plank.price" kx a.f56 ["self"]
 x57:MD K δN "look_at" "Plank.look_at" iX a.f57 ["self", "at"]
 x58:MD K δN "lay_at" "Plank.lay_at" jC a.f58 ["self", "at", "block"]
 x59:MD K εu "__init__" "SlowPlank.__init__" ig a.f59 ["self", "held", "cost"]
 x60:MD K εu "price" "SlowPlank.price" gm a.f60 ["self"]
 x61:MD K γW "__init__" "LostPlank.__init__" ii a.f61 ["self", "many"]
 x62:MD K γW "there" "LostPlank.there" gq a.f62 ["self", "at"]
 x63:MD K γW "lay_at" "LostPlank.lay_at" fK a.f63 ["self", "at", "block"]
 x64:MD K γI "__init__" "SparePlank.__init__" gr a.f64 ["self", "held"]
 x65:MD K γI "there" "SparePlank.there" fL a.f65 ["self", "at"]
 x66:MD K γI "move" "SparePlank.move" gu a.f66 ["self"]
 x67:GD K mg "even_turn" nO a.f67 ["planks", "shift"]
 x68:GD K mg "even_turns" lE a.f68 ["planks", "step"]
 x69:GD K mg "check_counts" jD a.f69 ["data", "planks", "stripes"]
 x70:GD K mg "check_turns" ky a.f70 ["planks", "turns"]
 x71:MD K γC "__init__" "Shape.__init__" lF a.f71 ["self", "data", "planks", "stripes", "turns"]
 x72:MD K γC "place_of" "Shape.place_of" im a.f72 ["self", "at"]
 x73:MD K γC "plank_of" "Shape.plank_of" io a.f73 ["self", "stripe", "role"]
 x74:MD K γC "order_of" "Shape.order_of" ip a.f74 ["self", "stripe"]
 x75:MD K γC "check_stripe" "Shape.check_stripe" eC a.f75 ["self", "stripe"]
 x76:GD K mg "check_bounds" jE a.f76 ["planks", "stripes", "slots"]
 x77:MD K ό "__init__" "Rack.__init__" nQ a.f77 ["self", "planks", "stripes", "slots"]
 x78:MD K ό "lose" "Rack.lose" nR a.f78 ["self", "plank"]
 x79:ME K ό "put_spare" "Rack.put_spare" iq a.f79 ["self", "plank", "some"]
 x80:MD K ό "make_slow" "Rack.make_slow" ir a.f80 ["self", "plank", "cost"]
 x81:MD K ό "spoil" "Rack.spoil" lG a.f81 ["self", "plank", "stripe"]
 x82:MD K ό "peek" "Rack.peek" nU a.f82 ["self", "plank", "stripe"]
 x83:MD K ό "events" "Rack.events" kA a.f83 ["self"]
 x84:MD K ό "move_mark" "Rack.move_mark" iu a.f84 ["self", "plank"]
 x85:MD K ό "check_there" "Rack.check_there" fM a.f85 ["self", "plank", "stripe"]
 x86:MD K ό "cost_of" "Rack.cost_of" jF a.f86 ["self", "plank"]
 x87:MD K ό "there" "Rack.there" lH a.f87 ["self", "plank", "stripe"]
 x88:MD K ό "has_power" "Rack.has_power" iw a.f88 ["self"]
structure PJ (K:ηl) (mg:Ϝ) (a:q_):Prop where
 x89:MD K ό "intents" "Rack.intents" jG a.f89 ["self"]
 x90:MD K ό "look" "Rack.look" nV a.f90 ["self", "plank", "stripe"]
 x91:MD K ό "lay" "Rack.lay" pT a.f91 ["self", "plank", "stripe", "block"]
 x92:MD K ό "note" "Rack.note" nX a.f92 ["self", "slot", "stripe", "pairs"]
 x93:MD K ό "strike" "Rack.strike" kB a.f93 ["self", "slot"]
 x94:MD K ό "need_write" "Rack.need_write" gv a.f94 ["self"]
 x95:MD K ό "spend" "Rack.spend" lJ a.f95 ["self", "event"]
 x96:MD K ό "check_slot" "Rack.check_slot" gw a.f96 ["self", "slot"]
 x97:MD K ό "check_plank" "Rack.check_plank" fN a.f97 ["self", "plank"]
 x98:MD K ό "check_stripe" "Rack.check_stripe" eW a.f98 ["self", "stripe"]
 x99:MD K ό "check_both" "Rack.check_both" gy a.f99 ["self", "plank", "stripe"]
 x100:GD K mg "check_together" ix a.f100 ["code", "shape", "rack"]
 x101:MD K γn "__init__" "Row.__init__" pU a.f101 ["self", "code", "shape", "rack"]
 x102:MD K γn "ready" "Row.ready" nY a.f102 ["self"]
 x103:MD K γn "check_power" "Row.check_power" gz a.f103 ["self"]
 x104:MD K γn "standing" "Row.standing" jH a.f104 ["self"]
 x105:MT K γn "asking" "Row.asking" iy a.f105 ["self", "stripe"] a.c105 εF
 x106:MD K γn "put" "Row.put" sI a.f106 ["self", "at", "some"]
 x107:MD K γn "check_news" "Row.check_news" iz a.f107 ["self", "at", "some"]
 x108:MD K γn "news_by_stripe" "Row.news_by_stripe" eD a.f108 ["self", "at", "some"]
 x109:MD K γn "pairs_of" "Row.pairs_of" jI a.f109 ["self", "stripe", "news"]
 x110:MD K γn "write_group" "Row.write_group" gA a.f110 ["self", "group"]
 x111:GD K mg "_law_cell_at" sJ a.f111 ["_law_script", "_law_k"]
 x112:GD K mg "_law_numbers" sK a.f112 ["_law_script"]
 x113:GD K mg "_law_row" C7 a.f113 ["_law_numbers_here"]
 x114:GD K mg "_law_block" xZ a.f114 ["_law_cell", "_law_k", "_law_limit_here"]
 x115:GD K mg "_law_limit" yd a.f115 ["_law_numbers_here"]
 x116:GD K mg "_law_plank" ye a.f116 ["_law_role", "_law_stripe", "_law_numbers_here"]
 x117:GD K mg "_law_fate" A9 a.f117 ["_law_row_here", "_law_plank_here", "_law_cell", "_law_numbers_here", "_law_limit_here"]
 x118:GD K mg "_law_price" yf a.f118 ["_law_plank_here", "_law_cell", "_law_stripe", "_law_numbers_here"]
 x119:GD K mg "_law_alike" yg a.f119 ["_law_found", "_law_due"]
 x120:GD K mg "_law_taken" yj a.f120 ["_law_row_here", "_law_asking", "_law_role", "_law_stripe", "_law_plank_here", "_law_price_here"]
 x121:GD K mg "law" C8 a.f121 ["_law_script"]
 me_SlowPlank__there:Hw K εu "there" a.f55
 me_SlowPlank__look_at:Hw K εu "look_at" a.f57
 me_SlowPlank__lay_at:Hw K εu "lay_at" a.f58
 me_LostPlank__price:Hw K γW "price" a.f56
 me_LostPlank__look_at:Hw K γW "look_at" a.f57
 me_SparePlank__price:Hw K γI "price" a.f56
 me_SparePlank__look_at:Hw K γI "look_at" a.f57
structure Pd (K:ηl) (mg:Ϝ) (a:q_):Prop where
 me_SparePlank__lay_at:Hw K γI "lay_at" a.f58
 uc_Plank:NR K δN "__init__" a.f54
 ty_Plank:JN K δN
 ty_SlowPlank:JN K εu
 ty_LostPlank:JN K γW
 ty_SparePlank:JN K γI
 ki_LostPlank_LostPlank:W.kitOne K ζZ ζZ=some true
 ki_SparePlank_SparePlank:W.kitOne K ζV ζV=some true
 kn_Plank_LostPlank:W.kitOne K οG ζZ=some τ
 kn_Plank_SparePlank:W.kitOne K οG ζV=some τ
 kn_SlowPlank_LostPlank:W.kitOne K οg ζZ=some τ
 kn_SlowPlank_SparePlank:W.kitOne K οg ζV=some τ
 kn_LostPlank_SparePlank:W.kitOne K ζZ ζV=some τ
 kn_SparePlank_LostPlank:W.kitOne K ζV ζZ=some τ
 kt_Plank:W.kitAny K οG [.ref γW,.ref γI]=some τ
 kt_SlowPlank:W.kitAny K οg [.ref γW,.ref γI]=some τ
 kt_LostPlank:W.kitAny K ζZ [.ref γW,.ref γI]=some true
 kt_SparePlank:W.kitAny K ζV [.ref γW,.ref γI]=some true
 A66:mg "zip" = none
 A06:mg "range" = none
 A03:mg "len" = none
 A18:mg "list" = none
 A38:mg "enumerate" = none
 Ac8:mg "reversed" = none
 A71:mg "any" = none
 Ae1:mg "sum" = none
 A32:mg "sorted" = none
 Ad0:mg "all" = none
 A86:mg "min" = none
 A26:mg "isinstance" = none
 Af3:mg "int" = none
 Af2:mg "bool" = none
 Ae0:mg "set" = none
 Ae8:mg "LEAST_RULE" = some (.int 16 a.t_LEAST_RULE)
 Ad7:mg "GREATEST_RULE" = some (.int 511 a.t_GREATEST_RULE)
 Ae2:mg "MOST_SYMBOLS" = some (.int 16 a.t_MOST_SYMBOLS)
 Ad4:mg "MOST_ROLES" = some (.int 8 a.t_MOST_ROLES)
 Af1:mg "MOST_SUMS_codes" = some (.int 2 a.t_MOST_SUMS_codes)
 A89:mg "LEAST_PLANKS" = some (.int 2 a.t_LEAST_PLANKS)
 A88:mg "MOST_PLANKS" = some (.int 8 a.t_MOST_PLANKS)
structure Pq (K:ηl) (mg:Ϝ) (a:q_):Prop where
 Ad2:mg "MOST_SUMS_shapes" = some (.int 2 a.t_MOST_SUMS_shapes)
 Ab9:mg "MOST_STRIPES" = some (.int 32 a.t_MOST_STRIPES)
 Ad1:mg "MOST_TURNS" = some (.int 16 a.t_MOST_TURNS)
 Ac0:mg "MOST_SLOTS" = some (.int 8 a.t_MOST_SLOTS)
 Ad6:mg "LEAST_COST" = some (.int 2 a.t_LEAST_COST)
 Ac3:mg "MOST_COST" = some (.int 9 a.t_MOST_COST)
structure w_ (K:ηl) (mg:Ϝ) (a:q_):Prop extends O1 K mg a,PQ K mg a,PY K mg a,Ph K mg a,PJ K mg a,Pd K mg a,Pq K mg a
structure Tb (base:Heap) (mg:Ϝ) (a:q_):Prop where
 Ae3:base.BuiltinsAt mg ζ8
 Ac1:mainGlobals≠a.t38
 Ac5:base.BuiltinsAt mg γZ
 Ac2:mainGlobals≠a.t47
 Ad8:base.BuiltinsAt mg εF
 Ad5:mainGlobals≠a.t105
 A45:a.t38≠a.t47
 Ae4:a.t38≠a.t105
 Ac4:a.t47≠a.t105
variable {P:Program}{wo:World}{K:m_}{mg:Str->Option Value}{base:Heap}{a:q_}
def ff (r w:Nat):List 12e2:=[("rule",.int r),("width",.int w),("last",.int ((2 ^ w - 1:Nat):Int))]
theorem DN (r w:Nat):(ff r w).lookup ("rule" : Str)=some (.int r):=rfl
theorem fq (r w:Nat):(ff r w).lookup ("last" : Str)=some 160e0:=rfl
def FH (C:Addr) (H:Hp) (p:Addr) (r w:Nat):Prop:=∃dx,H p=some (.ins C dx (ff r w))
variable {H H':Hp}{p:Addr}{r w:Nat}
theorem FH.same {C:Addr} (h:FH C H p r w) (s:γN):FH C H' p r w:=let ⟨dx,e⟩:=h;ώC
inductive jX (a:q_) (vs:δ) (H:Hp) (Q:VK) (E_3:XK):Prop
 | mk:∀(p:Addr) (r w x:Nat),vs=[.ref p,.int x]->FH a.C_Field H p r w->x < 2 ^ w->Q (.int (GF.GQ r w x:Nat)) H->jX a vs H Q E_3
theorem iY (T:θ):x_ P wo K mg base 1 a.f2 ["self", "one"] (jX a):=by
 refine T.x2.F.okA (k:=0) QD ι
 ·obtain⟨p,r,w,x,rfl,⟨dx,hF⟩,hx,k⟩:=h
  show 0
  exists xc (ar (i:=2) QD.nd rfl 0e2 ώ3)
  show 1;refine xi (am b7 Ψ ϟ υ) ?_
  exists xl (aA (ay jn Ψ ϟ))
  show 3
  show 51
  refine #[_,rfl,_,_,rfl,rfl,.inl δh,?_]
  refine #[_,rfl,_,rfl,p,_,_,_,_,rfl,hF,γr,ηo,fq r w,_,_,rfl,rfl,_,rfl,?_]
  have hp:0 < 2 ^ w:=KJ w;show 101
  ·have h':=of_decide_eq_true h
   refine #[_,rfl,_,rfl,p,_,_,_,_,rfl,hF,γr,T.Ab3,DN r w,_,_,rfl,rfl,?_]
   have e:Mv μV (r:Int)=((GF.GQ r w x:Nat):Int):=by
    have e0:μV=((2 * x:Nat):Int):=by omega
    rw[e0,dE];unfold GF.GQ;rw[if_pos γ]
   show Q (.int (Mv μV (r:Int))) H
   rw[e];exact k
  ·have h':¬ (((2 ^ w - 1:Nat):Int) < 2 * (x:Int)):=λz=>h μK
   show 26
   have e:μV=((GF.GQ r w x:Nat):Int):=by
    unfold GF.GQ;show 63
    omega
   show Q (.int μV) H
   rw[e];exact k
inductive ym (a:q_) (vs:δ) (H:Hp) (Q:VK) (E_3:XK):Prop
 | mk:∀(p:Addr) (r w x y:Nat),vs=[.ref p,.int x,.int y]->FH a.C_Field H p r w->GF.F4 r w->x < 2 ^ w->Q (.int (GF.tm r w x y:Nat)) H->ym a vs H Q E_3
theorem dG (T:θ):x_ P wo K mg base 2 a.f3 ["self", "one", "other"] (ym a):=by
 have j:x_ P wo K mg base 1 a.f2 ["self", "one"] (jX a):=iY T
 refine T.x3.F.okA (k:=1) Md ι
 ·obtain⟨p,r,w,x,y,rfl,hF,R,hx,k⟩:=h
  show 0
  exists xc (ar (i:=3) ιK rfl 0e2 ai)
  exists xc (ar (i:=4) ιK rfl 0e2 ω)
  exists xc (ar (i:=5) ιK rfl 0e2 Ψ)
  show 322
  exists xl (ar (i:=3) ιK rfl 0e2 (ay jn ϐ γv))
  show 3
  exists xc (ar (i:=4) ιK rfl 0e2 (ao ο γr T.x2.me j hr.u T.x2.b .nil aj ζL))
  exists xl (ar (i:=5) ιK rfl 0e2 ώ4)
  show 5
  show 27
  refine χ8
  refine⟨λm σ H'=>∃f d g:Nat,g=m/\σ=[some γR,some (.int x),some (.int y),some (.int f),some (.int d),some (.int g)]/\H'=H/\d < 2 ^ w/\f ^^^ GF.tm r w d g=GF.tm r w x y,
   ⟨_,0,x,y,rfl,rfl,rfl,hx,Jr _⟩,?_⟩
  rintro m σ H' ⟨f,d,g,rfl,rfl,rfl,hd,D⟩;show 323
  ·have hg:0 < g:=by
    show 324
   have hm:ϑE=((g % 2:Nat):Int):=by omega
   have O:((g:Int) / 2)=((g / 2:Nat):Int):=by omega
   have step:=GF.FI (r:=r) (w:=w) d g;refine ξd
   refine b_ πb πb
   ·have J:g % 2=1:=by
     show 325
    refine Ω7;show 326
    refine #[g / 2,P9 hg ζ,f ^^^ d,GF.GQ r w d,g / 2,rfl,?_,rfl,GF.Gz R hd,?_]
    ·show [some (V.ref p),some (V.int x),some (V.int y),some (V.int (Mv f d)),some ϊG,some ό2]=_
     rw[dE,O]
    ·rw[<- D,step,if_pos J,KO]
   ·have J:¬ g % 2=1:=by
     intro z
     apply h1
     apply decide_eq_true
     show V.int ϑE=V.int 1
     congr 1
     omega
    show 326
    refine #[g / 2,P9 hg ζ,f,GF.GQ r w d,g / 2,rfl,?_,rfl,GF.Gz R hd,?_]
    ·show [some (V.ref p),some (V.int x),some (V.int y),some (V.int f),some ϊG,some ό2]=_
     rw[O]
    ·rw[<- D,step,if_neg J,Jr]
  ·have hg:g=0:=by
    have:¬ ((0:Int) < g):=λz=>h μK;omega
   subst hg;rw[ζ9,Js] at D;show 26
   show Q ϐX H'
   rw[D];exact k
inductive jj (a:q_) (vs:δ) (H:Hp) (Q:VK) (E_3:XK):Prop
 | mk:∀(p:Addr) (r w:Nat),vs=[.ref p]->FH a.C_Field H p r w->GF.Good r w->Q (.int ((2 ^ w - 1:Nat):Int)) H->jj a vs H Q E_3
theorem gK (T:θ):x_ P wo K mg base 2 a.f1 ["self"] (jj a):=by
 have g:x_ P wo K mg base 1 a.f2 ["self", "one"] (jX a):=iY T
 refine T.x1.F.okA (k:=1) NI ι
 ·obtain⟨p,r,w,rfl,hF,R,k⟩:=h
  show 327
  show 0
  exists xc (ar (i:=1) NI.nd rfl 0e2 (ao ο γr T.x2.me g hr.u T.x2.b .nil aj νE))
  exists xc (ar (i:=2) NI.nd rfl 0e2 ai)
  show 1;refine xw Ϙ (am c4 ω ai υ) ?_
  exists xc (ar (i:=1) NI.nd rfl 0e2 (ao ο γr T.x2.me g hr.u T.x2.b .nil aj γ8))
  exists xl (Eo (i:=2) NI.nd rfl 0e2 ai zV)
  show 5
  show 51
  refine #[_,rfl,p,dx,_,rfl,j,rfl,p,r,w,1,rfl,hF,GF.G2 R.w1,?_];refine #[λm σ H'=>∃n:Nat,m=2 ^ w - 1 - n/\σ=[some γR,some (.int (GF.it r w n:Nat)),some ηe]/\H'=H/\1<=n/\n<=2 ^ w - 1,#[_,1,rfl,rfl,rfl,B_ _,R.last1],?_];rintro m σ H' ⟨n,rfl,rfl,rfl,h1,hn⟩;show 52;refine b_ ξA ε1
  ·have G:GF.it r w n≠1:=by
    intro z;rw[z] at h;exact absurd h ζ
   have J:n < 2 ^ w - 1:=Nat.lt_of_le_of_ne hn λz=>G (by rw[z];exact R.back)
   refine #[_,rfl,p,dx,_,rfl,j,rfl,_,rfl,p,r,w,_,rfl,hF,GF.Ke R.rule R.w1 n,?_];refine #[_,rfl,_,_,rfl,rfl,?_];exact #[2 ^ w - 1 - (n+1),by omega,n+1,rfl,rfl,rfl,by omega,by omega]
  ·have he:GF.it r w n=1:=by
    refine Classical.byContradiction λz=>h ?_
    have:¬ 153e1:=λq=>z (by have:=V.int.inj q;omega)
    show (!decide ΨR)=true
    rw[decide_eq_false this];rfl
   have D:n=2 ^ w - 1:=by
    refine Classical.byContradiction λz=>R.first n h1 γ he
   subst D;exact #[_,rfl,k]
inductive n9 (a:q_) (vs:δ) (H:Hp) (Q:VK) (E_3:XK):Prop
 | mk:∀(p dx:Addr) (r w:Nat),vs=[.ref p,.int r]->H p=some (.ins a.C_Field dx [])->GF.Good r w->Q .non (upd H p (.ins a.C_Field dx (ff r w)))->n9 a vs H Q E_3
theorem uf (T:θ):x_ P wo K mg base 3 a.f0 ["self", "rule"] (n9 a):=by
 have g:x_ P wo K mg base 2 a.f1 ["self"] (jj a):=gK T
 refine T.x0.F.okA (k:=2) QN ι
 ·obtain⟨p,dx,r,w,rfl,hp,R,k⟩:=h
  show 0
  show 1;refine xi (PW.pt (aY (am bq ω (bg (v:=.int 16) rfl T.Ae8 ϊ) υ) (aY (am b7 ω (bg (v:=.int 511) rfl T.Ad7 ϊ) υ) (aS μo)))) ?_
  show 4
  show 3
  show 41
  exists xc (aQ ο (ay g7 (An PySem.F.plainAttrs_int PyProof.Rows.slot_int_bit_length PyProof.Rows.type_int_bit_length Aw ω) ai) rfl)
  exists xc (aQ ο (ay g7 (ay Er ai ϟ) ai) rfl)
  exists xc (ar (i:=2) QN.nd rfl 0e2 (aW ο γr T.x1.me g hr.u T.x1.b .nil aj))
  show 7;refine xi (am c4 Ψ ϟ υ) ?_
  show 4
  show 3
  have D:=R.lo16
  have j:=R.hi511
  have G:=R.odd;show 18
  show 18
  refine ξd
  refine b_ ΘJ ν
  refine #[_,rfl,_,rfl,p,γA,dx,_,rfl,hp,γr,T.Ab3,ζ,?_]
  refine #[_,rfl,rfl,_,rfl,rfl,_,_,rfl,rfl,_,rfl,p,γA,dx,_,rfl,ac,γr,T.Aa3,ηJ,?_]
  have ew:((P_ (r:Int):Nat):Int) - 1=(w:Int):=by
   rw[wK R.rule.lo R.rule.hi];omega
  show 9;rw[ew,bb];refine #[_,rfl,p,_,_,_,_,rfl,ac,γr,T.Aa3,rfl,_,_,rfl,rfl,#[by omega,by have:=R.w8;omega,by decide],_,_,rfl,rfl,?_]
  refine #[_,rfl,p,γA,dx,_,rfl,ac,γr,ηo,ηK,?_]
  have el:(1:Int) * 2 ^ ((w:Int)).toNat - 1=((2 ^ w - 1:Nat):Int):=by
   have:((w:Int)).toNat=w:=by omega
   rw[this,Int.one_mul]
   have h1:0 < 2 ^ w:=KJ w
   have h2:((2 ^ w:Nat):Int)=(2:Int) ^ w:=by simp
   omega
  show 9;rw[el,bb]
  have hF:FH γA (upd H p (.ins γA dx (ff r w))) p r w:=#[dx,ac]
  have ef:FD "last" 160e0 (FD "width" (.int (w:Int)) (FD "rule" (.int (r:Int)) []))=ff r w:=rfl
  rw[ef];refine #[_,rfl,p,dx,_,rfl,ac,rfl,p,r,w,rfl,hF,R,?_];refine #[_,rfl,_,rfl,p,_,_,_,_,rfl,ac,γr,ηo,fq r w,rfl,_,rfl,?_];refine b_ ε1 (λ_=>k);exact absurd h ϒ
variable {o:HO}
theorem a_.new (h:ρ0):a_ H (upd H p o):=λb u e=>by rw[ae (aq e h)];exact e
def cell (ns:γq) (k:Nat):Int:=ns.getD k 0
theorem Ml {c:Bool}{A B:Prop} (hf:¬ c=true->B) (ht:c=true->A):if c=true then A else B:=by
 by_cases h:c=true
 ·rw[if_pos h];exact ht h
 ·rw[if_neg h];exact hf h
inductive Ba (K:m_) (vs:δ) (H:Hp) (Q:VK) (E_3:XK):Prop
 | mk:∀(s:Addr) (ns:List Int) (k:Nat),vs=[.ref s,.int k]->c_ K H s (ns.map V.int)->Q (.int (cell ns k)) H->Ba K vs H Q E_3
theorem cC (T:θ):x_ P wo K mg base 1 a.f111 ["_law_script", "_law_k"] (Ba K):=by
 refine T.x111.F.okA (k:=0) zA ι
 ·obtain⟨p,ns,k,rfl,hS,q⟩:=h
  show 0
  show 1;refine xi (am bq ω νW υ) ?_
  exists xl (aA τO)
  show 3
  show 152
  refine #[_,rfl,_,rfl,p,_,rfl,.inl hS,_,_,rfl,rfl,_,rfl,?_];show 101
  ·have hk:k < ns.length:=by
    have:=of_decide_eq_true h;show 328
   have e:15e1[k]?=some (V.int (cell ns k)):=by
    unfold cell;rw[FM,v_,s_ hk];rfl
   exact #[_,rfl,_,rfl,p,_,_,_,rfl,rfl,hS,aB e,q]
  ·have hk:ns.length<=k:=by
    have:¬ ((k:Int) < ((ns.map δp).length:Nat)):=λz=>h μK;show 328
   have e:cell ns k=0:=by
    unfold cell;rw[v_,Hj hk];rfl
   show 145
def KS:List Nat:=[19,25,37,59,67,103,137,203,285,355,425,501]
theorem EE:∀i,i < 12->∃j,j < 48/\GF.HM.getD j 19=KS.getD i 0:=by decide
theorem Cn (i:Nat) (h:i < 12):GF.Gg (KS.getD i 0) (KS.getD i 0).log2:=by
 obtain⟨j,hj,e⟩:=EE i h
 have:=GF.JE (j:Int)
 have e2:GF.GM (j:Int)=KS.getD i 0:=by
  unfold GF.GM;rw[<- e]
  congr 1
  omega
 rw[e2] at this;show 11
def rowV (row:η):List V:=row.map λ(n:Nat)=>V.int (n:Int)
variable {row:List Nat}{i:Nat}
theorem oW (h:οO):44e7[i]?=some (.int (row[i]:Nat)):=by
 show 42;rw[FM,s_ h];rfl
theorem az (row:η):(rowV row).length=row.length:=o_ _
variable {v:V}
theorem br (h:44e7[i]?=some v):∃x,row[i]?=some x/\v=.int (x:Nat):=by
 unfold rowV at h;rw[FM] at h
 cases q:row[i]? with
 | none=>rw[q] at h;cases h
 | some x=>rw[q] at h;exact⟨x,rfl,(FK h).symm⟩
theorem iZ (row:η) (x:Nat):rowV row++[.int (x:Nat)]=rowV (row++[x]):=by unfold rowV;rw[HU];rfl
theorem vk (row:η) (f:ϣ) (g:V->V) (h:∀n:Nat,g οM=.int ((f n:Nat):Int)):(rowV row).map g=rowV (row.map f):=by
 show 42;rw[GB,GB]
 apply KA
 intro n _;exact h n
theorem vm (h:v∈rowV row):∃x∈row,v=.int (x:Nat):=by
 unfold rowV at h;obtain⟨x,hx,e⟩:=G6.mp h;exact #[x,hx,e.symm]
theorem Jp (c:Int) {n:Nat} (h:εp):∃y:Nat,y < n/\c % (n:Int)=(y:Int):=by
 show 153
 have h1:=RN c hp
 have h2:=N7 c (Int.ne_of_gt hp);exact #[(c % (n:Int)).toNat,by omega,by omega]
theorem EF {u:V} (h:u=v):¬ (!decide (u=v))=true:=by rw[decide_eq_true h];decide
variable {n j:Nat}
theorem cz (h:j < n):Lz n (j:Int)=some j:=by
 unfold Lz;rw[if_pos γ,if_pos γ,G5]
theorem Bb {k:Nat} (h:k<=ρk):HD ιn ψ9 none=rowV (row.drop k):=by
 unfold HD;rw[HT.JD,HT.Ir,az,Qx h];show 42;rw[<- Sv,← Qs]
 congr 1
 apply M8
 rw[MX];show 38
def bf (fp:Addr) (w n:Nat):List 12e2:=[("field",.ref fp),("many",.int n),("limit",.int ((γg ^ n:Nat):Int))]
theorem ft (fp:Addr) (w n:Nat):(bf fp w n).lookup ("field" : Str)=some 40e9:=rfl
theorem DO (fp:Addr) (w n:Nat):(bf fp w n).lookup ("many" : Str)=some 31e4:=rfl
theorem Co (fp:Addr) (w n:Nat):(bf fp w n).lookup ("limit" : Str)=some (.int ((γg ^ n:Nat):Int)):=rfl
structure FR (a:q_) (H:Hp) (p fp:Addr) (r w n:Nat):Prop where
 ins:∃dx,H p=some (.ins γH dx (bf fp w n))
 fld:FH γA H fp r w
theorem FR.same {a:q_}{H H':Hp}{p fp:Addr}{r w n:Nat} (h:FR a H p fp r w n) (s:γN):FR a H' p fp r w n:=let ⟨dx,e⟩:=h.ins;#[ώC,h.fld.same s]
inductive lW (a:q_) (vs:δ) (H:Hp) (Q:VK) (E_3:XK):Prop
 | mk:∀(p dx fp:Addr) (r w n:Nat),vs=[.ref p,.ref fp,.int n]->H p=some (.ins a.C_Blocks dx [])->FH a.C_Field H fp r w->p≠fp->GF.Good r w->1<=n->n<=16->Q .non (upd H p (.ins a.C_Blocks dx (bf fp w n)))->lW a vs H Q E_3
theorem q5 (T:θ):x_ P wo K mg base 1 a.f14 ["self", "field", "many"] (lW a):=by
 refine T.x14.F.okA (k:=0) QQ ι
 ·obtain⟨p,dx,fp,r,w,n,rfl,hp,hF,g,R,h1,G,q⟩:=h
  have J:=R.top16
  have D:=R.top256
  show 0
  show 1;refine xi (PW.pt (aY ρE (aS (am b7 Ψ (bg (v:=.int 16) rfl T.Ae2 ϊ) υ)))) ?_
  show 4
  show 3
  show 41
  show 67
  exists xc ύu
  show 7;refine xf Ϙ rfl (ba rfl T.A06 γt) (au (i:=3) QQ.nd rfl ε) ?_
  exists xl (aQ ο (ay cU ϟ (ay aU νP ai)) rfl)
  show 5;show 18
  show 18
  refine #[_,rfl,_,rfl,p,γH,dx,_,rfl,hp,γT,θm,ζ,?_]
  refine #[_,rfl,_,rfl,p,γH,dx,_,rfl,ac,γT,T.Aa0,ηJ,?_]
  refine #[_,rfl,p,γH,dx,_,rfl,ac,γT,T.A63,ηK,?_]
  show 154
  have ef:∀v:V,FD "limit" v (FD "many" 72e0 (FD "field" 40e9 []))=[ϊH,ΩF,(("limit" : Str),v)]:=λv=>rfl
  rw[ef]
  refine #[_,rfl,_,rfl,by omega,by omega,let I_:Nat→L2.St→Hp→Prop:=λi σ H'=>L2.E1 λ(v:Option V)=>L2.A2 (σ=[some γR,some θL,some ηe,v]) (H'=upd H p (.ins γH dx [ϊH,ΩF,(("limit" : Str),.int ((γg ^ i:Nat):Int))]));bQ (lo:=0) (n:=n) I_ ύv ?_ ?_]
  ·rintro i σ H' hi ⟨v,rfl,rfl⟩
   obtain⟨dF,j⟩:=hF
   show 155
   refine #[_,rfl,p,_,_,_,_,rfl,ac,γT,T.A63,rfl,_,rfl,fp,_,_,_,_,rfl,(by rw[ae g.symm];exact j),γr,ηo,fq r w,_,_,rfl,rfl,_,_,rfl,rfl,.inr εR,?_]
   refine #[_,rfl,p,γH,dx,_,rfl,ac,γT,T.A63,μq,?_]
   show 26;rw[bb]
   have e2:((γg ^ i:Nat):Int) * ξQ=((γg ^ (i+1):Nat):Int):=by
    rw[el,J_,Oa]
   rw[<- e2];rfl
  ·rintro σ H' ⟨v,rfl,rfl⟩
   exact q
inductive sM (a:q_) (vs:δ) (H:Hp) (Q:VK) (E_3:XK):Prop
 | mk:∀(p fp:Addr) (r w n b:Nat),vs=[.ref p,.int b]->FR a H p fp r w n->GF.Good r w->n<=16->(∀D H',H D=none->a_ H H'->H' D=some (.lst (rowV (GF.FA w n b)))->Q (.ref D) H')->sM a vs H Q E_3
theorem mN (T:θ):x_ P wo K mg base 1 a.f15 ["self", "block"] (sM a):=by
 refine T.x15.F.okA (k:=0) MH ι
 ·obtain⟨p,fp,r,w,n,b,rfl,hB,R,O,q⟩:=h
  have U:=R.top16
  have J:=R.top256;show 329;obtain⟨dF,G⟩:=hB.fld
  show 155
  show 0
  exists xc (ar (i:=2) MH.nd rfl 0e2 Ψt)
  exists xc (ar (i:=3) MH.nd rfl 0e2 δW)
  exists xc (ar (i:=4) MH.nd rfl 0e2 ω)
  show 1;refine xf Ϙ rfl 63e4 (au (i:=5) MH.nd rfl ε) ?_
  exists xc (aE (cF JX JV JU bi ϐ (aa (ay aV γv Ψ) ab)))
  exists xl (ar (i:=4) MH.nd rfl 0e2 (ay bN γv Ψ))
  show 5
  show 27
  refine #[_,rfl,p,_,_,_,_,rfl,j,γT,θm,ft fp w n,fp,_,_,_,_,rfl,G,γr,ηo,fq r w,_,_,rfl,rfl,?_];show 9;rw[el];refine #[by decide,λD nD=>?_]
  have s1:=a_.new (o:=.lst []) nD;show 26
  refine⟨_,rfl,p,_,_,_,_,rfl,s1 _ _ j,γT,T.Aa0,DO fp w n,_,rfl,by omega,by omega,let I_:Nat->L2.St->Hp->Prop:=λi σ H'=>L2.E3 λ(v:Option V) (row:List Nat) (c:Nat)=>L2.A5 (σ=[some γR,some (.int b),some ϊX,some γ0,some ωX,v]) εi (H' D=some (.lst ιn)) (ρk=i) (row++GF.FA w (n - i) c=GF.FA w n b);bQ (lo:=0) (n:=n) I_
   ⟨none,[],b,rfl,s1,ac,rfl,rfl⟩ ?_ ?_⟩
  ·rintro i σ H' hi ⟨v,row,c,rfl,sm,hD,hl,g⟩
   have hp:(0:Int) < ((2 ^ w:Nat):Int):=by omega
   have em:((c:Int) % ((2 ^ w:Nat):Int))=((c % 2 ^ w:Nat):Int):=(Qc _ _).symm
   have ed:((c:Int) / ((2 ^ w:Nat):Int))=((c / 2 ^ w:Nat):Int):=(Rr _ _).symm;refine #[_,rfl,.inl όw,_,rfl,_,rfl,_,_,rfl,rfl,p0 hp,D,_,_,rfl,rfl,hD,As (by rw[az];omega),?_]
   refine #[_,rfl,_,rfl,_,_,rfl,rfl,#[hp,by omega],?_]
   show 9;rw[em,ed,iZ];refine #[_,row++[c % 2 ^ w],c / 2 ^ w,rfl,λb' o e=>by rw[ae (aq e nD)];exact sm b' o e,ac,by rw[Hr,hl];rfl,?_]
   rw[<- g]
   have e1:n - i=(n - (i+1))+1:=by omega
   rw[e1,GF.FA,Qm];rfl
  ·rintro σ H' ⟨v,row,c,rfl,sm,hD,hl,g⟩
   rw[LX,GF.FA,MZ] at g;rw[g] at hD;exact #[_,rfl,q D H' nD sm hD]
inductive vn (K:m_) (a:q_) (vs:δ) (H:Hp) (Q:VK) (E_3:XK):Prop
 | mk:∀(p fp l:Addr) (r w n:Nat) (row:List Nat),vs=[.ref p,.ref l]->FR a H p fp r w n->GF.Good r w->c_ K H l (rowV row)->Q (.int ((GF.FP w row:Nat):Int)) H->vn K a vs H Q E_3
theorem oX (T:θ):x_ P wo K mg base 1 a.f16 ["self", "some"] (vn K a):=by
 refine T.x16.F.okA (k:=0) NQ ι
 ·obtain⟨p,fp,l,r,w,n,row,rfl,hB,R,hL,q⟩:=h
  have J:=R.top16
  have G:=R.top256;show 329;obtain⟨dF,D⟩:=hB.fld
  show 155
  show 0
  exists xc (ar (i:=2) NQ.nd rfl 0e2 Ψt)
  exists xc (ar (i:=3) NQ.nd rfl 0e2 ai)
  show 1;refine xf Ϙ rfl (Ew rfl T.Ac8 γ8) (au (i:=4) NQ.nd rfl ε) ?_
  exists xl (ar (i:=3) NQ.nd rfl 0e2 (ay aU (ay cU ϐ Ψ) γv))
  show 5
  show 27
  refine #[_,rfl,p,_,_,_,_,rfl,j,γT,θm,ft fp w n,fp,_,_,_,_,rfl,D,γr,ηo,fq r w,_,_,rfl,rfl,?_];show 9;rw[el];refine #[_,rfl,l,_,rfl,hL,let I_:Nat->L2.St->Hp->Prop:=λi σ H'=>L2.E1 λ(v:Option V)=>L2.A2 (σ=[some γR,some ηd,some ϊX,some (.int ((GF.FP w (row.drop ώD):Nat):Int)),v]) (H'=H);Dw (K:=K) (a:=l) (xs:=rowV row) I_ #[none,?_,rfl] ?_ ?_ ?_]
  ·rw[Uf,SJ]
   rfl
  ·rintro i σ H' _ ⟨v,_,rfl⟩
   exact hL
  ·rintro i v σ H' hi hx ⟨v0,rfl,rfl⟩
   rw[az] at hi hx;obtain⟨y,hy,rfl⟩:=br hx;refine #[_,rfl,_,rfl,_,_,rfl,rfl,.inr εR,_,rfl,_,_,rfl,rfl,some ψh,?_,rfl]
   have ed:row.drop (row.length - (i+1))=y :: row.drop 188e9:=by
    have e1:row.length - (i+1)=row.length - 1 - i:=by omega
    have e2:row.length - i=row.length - 1 - i+1:=by omega
    rw[e1,e2]
    have g:row.length - 1 - i < row.length:=by omega
    rw[Qk g]
    congr 1
    rw[s_ g] at hy;exact FK hy
   rw[ed,GF.FP,N2,Oa];rfl
  ·rintro σ H' ⟨v,rfl,rfl⟩
   rw[az,LX,SW];exact ϑF
inductive vo (a:q_) (vs:δ) (H:Hp) (Q:VK) (E_3:XK):Prop
 | mk:∀(p fp:Addr) (r w n f b:Nat),vs=[.ref p,.int f,.int b]->FR a H p fp r w n->GF.Good r w->n<=16->f < 2 ^ w->(∀H',a_ H H'->Q (.int ((GF.FP w ((GF.FA w n b).map (GF.tm r w f)):Nat):Int)) H')->vo a vs H Q E_3
theorem oY (T:θ):x_ P wo K mg base 3 a.f17 ["self", "factor", "block"] (vo a):=by
 refine T.x17.F.okA (k:=2) oU ι
 ·obtain⟨p,fp,r,w,n,f,b,rfl,hB,R,G,hf,q⟩:=h
  show 330;obtain⟨dF,J⟩:=hB.fld
  show 0
  exists xl (aA (ao ο γT T.x16.me (oX T) hr.u T.x16.b .nil aj (aa (bc Ξb rfl (aP (ao ο γT T.x15.me (mN T) hr.u T.x15.b .nil aj γt)) δu γ3 (λ_ _ _ _ _=>by exact(ao Ψ9 γr ρa (dG T) hr.u T.x3.b .nil aj υm))) ab)))
  refine⟨_,rfl,p,dB,_,rfl,g,rfl,_,rfl,p,dB,_,rfl,g,rfl,_,rfl,p,fp,r,w,n,b,rfl,hB,R,G,λl H1 nl s1 hl=>?_⟩;refine⟨l,rfl,⟨_,c_.of hl⟩,λD nD=>?_⟩;refine gI (xs:=rowV (GF.FA w n b)) (f:=λv=>match v with | .int i=>.int ((GF.tm r w f i.toNat:Nat):Int) | v=>v) (cs:=[some (.int f),some (.ref p)]) (c_.of hl) nD rfl (FG (by rw[az,GF.Gb];exact G) (by decide)) (λx H2 R2 hx s2 hR=>?_) (λH2 s2 hD=>?_)
  ·obtain⟨y,hy,rfl⟩:=vm hx
   have j:=s2 _ _ (s1 _ _ J);refine #[_,rfl,p,_,_,_,_,rfl,s2 _ _ (s1 _ _ g),γT,θm,ft fp w n,fp,dF,_,rfl,j,rfl,_,rfl,_,rfl,fp,r,w,f,y,rfl,#[dF,j],R.rule,hf,hR _ ϡ]
  ·rw[vk (f:=GF.tm r w f) (h:=λn=>rfl)] at hD
   exact #[p,fp,D,r,w,n,_,rfl,hB.same ιf,R,c_.of hD,q _ ιf]
inductive vp (K:m_) (a:q_) (vs:δ) (H:Hp) (Q:VK) (E_3:XK):Prop
 | mk:∀(p fp lf lb:Addr) (r w n:Nat) (fs bs:List Nat),vs=[.ref p,.ref lf,.ref lb]->FR a H p fp r w n->GF.Good r w->n<=16->c_ K H lf (rowV fs)->c_ K H lb (rowV bs)->fs.length=bs.length->((∀f∈fs,f < 2 ^ w))->(∀H',a_ H H'->Q (.int ((GF.F8 r w n (fs.zip bs):Nat):Int)) H')->vp K a vs H Q E_3
variable {b:Nat}
theorem Cq {fs bs:η}{f:Nat} (hf:fs[i]?=some f) (hb:bs[i]?=some b):(fs.zip bs).take (i+1)=(fs.zip bs).take i++[(f,b)]:=by
 rw[L5]
 have:(fs.zip bs)[i]?=some (f,b):=by
  rw[List.zip,TY,hf,hb]
 show 62
theorem dY (T:θ):x_ P wo K mg base 4 a.f18 ["self", "factors", "some"] (vp K a):=by
 refine T.x18.F.okA (k:=3) NA ι
 ·obtain⟨p,fp,lf,lb,r,w,n,fs,bs,rfl,hB,R,O,hf,hb,D,G,q⟩:=h
  show 0
  exists xc (ar (i:=3) NA.nd rfl 0e2 ai)
  show 1;refine xf Ϙ rfl (pH rfl T.A66 ζc) (c7 rfl (aN (au (i:=4) NA.nd rfl ε) (aN (au (i:=5) NA.nd rfl ε) bZ))) ?_
  exists xl (ar (i:=3) NA.nd rfl 0e2 (ay jn ϐ (ao ο γT T.x17.me (oY T) hr.u T.x17.b .nil aj ξN)))
  show 5
  show 27
  refine #[_,rfl,_,rfl,lf,lb,_,_,rfl,hf,hb,let I_:Nat->L2.St->Hp->Prop:=λi σ H'=>L2.E2 λ(v4 v5:Option V)=>L2.A2 (σ=[some γR,some (.ref lf),some (.ref lb),some (.int ((GF.F8 r w n ((fs.zip bs).take i):Nat):Int)),v4,v5]) εi;xB (K:=K) (l1:=lf) (l2:=lb) (xs:=rowV fs) (ys:=rowV bs) I_ #[none,none,rfl,a_.refl _] ?_ (by rw[az,az];exact D) ?_ ?_]
  ·rintro i σ H' _ ⟨v4,v5,_,sm⟩
   exact #[sm.seq hf,sm.seq hb]
  ·rintro i u v T' σ H' hi hu hv hT ⟨v4,v5,rfl,sm⟩
   obtain⟨f,g,rfl⟩:=br hu;obtain⟨b,U,rfl⟩:=br hv
   have s1:=sm.trans (a_.new (o:=.tup [V.int (f:Nat),V.int (b:Nat)]) hT)
   have j:=hB.same s1;obtain⟨dB,J⟩:=j.ins;show 53;refine #[_,rfl,_,rfl,p,dB,_,rfl,J,rfl,_,rfl,_,rfl,p,fp,r,w,n,f,b,rfl,j,R,O,G f (Gi g),λH2 s2=>?_];refine #[_,_,rfl,rfl,some ϐX,some (.int (b:Nat)),?_,s1.trans s2];rw[Cq g U,GF.Ko]
   show [_,_,_,some χS,_,_]=_
   rw[dE]
  ·rintro σ H' ⟨v4,v5,rfl,sm⟩
   have e:(fs.zip bs).take (rowV fs).length=fs.zip bs:=by
    rw[az]
    apply M8
    rw[List.length_zip];omega
   rw[e];exact #[_,rfl,q H' sm]
structure Fw (H:Hp) (ps:Φ) (M:Nat) (row:δC):Prop where
 len:ps.length=M
 on:∀(i:Nat) p,ps[i]?=some p->H p=some ό3
variable {ps:List Addr}{M:Nat}
theorem Fw.same {row:δC} (h:οY) (s:γN):Fw H' ps M row:=#[δ5,λi p e=>s _ _ (h.on i p e)]
theorem Fw.get {row:δC} (h:οY) {i:Nat} (hi:i < M):∃p,ps[i]?=some p/\H p=some 172e9:=by
 have hl:i < ps.length:=by rw[δ5];exact hi
 exact #[ps[i],s_ hl,h.on i _ (s_ hl)]
theorem aJ (h:ps[i]?=some p):(ps.map ϙ)[i]?=some 10e5:=by rw[FM,h];rfl
theorem bX (h:οO):44e7[i]?=some 156e0:=by
 show 331
def eE (m at':Nat):List Nat:=(FL m 0).set at' 1
theorem ra (n c:Nat):(FL n [V.int (c:Int)]).flatten=rowV (FL n c):=by
 induction n with
 | zero=>rfl
 | succ n ih=>rw[JZ,LL,ih,JZ];rfl
theorem vq (row:η) (i x:Nat):(rowV row).set i ρz=rowV (row.set i x):=by
 show 42;rw[N4]
def g_ (W:Nat) (T:ϕ) (i:Nat):List Nat:=(r_ W).map (T i)
theorem aK (W:Nat) (T:ϕ) (i:Nat):(g_ W T i).length=W:=by unfold g_;rw[o_,Gf]
variable {W:Nat}{T:Nat->Nat->Nat}
theorem bB {k:Nat} (h:k < W):(g_ W T i).getD k 0=T i k:=by
 unfold g_;rw[v_,FM,Ib h];rfl
theorem gL {U:ϕ} (h:∀k,k < W->T i k=U j k):g_ W T i=g_ W U j:=KA λk hk=>h k πm
theorem gU (h:∀k,k < W->T i k < n):∀x∈g_ W T i,x < n:=λx hx=>by
 show 332;exact h k πm
theorem Fw.congr {row row':δC} (h:οY) (e:∀i,i < M->row i=row' i):Fw H ps M row' :=
 ⟨δ5,λi p hi=>by
  have:i < M:=by
   rw[<- h.len];exact(Gr.mp hi).1
  rw[<- e i this]
  exact h.on i p hi⟩
theorem Fw.snoc {row:δC} (h:Fw H ps n row) (s:∀q∈ps,H' q=H q) (hp:H' p=some (.lst (rowV (row n)))):Fw H' πv (n+1) row:=by
 refine #[by rw[Hr,δ5];rfl,λi q e=>?_]
 rw[OD] at e
 split at e
 ·rw[s q (Gi e)]
  exact h.on i q e
 ·rename_i hge
  cases ht:i - ps.length with
  | zero =>
   rw[ht] at e
   have:p=q:=by simpa using e
   show 16
   have:i=n:=by have:=δ5;omega
   show 19;exact hp
  | succ m=>rw[ht] at e;simp at e
def HG (ks:δG):List V:=ks.map V.bl
theorem lX (m i:Nat):(eE m i).length=m:=by unfold eE;rw[JJ,KR]
theorem jk (x y:η):rowV x++rowV y=rowV (x++y):=by unfold rowV;rw[HU]
theorem Bc {f:δC} (h:(f i).length=W):g_ W (λi k=>(f i).getD k 0) i=f i:=by
 unfold g_
 apply Oh
 ·rw[o_,Gf,h]
 ·intro k k1 k2
  simp[k2]
variable {N:Nat}{l:Nat->Nat->Nat}
theorem zB {k:Nat} (hk:k < N):(g_ N l i++eE M i).getD k 0=l i k:=by
 rw[v_,Ky υS,← v_,bB hk]
theorem wQ (hj:j < M):(g_ N l i++eE M i).getD (N+j) 0=if j=i then 1 else 0:=by
 rw[v_,Ld ρx,aK,MY]
 unfold eE;rw[Qq]
 by_cases z:i=j
 ·rw[if_pos z,if_pos ύw,if_pos εq]
  rfl
 ·rw[if_neg z,if_neg χE,LN,if_pos hj]
  rfl
theorem Fw.upd {H:Hp}{ps:Φ}{M:Nat}{row:δC}{d:Addr}{o:HO} (h:οY) (n:d∉ps):Fw (upd H d o) ps M row :=
 ⟨δ5,λi p e=>by
  have np:p≠d:=λz=>n ϊC
  rw[ae np]
  exact h.on i p e⟩
theorem wR:(!decide (V.int (n:Int)=γQ))=true:=by
 rw[decide_eq_false ηx]
 rfl
inductive Bd (vs:δ) (H:Hp) (Q:VK) (E_3:XK):Prop
 | mk:∀(m i:Nat),vs=[.int m,.int i]->i < m->m<=30->(∀D H',H D=none->a_ H H'->H' D=some (.lst (rowV (eE m i)))->Q (.ref D) H')->Bd vs H Q E_3
theorem yo (T:θ):x_ P wo K mg base 1 a.f6 ["many", "at"] Bd:=by
 refine T.x6.F.okA (k:=0) QE ι
 ·obtain⟨m,i,rfl,hi,hm,q⟩:=h
  show 0
  exists xc (ar (i:=2) QE.nd rfl 0e2 (ay dJ (be νE) ο))
  exists xc (cA ai (cH Ψ ω bU))
  show 51
  refine #[ζ,λp1 n1=>Θt]
  ·rw[G5]
   show 1 * m<=sizeLine
   exact FG (by omega:1 * m<=30) ζ
  have eR:(FL ((m:Int)).toNat [V.int 0]).flatten=rowV (FL m 0):=by rw[G5];exact ra m 0
  rw[eR];refine #[_,rfl,_,rfl,p2,_,_,i,rfl,rfl,ac,cz (by rw[az,KR];exact hi),?_]
  have g:=(a_.new (o:=.lst [V.int 0]) n1);refine #[_,rfl,q p2 _ (g.free n2) ?_ ?_]
  ·rw[bb]
   exact g.trans (a_.new n2)
  ·rw[ac]
   exact congrArg (λl=>some (HO.lst l)) (vq _ _ 1)
inductive yp (a:q_) (vs:δ) (H:Hp) (Q:VK) (E_3:XK):Prop
 | mk:∀(p:Addr) (r w x n:Nat),vs=[.ref p,.int x,.int n]->FH a.C_Field H p r w->GF.Good r w->x < 2 ^ w->Q (.int (GF.pw r w x n:Nat)) H->yp a vs H Q E_3
theorem rb (T:θ):x_ P wo K mg base 3 a.f5 ["self", "one", "many"] (yp a):=by
 refine T.x5.F.okA (k:=2) Mh ι
 ·obtain⟨p,r,w,x,n,rfl,hF,g,hx,q⟩:=h
  obtain⟨dx,D⟩:=id hF
  have R:=g.top16
  show 0
  exists xc (ar (i:=3) ιL rfl 0e2 ai)
  exists xc (ar (i:=4) ιL rfl 0e2 ω)
  exists xc (ar (i:=5) ιL rfl 0e2 Ψ)
  show 322
  exists xl (ar (i:=3) ιL rfl 0e2 (ao ο γr ρa (dG T) hr.u T.x3.b .nil aj ϊr))
  show 3
  exists xc (ar (i:=4) ιL rfl 0e2 (ao ο γr ρa (dG T) hr.u T.x3.b .nil aj (aa γv ζL)))
  exists xl (ar (i:=5) ιL rfl 0e2 ώ4)
  show 5
  show 27
  refine #[_,rfl,_,rfl,#[λm σ H'=>∃(y s d:Nat),d=m/\σ=[some γR,some (.int x),some ηe,some ψh,some (.int (s:Nat)),some (.int (d:Nat))]/\H'=H/\y < 2 ^ w/\s < 2 ^ w/\GF.tm r w y (GF.pw r w s d)=GF.pw r w x n,#[_,1,x,n,rfl,rfl,rfl,by omega,hx,GF.GN γh g.w1 (GF.Iz g hx n)],?_]]
  rintro m σ H' ⟨y,s,d,rfl,rfl,rfl,hy,hs,j⟩;show 323
  ·have hd:0 < d:=by
    show 324
   have G:((d:Int) / 2)=((d / 2:Nat):Int):=by omega
   have J:=GF.D_ γh (b:=s) hs;refine ξd
   refine b_ πb πb
   ·have O:d % 2=1:=by
     show 325
    refine #[_,rfl,p,dx,_,rfl,D,rfl,_,rfl,_,rfl,p,r,w,y,s,rfl,hF,γh,hy,?_];show 333
    show 6
    rw[G];refine #[d / 2,P9 hd ζ,GF.tm r w y s,GF.tm r w s s,d / 2,rfl,rfl,rfl,GF.D_ γh hy,J,?_]
    have e:d=1+2 * (d / 2):=by omega
    show 334
    conv=>rhs;rw[e]
    rw[GF.Jn g hs,GF.K2 s g hs,GF.FE γh g.w1 hy hs]
   ·have O:¬ d % 2=1:=by
     intro z
     apply h1
     apply decide_eq_true
     show V.int ((d:Int) % 2)=V.int 1
     congr 1
     omega
    show 333
    show 6
    rw[G];refine #[d / 2,P9 hd ζ,y,GF.tm r w s s,d / 2,rfl,rfl,rfl,hy,J,?_]
    have e:d=2 * (d / 2):=by omega
    show 334
    conv=>rhs;rw[e]
  ·have hd:d=0:=by
    have:¬ ((0:Int) < (d:Int)):=λz=>h μK;omega
   subst hd
   have e:GF.pw r w s 0=1:=rfl;rw[e,GF.Gy] at j;show 26
   show Q ψh H'
   rw[j];exact q
inductive Be (a:q_) (vs:δ) (H:Hp) (Q:VK) (E_3:XK):Prop
 | mk:∀(p:Addr) (r w x:Nat),vs=[.ref p,.int x]->FH a.C_Field H p r w->GF.Good r w->0 < x->x < 2 ^ w->Q (.int (GF.pw r w x (2 ^ w - 1 - 1):Nat)) H->Be a vs H Q E_3
theorem ug (T:θ):x_ P wo K mg base 4 a.f4 ["self", "one"] (Be a):=by
 refine T.x4.F.okA (k:=3) tW ι
 ·obtain⟨p,r,w,x,rfl,hF,g,h0,hx,q⟩:=h
  show 327
  have D:=g.top16
  show 0
  show 335
  show 4
  show 3
  exists xl (aA (ao ο γr T.x5.me (rb T) hr.u T.x5.b .nil aj (aa ω (aa (ay g7 ϟ ai) ab))))
  show 52;refine b_ ΘJ ν
  have e:(((2 ^ w - 1:Nat):Int) - 1)=((2 ^ w - 1 - 1:Nat):Int):=by omega
  refine #[_,rfl,p,dx,_,rfl,j,rfl,_,rfl,_,rfl,p,_,_,_,_,rfl,j,γr,ηo,fq r w,_,_,rfl,rfl,?_];show 6
  rw[e];exact #[p,r,w,x,_,rfl,hF,g,hx,q]
inductive lY (K:m_) (a:q_) (vs:δ) (H:Hp) (Q:VK) (E_3:XK):Prop
 | mk:∀(p l:Addr) (r w c:Nat) (row:List Nat),vs=[.ref p,.int c,.ref l]->FH a.C_Field H p r w->GF.Good r w->H l=some (.lst (rowV row))->((∀x∈row,x < 2 ^ w))->row.length<=100->(∀D H',H D=none->a_ H H'->H' D=some (.lst (rowV (row.map λs=>GF.tm r w s c)))->Q γ0 H')->lY K a vs H Q E_3
theorem fu (T:θ):x_ P wo K mg base 3 a.f7 ["field", "factor", "line"] (lY K a):=by
 refine T.x7.F.okA (k:=2) qQ ι
 ·obtain⟨p,l,r,w,c,row,rfl,hF,g,hl,G,j,q⟩:=h
  obtain⟨dx,J⟩:=id hF
  show 0
  exists xl (aA (bc Ξb rfl 44e4 δu γ3 (λ_ _ _ _ _=>by exact(ao ω γr ρa (dG T) hr.u T.x3.b .nil aj ξO))))
  refine⟨_,rfl,l,rfl,⟨_,c_.of hl⟩,λD nD=>?_⟩;refine gI (xs:=rowV row) (f:=λv=>match v with | .int i=>.int ((GF.tm r w i.toNat c:Nat):Int) | v=>v) (cs:=[some (.int c),some (.ref p)]) (c_.of hl) nD rfl (FG (by rw[az];exact j) (by decide)) (λx H2 R2 hx s2 hR=>?_) (λH2 s2 hD=>?_)
  ·obtain⟨y,hy,rfl⟩:=vm hx
   exact #[_,rfl,p,dx,_,rfl,s2 _ _ J,rfl,_,rfl,_,rfl,p,r,w,y,c,rfl,hF.same s2,γh,G y hy,hR _ ϡ]
  ·rw[vk (f:=λs=>GF.tm r w s c) (h:=λn=>rfl)] at hD
   exact q D H2 nD s2 hD
inductive vt (K:m_) (vs:δ) (H:Hp) (Q:VK) (E_3:XK):Prop
 | mk:∀(l1 l2:Addr) (x y:List Nat),vs=[.ref l1,.ref l2]->H l1=some (.lst (rowV x))->H l2=some (.lst (rowV y))->x.length=y.length->x.length<=100->(∀D H',H D=none->a_ H H'->H' D=some (.lst (rowV (Ri (λs t=>s ^^^ t) x y)))->Q γ0 H')->vt K vs H Q E_3
theorem kC (T:θ):x_ P wo K mg base 1 a.f8 ["one", "other"] (vt K):=by
 refine T.x8.F.okA (k:=0) tY ι
 ·obtain⟨l1,l2,x,y,rfl,h1,h2,hl,g,q⟩:=h
  show 0
  exists xl (aA (bc (i_.of (cap:=[]) (own:=["symbol", "another"]) γc) rfl (pH rfl T.A66 ρD) (λ_ _ _ _ _=>(qM (n:=2) (K:=K) rfl rfl (aN (au (i:=0) (of_decide_eq_true γc) rfl ε) (aN (au (i:=1) (of_decide_eq_true γc) rfl ε) bZ)))) γ3 (λ_ _ _ _ _=>by exact(ay jn ο ω))))
  refine #[_,rfl,_,rfl,l1,l2,_,_,rfl,c_.of h1,c_.of h2,λD nD=>?_];refine AD (xs:=rowV x) (ys:=rowV y) (f:=λi=>.int ((x.getD i 0 ^^^ y.getD i 0:Nat):Int)) (cs:=[]) (c_.of h1) (c_.of h2) (by rw[az,az,hl]) nD rfl (FG (by rw[az];exact g) ζ) (λi u v H2 R2 hu hv s2 hR=>?_) (λH2 s2 hD=>q D H2 nD s2 ?_)
  ·obtain⟨su,eu,rfl⟩:=br hu
   obtain⟨sv,ev,rfl⟩:=br hv;refine Ω7;show 6
   rw[dE]
   have e1:x.getD i 0=su:=by rw[v_,eu];rfl
   have e2:y.getD i 0=sv:=by rw[v_,ev];rfl
   rw[e1,e2] at hR;show 54
  ·rw[hD]
   congr 2
   rw[az]
   apply Oh
   ·rw[o_,Gf,az,List.length_zipWith,hl,UE]
   ·intro i i1 i2
    rw[o_,Gf] at i1
    have j2:i < y.length:=by omega
    simp[rowV,i1,j2]
inductive yq (K:m_) (vs:δ) (H:Hp) (Q:VK) (E_3:XK):Prop
 | mk:∀(l:Addr) (st pl M:Nat) (ps:List Addr) (row:Nat->List Nat),vs=[.ref l,.int st,.int pl]->H l=some (.lst (ps.map V.ref))->Fw H ps M row->((∀i,i < M->pl < (row i).length))->st<=M->M<=8->((∀f,st<=f->f < M->(row f).getD pl 0≠0->Q (.int (f:Nat)) H))->(((∀i,st<=i->i < M->(row i).getD pl 0=0)->Q .non H))->yq K vs H Q E_3
theorem kD (T:θ):x_ P wo K mg base 1 a.f9 ["lines", "start", "place"] (yq K):=by
 refine T.x9.F.okA (k:=0) QO ι
 ·obtain⟨l,st,pl,M,ps,row,rfl,hl,ht,hp,hs,hm,q1,q2⟩:=h
  show 0
  show 1;refine xf Ϙ rfl (Aa rfl T.A06 (aa ω Φt)) (au (i:=3) QO.nd rfl ε) ?_;show 7;refine xi (am c4 (aD ax (aD ax ο ϐ γ6) Ψ γ6) ai υ) ?_
  show 27
  show 20
  show 28
  have j:((ps.map ϙ).length:Int)=(M:Nat):=by rw[o_,δL]
  refine #[_,rfl,_,rfl,l,_,rfl,.inl (c_.of hl),_,_,rfl,#[by omega,by omega,by omega,by omega],?_]
  have en:(((ps.map ϙ).length:Int) - (st:Nat)).toNat=M - st:=by rw[j];omega
  rw[en];refine let I_:Nat->L2.St->Hp->Prop:=λi σ H'=>L2.A3 ((∃v:Option V,σ=[some ηd,some δT,some νf,v])) (H'=H) (∀k,st<=k->k < st+i->(row k).getD pl 0=0);bQ (lo:=(st:Nat)) (n:=M - st) I_ #[ζO,rfl,λk h1 h2=>by omega] ?_ ?_
  ·rintro i σ H' hi ⟨⟨v,rfl⟩,rfl,g⟩
   have ek:((st:Nat):Int)+(i:Nat)=((st+i:Nat):Int):=by omega
   obtain⟨p,ep,D⟩:=ht.get (i:=st+i) γ
   have G:=hp (st+i) γ
   rw[ek];refine #[_,rfl,_,rfl,l,_,_,_,rfl,rfl,c_.of hl,aB γD,_,rfl,p,_,_,_,rfl,rfl,c_.of D,aB (bX G),rfl,_,rfl,?_];show 101
   ·refine εz
    refine q1 (st+i) γ γ λz=>?_
    rw[z] at h
    revert h
    decide
   ·refine #[ϊ,rfl,λk h1 h2=>?_]
    by_cases e:k=st+i
    ·rw[e]
     apply Decidable.byContradiction
     intro z
     apply h
     rw[decide_eq_false]
     ·rfl
     ·intro y
      have:=V.int.inj y;omega
    ·exact g k h1 γ
  ·rintro σ H' ⟨⟨v,rfl⟩,rfl,g⟩
   exact q2 λi h1 h2=>g i h1 γ
inductive sP (K:m_) (vs:δ) (H:Hp) (Q:VK) (E_3:XK):Prop
 | mk:∀(l:Addr) (h f M:Nat) (ps:List Addr) (row:Nat->List Nat),vs=[.ref l,.int h,.int f]->H l=some (.lst (ps.map V.ref))->Fw H ps M row->h < M->f < M->M<=8->(∀D H' ps',H D=none->a_ H H'->H' D=some (.lst (ps'.map V.ref))->Fw H' ps' M (λi=>if i=h then row f else if i=f then row h else row i)->(∀p∈ps',p∈ps)->Q γ0 H')->sP K vs H Q E_3
theorem zC (T:θ):x_ P wo K mg base 1 a.f10 ["lines", "one", "other"] (sP K):=by
 refine T.x10.F.okA (k:=0) QM ι
 ·obtain⟨l,h,f,M,ps,row,rfl,hl,ht,hh,hf,hm,q⟩:=h
  show 0
  exists xc (ar (i:=3) QM.nd rfl 0e2 (bu bK rfl T.A18 γf θz))
  exists xc (cA (aD ax ο Ψ γ6) (cH ϐ ω bU))
  exists xc (cA τO (cH ϐ Ψ bU))
  show 27
  obtain⟨p1,e1,J⟩:=ht.get hf;obtain⟨p2,e2,O⟩:=ht.get hh;refine #[_,rfl,l,_,rfl,.inl (c_.of hl),λD nD=>?_]
  have j:h < (ps.map ϙ).length:=by rw[o_,δL];exact hh
  have g:f < (ps.map ϙ).length:=by rw[o_,δL];exact hf
  have lD:l≠D:=aq hl nD;refine #[_,rfl,_,rfl,l,_,_,_,rfl,rfl,c_.of (by rw[ae lD];exact hl),aB (aJ e1),?_]
  refine #[_,rfl,_,rfl,D,_,_,h,rfl,rfl,ac,cz j,?_];refine #[_,rfl,_,rfl,l,_,_,_,rfl,rfl,c_.of (by rw[bb,ae lD];exact hl),aB (aJ e2),?_]
  refine #[_,rfl,_,rfl,D,_,_,f,rfl,rfl,ac,cz (by rw[JJ];exact g),?_]
  rw[bb,bb]
  have G:(((ps.map ϙ).set h (.ref p1)).set f (.ref p2))=149e6:=by rw[N4,N4]
  rw[G];refine #[_,rfl,q D _ _ nD πi ac #[by rw[JJ,JJ,δL],λi p ei=>?_] (λp hp=>?_)]
  rotate_left
  ·rcases OF hp with z | z
   ·rcases OF z with z | z
    ·exact z
    ·rw[z]
     exact Gi e1
   ·rw[z]
    exact Gi e2
  have on:=λi p e=>(a_.new (o:=.lst Ψi) nD) _ _ ϑG;rw[Qq,Qq] at ei
  by_cases zf:f=i
  ·rw[if_pos zf,if_pos (by rw[JJ,δL];exact hf)] at ei
   subst zf
   show 336
   by_cases zh:f=h
   ·rw[if_pos zh]
    subst zh;exact on f p2 e2
   ·rw[if_neg zh,if_pos rfl]
    exact on h p2 e2
  ·rw[if_neg zf] at ei
   by_cases zh:h=i
   ·rw[if_pos zh,if_pos (by rw[δL];exact hh)] at ei
    subst zh
    show 336;show 25;exact on f p1 e1
   ·rw[if_neg zh] at ei
    rw[if_neg (λz=>zh εq),if_neg (λz=>zf εq)];exact on i p ei
inductive sQ (K:m_) (a:q_) (vs:δ) (H:Hp) (Q:VK) (E_3:XK):Prop
 | mk:∀(fp l:Addr) (r w h pl M W:Nat) (ps:List Addr) (T:Nat->Nat->Nat),vs=[.ref fp,.ref l,.int h,.int pl]->FH a.C_Field H fp r w->GF.Good r w->H l=some (.lst (ps.map V.ref))->Fw H ps M (g_ W T)->((∀i k,i < M->k < W->T i k < 2 ^ w))->W<=30->pl < W->h < M->M<=8->T h pl≠0->(∀D H' ps',H D=none->a_ H H'->H' D=some (.lst (ps'.map V.ref))->Fw H' ps' M (g_ W (GF.Fx r w T h pl (GF.pw r w (T h pl) (2 ^ w - 1 - 1))))->(∀p∈ps',p∈ps\/H p=none)->Q (.ref D) H')->sQ K a vs H Q E_3
theorem qf (T:θ):x_ P wo K mg base 5 a.f11 ["field", "lines", "at", "place"] (sQ K a):=by
 refine T.x11.F.okA (k:=4) No ι
 ·obtain⟨fp,l,r,w,h,pl,M,W,ps,t,rfl,hF,g,hl,ht,Y,hW,R,hh,hm,h0,q⟩:=h
  obtain⟨dx,a4⟩:=id hF
  show 0
  exists xc (ar (i:=4) No.nd rfl 0e2 (aH (fu T) hr.u rfl T.x7.m T.x7.k T.x7.b .nil aj (aa ο (aa (ao ο γr T.x4.me (ug T) hr.u T.x4.b .nil aj (aa (aD ax μm ϐ γ6) ab)) (aa μm ab)))))
  exists xc (ar (i:=5) No.nd rfl 0e2 δW)
  show 1;refine xf Ϙ rfl 92e7 (c7 rfl (aN (au (i:=6) No.nd rfl ε) (aN (au (i:=7) No.nd rfl ε) bZ))) ?_;show 7;refine xi (am bx γX Ψ υ) ?_
  exists xl (aE (cF JX JV JU bi γ2 ζL))
  show 7;refine xi (am bx Ψj ai υ) ?_
  exists xl (aE (cF JX JV JU bi γ2 ηD))
  exists xl (aE (cF JX JV JU bi γ2 (aa (aH (kC T) hr.u rfl T.x8.m T.x8.k T.x8.b .nil aj (aa εH (aa (aH (fu T) hr.u rfl T.x7.m T.x7.k T.x7.b .nil aj (aa ο (aa Ψj ζL))) ab))) ab)))
  show 5;show 5;show 5
  exists xl (aA γ2)
  obtain⟨ph,eh,a2⟩:=ht.get hh
  have a3:t h pl < 2 ^ w:=Y h pl hh R
  have eg:(g_ W t h).getD pl 0=t h pl:=bB R
  have gt:=aB (bX (row:=g_ W t h) (i:=pl) όx)
  rw[eg] at gt;refine #[_,rfl,_,rfl,fp,dx,_,rfl,a4,rfl,_,rfl,_,rfl,l,_,_,_,rfl,rfl,c_.of hl,aB (aJ eh),_,rfl,ph,_,_,_,rfl,rfl,c_.of a2,gt,?_];refine #[fp,r,w,t h pl,rfl,hF,g,by omega,a3,?_]
  generalize hc:GF.pw r w (t h pl) (2 ^ w - 1 - 1)=c at q;refine #[_,rfl,_,rfl,l,_,_,_,rfl,rfl,c_.of hl,aB (aJ eh),?_];refine #[fp,ph,r,w,c,g_ W t h,rfl,hF,g,a2,gU λk hk=>Y h k hh hk,by rw[aK];omega,λhd H1 a6 s1 a1=>?_]
  refine #[by decide,λD nD=>#[_,rfl,l,_,rfl,c_.of (75e2 _ _ (s1 _ _ hl)),?_]]
  have aw:(ps.map ϙ).length=M:=by rw[o_,δL]
  refine let I_:Nat->L2.St->Hp->Prop:=λi σ H'=>L2.E3 λ(v u:Option V) (G:List Addr)=>L2.A6 (σ=[some θL,some ηd,some (.int h),some νf,some (.ref hd),some γ0,v,u]) (a_ H1 H') (H' D=some όy) (Fw H' G i (g_ W όz)) (D∉G) (∀p∈G,p∈ps\/H p=none);jT I_
   #[none,none,[],rfl,a_.new nD,ac,#[rfl,λi p e=>by simp at e],by simp,by simp] ?_ ?_ ?_
  ·rintro i σ H' hi ⟨v,u,G,rfl,s2,_⟩
   exact c_.of (s2 _ _ (s1 _ _ hl))
  ·rintro i u Tt σ H' hi hu nT ⟨v,u',G,rfl,s2,hD,J,ad,an⟩
   rw[aw] at hi;show 156
   have eu:u=.ref p:=by
    show 337
   subst eu;refine ΞL
   have s3:a_ H' (upd H' Tt ΩZ):=a_.new nT
   have a5:∀q∈G,H' q=upd H' Tt ΩZ q:=λq hq=>by
    rw[ae];intro z;show 338;rw[z] at hj;rw[J.on j _ hj] at nT
    cases nT
   generalize (upd H' Tt (.tup [.int (i:Nat),.ref p]))=H2 at s3 a5
   have a0:H2 hd=some (.lst (rowV ((g_ W t h).map λs=>GF.tm r w s c))):=s3 _ _ (s2 _ _ a1)
   have Z:H2 p=some (.lst (rowV (g_ W t i))):=s3 _ _ (s2 _ _ (s1 _ _ hp))
   have O:H2 D=some 176e0:=s3 _ _ hD
   have aT:a_ H1 H2:=s2.trans s3
   have bm:t i pl < 2 ^ w:=Y i pl hi R
   have i8:G.length < 8:=by rw[J.len];omega
   have fin:∀p' H3,a_ H2 H3->p'≠D->(p'∈ps\/H p'=none)->H3 p'=some (.lst (rowV (g_ W όz i)))->I_ (i+1) [some (V.ref fp),some ηd,some (.int h),some νf,some (.ref hd),some γ0,some νH,some γR] (upd H3 D (.lst (G.map V.ref++[.ref p']))):=λp' H3 s4 nz a9 a7=>by
    refine #[_,_,G++[p'],rfl,(aT.trans s4).up nD,?_,J.snoc (λq hq=>?_) ?_,?_,λq hq=>(Hi.mp hq).elim (an q) λz=>by rw[Ge.mp z];exact a9]
    ·rw[ac,HU]
     rfl
    ·have nq:q≠D:=λz=>ad (by rw[<- z];exact hq)
     rw[ae nq];show 338
     have e1:=J.on j _ hj;rw[e1,s4 _ _ (s3 _ _ e1)]
    ·rw[ae nz]
     exact a7
    ·intro z
     rcases Hi.mp z with z | z
     ·exact ad z
     ·exact nz (Ge.mp z).symm
   have U:(G.map ϙ).length < sizeLine:=P5 (by rw[o_];exact i8) ζ
   show 339
   ·have z':i=h:=by
     have:=V.int.inj θu;omega
    refine Θx;refine fin hd H2 ϡ (aq a1 nD) (.inr a6) ?_;rw[a0,z']
    congr 3
    unfold g_;rw[GB];exact KA λk _=>by unfold GF.Fx;show 25;rfl
   ·have z':i≠h:=λe=>z ϊ0
    have gi:=aB (bX (row:=g_ W t i) (i:=pl) όx)
    rw[bB R] at gi;refine #[_,rfl,_,rfl,p,_,_,_,rfl,rfl,c_.of Z,gi,rfl,_,rfl,?_];refine b_ ν0 ν0
    ·have y':t i pl=0:=by
      have:=V.int.inj ηv;omega
     refine Θx;refine fin p H2 ϡ (aq (s1 _ _ hp) nD) (.inl (Gi ep)) ?_;rw[Z]
     congr 3
     refine gL λk _=>?_;unfold GF.Fx;rw[if_neg z',y',ζ9,Js]
    ·refine #[_,rfl,.inl #[rfl,_,c_.of O],_,rfl,_,rfl,_,rfl,_,rfl,p,_,_,_,rfl,rfl,c_.of Z,gi,_,rfl,?_]
     refine #[fp,hd,r,w,t i pl,_,rfl,hF.same (s1.trans aT),g,a0,?_,?_,λd3 H3 n3 s4 h3=>?_]
     ·intro x hx
      show 332;exact GF.D_ γh (gU (λk hk=>Y h k hh hk) k hk)
     ·rw[o_,aK]
      omega
     ·refine #[p,d3,_,_,rfl,s4 _ _ Z,h3,?_,?_,λd4 H4 n4 s5 h4=>?_]
      ·rw[o_,o_,aK,aK]
      ·rw[aK]
       omega
      ·have a8:=s5 _ _ (s4 _ _ O)
       refine #[D,_,_,rfl,rfl,a8,U,?_];refine fin d4 H4 (s4.trans s5) (λe=>?_) (.inr ((s1.trans (aT.trans s4)).free n4)) ?_
       ·rw[e,s4 _ _ O] at n4
        cases n4
       ·rw[h4]
        congr 3
        unfold g_;rw[GB,GB]
        apply Oh
        ·simp
        ·intro k k1 k2
         simp[GF.Fx,z']
  ·rintro σ H' ⟨v,u,G,rfl,s2,hD,J,ad,an⟩
   rw[aw] at J;exact #[_,rfl,q D H' G ψF ιf hD J an]
inductive qg (K:m_) (vs:δ) (H:Hp) (Q:VK) (E_3:XK):Prop
 | mk:∀(l hl:Addr) (m pl M W:Nat) (ps:List Addr) (hs:List Nat) (T:Nat->Nat->Nat),vs=[.ref l,.ref hl,.int m,.int pl]->H l=some (.lst (ps.map V.ref))->Fw H ps M (g_ W T)->H hl=some (.lst (rowV hs))->hs.length<=M->pl < m->m<=30->m<=W->M<=8->((∀p∈hs,p < m))->(∀D H',H D=none->a_ H H'->H' D=some (.lst (rowV ((r_ m).map (GF.FV T hs pl hs.length))))->Q (.ref D) H')->qg K vs H Q E_3
theorem vv (T:θ):x_ P wo K mg base 2 a.f13 ["lines", "heads", "many", "place"] (qg K):=by
 refine T.x13.F.okA (k:=1) Oy ι
 ·obtain⟨l,hl,m,pl,M,W,ps,hs,t,rfl,h1,ht,h2,J,O,hm,Y,Z,R,q⟩:=h
  show 0
  exists xc (ar (i:=4) Oy.nd rfl 0e2 (aH (yo T) hr.u rfl T.x6.m T.x6.k T.x6.b .nil aj ιZ))
  show 1;refine xf Ϙ rfl (pH rfl T.A66 (aa ω θz)) (c7 rfl (aN (au (i:=5) Oy.nd rfl ε) (aN (au (i:=6) Oy.nd rfl ε) bZ))) ?_
  exists xl (cA (aD ax γX ϐ γ6) (cH γv γ2 bU))
  show 5
  exists xl ψR
  refine #[_,rfl,_,rfl,m,pl,rfl,O,hm,λD H1 nD s1 hD=>?_];refine #[_,rfl,_,rfl,hl,l,_,_,rfl,c_.of (s1 _ _ h2),c_.of (s1 _ _ h1),?_]
  have j:(rowV hs).length=hs.length:=az hs
  refine let I_:Nat->L2.St->Hp->Prop:=λi σ H'=>L2.E2 λ(v u:Option V)=>L2.A3 (σ=[some ηd,some (.ref hl),some (.int m),some νf,some γ0,v,u]) εi (H' D=some (.lst (rowV ((r_ m).map (GF.FV t hs pl i)))));B4 (xs:=rowV hs) I_
   #[none,none,rfl,s1,?_] ?_ ?_ ?_ ?_
  ·rw[hD]
   congr 3
   unfold eE
   apply Oh
   ·simp
   ·intro k k1 k2
    rw[Su]
    simp[GF.FV]
    by_cases z:pl=k
    ·show 340
    ·show 341
  ·rintro i σ H' hi ⟨v,u,rfl,s2,g⟩
   exact #[c_.of (s2 _ _ h2),c_.of (s2 _ _ h1)]
  ·rw[j,o_,δL]
   exact J
  ·rintro i x y Tt σ H' hi hx hy nT ⟨v,u,rfl,s2,g⟩
   rw[j] at hi;refine ΞL;obtain⟨xh,G,rfl⟩:=br hx;obtain⟨p,ep,hp⟩:=ht.get (i:=i) γ
   have ey:y=.ref p:=by
    rw[aJ ep] at hy;exact(FK hy).symm
   subst ey
   have s3:a_ H' (upd H' Tt (.tup [.int (xh:Nat),.ref p])):=a_.new nT;generalize (upd H' Tt (.tup [.int (xh:Nat),.ref p]))=H2 at s3
   have gi:=aB (bX (row:=g_ W t i) (i:=pl) ρx)
   rw[bB γ] at gi
   have U:xh < m:=R xh (Gi G);refine #[_,rfl,_,rfl,p,_,_,_,rfl,rfl,c_.of (s3 _ _ (s2 _ _ hp)),gi,?_];refine #[_,rfl,_,rfl,D,_,_,xh,rfl,rfl,s3 _ _ g,cz (by rw[az,o_,Gf];exact U),?_]
   refine #[_,_,rfl,(s2.trans s3).up nD,?_];rw[ac,vq]
   congr 3
   have eh:hs.getD i 0=xh:=by rw[v_,G];rfl
   apply Oh
   ·simp
   ·intro k k1 k2
    rw[Su]
    simp[GF.FV,G]
    by_cases z:xh=k
    ·show 340
    ·show 341
  ·rintro σ H' ⟨v,u,rfl,s2,g⟩
   rw[j] at g;exact #[_,rfl,q D H' nD s2 g]
structure K5 (r w N M:Nat) (l:ϕ) (ks:δG) (pl:Nat) (by':η):Prop where
 len:by'.length=M
 lt:∀x∈by',x < 2 ^ w
 ok:∀k,k < N->ks[k]?=some false->GF.FJ r w M (λj=>l j k) (λj=>by'.getD j 0)=if k=pl then 1 else 0
structure Mt (r w N M:Nat) (l:ϕ) (ks:δG) (pl:Nat) (mk:η):Prop where
 len:mk.length=N
 lt:∀x∈mk,x < 2 ^ w
 one:mk.getD pl 0=1
 zero:∀k,k < N->ks[k]?=some true->mk.getD k 0=0
 ok:∀j,j < M->GF.FJ r w N (l j) χ9=0
def Bf (H:Hp) (D:Addr) (r w N M:Nat) (l:Nat→Nat→Nat) (ks:δG) (pl:Nat):Prop:=(∃e by',H D=some (.tup [.str "reckoned",.ref e])∧H e=some (.lst (rowV by'))∧K5 r w N M l ks pl by') ∨ (∃e mk,H D=some (.tup [.str "free",.ref e])∧H e=some (.lst (rowV mk))∧Mt r w N M l ks pl mk)
inductive Bg (K:m_) (a:q_) (vs:δ) (H:Hp) (Q:VK) (E_3:XK):Prop
 | mk:∀(fp L kn:Addr) (r w N M pl:Nat) (pL:List Addr) (l:Nat->Nat->Nat) (ks:List Bool),vs=[.ref fp,.ref L,.ref kn,.int pl]->FH a.C_Field H fp r w->GF.Gg r w->H L=some (.lst (pL.map V.ref))->Fw H pL M (g_ N l)->((∀i k,i < M->k < N->l i k < 2 ^ w))->H kn=some (.lst (HG ks))->ks.length=N->N<=12->M<=8->pl < N->ks[pl]?=some false->((∀D H',a_ H H'->H D=none->Bf H' D r w N M l ks pl->(∀t e,H' D=some (.tup [t,.ref e])->H e=none)->Q (.ref D) H'))->Bg K a vs H Q E_3
theorem zD (T:θ):x_ P wo K mg base 6 a.f12 ["field", "lines", "known", "place"] (Bg K a):=by
 refine T.x12.F.okA (k:=5) LS ι
 ·obtain⟨fp,L,kn,r,w,N,M,pl,pL,l,ks,rfl,hF,g,hL,ht,a4,c1,b2,hN,hM,ad,bt,q⟩:=h
  have q1:=λD e cy H' s n ne h1 h2 h3=>q D H' s n (.inl #[e,cy,h1,h2,h3]) (λt e' h=>by rw[h1] at h;cases h;exact ne)
  have q2:=λD e mk H' s n ne h1 h2 h3=>q D H' s n (.inr #[e,mk,h1,h2,h3]) (λt e' h=>by rw[h1] at h;cases h;exact ne)
  show 0
  show 1;refine xi (PW.pt (aY ϊZ (aY (am dP ϐ ζo υ) (aS (aX (aD ax Ψ ϐ γ6)))))) ?_
  show 4
  show 3
  exists xc (cK (i:=4) θn rfl 0e2 (i_.of (cap:=[1]) (own:=["at", "line"]) γc) rfl 92e7 ΓZ γ3 (λ_ _ _ _ _=>by exact(ay Ao Ψ (aH (yo T) hr.u rfl T.x6.m T.x6.k T.x6.b .nil aj (aa (aF (tU (K:=K) rfl) rfl T.A03 G0 θz) γ8)))))
  exists xc (ar (i:=5) θn rfl 0e2 δW)
  show 1;refine xf Ϙ rfl (ba rfl T.A06 (aa ζo ab)) (au (i:=6) θn rfl ε) ?_;show 1;refine xi (PW.pt (aY (aX (aD ax Ψ γX γ6)) (aS (am bx γX ϐ υ)))) ?_
  exists xl wC
  show 3
  exists xc (ar (i:=7) θn rfl 0e2 (aH (kD T) hr.u rfl T.x9.m T.x9.k T.x9.b .nil aj (aa γv Ξ5)))
  show 7;refine xi (am cg εH aL υ) ?_
  exists xc (ar (i:=4) θn rfl 0e2 (aH (qf T) hr.u rfl T.x11.m T.x11.k T.x11.b .nil aj (aa ο (aa (aH (zC T) hr.u rfl T.x10.m T.x10.k T.x10.b .nil aj (aa γv (aa Γz ηD))) Ξ5))))
  exists xl (aE (cF JX JV JU bi γ2 νI))
  show 20
  exists xc (ar (i:=7) θn rfl 0e2 (aH (kD T) hr.u rfl T.x9.m T.x9.k T.x9.b .nil aj (aa γv (aa Γz θy))))
  show 1;refine xi (am cV εH aL υ) ?_
  exists xl (aA (bJ (aa dI (aa (aH (vv T) hr.u rfl T.x13.m T.x13.k T.x13.b .nil aj (aa γv (aa γ2 (aa ζo θy)))) ab))))
  show 3
  exists xc (ar (i:=8) θn rfl 0e2 (oG qH (aD ax (aH (qf T) hr.u rfl T.x11.m T.x11.k T.x11.b .nil aj (aa ο (aa γv (aa εH θy)))) εH γ6) (mq ζo) xo))
  exists xl (aA (bJ (aa dI (aa θC ab))))
  have hS:c_ K H kn (HG ks):=c_.of c1
  have U:(HG ks).length=N:=by unfold HG;rw[o_,b2]
  have a9:∀{k:Nat}{b:Bool},ks[k]?=some b->(HG ks)[k]?=some 45e8:=λ{k b} e=>by unfold HG;rw[FM,e];rfl
  have aT:(pL.map ϙ).length=M:=by rw[o_,δL]
  refine Ϥ;refine b_ εa ν
  ·have:=of_decide_eq_true z
   omega
  refine #[_,rfl,_,rfl,kn,_,rfl,.inl hS,_,_,rfl,rfl,_,rfl,?_];refine b_ εa ν
  ·have:=of_decide_eq_true z
   rw[U] at this;omega
  refine #[_,rfl,_,rfl,kn,_,_,_,rfl,rfl,hS,aB (a9 bt),_,rfl,?_];show 29
  refine #[_,rfl,L,_,rfl,c_.of hL,λD nD=>?_];refine zm (xs:=pL.map ϙ) (row:=λi=>rowV (g_ N l i++eE M i)) (cs:=[some ηF]) ηA nD rfl (FG (by rw[aT];exact hM) (by decide:8<=εt)) ηM (λps H1 s1 hD Z dk dq=>?_)
  ·have hi:i < M:=by
    rw[<- aT];exact(Gr.mp hu).1
   show 156
   have eu:u=.ref p:=by
    show 337
   subst eu;refine #[_,rfl,_,rfl,L,_,rfl,.inl (s2.seq ηA),_,rfl,?_];show 6
   rw[aT];refine #[M,i,rfl,hi,by omega,λD3 H3 n3 s3 h3=>?_]
   refine #[p,D3,_,_,rfl,rfl,s3 _ _ (s2 _ _ hp),h3,?_,λD4 n4=>?_]
   ·rw[az,az,aK,lX]
    exact FG (by omega:N+M<=30) ζ
   ·refine hR D4 _ (s3.free n4) (s3.trans (a_.new n4)) ?_
    rw[ac,jk]
  ·have b0:Fw H1 ps M (g_ (N+M) λi k=>(g_ N l i++eE M i).getD k 0):=by
    refine #[by rw[Z.len,aT],λi p e=>?_]
    rw[Z.on i p e,Bc (by rw[Hr,aK,lX])]
   have tb:=GF.JL.start g a4 (T:=λi k=>(g_ N l i++eE M i).getD k 0) (λi k _ hk=>zB hk) (λi j hi hj=>wQ hj);generalize (λi k=>(g_ N l i++eE M i).getD k 0)=t0 at b0 tb
   have c2:=s1.seq hS;refine #[by decide,λHd nH=>#[_,rfl,kn,_,rfl,.inl ((a_.new nH).seq c2),_,rfl,by rw[U];omega,by rw[U];omega,?_]]
   have en:(((HG ks).length:Nat):Int).toNat=N:=by rw[U];omega
   rw[en]
   refine let I_:Nat->L2.St->Hp->Prop:=λo σ H'=>L2.E6 λ(v6 v7:Option V) (S:Addr) (ps:List Addr) (hs:List Nat) (t:Nat->Nat->Nat)=>L2.Q2 (σ=[some θL,some ηF,some ωy,some νf,some (.ref S),some (.ref Hd),v6,v7,none]) εi (H' S=some νK) (Fw H' ps M (g_ (N+M) t)) (GF.JL r w N M l t) (GF.Ju N M t hs (λk=>k < o/\ks[k]?=some false/\k≠pl)) (H' Hd=some (.lst (rowV hs))) (S≠Hd) (Hd∉ps) ((∀p∈hs,ks[p]?=some false/\p≠pl));bQ (lo:=0) (n:=N) I_
    #[none,none,D,ps,[],t0,rfl,(s1.trans (a_.new nH)),by rw[ae (aq hD nH)];exact hD,b0.same (a_.new nH),tb,GF.Ju.start.weaken (λk z=>absurd z.1 (JW k)),ac,aq hD nH,Z.ne nH,by simp] ?_ ?_
   ·rintro o σ H' ho ⟨v6,v7,S,ps,hs,t,rfl,s2,J,G,tb,pv,hH,a0,an,R⟩
    have ek:(0:Int)+(o:Nat)=((o:Nat):Int):=by omega
    rw[ek];obtain⟨b,eb⟩:∃b,ks[o]?=some b:=#[_,s_ (by rw[b2];exact ho)]
    refine #[_,rfl,_,rfl,kn,_,_,_,rfl,rfl,s2.seq hS,aB (a9 eb),b,rfl,?_];refine b_ (λz=>HS ?_) εa
    ·exact⟨_,_,S,ps,hs,t,rfl,s2,J,G,tb,pv.weaken (λk y=>⟨by
      have nk:k≠o:=λe=>by
       rw[e,eb,z] at y;exact absurd (FK y.2.1) ζ
      omega,y.2⟩),hH,a0,an,R⟩
    ·have dc:ks[o]?=some false:=by
      rw[eb]
      cases b
      ·rfl
      ·exact absurd rfl z
     show 339
     ·exact⟨_,_,S,ps,hs,t,rfl,s2,J,G,tb,pv.weaken (λk y=>⟨by
       have nk:k≠o:=λe=>y.2.2 (by
        have:=V.int.inj θu
        omega)
       omega,y.2⟩),hH,a0,an,R⟩
     ·have dd:o≠pl:=λe=>z ϊ0
      show 342
      rw[az];refine #[S,γE,o,M,ps,g_ (N+M) t,rfl,J,G,λi _=>by rw[aK];omega,pv.hl,hM,λf h1 h2 h3=>?_,λh0=>?_]
      ·rw[bB γ] at h3
       show 52;refine b_ ν (λz=>absurd wR z);refine #[_,rfl,_,rfl,_,rfl,Hd,_,rfl,.inl (c_.of hH),_,rfl,?_];show 6
       rw[az];refine #[S,γE,f,M,ps,g_ (N+M) t,rfl,J,G,by omega,h2,hM,λD5 H5 ck n5 s5 c9 df cv=>?_]
       refine #[_,rfl,Hd,_,rfl,.inl (c_.of (s5 _ _ hH)),_,rfl,?_];show 6
       rw[az]
       have ch:=tb.swap (h:=γE) (f:=f) γ h2
       have eT:GF.FW t γE f γE o=t f o:=by unfold GF.FW;show 25
       have cr:Fw H5 ck M (g_ (N+M) (GF.FW t γE f)):=df.congr λi _=>by
        unfold GF.FW
        by_cases z1:i=hs.length
        ·rw[if_pos z1]
         exact gL λk _=>by rw[if_pos z1]
        ·rw[if_neg z1]
         by_cases z2:i=f
         ·rw[if_pos z2]
          exact gL λk _=>by rw[if_neg z1,if_pos z2]
         ·rw[if_neg z2]
          exact gL λk _=>by rw[if_neg z1,if_neg z2]
       refine #[fp,D5,r,w,γE,o,M,N+M,ck,GF.FW t γE f,rfl,hF.same (s2.trans s5),δt,c9,cr,ch.lt,by omega,by omega,by omega,hM,by rw[eT];exact h3,λD6 H6 a5 n6 s6 a7 Y a6=>?_]
       rw[eT] at Y
       have t3:t f o < 2 ^ w:=tb.lt f o h2 γ
       have hc:=GF.Iz δt t3 ιc
       show 343
       have c0:GF.pw r w (t f o) ιc≠0:=λz=>by
        rw[z,ζ9] at O;exact absurd O ζ
       have b5:=ch.clear g a4 (h:=hs.length) (p:=o) γ ho hc c0
       have b3:=pv.step g tb (p:=o) ho h1 h2 hc O;generalize GF.Fx r w (GF.FW t hs.length f) hs.length o (GF.pw r w (t f o) (2 ^ w - 1 - 1))=t6 at Y b5 b3
       have a8:=s5 _ _ hH
       have b6:=s6 _ _ a8
       have a1:Hd∉a5:=λz=>(a6 Hd z).elim (λy=>an (cv Hd y)) λy=>by rw[a8] at y;cases y
       have b1:D6≠Hd:=λz=>by rw[z,a8] at n6;cases n6
       refine #[_,rfl,.inl #[rfl,_,c_.of b6],_,rfl,Hd,_,_,rfl,rfl,b6,?_,?_]
       ·rw[az]
        exact P5 (by omega:hs.length < 8) ζ
       ·refine #[_,_,D6,a5,hs++[o],t6,rfl,(s2.trans (s5.trans s6)).up (s1.free nH),?_,Y.upd a1,b5,b3.weaken ϑH,?_,b1,a1,λp hp=>?_]
        ·rw[ae b1]
         exact a7
        ·by_cases z:k=o
         ·show 102
         ·exact .inl ύx
        ·rw[ac,iZ]
        ·rcases Hi.mp hp with y | y
         ·exact R p y
         ·rw[Ge.mp y]
          exact #[dc,dd]
      ·refine εw
       show 29
       refine #[_,_,S,ps,hs,t,rfl,s2,J,G,tb,(pv.skip (p:=o) λi h1 h2=>?_).weaken ϑH,hH,a0,an,R]
       ·show 344
       ·by_cases z:k=o
        ·show 102
        ·exact .inl ύx
   ·rintro σ H' ⟨v6,v7,S,ps,hs,t,rfl,s2,J,G,tb,pv,hH,a0,an,R⟩
    show 342
    rw[az]
    have b4:=s2.seq hS
    have bm:∀p∈hs,p < N:=λp hp=>by
     obtain⟨j,hj⟩:=Lc hp;exact pv.lt j p hj
    refine #[S,γE,pl,M,ps,g_ (N+M) t,rfl,J,G,λi _=>by rw[aK];omega,pv.hl,hM,λf h1 h2 h3=>?_,λh0=>?_]
    ·rw[bB γ] at h3
     show 52;refine b_ (λz=>absurd θu δ6) (λ_=>?_)
     refine #[_,rfl,_,rfl,_,rfl,_,rfl,?_];refine #[fp,S,r,w,f,pl,M,N+M,ps,t,rfl,hF.same s2,δt,J,G,tb.lt,by omega,by omega,h2,hM,h3,λD6 H6 a5 n6 s6 a7 Y a6=>?_]
     have t3:t f pl < 2 ^ w:=tb.lt f pl h2 γ
     show 343;generalize dl:GF.pw r w (t f pl) (2 ^ w - 1 - 1)=c at Y O;obtain⟨p6,e6,c3⟩:=Y.get h2;refine #[_,rfl,D6,_,_,_,rfl,rfl,c_.of a7,aB (aJ e6),_,rfl,kn,_,rfl,.inl (s6.seq b4),_,rfl,p6,_,rfl,c_.of c3,λD7 n7=>?_];rw[U,Bb ρx]
     have ce:=s2.trans (s6.trans (a_.new (o:=.lst (rowV Φv)) n7));refine #[_,rfl,(show 2<=sizeLine by decide),λD8 n8=>?_]
     have a3:=ce.free n8;refine q1 D8 D7 Φv _ (ce.trans (a_.new n8)) a3 ((s2.trans s6).free n7) ac (by rw[ae (aq ac n8)];exact ac) ?_
     have db:∀j,j < M->((g_ (N+M) (GF.Fx r w t f pl c) f).drop N).getD j 0=GF.tm r w (t f (N+j)) c:=λj hj=>by
      rw[v_,Rp,← v_,bB γ]
      show 345
     have rk:=GF.Jv g tb a4 pv h1 h2 ad O;refine #[by rw[MX,aK];omega,λx hx=>?_,λk hk e=>?_]
     ·have c8:=Uz hx
      obtain⟨k,hk,rfl⟩:=G6.mp c8
      have cw:=GG.mp hk;show 345;exact GF.D_ γh (tb.lt f k h2 cw)
     ·rw[GF.F6 M (b:=λj=>l j k) (y:=λj=>GF.tm r w (t f (N+j)) c) λj hj=>#[rfl,db j hj]]
      by_cases z:k=pl
      ·rw[if_pos z,z]
       exact rk.1
      ·rw[if_neg z]
       exact rk.2 k hk #[hk,e,z]
    ·refine εw
     show 55;refine #[_,rfl,_,rfl,_,rfl,kn,_,rfl,.inl b4,_,rfl,?_];show 6
     rw[U];refine #[S,Hd,N,pl,M,N+M,ps,hs,t,rfl,J,G,hH,pv.hl,ad,by omega,by omega,hM,bm,λD7 H7 n7 s7 h7=>?_]
     refine #[(show 2<=sizeLine by decide),λD8 n8=>?_]
     have a3:=(s2.trans s7).free n8
     have a2:∀s,s < hs.length->hs.getD s 0∈hs:=λs aw=>Gi (GF.HJ aw)
     have cc:∀s,s < hs.length->hs.getD s 0≠pl:=λs aw=>(R _ (a2 s aw)).2
     have hz:∀i,hs.length<=i->i < M->t i pl=0:=λi h1 h2=>by
      show 344
     have fr:=GF.LF g tb pv ad cc hz
     have gx:∀k,k < N->((r_ N).map ϊI).getD k 0=GF.FV t hs pl γE k:=λk hk=>by
      rw[v_,FM,Ib hk];rfl
     refine q2 D8 D7 ((r_ N).map ϊI) _ ((s2.trans s7).trans (a_.new n8)) a3 (s2.free n7) ac (by rw[ae (aq h7 n8)];exact h7) #[by rw[o_,Gf],λx hx=>?_,?_,λk hk e=>?_,λj hj=>?_]
     ·obtain⟨k,hk,rfl⟩:=G6.mp hx
      exact GF.IA g tb pv ad k _ Θ
     ·rw[gx pl ad]
      exact GF.Ih _ Θ cc
     ·rw[gx k hk]
      refine GF.HE εa _ Θ λs aw z=>?_
      ·rw[z,bt] at e
       exact absurd (FK e) ζ
      ·have:=(R _ (a2 s aw)).1
       rw[z,e] at this;exact absurd (FK this) ζ
     ·exact(GF.F6 N λk hk=>#[rfl,gx k hk]).trans (fr j hj)
theorem vw {K:m_}{H:Hp}:∀{xs:δ}{ds:ηf},γm=ds.length->(∀(i:Nat) v d,xs[i]?=some v->ds[i]?=some d->h_ K H v d)->Fu K H xs ds
 | [],[],_,_=>by rw[Fu]
 | v :: xs,d :: ds,hl,h=>by
  rw[Fu];exact #[v,xs,rfl,h 0 v d rfl rfl,vw όS λi u e h1 h2=>h (i+1) u e οo οp]
 | [],_ :: _,hl,_=>by simp at hl
 | _ :: _,[],hl,_=>by simp at hl
theorem gW (h:∀x∈row,x < n) (hi:οO):row.getD i 0 < n:=by
 show 286
inductive sR (vs:δ) (H:Hp) (Q:VK) (E_3:XK):Prop
 | mk:∀(L:Addr) (ps:List Addr) (M N:Nat) (l:Nat->Nat->Nat),vs=[.ref L]->H L=some (.lst (ps.map V.ref))->Fw H ps M (g_ N l)->1<=M->M<=2->1<=N->N+M<=8->Q .non H->sR vs H Q E_3
theorem oZ (T:θ):x_ P wo K mg base 1 a.f19 ["weights"] sR:=by
 refine T.x19.F.okA (k:=0) PD ι
 ·obtain⟨L,ps,M,N,l,rfl,hL,ht,h1,h2,h3,h4,q⟩:=h
  show 103
  show 157
  obtain⟨D,e0,g⟩:=ht.get (i:=0) γ
  show 0
  show 1;refine xi (PW.pt (aY (am bq νW ai υ) (aS (am b7 νW (bg (v:=.int 2) rfl T.Af1 ϊ) υ)))) ?_
  show 4
  show 3
  exists xc (ar (i:=1) PD.nd rfl 0e2 (aF aG rfl T.A03 G0 ΦH))
  show 1;refine xi (PW.pt (aY ρi (aS (am b7 (ay aU ω νW) (bg (v:=.int 8) rfl T.Ad4 ϊ) υ)))) ?_
  show 4
  show 34;refine xf Ϙ rfl (aP ο) (au (i:=2) PD.nd rfl ε) ?_;show 7;refine xi (am c4 ζo ω υ) ?_
  show 4
  show 20;show 346
  show 346
  refine #[_,rfl,L,_,_,_,rfl,rfl,c_.of hL,aB (j:=0) (aJ e0),D,_,rfl,.inl νg,?_];show 6
  rw[er 0];show 22
  refine #[_,rfl,_,rfl,L,_,rfl,.inl ηA,_,_,rfl,rfl,_,_,rfl,rfl,_,rfl,?_];refine b_ τp ν
  refine #[_,rfl,L,rfl,ιa,let I_:Nat->L2.St->Hp->Prop:=λi σ H'=>L2.A2 ((∃v2:Option V,σ=[some ηF,some (.int (N:Nat)),v2])) (H'=H);cm (K:=K) (a:=L) (xs:=ps.map ϙ) I_ ϋ0 ?_ ?_ ?_]
  ·rintro i σ H' _ ⟨_,rfl⟩
   exact c_.of hL
  ·rintro i v σ H' hv ⟨⟨v2,rfl⟩,rfl⟩
   show 347
   show 348
   cases FK hv;refine #[_,rfl,p,_,rfl,.inl (c_.of hp),_,rfl,rfl,_,rfl,?_];refine b_ (λy=>absurd y (EF (by rw[er]))) υ2
  ·rintro σ H' ⟨⟨v2,rfl⟩,rfl⟩
   exact q
inductive sU (a:q_) (vs:δ) (H:Hp) (Q:VK) (E_3:XK):Prop
 | mk:∀(fp L:Addr) (r w:Nat) (ps:List Addr) (M N:Nat) (l:Nat->Nat->Nat),vs=[.ref fp,.ref L]->FH a.C_Field H fp r w->GF.Good r w->H L=some (.lst (ps.map V.ref))->Fw H ps M (g_ N l)->((∀i k,i < M->k < N->l i k < 2 ^ w))->1<=M->M<=2->1<=N->N<=8->((∀i,i < M->∃k,k < N/\l i k≠0))->((∀k,k < N->∃i,i < M/\l i k≠0))->(∀H',a_ H H'->Q .non H')->sU a vs H Q E_3
theorem yr {k:Nat} (hk:ϐY) (h:row.getD k 0≠0):((row.map λn:Nat=>(n:Int)).any λi=>i != 0)=true:=by
 rw[MW];refine #[((row.getD k 0:Nat):Int),G6.mpr #[row.getD k 0,?_,rfl],?_]
 ·rw[v_,s_ hk]
  exact IV hk
 ·simp only[bne_iff_ne,ne_eq]
  omega
theorem Bh (row:η):rowV row=(row.map λn:Nat=>(n:Int)).map V.int:=by
 show 43
theorem o3 (T:θ):x_ P wo K mg base 1 a.f20 ["field", "weights"] (sU a):=by
 refine T.x20.F.okA (k:=0) Ow ι
 ·obtain⟨fp,L,r,w,ps,M,N,l,rfl,hF,g,hL,ht,R,h1,h2,h3,h4,J,O,q⟩:=h
  obtain⟨dF,Y⟩:=id hF
  have ad:=g.top16
  show 103
  show 157
  obtain⟨Z,e0,U⟩:=ht.get (i:=0) γ
  show 0
  show 1;refine xf Ϙ rfl 23e6 (au (i:=2) Ow.nd rfl ε) ?_;show 1;refine xf Ϙ rfl 44e4 (au (i:=3) Ow.nd rfl ε) ?_;show 7;refine xi (PW.pt (aY ϊZ (aS (am b7 ϐ ϟ υ)))) ?_
  show 4
  show 349;refine xi (bS (aX (aF (r0 rfl) rfl T.A71 ρ1 γt))) ?_
  show 4
  show 349;refine xf Ϙ rfl (ba rfl T.A06 (aa (aF aG rfl T.A03 G0 (aa θX ab)) ab)) (au (i:=4) Ow.nd rfl δD) ?_;show 7
  refine xi (bS (aX (aF (r0 rfl) rfl T.A71 ρ1 (aa (bc (i_.of (cap:=[4]) (own:=["some"]) γc) rfl 23e6 ε9 γ3 (λ_ _ _ _ _=>by exact(aD νC ω ο γ6))) ab)))) ?_
  show 4
  show 20;refine #[_,rfl,L,rfl,ιa,let I_:Nat->L2.St->Hp->Prop:=λi σ H'=>L2.A2 Θj (H'=H);cm (K:=K) (a:=L) (xs:=ps.map ϙ) I_ #[#[none,none,none,rfl],rfl] ?_ ?_ ?_]
  ·rintro i σ H' _ ⟨_,rfl⟩
   exact c_.of hL
  ·rintro i v σ H' hv ⟨⟨v2,v3,v4,rfl⟩,rfl⟩
   show 347
   show 348
   cases FK hv;refine #[_,rfl,p,rfl,#[_,c_.of hp],let I_:Nat->L2.St->Hp->Prop:=λj σ G=>L2.A2 ((∃v3:Option V,σ=[some θL,some ηF,some γR,v3,v4])) (G=H');cm (K:=K) (a:=p) (xs:=rowV πn) I_ #[ϊ,rfl] ?_ ?_ ?_]
   ·rintro j σ G _ ⟨_,rfl⟩
    exact c_.of hp
   ·rintro j u σ G hu ⟨⟨v3,rfl⟩,rfl⟩
    obtain⟨y,ey,rfl⟩:=br hu
    have hy:y < 2 ^ w:=gU (λk hk=>R i k hi hk) y (Gi ey);show 22
    refine #[_,rfl,_,rfl,fp,_,_,_,_,rfl,Y,γr,ηo,fq r w,_,_,rfl,rfl,_,rfl,?_];refine b_ (λz=>absurd θu γ) υ2
   ·rintro σ G ⟨⟨v3,rfl⟩,rfl⟩
    obtain⟨k,hk,hz⟩:=J i hi;refine #[_,rfl,p,_,rfl,(by rw[<- Bh];exact c_.of hp),_,rfl,?_]
    rw[yr (k:=k) υS (by rw[bB hk];exact hz)]
    refine b_ γx (λ_=>#[μM,rfl])
  ·rintro σ H' ⟨⟨v2,v3,v4,rfl⟩,rfl⟩
   refine #[_,rfl,L,_,_,_,rfl,rfl,c_.of hL,aB (j:=0) (aJ e0),Z,_,rfl,.inl (c_.of U),_,rfl,by rw[er];omega,by rw[er];omega,?_]
   have en:(((rowV (g_ N l 0)).length:Nat):Int).toNat=N:=by rw[er];omega
   rw[en];refine let I_:Nat->L2.St->Hp->Prop:=λi σ G=>L2.A2 Θj (a_ H' G);bQ (lo:=0) (n:=N) I_ #[μM,a_.refl _] ?_ ?_
   ·rintro k σ G hk ⟨⟨v2,v3,v4,rfl⟩,s1⟩
    have ek:(0:Int)+(k:Nat)=((k:Nat):Int):=by omega
    rw[ek];refine #[_,rfl,L,rfl,#[_,c_.of (s1 _ _ hL)],λD nD=>?_];refine cB (xs:=ps.map ϙ) (f:=λi=>.int ((l i k:Nat):Int)) (cs:=[some μQ]) (c_.of (s1 _ _ hL)) nD rfl (by rw[el];exact FG h2 ζ) ηM ηR
    ·have hi:i < M:=by rw[<- el];exact(Gr.mp hu).1
     show 156;rw[aJ ep] at hu
     cases FK hu
     have gi:=aB (bX (row:=g_ N l i) (i:=k) υS)
     rw[bB hk] at gi;exact #[_,rfl,_,rfl,p,_,_,_,rfl,rfl,c_.of (43e9 _ _ hp),gi,hR _ ϡ]
    ·rw[el] at hD
     have e:((r_ M).map λi=>V.int ((l i k:Nat):Int))=(((r_ M).map λi=>l i k).map λn:Nat=>(n:Int)).map V.int:=by
      show 158
     rw[e] at hD;obtain⟨i,hi,hz⟩:=O k hk;refine Ωl
     have gd:((r_ M).map λi=>l i k).getD i 0=l i k:=by
      rw[v_,FM,Ib hi];rfl
     rw[yr (k:=i) (by rw[o_,Gf];exact hi) (by rw[gd];exact hz)]
     refine b_ γx (λ_=>#[μM,s1.trans s2])
   ·rintro σ G ⟨⟨v2,v3,v4,rfl⟩,s1⟩
    exact q _ s1
def eqn (N:Nat) (l:ϕ) (t k:Nat):Nat:=if k < N then l t k else if k - N=t then 1 else 0
theorem yu (N M:Nat) (l:ϕ) (t:Nat):g_ (N+M) ζf t=g_ N l t++(r_ M).map λj=>if j=t then 1 else 0:=by
 unfold g_;rw[List.range_add,HU,GB]
 congr 1
 ·exact KA λk hk=>by
   show 56;rw[if_pos πm]
 ·exact KA λk hk=>by
   show eqn N l t (N+k)=_
   show 56;rw[if_neg γ,MY]
inductive lZ (K:m_) (vs:δ) (H:Hp) (Q:VK) (E_3:XK):Prop
 | mk:∀(L:Addr) (ps:List Addr) (M N t:Nat) (l:Nat->Nat->Nat),vs=[.ref L,.int t]->H L=some (.lst (ps.map V.ref))->Fw H ps M (g_ N l)->t < M->N+M<=8->(∀D H',H D=none->a_ H H'->H' D=some (.lst (rowV (g_ (N+M) (eqn N l) t)))->Q (.ref D) H')->lZ K vs H Q E_3
theorem rc (T:θ):x_ P wo K mg base 1 a.f21 ["weights", "total"] (lZ K):=by
 refine T.x21.F.okA (k:=0) Px ι
 ·obtain⟨L,ps,M,N,t,l,rfl,hL,ht,G,h8,q⟩:=h
  show 103
  obtain⟨p,ep,hp⟩:=ht.get G
  show 0
  exists xc (ar (i:=2) Px.nd rfl 0e2 (bu bK rfl T.A18 γf (aa τO ab)))
  show 1;refine xf Ϙ rfl (ba rfl T.A06 Φt) (au (i:=3) Px.nd rfl ε) ?_
  exists xl (aE (cF JX JV JU bi Ψ (aa (g0 (am bx ϐ ω υ) ai ai) ab)))
  show 5
  show 51
  refine #[_,rfl,_,rfl,L,_,_,_,rfl,rfl,c_.of hL,aB γD,p,_,rfl,.inl (c_.of hp),λD nD=>?_]
  have sD:=a_.new (o:=.lst (rowV (g_ N l t))) nD
  have hD:(upd H D ϋ1) D=some 166e5:=ac;generalize (upd H D (.lst (rowV (g_ N l t))))=H1 at sD hD;refine #[_,rfl,L,_,rfl,.inl (c_.of (sD _ _ hL)),_,rfl,by rw[el];omega,by rw[el];omega,?_]
  have en:(((ps.map ϙ).length:Nat):Int).toNat=M:=by rw[el];omega
  rw[en];refine let I_:Nat->L2.St->Hp->Prop:=λj σ H'=>L2.A3 ((∃v3:Option V,σ=[some ηF,some (.int t),some γ0,v3])) εi (H' D=some (.lst (rowV τu)));bQ (lo:=0) (n:=M) I_ #[ζO,sD,by rw[hD];simp] ?_ ?_
  ·rintro j σ H' hj ⟨⟨v3,rfl⟩,s1,h1⟩
   have ej:(0:Int)+(j:Nat)=((j:Nat):Int):=by omega
   rw[ej]
   have g:(rowV τu).length < sizeLine:=by
    rw[az,Hr,aK,o_,Gf];exact P5 (by omega:N+j < 9) ζ
   have er:rowV (g_ N l t++(r_ (j+1)).map λj=>if j=t then 1 else 0)=rowV τu++[.int ((if j=t then 1 else 0:Nat):Int)]:=by
    rw[M7,HU,← Qm,← jk];rfl
   refine #[_,rfl,.inl #[rfl,_,c_.of h1],_,rfl,_,rfl,rfl,_,rfl,?_]
   by_cases z:j=t
   ·refine b_ ν (λy=>absurd (decide_eq_true (by rw[z])) y)
    rw[if_pos z] at er;exact Θy
   ·refine b_ ΘK ν
    rw[if_neg z] at er;exact Θy
  ·rintro σ H' ⟨⟨v3,rfl⟩,s1,h1⟩
   refine #[_,rfl,q D H' nD s1 ?_];rw[h1,yu]
def cf (bp:Addr) (M N:Nat) (Lp:Addr):List 12e2:=[("blocks",.ref bp),("sums",.int M),("data",.int N),("roles",.int ((N+M:Nat):Int)),("lines",.ref Lp)]
theorem d9 (bp:Addr) (M N:Nat) (Lp:Addr):(cf bp M N Lp).lookup ("blocks" : Str)=some (.ref bp):=rfl
theorem yv (bp:Addr) (M N:Nat) (Lp:Addr):(cf bp M N Lp).lookup ("sums" : Str)=some (.int M):=rfl
theorem ee (bp:Addr) (M N:Nat) (Lp:Addr):(cf bp M N Lp).lookup ("data" : Str)=some (.int N):=rfl
theorem dZ (bp:Addr) (M N:Nat) (Lp:Addr):(cf bp M N Lp).lookup ("roles" : Str)=some (.int ((N+M:Nat):Int)):=rfl
theorem jY (bp:Addr) (M N:Nat) (Lp:Addr):(cf bp M N Lp).lookup ("lines" : Str)=some (.ref Lp):=rfl
structure IP (w M N:Nat) (l:ϕ):Prop where
 m1:1<=M
 m2:M<=2
 n1:1<=N
 n8:N+M<=8
 lt:∀i k,i < M->k < N->l i k < 2 ^ w
 row:∀i,i < M->∃k,k < N/\l i k≠0
 col:∀k,k < N->∃i,i < M/\l i k≠0
theorem iA (W:θ4) (t16:16<=2 ^ w):∀i k,i < M->k < N+M->eqn N l i k < 2 ^ w:=λi k hi hk=>by
 show 56
 split
 ·exact W.lt i k hi (by assumption)
 ·split <;> omega
structure Fz (a:q_) (H:Hp) (c bp fp:Addr) (r w n M N:Nat) (l:ϕ):Prop where
 ins:∃dx Lp qs,H c=some (.ins γb dx ϐZ)/\H Lp=some υT/\Fw H qs M (g_ (N+M) ζf)
 blk:FR a H bp fp r w n
theorem Fz.same {a:q_}{H H':Hp}{c bp fp:Addr}{r w n M N:Nat}{l:ϕ} (h:ϊs) (s:γN):Fz a H' c bp fp r w n M N l :=
 let ⟨dx,Lp,qs,h1,h2,h3⟩:=h.ins
 #[#[dx,Lp,qs,s _ _ h1,s _ _ h2,h3.same s],h.blk.same s]
inductive qh (a:q_) (vs:δ) (H:Hp) (Q:VK) (E_3:XK):Prop
 | mk:∀(c dx bp fp L:Addr) (r w n M N:Nat) (ps:List Addr) (l:Nat->Nat->Nat),vs=[.ref c,.ref bp,.ref L]->H c=some (.ins a.C_Code dx [])->FR a H bp fp r w n->GF.Good r w->H L=some (.lst (ps.map V.ref))->Fw H ps M (g_ N l)->IP w M N l->(∀H',(∀b o,b≠c->H b=some o->H' b=some o)->Fz a H' c bp fp r w n M N l->Q .non H')->qh a vs H Q E_3
theorem vx (T:θ):x_ P wo K mg base 2 a.f22 ["self", "blocks", "weights"] (qh a):=by
 refine T.x22.F.okA (k:=1) va ι
 ·obtain⟨c,dx,bp,fp,L,r,w,n,M,N,ps,l,rfl,hc,hB,g,hL,ht,W,q⟩:=h
  obtain⟨dB,O⟩:=hB.ins
  show 103
  show 157
  obtain⟨a3,e0,a2⟩:=ht.get (i:=0) W.m1
  show 68
  show 0
  exists xc (aE (aH (oZ T) hr.u rfl T.x19.m T.x19.k T.x19.b .nil aj γt))
  exists xc (aE (aH (o3 T) hr.u rfl T.x20.m T.x20.k T.x20.b .nil aj (aa νP γt)))
  show 41
  exists xc (aQ ο ζo rfl)
  exists xc (aQ ο (aF aG rfl T.A03 G0 (aa ξB ab)) rfl)
  exists xc (aQ ο (ay aU ϟ ϟ) rfl)
  exists xl (aQ ο (bc (i_.of (cap:=[2]) (own:=["total"]) γc) rfl 63e4 ε9 γ3 (λ_ _ _ _ _=>by exact(aH (rc T) hr.u rfl T.x21.m T.x21.k T.x21.b .nil aj ρD))) rfl)
  refine #[_,rfl,L,ps,M,N,l,rfl,hL,ht,W.m1,W.m2,W.n1,W.n8,?_];refine #[_,rfl,bp,_,_,_,_,rfl,O,γT,θm,ft fp w n,_,rfl,fp,L,r,w,ps,M,N,l,rfl,hB.fld,g,hL,ht,W.lt,W.m1,W.m2,W.n1,by omega,W.row,W.col,λH1 s1=>?_]
  have a1:=s1 _ _ hc
  have Z:bp≠c:=λz=>by
   rw[z,hc] at O
   have:=(HO.ins.inj (FK O)).2.2;unfold bf at this
   show 8
  obtain⟨dF,U⟩:=hB.fld
  have ad:fp≠c:=λz=>by
   rw[z,hc] at U
   have:=(HO.ins.inj (FK U)).2.2;unfold ff at this
   show 8
  have J:L≠c:=λz=>by rw[z,hc] at hL;cases hL
  have Y:∀(i:Nat) p,ps[i]?=some p->p≠c:=λi p e z=>by
   have:=ht.on i p e;rw[z,hc] at this
   show 8
  refine #[_,rfl,_,rfl,c,γb,dx,_,rfl,a1,ϖ,θo,ζ,?_]
  refine #[_,rfl,L,_,rfl,.inl (c_.of (by rw[ae J];exact s1 _ _ hL)),_,rfl,c,γb,dx,_,rfl,ac,ϖ,T.A58,ηJ,?_]
  refine #[_,rfl,L,_,_,_,rfl,rfl,c_.of (by rw[ae J,ae J];exact s1 _ _ hL),aB (j:=0) (aJ e0),a3,_,rfl,.inl (c_.of (by rw[ae (Y 0 _ e0),ae (Y 0 _ e0)];exact s1 _ _ a2)),_,rfl,c,γb,dx,_,rfl,ac,ϖ,ζa,ηK,?_]
  refine #[_,rfl,c,_,_,_,_,rfl,ac,ϖ,ζa,rfl,_,rfl,c,_,_,_,_,rfl,ac,ϖ,T.A58,rfl,_,_,rfl,rfl,_,rfl,c,γb,dx,_,rfl,ac,ϖ,ηp,μq,?_]
  show 9;rw[bb,bb,bb,el,er]
  have ef:FD "roles" (.int ((N:Int)+(M:Int))) (FD "data" (.int (N:Int)) (FD "sums" (.int (M:Int)) (FD "blocks" (.ref bp) [])))=[(("blocks" : Str),V.ref bp),(("sums" : Str),V.int M),(("data" : Str),V.int N),(("roles" : Str),V.int ((N+M:Nat):Int))]:=by
   rw[N2];rfl
  rw[ef]
  have G:123e3 c=some (.ins γb dx [(("blocks" : Str),V.ref bp),(("sums" : Str),V.int M),(("data" : Str),V.int N),(("roles" : Str),V.int ((N+M:Nat):Int))]):=ac
  have k2:∀b o,b≠c→H b=some o→123e3 b=some o:=λb o z e=>by rw[ae z];exact s1 _ _ e
  generalize (upd H1 c (.ins a.C_Code dx [(("blocks" : Str),V.ref bp),(("sums" : Str),V.int M),(("data" : Str),V.int N),(("roles" : Str),V.int ((N+M:Nat):Int))]))=H2 at G k2
  have an:=k2 _ _ J hL
  have aT:Fw H2 ps M (g_ N l):=#[δL,λi p e=>k2 _ _ (Y i p e) ϑG];refine #[_,rfl,c,_,_,_,_,rfl,G,ϖ,T.A58,rfl,_,rfl,by omega,by omega,λD nD=>?_]
  rw[G5];refine pJ (n:=M) (row:=λi=>rowV ϋJ) (cs:=[some ηF]) nD rfl 154e8 (λi H3 R3 hi s3 hR=>?_) (λqs H3 s3 hD R hf a4=>?_)
  ·exact #[_,rfl,_,rfl,L,ps,M,N,i,l,rfl,s3 _ _ an,aT.same s3,hi,W.n8,λD4 H4 n4 s4 h4=>hR D4 H4 n4 s4 h4]
  ·have aw:D≠c:=λz=>by rw[z,G] at nD;cases nD
   have a0:∀(i:Nat) p,qs[i]?=some p->p≠c:=λi p e z=>by
    have:=hf p (Gi e);rw[z,G] at this
    show 8
   refine #[_,rfl,c,γb,dx,_,rfl,s3 _ _ G,ϖ,T.A47,ξF,?_]
   refine q _ ώ5 #[#[dx,D,qs,ac,?_,#[R.len,λi p e=>?_]],#[#[dB,?_],#[dF,?_]]]
   ·rw[ae z]
    show 350
   ·rw[ae aw]
    exact hD
   ·rw[ae (a0 i p e)]
    exact R.on i p e
   ·rw[ae Z]
    exact s3 _ _ (k2 _ _ Z O)
   ·rw[ae ad]
    exact s3 _ _ (k2 _ _ ad U)
def eF (r w n M N:Nat) (l:ϕ) (bs:η):List Nat:=bs++(r_ M).map λt=>GF.F8 r w n ύ0
def Jj (r w n M N:Nat) (l:ϕ) (bs:η):Bool:=(r_ M).all λt=>decide (GF.F8 r w n ((g_ (N+M) ζf t).zip bs)=0)
def Gd:Option Nat->V
 | some b=>.int (b:Nat)
 | none=>.non
def Ft (os:ϝ):List V:=os.map Gd
theorem bH (os:ϝ):(Ft os).length=os.length:=by unfold Ft;rw[o_]
variable {os:List (Option Nat)}
theorem bP {k:Nat}{o:ιo} (h:os[k]?=some o):(Ft os)[k]?=some (Gd o):=by
 unfold Ft;rw[FM,h];rfl
inductive og (a:q_) (vs:δ) (H:Hp) (Q:VK) (E_3:XK):Prop
 | mk:∀(c bp fp:Addr) (r w n M N k:Nat) (l:Nat->Nat->Nat),vs=[.ref c,.int k]->Fz a H c bp fp r w n M N l->k < N+M->Q .non H->og a vs H Q E_3
theorem fO (T:θ):x_ P wo K mg base 1 a.f24 ["self", "role"] (og a):=by
 refine T.x24.F.okA (k:=0) lL ι
 ·obtain⟨c,bp,fp,r,w,n,M,N,k,l,rfl,hC,hk,q⟩:=h
  obtain⟨dx,Lp,qs,h1,_,_⟩:=hC.ins
  show 0
  show 69
  show 4
  show 57
  refine #[_,rfl,_,rfl,c,_,_,_,_,rfl,h1,ϖ,ηp,dZ bp M N Lp,_,_,rfl,rfl,_,rfl,?_];refine b_ γa εB
inductive yw (K:m_) (a:q_) (vs:δ) (H:Hp) (Q:VK) (E_3:XK):Prop
 | mk:∀(c bp fp kn:Addr) (r w n M N pl:Nat) (l:Nat->Nat->Nat) (ks:List Bool),vs=[.ref c,.ref kn,.int pl]->Fz a H c bp fp r w n M N l->GF.Gg r w->IP w M N l->H kn=some (.lst (HG ks))->ks.length=N+M->pl < N+M->ks[pl]?=some false->(∀D H',a_ H H'->H D=none->Bf H' D r w (N+M) M (eqn N l) ks pl->(∀t e,H' D=some (.tup [t,.ref e])->H e=none)->Q (.ref D) H')->yw K a vs H Q E_3
theorem l3 (T:θ):x_ P wo K mg base 7 a.f23 ["self", "known", "role"] (yw K a):=by
 refine T.x23.F.okA (k:=6) vb ι
 ·obtain⟨c,bp,fp,kn,r,w,n,M,N,pl,l,ks,rfl,hC,g,W,D,G,J,j,q⟩:=h
  obtain⟨dx,Lp,qs,h1,h2,h3⟩:=δc;obtain⟨dB,hB⟩:=hC.blk.ins
  show 68
  show 0
  exists xl (aA (aH (zD T) hr.u rfl T.x12.m T.x12.k T.x12.b .nil aj (aa θE (aa ϟ ζc))))
  refine #[_,rfl,c,_,_,_,_,rfl,h1,ϖ,θo,d9 bp M N Lp,bp,_,_,_,_,rfl,hB,γT,θm,ft fp w n,_,rfl,c,_,_,_,_,rfl,h1,ϖ,T.A47,jY bp M N Lp,_,rfl,_,rfl,?_];exact #[fp,Lp,kn,r,w,N+M,M,pl,qs,eqn N l,ks,rfl,hC.blk.fld,g,h2,h3,iA W g.toGood.top16,D,G,by omega,by have:=W.m2;omega,J,j,q]
def Lj (r w M N:Nat) (l:ϕ) (by':η) (k:Nat):Nat:=GF.FJ r w M ρo (λt=>by'.getD t 0)
def IQ (r w M N:Nat) (l:ϕ) (by':η) (os:ϝ):List 81e1:=((r_ (N+M)).filter λk=>(os.getD k none).isSome).map λk=>(Lj r w M N l by' k,(os.getD k none).getD 0)
inductive qi (K:m_) (a:q_) (vs:δ) (H:Hp) (Q:VK) (E_3:XK):Prop
 | mk:∀(c bp fp bl rl:Addr) (r w n M N:Nat) (l:Nat->Nat->Nat) (by':List Nat) (os:List (Option Nat)),vs=[.ref c,.ref bl,.ref rl]->Fz a H c bp fp r w n M N l->GF.Good r w->n<=16->IP w M N l->H bl=some (.lst (rowV by'))->by'.length=M->H rl=some (.lst (Ft os))->os.length=N+M->(∀H',a_ H H'->Q (.int ((GF.F8 r w n (IQ r w M N l by' os):Nat):Int)) H')->qi K a vs H Q E_3
theorem mO (T:θ):x_ P wo K mg base 5 a.f26 ["self", "by", "row"] (qi K a):=by
 refine T.x26.F.okA (k:=4) MI ι
 ·obtain⟨c,bp,fp,bl,rl,r,w,n,M,N,l,j,os,rfl,hC,g,hn,W,a4,a1,a2,bt,q⟩:=h
  obtain⟨dx,Lp,qs,h1,h2,h3⟩:=hC.ins
  show 68
  have a0:=g.top16
  show 351
  show 0
  exists xc (ar (i:=3) MI.nd rfl 15e3 (ay dJ (be νE) ϟ))
  show 1;refine xf Ϙ rfl (pH rfl T.A66 (aa ω μ1)) (c7 rfl (aN (au (i:=4) MI.nd rfl ε) (aN (au (i:=5) MI.nd rfl ε) bZ))) ?_
  exists xl (ar (i:=3) MI.nd rfl 15e3 (aH (kC T) hr.u rfl T.x8.m T.x8.k T.x8.b .nil aj (aa ϐ (aa (aH (fu T) hr.u rfl T.x7.m T.x7.k T.x7.b .nil aj (aa θE ξN)) ab))))
  show 5
  exists xc (cK (i:=6) MI.nd rfl 0e2 ΞM rfl 63e4 ε9 (λ_ _ _ _ _=>(cY (am cg (aD νC ο ω γ6) aL υ))) ξC)
  exists xl (aA (ao εN γT T.x18.me (dY T) hr.u T.x18.b .nil aj (aa (bc (i_.of (cap:=[3]) (own:=["role"]) γc) rfl (aP γX) ε9 γ3 Γs) (aa (bc ΞM rfl (aP γX) ε9 γ3 Γs) ab))))
  refine #[(show 1<=sizeLine by decide),λp1 n1=>#[_,rfl,c,_,_,_,_,rfl,(a_.new n1) _ _ h1,ϖ,ηp,dZ bp M N Lp,p1,_,_,rfl,rfl,ac,by omega,by omega,?_,λp2 n2=>?_]]
  ·rw[G5]
   show 352
   show 353
  have eR:(FL (((N+M:Nat):Int)).toNat [V.int 0]).flatten=rowV 117e6:=by
   rw[G5]
   have:Γ8=FL (N+M) 0:=by
    show ((r_ (N+M)).map λ_=>0)=_
    rw[Qw,Gf]
   show 19;exact ra (N+M) 0
  rw[eR]
  have s1:=(a_.new (o:=.lst [V.int 0]) n1).trans (a_.new (o:=.lst (rowV Γ8)) n2)
  have a5:(upd (upd H p1 ώE) p2 ΔD) p2=some 126e9:=ac;generalize (upd (upd H p1 (.lst [V.int 0])) p2 (.lst (rowV ((r_ (N+M)).map λk=>GF.FJ r w 0 (λt=>eqn N l t k) (λt=>j.getD t 0)))))=H1 at s1 a5;refine #[_,rfl,_,rfl,c,_,_,_,_,rfl,s1 _ _ h1,ϖ,T.A47,jY bp M N Lp,bl,Lp,_,_,rfl,c_.of (s1 _ _ a4),c_.of (s1 _ _ h2),let I_:Nat->L2.St->Hp->Prop:=λi σ H'=>L2.E3 λ(La:Addr) (v4 v5:Option V)=>L2.A3 (σ=[some γw,some (.ref bl),some πF,some (.ref La),v4,v5,none]) εi (H' La=some (.lst (rowV ((r_ (N+M)).map λk=>GF.FJ r w i ρo Γg))));xB (K:=K) (l1:=bl) (l2:=Lp) (xs:=rowV j) (ys:=qs.map ϙ) I_ #[p2,none,none,rfl,s1,a5] ?_ (by rw[az,a1,el]) ?_ ?_]
  ·rintro i σ H' _ ⟨La,v4,v5,_,sm,_⟩
   exact #[c_.of (sm _ _ a4),c_.of (sm _ _ h2)]
  ·rintro i u v T' σ H' hi hu hv hT ⟨La,v4,v5,rfl,sm,R⟩
   obtain⟨f,a8,rfl⟩:=br hu
   have aw:i < M:=by rw[<- el];exact(Gr.mp hv).1
   obtain⟨p,ep,hp⟩:=h3.get aw;rw[aJ ep] at hv
   cases FK hv
   have s2:=sm.trans Φk
   have D:=143e6 _ _ R;show 53;generalize (upd H' T' (.tup [V.int (f:Nat),V.ref p]))=H2 at s2 D
   have J:=hC.same s2;show 354;refine #[_,rfl,_,rfl,c,_,_,_,_,rfl,s2 _ _ h1,ϖ,θo,d9 bp M N Lp,bp,_,_,_,_,rfl,hB,γT,θm,ft fp w n,_,rfl,_,rfl,?_];refine #[fp,p,r,w,f,g_ (N+M) ζf i,rfl,J.blk.fld,g,s2 _ _ hp,gU λk hk=>iA W a0 i k aw hk,by rw[aK];omega,λD3 H3 n3 s3 bm=>?_]
   refine #[La,D3,_,_,rfl,s3 _ _ D,bm,by rw[o_,Gf,o_,aK],by rw[o_,Gf];omega,λD4 H4 n4 s4 h4=>?_]
   refine #[D4,_,_,rfl,s2.trans ϑJ,?_];rw[h4];refine congrArg (λl=>some (HO.lst (rowV l))) ?_
   have ef:j.getD i 0=f:=by rw[v_,a8];rfl
   unfold g_
   apply JY
   intro k;rw[TY,FM,FM,FM,FM]
   cases (r_ (N+M))[k]? with
   | none=>rfl
   | some x =>
    rw[<- ef];rfl
  ·rintro σ H' ⟨La,v4,v5,rfl,sm,R⟩
   rw[az,a1] at R
   have b0:=hC.same sm;refine #[_,rfl,c,_,_,_,_,rfl,sm _ _ h1,ϖ,ηp,dZ bp M N Lp,_,rfl,by omega,by omega,λtl a9=>?_]
   rw[G5]
   have a3:∀k,k < N+M->os[k]?=some 53e3:=λk hk=>by
    show 104
    rfl
   refine dM (n:=N+M) (f:=λk=>.int ((k:Nat):Int)) (b:=λk=>(os.getD k none).isSome) (cs:=[some πF]) a9 rfl 70e3 μz ΩG (λH2 s2 an=>?_)
   ·refine #[_,rfl,_,rfl,rl,_,_,_,rfl,rfl,c_.of (s2 _ _ (sm _ _ a2)),aB (bP (a3 k hk)),rfl,_,rfl,?_]
    have e:(!decide (Gd μL=γQ))=(os.getD k none).isSome:=by
     cases os.getD k none with
     | none=>rfl
     | some b=>exact by rw[decide_eq_false ηx];rfl
    show 355
   ·exact ζN
   have O:=sm.trans s2
   have J:=hC.same O;show 354
   have D:=s2 _ _ R;generalize U:(r_ (N+M)).filter (λk=>(os.getD k none).isSome)=tks at an
   have htk:∀k∈tks,k < N+M/\(os.getD k none).isSome=true:=λk hk=>by
    rw[<- U] at hk
    have:=G1.mp hk;exact ϊJ
   have G:H2 tl=some (.lst (rowV tks)):=by
    rw[an];rfl
   have Z:tks.length<=8:=by
    rw[<- U]
    have:=JG Ω9 πo;show 159
   refine #[_,rfl,c,_,_,_,_,rfl,O _ _ h1,ϖ,θo,d9 bp M N Lp,bp,dB,_,rfl,hB,rfl,?_];refine #[_,rfl,tl,rfl,#[_,c_.of G],λD1 a7=>?_];refine cB (xs:=rowV tks) (f:=λi=>.int ((Lj r w M N l j 72e3:Nat):Int)) (cs:=[some (.ref La)]) (c_.of G) a7 rfl 150e8 (λi u H3 R3 hu s3 hR=>?_) (λH3 s3 ad=>?_)
   ·obtain⟨k,ek,rfl⟩:=br hu
    have hk:=(htk k ζ5).1
    show 356
    show 105
    have gi:=aB (bX (row:=(r_ (N+M)).map λk=>GF.FJ r w M ρo Γg) (i:=k) (by rw[o_,Gf];exact hk))
    rw[v_,FM,Ib hk] at gi;exact #[_,rfl,_,rfl,La,_,_,_,rfl,rfl,c_.of (s3 _ _ D),gi,hR _ ϡ]
   refine #[_,rfl,tl,rfl,#[_,c_.of (s3 _ _ G)],λD2 a6=>?_];refine cB (xs:=rowV tks) (f:=λi=>.int (((os.getD οP none).getD 0:Nat):Int)) (cs:=[some πF]) (c_.of (s3 _ _ G)) a6 rfl 150e8 ϊ1 (λH4 s4 Y=>?_)
   ·obtain⟨k,ek,rfl⟩:=br hu
    have hk:=htk k ζ5
    show 356
    show 105
    have ev:Gd μL=.int (((os.getD k none).getD 0:Nat):Int):=by
     cases hz:os.getD k none with
     | none=>rw[hz] at hk;show 357
     | some b=>rfl
    have gi:=aB (bP (a3 k hk.1));rw[ev] at gi;exact #[_,rfl,_,rfl,rl,_,_,_,rfl,rfl,c_.of (s4 _ _ (s3 _ _ (O _ _ a2))),gi,hR _ ϡ]
   rw[az] at ad Y
   have e1:((r_ tks.length).map λi=>V.int ((Lj r w M N l j 72e3:Nat):Int))=rowV (tks.map χT):=by
    show 42
    apply JY
    show 106
    show 358
    ·rw[Ib hi,s_ hi]
     show 359
     show 107
    ·rw[Hj δw,Hj γ]
     rfl
   have e2:((r_ tks.length).map λi=>V.int (((os.getD οP none).getD 0:Nat):Int))=rowV 146e0:=by
    show 42
    apply JY
    show 106
    show 358
    ·rw[Ib hi,s_ hi]
     show 359
     show 107
    ·rw[Hj δw,Hj γ]
     rfl
   rw[e1] at ad;rw[e2] at Y
   have aT:=O.trans ϑJ;refine #[bp,fp,D1,D2,r,w,n,tks.map χT,tks.map Ωa,rfl,(hC.same aT).blk,g,hn,c_.of (s4 _ _ ad),c_.of Y,by rw[o_,o_],λf hf=>?_,λH5 s5=>?_]
   ·obtain⟨k,hk,rfl⟩:=G6.mp hf
    exact GF.HZ γh M λt ht=>iA W a0 t k ht (htk k hk).1
   ·have ez:(tks.map χT).zip ΦI=IQ r w M N l j os:=by
     unfold IQ;rw[U,RC,]
    rw[ez];exact q _ (aT.trans s5)
def knO (os:ϝ):List Bool:=os.map Option.isSome
inductive qj (K:m_) (a:q_) (vs:δ) (H:Hp) (Q:VK) (E_3:XK):Prop
 | mk:∀(c bp fp rl:Addr) (r w n M N k:Nat) (l:Nat->Nat->Nat) (os:List (Option Nat)),vs=[.ref c,.ref rl,.int k]->Fz a H c bp fp r w n M N l->GF.Gg r w->n<=16->IP w M N l->H rl=some (.lst (Ft os))->os.length=N+M->k < N+M->((∀b,os.getD k none=some b->Q (.int (b:Nat)) H))->((os.getD k none=none->∀H',a_ H H'->(∀by',K5 r w (N+M) M (eqn N l) (knO os) k by'->Q (.int ((GF.F8 r w n (IQ r w M N l by' os):Nat):Int)) H')/\∀mk,Mt r w (N+M) M (eqn N l) (knO os) k mk->Q .non H'))->qj K a vs H Q E_3
theorem o4 (T:θ):x_ P wo K mg base 8 a.f27 ["self", "row", "role"] (qj K a):=by
 refine T.x27.F.okA (k:=7) Q4 ι
 ·obtain⟨c,bp,fp,rl,r,w,n,M,N,k,l,os,rfl,hC,g,hn,W,j,U,hk,q1,q2⟩:=h
  show 108
  show 68
  have O:os[k]?=some 53e3:=by
   show 104
   rfl
  show 0
  exists xc Θ1
  show 1;refine xi (am cg μm aL υ) ?_
  exists xl (aA μm)
  show 3
  exists xc (ar (i:=3) Q4.nd rfl 0e2 (ao ο ϖ T.x23.me (l3 T) hr.u T.x23.b .nil aj (aa (bc ΞN rfl 23e6 θP γ3 ΞO) γt)))
  show 1;refine xi (am bx νX dI υ) ?_
  show 28
  show 3
  exists xl (aA (ao ο ϖ T.x26.me (mO T) hr.u T.x26.b .nil aj (aa νX γ8)))
  refine Θe;refine #[_,rfl,_,rfl,rl,_,_,_,rfl,rfl,c_.of j,aB (bP O),rfl,_,rfl,?_]
  cases hz:os.getD k none with
  | some b =>
   refine b_ ν Θk
   rw[hz] at O;exact #[_,rfl,_,rfl,rl,_,_,_,rfl,rfl,c_.of j,aB (bP O),q1 b hz]
  | none =>
   refine IC ?_
   have q2:=q2 hz;refine #[_,rfl,c,dx,_,rfl,h1,rfl,_,rfl,rl,rfl,#[_,c_.of j],λkn Z=>?_];refine cB (xs:=Ft os) (f:=λi=>.bl (os.getD i none).isSome) (cs:=[]) (c_.of j) Z rfl 134e5 ηM (λH2 s2 R=>?_)
   ·have hi:i < os.length:=by rw[<- bH];exact(Gr.mp hu).1
    have aw:os[i]?=some 189e1:=by
     show 141;rfl
    rw[bP aw] at hu
    show 360
    have e:(!decide (Gd ώF=γQ))=(os.getD i none).isSome:=by
     cases os.getD i none with
     | none=>rfl
     | some b=>exact by rw[decide_eq_false ηx];rfl
    show 355
   rw[bH] at R
   have ek:ΘU=HG 3e1:=by
    unfold HG knO
    apply JY
    show 106
    show 361
    ·rw[Ib hi,s_ hi]
     show 362
     show 107
    ·rw[Hj δw,Hj γ]
     rfl
   rw[ek] at R
   have ad:(knO os).length=N+M:=by unfold knO;rw[o_,U]
   have aT:3e1[k]?=some false:=by
    unfold knO;rw[FM,O,hz];rfl
   refine #[_,rfl,c,bp,fp,kn,r,w,n,M,N,k,l,knO os,rfl,hC.same s2,g,W,R,ad,hk,aT,λD H3 s3 nD told _=>?_]
   have G:=s2.trans s3
   have q3:=λH' (s':a_ H3 H')=>q2 H' (G.trans s');rcases told with ⟨e,Y,hD,he,J⟩ | ⟨e,mk,hD,he,J⟩
   ·refine Ξj
    refine b_ (λz=>absurd (V.str.inj θu) ζ) ν
    obtain⟨a0,a1,a2,an,_,_⟩:=(hC.same G).ins;refine #[_,rfl,c,a0,_,rfl,an,rfl,_,rfl,D,_,_,_,rfl,rfl,Gn.of hD,rfl,_,rfl,?_];exact #[c,bp,fp,e,rl,r,w,n,M,N,l,Y,os,rfl,hC.same G,δt,hn,W,he,J.len,G _ _ j,U,λH4 s4=>(q3 H4 s4).1 Y J]
   ·refine Ξj
    refine b_ ν ΦX;exact(q3 H3 ϡ).2 mk J
def LR (r w N:Nat) (l:ϕ) (o k:Nat):Nat:=GF.tm r w ψs οZ ^^^ GF.tm r w ψt π0
def fw (R:Nat) (ks:δG) (pl:Nat):List Nat:=(r_ R).filter λk=>!102e3 && !decide (k=pl)
def KU (r w M N:Nat) (l:ϕ) (ks:δG) (pl:Nat):Bool :=
 match fw (N+M) ks pl with
 | []=>true
 | o :: os=>if M=1 then false else (o :: os++[pl]).all λk=>decide (όA=(k=pl))
variable {ks:List Bool}
theorem jZ {R:Nat}{pl k:Nat} (h:k∈fw R ks pl):k < R/\ks.getD k false=false/\k≠pl:=by
 unfold fw at h
 have:=G1.mp h
 have h2:=this.2;rw[IU,RL,RL] at h2;exact #[GG.mp ξ5,h2.1,of_decide_eq_false h2.2]
theorem ut {k:Nat}{b:Bool} (hk:ϑK) (h:ks.getD k false=b):ks[k]?=some b:=by
 rw[s_ hk];rw[v_,s_ hk] at h;exact congrArg some h
theorem DP (a x:ϣ):GF.FJ r w 2 a x=GF.tm r w (a 0) (x 0) ^^^ GF.tm r w (a 1) (x 1):=by
 show (0 ^^^ _) ^^^ _=_
 rw[Jr]
theorem re (W:θ4) {k:Nat} (hk:νs):∃t,t < M/\eqn N l t k≠0:=by
 by_cases hjN:k < N
 ·obtain⟨t,ht,hz⟩:=W.col k hjN
  refine #[t,ht,?_];show 56;rw[if_pos hjN];exact hz
 ·refine #[k - N,by omega,?_]
  show 56;rw[if_neg hjN,if_pos rfl]
  decide
theorem Bi {a:Nat} (h:a ^^^ b=0):a=b:=by
 have:=congrArg (λz=>z ^^^ b) h;show 240
variable {by':List Nat}
theorem Cr {pl:Nat} (g:ωz) (W:IP w 2 N l) (hks:ks.length=N+2) (hpl:pl < N+2) (hkp:υJ) (f:K5 r w (N+2) 2 ζf ks pl by') {o:Nat} (ho:o < N+2) (hko:ks.getD o false=τ) (hop:o≠pl) :
  ∀k,k < N+2->ks.getD k false=false->(LR r w N l o k≠0 ↔ k=pl):=by
 have O:=g.toGood.top16
 have R:=g.toGood.rule
 have w1:=g.toGood.w1
 have s:∀t k,t < 2->k < N+2->eqn N l t k < 2 ^ w:=iA W O
 have b0:by'.getD 0 0 < 2 ^ w:=gW f.lt υK
 have b1:by'.getD 1 0 < 2 ^ w:=gW f.lt υK
 have hk:∀k,k < N+2->ks.getD k false=false->GF.tm r w ψs (by'.getD 0 0) ^^^ GF.tm r w ψt (by'.getD 1 0)=if k=pl then 1 else 0:=λk h1 h2=>by
  have:=f.ok k h1 (ut γ h2)
  rw[DP] at this;show 11
 have e0:=hk o ho hko;rw[if_neg hop] at e0
 have e0:=Bi e0;generalize by'.getD 0 0=y0 at b0 hk e0
 generalize by'.getD 1 0=y1 at b1 hk e0
 have a0:=s 0 o ζ ho
 have a1:=s 1 o ζ ho
 have J:∃m,m < 2 ^ w/\m≠0/\y0=GF.tm r w m οZ/\y1=GF.tm r w m 73e4:=by
  have H:¬ (y0=0/\y1=0):=λz=>by
   have:=hk pl hpl hkp;rw[if_pos rfl,z.1,z.2,ζ9,ζ9] at this;exact absurd this ζ
  obtain⟨t,ht,hz⟩:=re W ho
  have E:∀{x y z:Nat},x < 2 ^ w->y < 2 ^ w->z < 2 ^ w->z≠0->GF.tm r w x z=GF.tm r w y z->x=y:=λ{x y z} hx hy D z0 e=>by
   rw[GF.FS R w1 hx D,GF.FS R w1 hy D] at e;exact GF.Mi g z0 D hx hy e
  by_cases z1:eqn N l 1 o=0
  ·have z0:eqn N l 0 o≠0:=by
    have h2:t=0\/t=1:=by omega
    rcases h2 with rfl | rfl
    ·exact hz
    ·exact absurd z1 hz
   have h:y0=0:=by
    rw[z1,GF.FN] at e0;rcases(GF.F9 g a0 b0).mp e0 with z | z
    ·exact absurd z z0
    ·exact z
   have j:=GF.Iq g (P4 z0) a0
   have il:=GF.Iz δt a0 ιc;generalize GF.pw r w (eqn N l 0 o) (2 ^ w - 1 - 1)=v at j il;refine #[GF.tm r w y1 v,GF.D_ R b1,λz=>?_,?_,?_]
   ·rcases(GF.F9 g b1 il).mp z with z | z
    ·exact H #[h,z]
    ·rw[z,ζ9] at j
     exact absurd j ζ
   ·rw[z1,ζ9,h]
   ·rw[GF.FE R w1 b1 il,GF.FS R w1 il a0,j,GF.Gy]
  ·have j:=GF.Iq g (P4 z1) a1
   have il:=GF.Iz δt a1 ιc;generalize GF.pw r w (eqn N l 1 o) (2 ^ w - 1 - 1)=v at j il
   have h:y0=GF.tm r w ώG 73e3:=by rw[GF.FE R w1 b0 il,GF.FS R w1 il a1,j,GF.Gy]
   have G:y1=GF.tm r w ώG 73e4:=by
    refine E b1 (GF.D_ R ψG) a1 z1 ?_;rw[GF.FS R w1 b1 a1,← e0,GF.FE R w1 ψG a0,GF.FS R w1 a0 a1,← GF.FE R w1 ψG a1,← h,GF.FS R w1 a0 b0]
   refine #[GF.tm r w y0 v,GF.D_ R b0,λz=>?_,h,G];rw[z,GF.FN] at h G;exact H #[h,G]
 obtain⟨m,ml,m0,rfl,rfl⟩:=J;intro k h1 h2
 have ek:=hk k h1 h2
 have c0:=s 0 k ζ h1
 have c1:=s 1 k ζ h1
 have et:GF.tm r w m (LR r w N l o k)=if k=pl then 1 else 0:=by
  rw[<- ek];unfold LR;rw[GF.F1,← GF.FE R w1 ml c0,GF.FS R w1 ml c0,GF.FE R w1 c0 ml,← GF.FE R w1 ml c1,GF.FS R w1 ml c1,GF.FE R w1 c1 ml]
 have tl:LR r w N l o k < 2 ^ w:=L4 (GF.D_ R c0) (GF.D_ R c1)
 constructor
 ·intro z
  by_cases y:k=pl
  ·exact y
  ·rw[if_neg y] at et
   rcases(GF.F9 g ml tl).mp et with x | x
   ·exact absurd x m0
   ·exact absurd x z
 ·intro y z
  rw[if_pos y,z,ζ9] at et;exact absurd et ζ
theorem qk {R pl:Nat}{a x:ϣ} (hpl:pl < R) (h:∀k,k < R->k≠pl->GF.tm r w (a k) (x k)=0):GF.FJ r w R a x=GF.tm r w (a pl) (x pl):=by
 have g:∀n,n<=R->GF.FJ r w n a x=if pl < n then GF.tm r w (a pl) (x pl) else 0:=by
  intro n
  induction n with
  | zero=>intro _;rw[if_neg θh];rfl
  | succ n ih =>
   intro hn;rw[GF.FJ,ih γ]
   by_cases z:n=pl
   ·subst z
    show 245
   ·rw[h n γ z,Js]
    by_cases y:pl < n
    ·show 134
    ·show 85
 rw[g R Θ,if_pos hpl]
theorem sV {pl:Nat} (g:ωz) (W:θ4) (hks:ϑL) (hpl:pl < N+M) (hkp:υJ) (f:K5 r w (N+M) M ζf ks pl by'):KU r w M N l ks pl=true:=by
 unfold KU
 have j:=g.toGood.top16
 split
 ·rfl
 ·rename_i o os he
  show 363
  by_cases hM:M=1
  ·subst hM
   have b0:by'.getD 0 0 < 2 ^ w:=gW f.lt υK
   have e1:=f.ok o ho.1 (ut γ ho.2.1)
   have e2:=f.ok pl hpl (ut γ hkp)
   rw[if_neg ho.2.2] at e1;rw[if_pos rfl] at e2
   have d1:∀a x:Nat->Nat,GF.FJ r w 1 a x=GF.tm r w (a 0) (x 0):=λa x=>Jr _;rw[d1] at e1 e2;obtain⟨t,ht,hz⟩:=re W ho.1
   have t0:t=0:=by omega
   subst t0;rcases(GF.F9 g (iA W j 0 o (by decide) ho.1) b0).mp e1 with z | z
   ·exact absurd z hz
   ·rw[z,ζ9] at e2
    exact absurd e2 ζ
  ·have s:M=2:=by have:=W.m1;have:=W.m2;omega
   subst s;rw[if_neg hM,IM]
   have h:=Cr g W hks hpl hkp f ho.1 ho.2.1 ho.2.2;intro k hk
   apply decide_eq_true
   rcases Hi.mp hk with y | y
   ·have:=jZ (R:=N+2) (ks:=ks) (pl:=pl) (k:=k) (by rw[he];exact y)
    exact propext (h k ξ5 this.2.1)
   ·rw[Ge.mp y]
    exact propext (h pl hpl hkp)
theorem sX {pl:Nat}{mk:η} (g:ωz) (W:θ4) (hks:ϑL) (hpl:pl < N+M) (hkp:υJ) (f:Mt r w (N+M) M ζf ks pl mk):KU r w M N l ks pl=false:=by
 unfold KU
 have J:=g.toGood.top16
 have R:=g.toGood.rule
 have w1:=g.toGood.w1
 have D:∀k,k < N+M->mk.getD k 0 < 2 ^ w:=λk hk=>gW f.lt (by rw[f.len];exact hk)
 have none_of:∀k,k < N+M->k≠pl->k∉fw (N+M) ks pl->mk.getD k 0=0:=λk hk h H=>by
  refine f.zero k hk (ut γ ?_)
  cases hb:ks.getD k false with
  | true=>rfl
  | false =>
   refine absurd ?_ H;unfold fw;refine G1.mpr #[GG.mpr hk,?_];rw[hb,decide_eq_false h];rfl
 split
 ·rename_i he
  obtain⟨t,ht,hz⟩:=re W hpl
  have e:=f.ok t ht;rw[qk hpl λk hk h=>by rw[none_of k hk h (by rw[he];simp),GF.n_],f.one,GF.Gy] at e
  exact absurd e hz
 ·rename_i o os he
  show 363
  by_cases hM:M=1
  ·rw[if_pos hM]
  ·have G:M=2:=by have:=W.m1;have:=W.m2;omega
   subst G;rw[if_neg hM,List.all_eq_false]
   have j:∀t k,t < 2->k < N+2->eqn N l t k < 2 ^ w:=iA W J;refine Classical.byContradiction λE=>?_
   have s:∀k∈(o :: os++[pl]),όA=(k=pl):=λk hk=>Classical.byContradiction λz=>E #[k,hk,λy=>z ηv]
   have h0:GF.FJ r w (N+2) (LR r w N l o) χ9=0:=by
    show GF.FJ r w (N+2) (λk=>GF.tm r w ψs οZ ^^^ GF.tm r w ψt π0) χ9=0
    rw[GF.Ji R (N+2) λk hk=>#[GF.D_ R (j 0 k ζ hk),GF.D_ R (j 1 k ζ hk)]]
    rw[GF.Gm R w1 (j 1 o ζ ho.1) (N+2) λk hk=>#[j 0 k ζ hk,D k hk],GF.Gm R w1 (j 0 o ζ ho.1) (N+2) λk hk=>#[j 1 k ζ hk,D k hk]]
    have e0:=f.ok 0 ζ
    have e1:=f.ok 1 ζ
    rw[e0,e1,GF.FN,GF.FN];rfl
   rw[qk hpl λk hk h=>by
    by_cases hm:k∈fw (N+2) ks pl
    ·have:=s k (Oe _ (by rw[<- he];exact hm))
     have z:LR r w N l o k=0:=Classical.byContradiction λy=>h (this.mp y);rw[z,GF.FN]
    ·rw[none_of k hk h hm,ζ9],f.one,GF.Gy] at h0
   have:=s pl (JH _ (Ge.mpr rfl));exact absurd h0 (this.mpr rfl)
theorem vz {X:η} (hX:ψH):Jj r w n M N l X=true ↔ ∀t,t < M->GF.FF (N+M) τA=0:=by
 have e:∀t,GF.F8 r w n ((g_ (N+M) ζf t).zip X)=GF.FF (N+M) 89e4:=λt=>by
  have h:=GF.GI (r:=r) (w:=w) (n:=n) (eqn N l t) (λj=>X.getD j 0) (N+M)
  have hx:=GF.JQ X;rw[hX] at hx;rw[<- hx] at h;exact h
 unfold Jj;rw[IM]
 constructor
 ·intro h t ht
  rw[<- e];exact of_decide_eq_true (h t (GG.mpr ht))
 ·intro h t ht
  apply decide_eq_true
  rw[e];exact h t (GG.mp ht)
def c5 (R:Nat) (os:ϝ) (X:η):Prop:=∀j,j < R->∀b,os.getD j none=some b->X.getD j 0=b
theorem j0 (hj:ϑM) (h:os.getD j none=none):3e1[j]?=some false:=by
 show 364
 have h:os[j]=none:=h;rw[h];rfl
theorem Cs (hj:ϑM) (h:os.getD j none=some b):3e1[j]?=some true:=by
 show 364
 have h:os[j]=some b:=h;rw[h];rfl
theorem JT {k:Nat}{X:η} (g:ν1) (W:θ4) (hos:os.length=N+M) (hX:ψH) (hlt:ϊK) (hk:νs) (hz:os.getD k none=none) (hm:ό5) (ha:c5 (N+M) os X) (f:K5 r w (N+M) M ζf ϑ k by') :
  GF.F8 r w n (IQ r w M N l by' os)=X.getD k 0:=by
 have h:=g.top16
 have hm:=(vz hX).mp hm
 have h0:=GF.Iw γh g.w1 (n:=n) (m:=N+M) (e:=eqn N l) (x:=λj=>X.getD j 0) (y:=λt=>by'.getD t 0) M (λt j ht hj=>iA W h t j ht hj) (λt ht=>gW f.lt (by rw[f.len];exact ht)) hm
 unfold IQ;rw[GF.Gu Ω9 (Lj r w M N l by') Ωa]
 have h1:=GF.HI (λj=>if (os.getD j none).isSome=true then GF.sc r w n όB ((os.getD j none).getD 0) else 0) (λj=>GF.sc r w n ΘV Γr) (N+M)
 rw[h0,Js] at h1;rw[<- h1,GF.Ig hk λj hj s=>?_]
 ·have e:=f.ok k hk (j0 γ hz)
  rw[if_pos rfl] at e;rw[hz,e,GF.OZ γh g.w1 (gW hlt (by rw[hX];exact hk))]
  have:(if (none:ιo).isSome=true then GF.sc r w n (Lj r w M N l by' k) ((none:ιo).getD 0) else 0)=0:=if_neg ζ
  rw[this];exact Jr _
 ·cases hb:os.getD j none with
  | none =>
   have e:=f.ok j hj (j0 γ hb)
   rw[if_neg s] at e;rw[e,ηq,Js];exact if_neg ζ
  | some b =>
   have:=ha j hj b hb
   show GF.sc r w n όB b ^^^ GF.sc r w n ΘV Γr=0
   rw[this];exact LO _
def QB (r w n R:Nat) (X mk:η) (c:Nat):List Nat:=(r_ R).map λj=>X.getD j 0 ^^^ GF.sc r w n (mk.getD j 0) c
def plainL (i k:Nat):Nat:=if i=0 then 1 else k+1
theorem Bj (t16:16<=2 ^ w) (h1:1<=M) (h2:M<=2) (h3:1<=N) (h8:N+M<=8):IP w M N θx where
 m1:=h1
 m2:=h2
 n1:=h3
 n8:=h8
 lt i k hi hk:=by
  unfold plainL
  split <;> omega
 row i hi:=#[0,h3,by unfold plainL;split <;> decide]
 col k hk:=#[0,h1,by unfold plainL;rw[if_pos rfl];decide]
inductive yz (vs:δ) (H:Hp) (Q:VK) (E_3:XK):Prop
 | mk:∀(N M:Nat),vs=[.int N,.int M]->1<=M->M<=2->N<=8->(∀D H' ps,a_ H H'->H' D=some (.lst (List.map V.ref ps))->Fw H' ps M (g_ N plainL)->Q (.ref D) H')->yz vs H Q E_3
theorem o5 (T:θ):x_ P wo K mg base 1 a.f52 ["data", "sums"] yz:=by
 refine T.x52.F.okA (k:=0) QL ι
 ·obtain⟨N,M,rfl,Z,ad,hN,q⟩:=h
  show 0
  exists xc (ar (i:=2) QL.nd rfl 0e2 (be ΦY))
  show 335
  exists xl (aE (cF JX JV JU bi Ψ (aa (bu (j8 rfl) rfl T.A18 γf (aa (bu uV rfl T.A06 γf (aa ai (aa (ay aU ο ai) ab))) ab)) ab)))
  show 3
  show 51
  refine #[(show 1<=sizeLine by decide),λp1 n1=>#[_,rfl,p1,_,_,rfl,rfl,ac,by omega,by omega,?_,λp2 n2=>#[(show 1<=sizeLine by decide),λD nD=>?_]]]
  ·rw[G5]
   show 1 * N<=sizeLine
   exact FG (by omega:1 * N<=30) ζ
  have e0:g_ N θx 0=FL N 1:=by
   unfold g_
   show ((r_ N).map λ_=>1)=_
   rw[Qw,Gf]
  have eR:(FL ((N:Int)).toNat [V.int 1]).flatten=rowV (g_ N θx 0):=by
   rw[G5,e0];exact ra N 1
  rw[eR] at nD;rw[eR]
  have s1:=a_.new (o:=.lst [V.int 1]) n1
  have s2:=a_.new (o:=.lst υL) n2
  have s3:=a_.new (o:=.lst [V.ref p2]) nD
  have G:=s3 _ _ (ac (H:=upd H p1 ώH) (a:=p2) (o:=.lst υL))
  have hD:(upd (upd (upd H p1 ώH) p2 (.lst υL)) D ώ6) D=some 185e6:=ac
  have sD:=s1.trans ψu
  have fD:H D=none:=(s1.trans s2).free nD;generalize (upd (upd (upd H p1 (.lst [V.int 1])) p2 (.lst (rowV (g_ N plainL 0)))) D (.lst [V.ref p2]))=H1 at G hD sD;show 52
  have hm:M=1\/M=2:=by omega
  rcases hm with rfl | rfl
  ·refine b_ (λz=>absurd (V.int.inj θu) ζ) ν
   refine #[_,rfl,q D H1 [p2] sD hD ϋl]
   match i,e with
   | 0,e=>cases FK e;exact G
  ·refine b_ ν ΦX
   refine #[_,rfl,.inl όw,_,rfl,_,_,rfl,rfl,_,_,rfl,λrg R=>#[rg,_,_,rfl,ac,by decide,by decide,by omega,by omega,λp3 n3=>?_]]
   have el:((r_ ((N:Int)+1 - 1).toNat).map λi:Nat=>V.int (1+(i:Int)))=rowV (g_ N θx 1):=by
    have:((N:Int)+1 - 1).toNat=N:=by omega
    show 19;unfold rowV g_;rw[GB];refine KA λi _=>?_
    show V.int (1+(i:Int))=V.int ((plainL 1 i:Nat):Int)
    unfold plainL;show 144
    congr 1
    omega
   show 6
   rw[el]
   have s4:=(a_.new (o:=.ext ό6) R).trans (a_.new (o:=.lst (rowV (g_ N θx 1))) n3)
   have j:(upd (upd H1 rg (.ext ό6)) p3 ΩH) p3=some 158e3:=ac;refine #[D,_,_,rfl,rfl,s4 _ _ hD,(show 1 < sizeLine by decide),?_]
   have g:=s4 _ _ G
   have J:=s4 _ _ hD
   have O:=sD.trans s4;generalize (upd (upd H1 rg (.ext (gJ rg 1 ((N:Int)+1)))) p3 (.lst (rowV (g_ N plainL 1))))=H2 at j g J O
   have Y:p2≠D:=λz=>by rw[z,J] at g;cases N with
    | zero=>simp[rowV,g_] at g
    | succ n=>simp[rowV,g_,PZ] at g
   have U:p3≠D:=λz=>by rw[z,J] at j;cases N with
    | zero=>simp[rowV,g_] at j
    | succ n=>simp[rowV,g_,PZ] at j
   refine #[_,rfl,q D _ [p2,p3] (O.up fD) (by rw[ac];rfl) ϋl]
   match i,e with
   | 0,e=>cases FK e;rw[ae Y];exact g
   | 1,e=>cases FK e;rw[ae U];exact j
def ov:Option Int->V
 | none=>.non
 | some i=>.int i
def hf (l:Addr):List 12e2:=[ψ3]
def NF (l:Addr) (c:Int):List 12e2:=[ψ3,("cost",.int c)]
def Kn (l:Addr) (m:Int):List 12e2:=[ψ3,("mark",.int m)]
abbrev rO (r:List (Option Int)):List V:=r.map ov
inductive oh (K:m_) (vs:δ) (H:Hp) (Q:VK) (E_3:XK):Prop
 | mk:∀(p L C dx:Addr) (xs:List V),vs=[.ref p,.ref L]→H p=some (.ins C dx [])→HN K C→f_ K C "held" → H L=some (.lst xs)→(∀l,H l=none→Q .non (upd (upd H l (.lst xs)) p (.ins C dx (hf l))))→oh K vs H Q E_3
theorem cW (T:θ):x_ P wo K mg base 1 a.f54 ["self", "held"] (oh K):=by
 refine T.x54.F.okA (k:=0) t9 ι
 ·obtain⟨p,L,C,dx,xs,rfl,hp,cl,no,hL,q⟩:=h
  show 0
  exists xl (aQ ο (bu bK rfl T.A18 γf γ8) rfl)
  exact #[_,rfl,L,_,rfl,.inl ηA,λl nl=>#[_,rfl,p,C,dx,_,rfl,a_.new nl _ _ hp,cl,no,ζ,q l nl]]
inductive kE (vs:δ) (H:Hp) (Q:VK) (E_3:XK):Prop
 | mk:∀(p:Addr) (x:V),vs=[.ref p,x]->Q (.bl true) H->kE vs H Q E_3
theorem ci (T:θ):x_ P wo K mg base 1 a.f55 ["self", "at"] kE:=by
 refine T.x55.F.okA (k:=0) qV ι
 ·obtain⟨p,x,rfl,q⟩:=h
  show 0
  show 23
  exact q
inductive kH (vs:δ) (H:Hp) (Q:VK) (E_3:XK):Prop
 | mk:∀p:Addr,vs=[.ref p]->Q (.int 1) H->kH vs H Q E_3
theorem fz (T:θ):x_ P wo K mg base 1 a.f56 ["self"] kH:=by
 refine T.x56.F.okA (k:=0) qX ι
 ·obtain⟨p,rfl,q⟩:=h
  show 0
  show 152
  exact q
inductive vA (K:m_) (vs:δ) (H:Hp) (Q:VK) (E_3:XK):Prop
 | mk:∀(p l C dx:Addr) (fs:List (Str × V)) (xs:List V) (i:Nat) (v:V),vs=[.ref p,.int i]→H p=some (.ins C dx fs)→HN K C→f_ K C "held" → fs.lookup ("held" : Str)=some (.ref l)→H l=some (.lst xs)→xs[i]?=some v→Q v H→vA K vs H Q E_3
theorem bw (T:θ):x_ P wo K mg base 1 a.f57 ["self", "at"] (vA K):=by
 refine T.x57.F.okA (k:=0) oV ι
 ·obtain⟨p,l,C,dx,fs,xs,i,v,rfl,hp,cl,no,lk,hl,hv,q⟩:=h
  show 0
  exists xl ΞP
  exact #[_,rfl,p,_,_,_,_,rfl,hp,cl,no,lk,_,rfl,l,_,_,_,rfl,rfl,c_.of hl,aB hv,q]
inductive yA (K:m_) (vs:δ) (H:Hp) (Q:VK) (E_3:XK):Prop
 | mk:∀(p l C dx:Addr) (fs:List (Str × V)) (xs:List V) (i:Nat) (v:V),vs=[.ref p,.int i,v]→H p=some (.ins C dx fs)→HN K C→f_ K C "held" → fs.lookup ("held" : Str)=some (.ref l)→H l=some (.lst xs)→i < xs.length→Q .non (upd H l (.lst (xs.set i v)))→yA K vs H Q E_3
theorem b8 (T:θ):x_ P wo K mg base 1 a.f58 ["self", "at", "block"] (yA K):=by
 refine T.x58.F.okA (k:=0) pY ι
 ·obtain⟨p,l,C,dx,fs,xs,i,v,rfl,hp,cl,no,lk,hl,hi,q⟩:=h
  show 0
  exists xl (cA Ψ ζT)
  exact #[_,rfl,_,rfl,p,_,_,_,_,rfl,hp,cl,no,lk,_,rfl,l,_,_,_,rfl,rfl,hl,cz hi,q]
inductive gB (vs:δ) (H:Hp) (Q:VK) (E_3:XK):Prop
 | mk:∀(p:Addr) (x:V),vs=[.ref p,x]->Q (.bl false) H->gB vs H Q E_3
theorem di (T:θ):x_ P wo K mg base 1 a.f62 ["self", "at"] gB:=by
 refine T.x62.F.okA (k:=0) lP ι
 ·obtain⟨p,x,rfl,q⟩:=h
  show 0
  show 23
  exact q
inductive sY (vs:δ) (H:Hp) (Q:VK) (E_3:XK):Prop
 | mk:∀x y z:V,vs=[x,y,z]->Q .non H->sY vs H Q E_3
theorem eY (T:θ):x_ P wo K mg base 1 a.f63 ["self", "at", "block"] sY:=by
 refine T.x63.F.okA (k:=0) kR ι
 ·obtain⟨x,y,z,rfl,q⟩:=h
  show 0
  exists xl Dh
  exact q
inductive oj (a:q_) (vs:δ) (H:Hp) (Q:VK) (E_3:XK):Prop
 | mk:∀(p l dx:Addr) (c:Int),vs=[.ref p]->H p=some (.ins a.C_SlowPlank dx (NF l c))->Q (.int c) H->oj a vs H Q E_3
theorem l4 (T:θ):x_ P wo K mg base 1 a.f60 ["self"] (oj a):=by
 refine T.x60.F.okA (k:=0) lO ι
 ·obtain⟨p,l,dx,c,rfl,hp,q⟩:=h
  show 0
  exists xl (aA ϟ)
  exact #[_,rfl,p,_,_,_,_,rfl,hp,ζI,T.Ab2,rfl,q]
inductive l5 (a:q_) (vs:δ) (H:Hp) (Q:VK) (E_3:XK):Prop
 | mk:∀(p l dx:Addr) (m i:Int),vs=[.ref p,.int i]->H p=some (.ins a.C_SparePlank dx (Kn l m))->Q (.bl (decide (i < m))) H->l5 a vs H Q E_3
theorem cZ (T:θ):x_ P wo K mg base 1 a.f65 ["self", "at"] (l5 a):=by
 refine T.x65.F.okA (k:=0) kT ι
 ·obtain⟨p,l,dx,m,i,rfl,hp,q⟩:=h
  show 0
  exists xl (aA (bT bq ω ϟ υ))
  exact #[_,rfl,_,rfl,p,_,_,_,_,rfl,hp,δP,T.A59,rfl,_,_,rfl,rfl,q]
inductive Bk (a:q_) (vs:δ) (H:Hp) (Q:VK) (E_3:XK):Prop
 | mk:∀(p l dx:Addr) (m:Int),vs=[.ref p]->H p=some (.ins a.C_SparePlank dx (Kn l m))->Q .non (upd H p (.ins a.C_SparePlank dx (Kn l (m+1))))->Bk a vs H Q E_3
theorem l6 (T:θ):x_ P wo K mg base 1 a.f66 ["self"] (Bk a):=by
 refine T.x66.F.okA (k:=0) lR ι
 ·obtain⟨p,l,dx,m,rfl,hp,q⟩:=h
  show 0
  exists xl (rE ο ai zV)
  exact #[_,rfl,p,_,_,_,_,rfl,hp,δP,T.A59,rfl,_,_,rfl,rfl,dx,_,hp,(by show 2 < 1000;decide),q]
inductive ql (a:q_) (vs:δ) (H:Hp) (Q:VK) (E_3:XK):Prop
 | mk:∀(p L dx:Addr) (c:Int) (xs:List V),vs=[.ref p,.ref L,.int c]->H p=some (.ins a.C_SlowPlank dx [])->H L=some (.lst xs)->(∀l,H l=none->Q .non (upd (upd H l (.lst xs)) p (.ins a.C_SlowPlank dx (NF l c))))->ql a vs H Q E_3
theorem mP (T:θ):x_ P wo K mg base 2 a.f59 ["self", "held", "cost"] (ql a):=by
 refine T.x59.F.okA (k:=1) mF ι
 ·obtain⟨p,L,dx,c,xs,rfl,hp,hL,q⟩:=h
  show 0
  exists xc ΔG
  exists xl ι2
  refine #[_,rfl,_,rfl,p,L,_,dx,xs,rfl,hp,ζI,T.A79,hL,λl nl=>?_];refine #[_,rfl,_,rfl,p,_,dx,_,rfl,ac,ζI,T.Ab2,ϊL,?_]
  show 365
inductive qm (a:q_) (vs:δ) (H:Hp) (Q:VK) (E_3:XK):Prop
 | mk:∀(p dx:Addr) (n:Nat),vs=[.ref p,.int n]->n<=40->H p=some (.ins a.C_LostPlank dx [])->(∀l H',a_ H H'->H l=none->H' l=none->Q .non (upd (upd H' l (.lst (rO (FL n none)))) p (.ins a.C_LostPlank dx (hf l))))->qm a vs H Q E_3
theorem Ps (n:Nat):(FL n [γQ]).flatten=rO 36e3:=by
 induction n with
 | zero=>rfl
 | succ n ih=>rw[JZ,LL,ih,JZ];rfl
theorem mQ (T:θ):x_ P wo K mg base 2 a.f61 ["self", "many"] (qm a):=by
 refine T.x61.F.okA (k:=1) mG ι
 ·obtain⟨p,dx,n,rfl,hn,hp,q⟩:=h
  show 0
  exists xl (aE (qO rfl T.m_Plank T.uc_Plank (cW T) hr.u T.x54.b .nil aj (aa ο (aa (ay dJ νZ ω) ab))))
  refine #[_,rfl,ζ,λp1 n1=>Θt]
  ·rw[G5]
   show 1 * n<=sizeLine
   exact FG (by omega:1 * n<=40) ζ
  have eR:(FL ((n:Int)).toNat [γQ]).flatten=rO 36e3:=by rw[G5];exact Ps n
  rw[eR]
  have g:=(a_.new (o:=.lst [γQ]) n1).trans (a_.new (o:=.lst (rO θ1)) n2);exact #[p,p2,_,dx,_,rfl,g _ _ hp,θv,T.Ab0,ac,λl nl=>q l _ g (g.free nl) nl]
inductive om (a:q_) (vs:δ) (H:Hp) (Q:VK) (E_3:XK):Prop
 | mk:∀(p L dx:Addr) (xs:List V),vs=[.ref p,.ref L]->H p=some (.ins a.C_SparePlank dx [])->H L=some (.lst xs)->(∀l,H l=none->Q .non (upd (upd H l (.lst xs)) p (.ins a.C_SparePlank dx (Kn l 0))))->om a vs H Q E_3
theorem l7 (T:θ):x_ P wo K mg base 2 a.f64 ["self", "held"] (om a):=by
 refine T.x64.F.okA (k:=1) lQ ι
 ·obtain⟨p,L,dx,xs,rfl,hp,hL,q⟩:=h
  show 0
  exists xc ΔG
  exists xl ύu
  refine #[_,rfl,_,rfl,p,L,_,dx,xs,rfl,hp,δP,T.A78,hL,λl nl=>?_];refine #[_,rfl,p,_,dx,_,rfl,ac,δP,T.A59,ϊL,?_]
  show 365
inductive Kd where
 | whole
 | slow (c:Nat)
 | lost
 | spare (m:Nat)
def Kd.C (a:q_):Kd->Addr
 | .whole=>a.C_Plank
 | .slow _=>a.C_SlowPlank
 | .lost=>a.C_LostPlank
 | .spare _=>a.C_SparePlank
def Kd.fs (l:Addr):Kd->List δ8
 | .whole=>hf l
 | .slow c=>NF l c
 | .lost=>hf l
 | .spare m=>Kn l m
def Kd.thr:Kd->Nat->Bool
 | .lost,_=>false
 | .spare m,j=>decide ((j:Int) < (m:Int))
 | _,_=>true
def Kd.pr:Kd->Nat
 | .slow c=>c
 | _=>1
structure Rk where
 rk:Addr
 sh:Addr
 sl:Addr
 dn:Addr
 ps:List Addr
 hs:List Addr
 P:Nat
 S:Nat
 L:Nat
 kd:Nat->Kd
def Rk.lists (R:Rk):List Addr:=R.dn :: R.sh :: R.sl :: R.hs
def rf (R:Rk):List 12e2:=[("planks",.int R.P),("stripes",.int R.S),("slots",.int R.L),("shelf",.ref R.sh),("slate",.ref R.sl),("left",.non),("gone",.bl τ),("done",.ref R.dn)]
theorem tf (R:Rk):(rf R).lookup ("planks" : Str)=some (.int R.P):=rfl
theorem gM (R:Rk):(rf R).lookup ("stripes" : Str)=some (.int R.S):=rfl
theorem o6 (R:Rk):(rf R).lookup ("slots" : Str)=some (.int R.L):=rfl
theorem aO (R:Rk):(rf R).lookup ("shelf" : Str)=some (.ref R.sh):=rfl
theorem o7 (R:Rk):(rf R).lookup ("slate" : Str)=some (.ref R.sl):=rfl
theorem yB (R:Rk):(rf R).lookup ("left" : Str)=some .non:=rfl
theorem rh (R:Rk):(rf R).lookup ("gone" : Str)=some (.bl τ):=rfl
theorem rj (R:Rk):(rf R).lookup ("done" : Str)=some (.ref R.dn):=rfl
def aM (S:Nat) (f:μN):List V:=(r_ S).map λj=>ov (f j)
variable {S:Nat}{f:Nat->Option Int}
theorem cP (h:j < S):(aM S f)[j]?=some (ov (f j)):=by
 unfold aM;rw[FM,Ib h];rfl
theorem oo (S:Nat) (f:μN):(aM S f).length=S:=by unfold aM;rw[o_,Gf]
theorem wS {o:ζu}:(aM S f).set j (ov o)=aM S (λk=>if k=j then o else f k):=by
 unfold aM
 apply JY
 intro k;rw[Qq,FM,FM,o_,Gf]
 by_cases hk:k < S
 ·rw[Ib hk]
  show 160
  ·subst y
   rw[if_pos rfl,if_pos hk]
   show _=some (ov (if j=j then o else f j))
   show 25
  ·rw[if_neg y]
   show _=some (ov (if k=j then o else f k))
   rw[if_neg (λz=>y εq)];rfl
 ·rw[Hj δw]
  show 160
  ·rw[if_pos y,if_neg γ]
   rfl
  ·rw[if_neg y]
   rfl
structure d_ (a:q_) (H:Hp) (R:Rk) (e:Nat) (ss:δ) (X:δ1):Prop where
 ins:∃dx,H R.rk=some (.ins ό dx (rf R))
 shelf:H R.sh=some (.lst (R.ps.map ϙ))
 lp:R.ps.length=R.P
 lh:R.hs.length=R.P
 pl:∀(i:Nat) p,R.ps[i]?=some p->∃dp h,R.hs[i]?=some h/\H p=some (.ins ϑ0 dp ((R.kd i).fs h))
 hd:∀(i:Nat) h,R.hs[i]?=some h->H h=some υU
 dn:∃ds,H R.dn=some ξ4/\ds.length=e
 sl:H R.sl=some (.lst ss)
 ls:ss.length=R.L
 l8:R.L<=8
 nd:R.lists.Nodup
 p8:R.P<=8
 s32:R.S<=32
def KB (ms:Φ) (H H':Hp):Prop:=∀b o,b∉ms->H b=some o->H' b=some o
theorem KB.refl (ms:Φ) (H:Hp):KB ms H H:=λ_ _ _ e=>e
variable {H1 H2:Hp}
theorem KB.trans {ms:Φ} (h:ωc) (k:KB ms H1 H2):KB ms H H2:=λb o n e=>k b o n (h b o n e)
theorem KB.same {ms:Φ} (h:ωc) (s:ωO):KB ms H H2:=λb o n e=>s _ _ (h b o n e)
theorem KB.of {ms:Φ} (s:a_ H H1):KB ms H H1:=λb o _ e=>s _ _ e
theorem KB.more {ms ns:Φ} (h:ωc) (m:∀b∈ms,b∈ns):KB ns H H1:=λb o n e=>h b o (λz=>n (m b z)) e
variable {e:Nat}{ss:List V}{X:Nat->Nat->Option Int}
theorem d_.keep {R:Rk}{ms:Φ} (h:εg) (k:θ5) (hm:∀b∈ms,∀C dx fs,H b≠some Γh) (hd:∀b∈R.lists,b∉ms):d_ a H' R e ss X where
 ins:=by
  obtain⟨dx,h1⟩:=h.ins;exact #[dx,k _ _ ϋ2 h1]
 shelf:=k _ _ (hd _ (Hl _ Im)) h.shelf
 lp:=h.lp
 lh:=h.lh
 pl i p ep:=by
  obtain⟨dp,l,hl,h1⟩:=h.pl i p ep;exact #[dp,l,hl,k _ _ ϋ2 h1]
 hd i l el:=k _ _ (hd _ (Hl _ (Hl _ ϑ1))) ϑN
 dn:=by
  obtain⟨ds,h1,h2⟩:=h.dn;exact #[ds,k _ _ (hd _ Im) h1,h2]
 sl:=k _ _ (hd _ (Hl _ (Hl _ Im))) h.sl
 ls:=h.ls
 l8:=h.l8
 nd:=h.nd
 p8:=h.p8
 s32:=h.s32
theorem d_.same {R:Rk} (h:εg) (s:γN):d_ a H' R e ss X :=
 h.keep (KB.of (ms:=[]) s) (λb hb=>absurd hb GH) (λb _ hb=>absurd hb GH)
theorem OY (n:Nat):(FL n [V.int 0]).flatten=aM n (λ_=>some 0):=by
 unfold aM
 show _=(r_ n).map λ_=>V.int 0
 rw[Qw,Gf]
 induction n with
 | zero=>rfl
 | succ n ih=>rw[JZ,LL,ih,JZ];rfl
theorem Fl (n:Nat):(FL n [γQ]).flatten=FL n V.non:=by
 induction n with
 | zero=>rfl
 | succ n ih=>rw[JZ,LL,ih,JZ];rfl
inductive vB (vs:δ) (H:Hp) (Q:VK) (E_3:XK):Prop
 | mk:∀(p s l:Nat),vs=[.int p,.int s,.int l]->2<=p->p<=8->1<=s->s<=32->1<=l->l<=8->Q .non H->vB vs H Q E_3
theorem qo (T:θ):x_ P wo K mg base 1 a.f76 ["planks", "stripes", "slots"] vB:=by
 refine T.x76.F.okA (k:=0) qc ι
 ·obtain⟨p,s,l,rfl,p1,p2,s1,s2,l1,l2,q⟩:=h
  show 0
  show 366
  show 4
  show 44;refine xi (PW.pt (aY ρi (aS (am b7 ω ΦS υ)))) ?_
  show 4
  show 34;refine xi (PW.pt (aY ρE (aS (am b7 Ψ (bg (v:=.int 8) rfl T.Ac0 ϊ) υ)))) ?_
  show 4
  show 57
  show 22
  show 22
  show 22
  show 22
  refine Ϥ;show 70
inductive qp (a:q_) (vs:δ) (H:Hp) (Q:VK) (E_3:XK):Prop
 | mk:∀(rk dx:Addr) (p s l:Nat),vs=[.ref rk,.int p,.int s,.int l]->H rk=some (.ins a.C_Rack dx [])->2<=p->p<=8->1<=s->s<=32->1<=l->l<=8->(∀(R:Rk) H',R.rk=rk->R.P=p->R.S=s->R.L=l->(∀i,R.kd i=.whole)->(∀b o,b≠rk->H b=some o->H' b=some o)->d_ a H' R 0 (FL l .non) (λ_ _=>some 0)->(∀b∈R.lists,H b=none)->Q .non H')->qp a vs H Q E_3
theorem vC (T:θ):x_ P wo K mg base 3 a.f77 ["self", "planks", "stripes", "slots"] (qp a):=by
 refine T.x77.F.okA (k:=2) ve ι
 ·obtain⟨rk,dx,p,s',l,rfl,hc,p1,p2,s1,s2,l1,l2,q⟩:=h
  show 0
  exists xc (aE (aH (qo T) hr.u rfl T.x76.m T.x76.k T.x76.b .nil aj ξp))
  show 41
  show 67
  exists xc υM
  exists xc (aQ ο (bc (i_.of (cap:=[2]) (own:=["plank"]) γc) rfl (ba rfl T.A06 γ8) ε9 γ3 (λ_ _ _ _ _=>by exact(cx T.A91 (cW T) hr.u rfl T.m_Plank T.x54.b .nil aj ΦY))) rfl)
  exists xc (aQ ο (ay dJ νZ ϐ) rfl)
  exists xc (aQ ο aL rfl)
  exists xc ύz
  exists xl ϋm
  refine #[_,rfl,_,rfl,_,rfl,p,s',l,rfl,p1,p2,s1,s2,l1,l2,?_];refine #[_,rfl,_,rfl,rk,ό,dx,_,rfl,hc,Γ,T.A75,ζ,?_]
  refine #[_,rfl,_,rfl,rk,ό,dx,_,rfl,ac,Γ,T.A51,ηJ,?_]
  refine #[_,rfl,_,rfl,rk,ό,dx,_,rfl,ac,Γ,T.A62,ηK,?_]
  show 154
  have ef:FD "slots" (.int (l:Int)) (FD "stripes" (.int (s':Int)) (FD "planks" 106e2 []))=[θs,θr,θt]:=rfl
  rw[ef]
  have Z:85e8 rk=some (.ins ό dx [θs,θr,θt]):=ac
  have k2:∀b o,b≠rk→H b=some o→85e8 b=some o:=λb o z e=>by rw[ae z];exact e
  have f2:∀b,85e8 b=none→H b=none:=λb e=>by
   show 161
   ·show 162
   ·show 163
  generalize (upd H rk (.ins a.C_Rack dx [(("planks" : Str),V.int (p:Int)),(("stripes" : Str),V.int (s':Int)),(("slots" : Str),V.int (l:Int))]))=H2 at Z k2 f2
  refine τw
  rw[G5];refine AG (n:=p) (cs:=[some (.int s')]) (λi ys H5=>∃ps hs:List Addr,ys=ps.map V.ref/\ps.length=i/\hs.length=i/\(∀(j:Nat) b,ps[j]?=some b->∃dp h,hs[j]?=some h/\H5 b=some Γo)/\(∀h∈hs,H5 h=some νT/\H2 h=none/\h≠D)/\hs.Nodup) nD rfl (FG p2 ζ) (λH3 _=>#[[],[],rfl,rfl,rfl,(λj b e=>by rw[List.getElem?_nil] at e;cases e),(λh hh=>absurd hh GH),M_]) (λi ys H3 R3 hi s3 g z3 hR=>?_) (λys H3 s3 g z3=>?_)
  ·obtain⟨ps,hs,rfl,lp,lh,hp,hh,nd⟩:=z3
   refine #[(show 1<=sizeLine by decide),λq1 n1=>#[_,rfl,q1,_,_,rfl,rfl,ac,by omega,by omega,?_,λq2 n2=>?_]]
   ·rw[G5]
    show 1 * s'<=sizeLine
    exact FG (by omega:1 * s'<=32) ζ
   rw[G5,OY]
   have sq:=(a_.new (o:=.lst [V.int 0]) n1).trans (a_.new (o:=.lst (aM s' λ_=>some 0)) n2)
   have a8:(upd (upd H3 q1 ώE) q2 νT) q2=some 60e3:=ac;generalize (upd (upd H3 q1 (.lst [V.int 0])) q2 (.lst (aM s' λ_=>some 0)))=H4 at sq a8;intro x dp nx b4 ce
   have sx:a_ H4 (upd (upd H4 dp θw) x (.ins δN dp [])):=λy o e=>by
    rw[ae ηb,ae (aq e b4)];exact e
   refine #[x,q2,δN,dp,_,rfl,ac,εI,ιM,sx _ _ a8,λh nh=>ηZ]
   have b3:H4 h=none:=sx.free nh
   have a6:a_ H4 86e1:=λy o e=>by
    rw[ae ηb];exact(a_.new nh) _ _ (sx _ _ e)
   have b6:h≠x:=λz=>by rw[z,ac] at nh;cases nh
   have a1:86e1 x=some 119e2:=ac
   have O:86e1 h=some 60e3:=by
    rw[ae b6];exact ac
   generalize (upd (upd (upd (upd H4 dp (.own x)) x (.ins a.C_Plank dp [])) h (.lst (aM s' λ_=>some 0))) x (.ins a.C_Plank dp (hf h)))=H6 at a6 a1 O
   have ad:=sq.trans a6;refine hR μb H6 ad λH5 sb=>?_
   have aT:∀b o,H3 b=none->H6 b=some o->b≠D:=λb o e _ z=>by rw[z,g] at e;cases e
   have cc:H3 x=none:=sq.free nx
   have R:H3 h=none:=sq.free b3;refine #[ps++[x],hs++[h],by rw[HU];rfl,by rw[Hr,lp];rfl,by rw[Hr,lh];rfl,λj b e=>?_,λb hb=>?_,?_]
   ·rw[OD] at e
    split at e
    ·obtain⟨dq,h',eh,hb⟩:=hp j b e
     have nb:b≠D:=λz=>by rw[z,g] at hb;cases hb
     refine #[dq,h',?_,sb _ _ nb (ad _ _ hb)];rw[Ky γ]
     exact eh
    ·have ej:j - ps.length=0:=by
      have:=(Gr.mp e).1
      have:j - ps.length < 1:=this;omega
     rw[ej] at e
     cases FK e;refine #[dp,h,?_,sb _ _ (aT _ _ cc a1) a1];rw[Ld γ,lh,← lp,ej]
     rfl
   ·rcases Hi.mp hb with y | y
    ·obtain⟨e1,e2,e3⟩:=hh b y
     exact #[sb _ _ e3 (ad _ _ e1),e2,e3]
    ·rw[Ge.mp y]
     exact #[sb _ _ (aT _ _ R O) O,s3.free R,aT _ _ R O]
   ·refine MR.mpr #[nd,(HW.mpr #[GH,M_]),λb hb c hc z=>?_]
    rw[Ge.mp hc] at z
    have:=(hh b hb).1;rw[z,R] at this
    show 8
  ·obtain⟨ps,hs,rfl,lp,lh,hp,hh,nd⟩:=z3
   have a3:=s3 _ _ Z
   have bt:D≠rk:=λz=>by rw[z,Z] at nD;cases nD
   refine #[_,rfl,rk,ό,dx,_,rfl,a3,Γ,γJ,μq,?_]
   have a0:85e5 rk=some (.ins ό dx [θs,θr,θt,μ5]):=ac
   have k4:∀b o,b≠rk→H3 b=some o→85e5 b=some o:=λb o z e=>by rw[ae z];exact e
   have f4:∀b,85e5 b=none→H3 b=none:=λb e=>by
    show 161
    ·show 162
    ·show 163
   generalize (upd H3 rk (HO.ins a.C_Rack dx (FD "shelf" (.ref D) [(("planks" : Str),V.int (p:Int)),(("stripes" : Str),V.int (s':Int)),(("slots" : Str),V.int (l:Int))])))=H4 at a0 k4 f4
   refine #[(show 1<=sizeLine by decide),λq1 n1=>#[_,rfl,q1,_,_,rfl,rfl,ac,by omega,by omega,?_,λsl nsl=>?_]]
   ·rw[G5]
    show 1 * l<=sizeLine
    exact FG (by omega:1 * l<=32) ζ
   have sS:=(a_.new (o:=.lst [γQ]) n1).trans (a_.new (o:=.lst (FL (l:Int).toNat [γQ]).flatten) nsl)
   have a2:(upd (upd H4 q1 οQ) sl Φy) sl=some 145e0:=ac
   have J:H4 sl=none:=(a_.new (o:=.lst [γQ]) n1).free nsl;refine #[_,rfl,rk,ό,dx,_,rfl,sS _ _ a0,Γ,T.A65,ξF,?_]
   generalize (upd (upd H4 q1 (.lst [V.non])) sl (.lst (FL (l:Int).toNat [V.non]).flatten))=H5 at sS a2;refine #[_,rfl,rk,ό,dx,_,rfl,ac,Γ,T.A77,(by show (5:Nat) < 1000;decide),?_]
   refine #[_,rfl,rk,ό,dx,_,rfl,ac,Γ,T.A61,(by show (6:Nat) < 1000;decide),?_]
   rw[bb,bb]
   have b0:FD "gone" (V.bl τ) (FD "left" V.non (FD "slate" (V.ref sl) [θs,θr,θt,μ5]))=[θs,θr,θt,μ5,ρv,ρw,ρu]:=rfl
   rw[b0]
   have an:85e3 rk=some (.ins ό dx [θs,θr,θt,μ5,ρv,ρw,ρu]):=ac
   have k6:∀b o,b≠rk→H5 b=some o→85e3 b=some o:=λb o z e=>by rw[ae z];exact e
   have f6:∀b,85e3 b=none→H5 b=none:=λb e=>by
    show 161
    ·show 162
    ·show 163
   generalize (upd H5 rk (HO.ins a.C_Rack dx [(("planks" : Str),V.int (p:Int)),(("stripes" : Str),V.int (s':Int)),(("slots" : Str),V.int (l:Int)),(("shelf" : Str),V.ref D),(("slate" : Str),V.ref sl),(("left" : Str),V.non),(("gone" : Str),V.bl false)]))=H6 at an k6 f6
   refine #[(show 0<=sizeLine by decide),λdn U=>?_]
   have sN:=a_.new (o:=.lst []) U
   have a7:(upd H6 dn δr) dn=some 14e1:=ac
   have b5:dn≠rk:=λz=>by rw[z,an] at U;cases U
   refine #[_,rfl,rk,ό,dx,_,rfl,sN _ _ an,Γ,T.A72,(by show (7:Nat) < 1000;decide),?_]
   generalize (upd H6 dn (.lst []))=H7 at sN a7
   have hi:∀b o,b≠rk->H3 b=some o->H7 b=some o:=λb o z e=>sN _ _ (k6 _ _ z (sS _ _ (k4 _ _ z e)))
   have up:∀b o,b≠rk→H3 b=some o→(upd H7 rk (HO.ins ό dx (FD "done" (V.ref dn) [θs,θr,θt,μ5,ρv,ρw,ρu]))) b=some o:=λb o z e=>by rw[ae z];exact hi b o z e
   have b2:∀h∈hs,h≠rk:=λh hm z=>by
    have:=(hh h hm).1;rw[z,a3] at this
    show 8
   have Y:sl≠rk:=λz=>by rw[z,a0] at J;cases J
   have a4:H3 sl=none:=f4 _ J
   have G:H5 dn=none:=f6 _ U
   have bm:H4 dn=none:=sS.free G
   have aw:H3 dn=none:=f4 _ bm;refine q #[rk,D,sl,dn,ps,hs,p,s',l,λ_=>.whole] _ rfl rfl rfl rfl (λ_=>rfl) (λb o z e=>up b o z (s3 _ _ (k2 _ _ z e))) #[#[dx,ac],up _ _ bt g,lp,lh,λj b e=>?_,λj h e=>?_,#[[],by rw[ae b5];exact a7,rfl],(by rw[ae Y];exact(sN _ _ (k6 _ _ Y a2)).trans (by rw[G5,Fl])),KR,l2,?_,p2,s2] οK
   ·obtain⟨dp,h,eh,hb⟩:=hp j b e
    refine #[dp,h,eh,up _ _ εa hb];rw[z,a3] at hb
    have e:=FK hb
    injection e with e1 e2 e3
    exact absurd (show (3:Nat)=1 from congrArg Mx e3) ζ
   ·have hm:=Gi e
    exact up _ _ (b2 h hm) (hh h hm).1
   ·have a9:∀b o,H3 b=some o->dn≠b:=λb o e z=>by rw[<- z,aw] at e;cases e
    have a5:∀b o,H3 b=some o->sl≠b:=λb o e z=>by rw[<- z,a4] at e;cases e
    have b1:dn≠sl:=λz=>by rw[z,a2] at G;cases G
    show (dn :: D :: sl :: hs).Nodup
    refine HW.mpr #[λz=>?_,HW.mpr #[λz=>?_,HW.mpr #[λz=>a5 sl _ (hh sl z).1 rfl,nd]]]
    ·rcases FC.mp z with y | y
     ·exact a9 _ _ g y
     ·rcases FC.mp y with y | y
      ·exact b1 y
      ·exact a9 _ _ (hh dn y).1 rfl
    ·rcases FC.mp z with y | y
     ·exact a5 _ _ g νA
     ·exact(hh D y).2.2 rfl
   ·have hb:b∈(dn :: D :: sl :: hs):=hb
    rcases FC.mp hb with y | y
    ·rw[y];exact f2 _ (s3.free aw)
    ·rcases FC.mp y with y | y
     ·rw[y];exact f2 _ nD
     ·rcases FC.mp y with y | y
      ·rw[y];exact f2 _ (s3.free a4)
      ·exact f2 _ (hh b y).2.1
theorem d_.lst_ne {R:Rk} (h:εg) {b:Addr}{xs:δ} (hb:H b=some γP):b≠R.rk/\∀p∈R.ps,b≠p:=by
 refine #[λz=>?_,λp hp z=>?_]
 ·obtain⟨dx,h1⟩:=h.ins
  rw[<- z,hb] at h1
  cases h1
 ·obtain⟨i,hi⟩:=Lc hp
  obtain⟨dp,l,_,h1⟩:=h.pl i p hi;rw[<- z,hb] at h1
  cases h1
theorem d_.told {R:Rk}{e':Nat}{ds:δ} (h:εg) (k:KB [R.dn] H H') (hd:H' R.dn=some ξ4) (hl:ds.length=e'):d_ a H' R e' ss X:=by
 obtain⟨j,g,_⟩:=h.dn
 have ne:=h.lst_ne g
 show 164
 have k':∀b o,b≠R.dn->H b=some o->H' b=some o:=λb o n e=>k b o όC e;refine #[?_,k' _ _ (λz=>nd.1 (by rw[<- z];exact Im)) h.shelf,h.lp,h.lh,λi p ep=>?_,λi l el=>?_,#[ds,hd,hl],?_,h.ls,h.l8,h.nd,h.p8,h.s32]
 ·obtain⟨dx,h1⟩:=h.ins
  exact #[dx,k' _ _ (λz=>ne.1 εq) h1]
 ·obtain⟨dp,l,hl,h1⟩:=h.pl i p ep
  exact #[dp,l,hl,k' _ _ υ3 h1]
 ·exact k' _ _ (λz=>nd.1 (by rw[<- z];exact Hl _ ϑ1)) ϑN
 ·exact k' _ _ (λz=>nd.1 (by rw[<- z];exact Hl _ Im)) h.sl
def HR (X:δ1) (i j:Nat) (o:ζu):Nat->Nat->Option Int:=λi' j'=>if i'=i/\j'=j then o else X i' j'
theorem d_.laid {R:Rk}{l:Addr}{o:ζu} (h:εg) (hl:ϐl):d_ a Φ9 R e ss (HR X i j o):=by
 have E:=h.hd i l hl
 have ne:=h.lst_ne E
 show 164
 have g:=HW.mp nd.2
 have s:=HW.mp g.2
 have lm:=Gi hl;refine #[?_,?_,h.lp,h.lh,λk p ep=>?_,λk l' el=>?_,?_,?_,h.ls,h.l8,h.nd,h.p8,h.s32]
 ·obtain⟨dx,h1⟩:=h.ins
  exact ΞU
 ·rw[ae (λz=>g.1 (by rw[z];exact Hl _ lm))]
  exact h.shelf
 ·obtain⟨dp,l',D,h1⟩:=h.pl k p ep
  exact #[dp,l',D,by rw[ae υ3];exact h1]
 ·by_cases y:k=i
  ·subst y
   rw[hl] at el
   cases FK el;rw[ac,wS];show 367
   funext j'
   unfold HR
   by_cases z:j'=j
   ·rw[if_pos z,if_pos #[rfl,z]]
   ·rw[if_neg z,if_neg (λw=>z w.2)]
  ·have nl:l'≠l:=λz=>by
    rw[z] at el
    have hk:=(Gr.mp el).1
    have hi:=(Gr.mp hl).1;rw[s_ hk] at el;rw[s_ hi] at hl;exact y ((L0 (h₀:=hk) (h₁:=hi) s.2).mp ((FK el).trans (FK hl).symm))
   rw[ae nl,h.hd k l' el];show 367
   funext j'
   unfold HR;rw[if_neg (λw=>y w.1)]
 ·obtain⟨ds,h1,h2⟩:=h.dn
  exact #[ds,by rw[ae (λz=>nd.1 (by rw[z];exact Hl _ (Hl _ lm)))];exact h1,h2]
 ·rw[ae (λz=>s.1 (by rw[z];exact lm))];exact h.sl
theorem d_.isLst {R:Rk} (h:εg) {b:Addr} (hb:b∈R.lists):∃xs,H b=some 10e3:=by
 have hb:b∈(R.dn :: R.sh :: R.sl :: R.hs):=hb;rcases FC.mp hb with y | y
 ·obtain⟨ds,h1,_⟩:=h.dn
  exact #[ds,by rw[y];exact h1]
 ·rcases FC.mp y with y | y
  ·exact #[_,by rw[y];exact h.shelf]
  ·rcases FC.mp y with y | y
   ·exact #[_,by rw[y];exact h.sl]
   ·obtain⟨i,hi⟩:=Lc y
    exact #[_,h.hd i b hi]
theorem d_.at {R:Rk} (h:εg) (hi:i < R.P):∃p dp l,R.ps[i]?=some p/\R.hs[i]?=some l/\H p=some (.ins ϑ0 dp ((R.kd i).fs l))/\H l=some 97e6:=by
 have ep:R.ps[i]?=some (R.ps[i]'(by rw[h.lp];exact hi)):=s_ (by rw[h.lp];exact hi)
 obtain⟨dp,l,hl,h1⟩:=h.pl i _ ep;exact #[_,dp,l,ep,hl,h1,h.hd i l hl]
inductive ma (a:q_) (vs:δ) (H:Hp) (Q:VK) (E_3:XK):Prop
 | mk:∀(R:Rk) (e i:Nat) (ss:List V) (X:Nat->Nat->Option Int),vs=[.ref R.rk,.int i]->d_ a H R e ss X->i < R.P->Q .non H->ma a vs H Q E_3
theorem bD (T:θ):x_ P wo K mg base 1 a.f97 ["self", "plank"] (ma a):=by
 refine T.x97.F.okA (k:=0) kW ι
 ·obtain⟨R,e,i,ss,X,rfl,hR,hi,q⟩:=h
  show 165
  show 0
  show 69
  show 4
  show 57
  refine #[_,rfl,_,rfl,R.rk,_,_,_,_,rfl,h1,Γ,T.A75,tf R,_,_,rfl,rfl,_,rfl,?_];show 70
inductive kI (a:q_) (vs:δ) (H:Hp) (Q:VK) (E_3:XK):Prop
 | mk:∀(R:Rk) (e j:Nat) (ss:List V) (X:Nat->Nat->Option Int),vs=[.ref R.rk,.int j]->d_ a H R e ss X->j < R.S->Q .non H->kI a vs H Q E_3
theorem eG (T:θ):x_ P wo K mg base 1 a.f98 ["self", "stripe"] (kI a):=by
 refine T.x98.F.okA (k:=0) jW ι
 ·obtain⟨R,e,i,ss,X,rfl,hR,hi,q⟩:=h
  show 165
  show 0
  show 69
  show 4
  show 57
  refine #[_,rfl,_,rfl,R.rk,_,_,_,_,rfl,h1,Γ,T.A51,gM R,_,_,rfl,rfl,_,rfl,?_];show 70
inductive oq (a:q_) (vs:δ) (H:Hp) (Q:VK) (E_3:XK):Prop
 | mk:∀(R:Rk) (e i j:Nat) (ss:List V) (X:Nat->Nat->Option Int),vs=[.ref R.rk,.int i,.int j]->d_ a H R e ss X->i < R.P->j < R.S->Q .non H->oq a vs H Q E_3
theorem bY (T:θ):x_ P wo K mg base 2 a.f99 ["self", "plank", "stripe"] (oq a):=by
 refine T.x99.F.okA (k:=1) lU ι
 ·obtain⟨R,e,i,j,ss,X,rfl,hR,hi,hj,q⟩:=h
  show 17
  show 0
  show 58
  exists xl Θ2
  refine ζQ;exact #[_,rfl,R.rk,dx,_,rfl,h1,rfl,_,rfl,R,e,j,ss,X,rfl,hR,hj,q]
def sv (R:Rk) (X:δ1) (i j:Nat):Option Int:=if (R.kd i).thr j=true then X i j else none
inductive my (H H':Hp) (dn:Addr) (i j:Nat):Prop
 | mk:∀(ds:List V) (tp:Addr),H dn=some (.lst ds)→H' dn=some (.lst (ds++[.ref tp]))→H tp=none→H' tp=some (.tup [.str "look",.int i,.int j])→my H H' dn i j
inductive Bl (a:q_) (vs:δ) (H:Hp) (Q:VK) (E_3:XK):Prop
 | mk:∀(R:Rk) (e i j:Nat) (ss:List V) (X:Nat->Nat->Option Int),vs=[.ref R.rk,.int i,.int j]->d_ a H R e ss X->e < 9000->i < R.P->j < R.S->(∀H',KB [R.dn] H H'->my H H' R.dn i j->d_ a H' R (e+1) ss X->Q (ov (sv R X i j)) H')->Bl a vs H Q E_3
theorem vD (T:θ):x_ P wo K mg base 3 a.f90 ["self", "plank", "stripe"] (Bl a):=by
 refine T.x90.F.okA (k:=2) vi ι
 ·obtain⟨R,e,i,j,ss,X,rfl,hR,he,hi,hj,q⟩:=h
  show 17;obtain⟨ds,J,U⟩:=id hR.dn
  show 0
  show 71
  show 1;refine xi όD ?_
  show 4
  show 3
  exists xc (aE (cF JX JV JU bi ϟ (aa (bJ (aa dI ζc)) ab)))
  show 1;refine xi ΓU ?_
  exists xl ΓT
  show 3
  show 28
  refine μg;refine ΘS;show 29
  refine #[_,rfl,R.rk,_,_,_,_,rfl,h1,Γ,T.A72,rj R,.inl #[rfl,_,c_.of J],?_];refine #[_,rfl,_,rfl,(show 3<=sizeLine by decide),λtp G=>#[R.dn,_,_,rfl,rfl,a_.new G _ _ J,GU (by omega:ώI) ζ,?_]]
  have kb:KB [R.dn] H 86e5:=λb o n e=>by
   rw[ae ξz]
   exact a_.new G _ _ e
  have O:86e5 R.dn=some (.lst (ds++[V.ref tp])):=ac
  have ht:86e5 tp=some (.tup [V.str (Go "look"),V.int (i:Int),V.int (j:Int)]):=by
   rw[ae (aq J G).symm];exact ac
  have g:=hR.told (e':=e+1) kb O (by rw[Hr,U];rfl)
  generalize (upd (upd H tp (.tup [V.str (Go "look"),V.int (i:Int),V.int (j:Int)])) R.dn (.lst (ds++[V.ref tp])))=H1 at kb g O ht
  have q:=q H1 kb #[ds,tp,J,O,G,ht] g;unfold sv at q;obtain⟨Y,D⟩:=id ηr;obtain⟨p,dp,l,ep,el,hp,hl⟩:=g.at hi;show 166
  cases kd with
  | whole =>
   refine .inl #[_,rfl,R.rk,_,_,_,_,rfl,D,Γ,γJ,aO R,_,rfl,R.sh,_,_,_,rfl,rfl,c_.of νD,aB γD,p,dp,_,rfl,hp,rfl,_,rfl,p,_,rfl,_,rfl,?_];show 55;exact .inl #[_,rfl,R.rk,_,_,_,_,rfl,D,Γ,γJ,aO R,_,rfl,R.sh,_,_,_,rfl,rfl,c_.of νD,aB γD,p,dp,_,rfl,hp,rfl,_,rfl,p,l,_,dp,_,_,j,_,rfl,hp,εI,ιM,rfl,hl,cP hj,q]
  | slow c =>
   refine .inr Δ4;show 55;exact .inr (.inl #[_,rfl,R.rk,_,_,_,_,rfl,D,Γ,γJ,aO R,_,rfl,R.sh,_,_,_,rfl,rfl,c_.of νD,aB γD,p,dp,_,rfl,hp,rfl,_,rfl,p,l,_,dp,_,_,j,_,rfl,hp,ζI,T.A79,rfl,hl,cP hj,q])
  | lost =>
   refine .inr (.inr Δ4);show 167
  | spare m =>
   refine .inr (.inr (.inr #[_,rfl,R.rk,_,_,_,_,rfl,D,Γ,γJ,aO R,_,rfl,R.sh,_,_,_,rfl,rfl,c_.of νD,aB γD,p,dp,_,rfl,hp,rfl,_,rfl,p,l,dp,m,j,rfl,hp,_,rfl,?_]));refine b_ εa εa
   ·rw[if_pos (show (Kd.spare m).thr j=true from z)] at q
    exact .inr (.inr (.inr #[_,rfl,R.rk,_,_,_,_,rfl,D,Γ,γJ,aO R,_,rfl,R.sh,_,_,_,rfl,rfl,c_.of νD,aB γD,p,dp,_,rfl,hp,rfl,_,rfl,p,l,_,dp,_,_,j,_,rfl,hp,δP,T.A78,rfl,hl,cP hj,q]))
   ·rw[if_neg (show ¬ (Kd.spare m).thr j=true from z)] at q
    exact q
inductive Bm (a:q_) (vs:δ) (H:Hp) (Q:VK) (E_3:XK):Prop
 | mk:∀(R:Rk) (e:Nat) (ss:List V) (X:Nat->Nat->Option Int),vs=[.ref R.rk]->d_ a H R e ss X->Q .non H->Bm a vs H Q E_3
theorem cD (T:θ):x_ P wo K mg base 1 a.f94 ["self"] (Bm a):=by
 refine T.x94.F.okA (k:=0) lS ι
 ·obtain⟨R,e,ss,X,rfl,hR,q⟩:=h
  show 17
  show 0
  show 1;refine xi (PW.pt (jl ΨS (gQ (am bq ϟ ai υ)))) ?_
  exists xl ύz
  show 34;refine xi όD ?_
  show 4
  show 3;show 368
  show 29
  refine ΘS;show 167
inductive yC (a:q_) (vs:δ) (H:Hp) (Q:VK) (E_3:XK):Prop
 | mk:∀(R:Rk) (e:Nat) (ss:List V) (X:Nat->Nat->Option Int) (t:Addr),vs=[.ref R.rk,.ref t]->d_ a H R e ss X->e < 9000->(∀H',KB [R.dn] H H'->d_ a H' R (e+1) ss X->Q .non H')->yC a vs H Q E_3
theorem dS (T:θ):x_ P wo K mg base 1 a.f95 ["self", "event"] (yC a):=by
 refine T.x95.F.okA (k:=0) ue ι
 ·obtain⟨R,e,ss,X,t,rfl,hR,he,q⟩:=h
  show 17;obtain⟨ds,g,j⟩:=id hR.dn
  show 0
  show 1;refine xi ΨS ?_
  exists xl (rE ο ai Ep)
  show 3
  exists xl Ξr
  show 368
  refine #[_,rfl,R.rk,_,_,_,_,rfl,h1,Γ,T.A72,rj R,.inl ύ1,_,rfl,R.dn,_,_,rfl,rfl,g,GU (by omega:ώI) ζ,?_]
  have kb:KB [R.dn] H (upd H R.dn (.lst (ds++[V.ref t]))):=λb o n e=>by
   rw[ae ξz]
   exact e
  exact q _ kb (hR.told kb ac (by rw[Hr,j];rfl))
inductive C9 (a:q_) (vs:δ) (H:Hp) (Q:VK) (E_3:XK):Prop
 | mk:∀(R:Rk) (e i j:Nat) (ss:List V) (X:Nat->Nat->Option Int) (o:Option Int),vs=[.ref R.rk,.int i,.int j,ov o]->d_ a H R e ss X->e < 9000->i < R.P->j < R.S->R.kd i=.whole->(∀H',KB (R.dn :: R.hs) H H'->d_ a H' R (e+1) ss (HR X i j o)->Q .non H')->C9 a vs H Q E_3
theorem wT (T:θ):x_ P wo K mg base 3 a.f91 ["self", "plank", "stripe", "block"] (C9 a):=by
 refine T.x91.F.okA (k:=2) wO ι
 ·obtain⟨R,e,i,j,ss,X,o,rfl,hR,he,hi,hj,hw,q⟩:=h
  show 168
  show 72
  show 0
  show 71
  show 109
  show 369
  show 4
  show 3
  exists xc (aE (PE.or (ao δf εI T.x58.me ιF hr.u ιD .nil aj ιZ) (PE.or (ao δf ζI ϋK ιF hr.u ιD .nil aj ιZ) (PE.or (ao δf θv T.x63.me (eY T) hr.u T.x63.b .nil aj ιZ) (ao δf δP ϋn ιF hr.u ιD .nil aj ιZ)))))
  exists xl Δj
  refine μg;refine ξe;show 370
  refine .inl #[_,rfl,R.rk,_,_,_,_,rfl,h1,Γ,γJ,aO R,_,rfl,R.sh,_,_,_,rfl,rfl,c_.of δd,aB γD,p,dp,_,rfl,hp,rfl,_,rfl,_,rfl,p,l,δN,dp,_,_,j,_,rfl,hp,εI,ιM,rfl,hl,by rw[oo];exact hj,?_]
  have g:=hR.laid (j:=j) (o:=o) el
  have kl:KB (R.dn :: R.hs) H 142e5:=λb o n e=>by
   rw[ae (λz=>n (by rw[z];exact Hl _ (Gi el)))]
   exact e
  generalize (upd H l (.lst ((aM R.S (X i)).set j (ov o))))=H1 at g kl;obtain⟨O,J⟩:=id ηr;refine #[_,rfl,R.rk,O,_,rfl,J,rfl,_,rfl,_,rfl,(show 3<=sizeLine by decide),λtp G=>?_]
  have st:=a_.new (o:=.tup [V.str (Go "lay"),V.int (i:Int),V.int (j:Int)]) G
  refine #[R,e,ss,HR X i j o,tp,rfl,g.same st,he,λH2 k2 D=>?_];exact q H2 ((kl.same st).trans (k2.more λb hb=>by rw[Ge.mp hb];exact Im)) D
theorem d_.slate {R:Rk}{ss':δ} (h:εg) (hl:ss'.length=R.L):d_ a (upd H R.sl (.lst ss')) R e ss' X:=by
 have ne:=h.lst_ne h.sl
 show 164
 have g:=HW.mp nd.2
 have j:=HW.mp g.2;refine #[?_,?_,h.lp,h.lh,λi p ep=>?_,λi l el=>?_,?_,ac,hl,h.l8,h.nd,h.p8,h.s32]
 ·obtain⟨dx,h1⟩:=h.ins
  exact ΞU
 ·rw[ae (λz=>g.1 (by rw[z];exact Im))];exact h.shelf
 ·obtain⟨dp,l,hl,h1⟩:=h.pl i p ep
  exact #[dp,l,hl,by rw[ae υ3];exact h1]
 ·rw[ae (λz=>j.1 (by rw[<- z];exact Gi el))];exact h.hd i l el
 ·obtain⟨ds,h1,h2⟩:=h.dn
  exact #[ds,by rw[ae (λz=>nd.1 (by rw[z];exact Hl _ Im))];exact h1,h2]
inductive jK (a:q_) (vs:δ) (H:Hp) (Q:VK) (E_3:XK):Prop
 | mk:∀(R:Rk) (e i j:Nat) (ss:List V) (X:Nat->Nat->Option Int),vs=[.ref R.rk,.int i,.int j]->d_ a H R e ss X->i < R.P->j < R.S->Q (.bl ((R.kd i).thr j)) H->jK a vs H Q E_3
theorem uh (T:θ):x_ P wo K mg base 3 a.f87 ["self", "plank", "stripe"] (jK a):=by
 refine T.x87.F.okA (k:=2) ud ι
 ·obtain⟨R,e,i,j,ss,X,rfl,hR,hi,hj,q⟩:=h
  show 169
  show 0
  show 71
  exists xl (aA (PE.or (ao δf εI T.x55.me (ci T) hr.u T.x55.b .nil aj γt) (PE.or (ao δf ζI T.me_SlowPlank__there (ci T) hr.u T.x55.b .nil aj γt) (PE.or (ao δf θv T.x62.me (di T) hr.u T.x62.b .nil aj γt) (ao δf δP T.x65.me (cZ T) hr.u T.x65.b .nil aj γt)))))
  refine μg;show 166
  cases kd with
  | whole=>exact .inl ⟨_,rfl,R.rk,_,_,_,_,rfl,h1,Γ,γJ,aO R,_,rfl,R.sh,_,_,_,rfl,rfl,c_.of δd,aB γD,p,dp,_,rfl,hp,rfl,_,rfl,p,_,rfl,q⟩
  | slow c=>exact .inr Δ6
  | lost=>exact .inr (.inr Δ6)
  | spare m=>exact .inr (.inr (.inr ⟨_,rfl,R.rk,_,_,_,_,rfl,h1,Γ,γJ,aO R,_,rfl,R.sh,_,_,_,rfl,rfl,c_.of δd,aB γD,p,dp,_,rfl,hp,rfl,_,rfl,p,l,dp,m,j,rfl,hp,q⟩))
inductive iB (a:q_) (vs:δ) (H:Hp) (Q:VK) (E_3:XK):Prop
 | mk:∀(R:Rk) (e i:Nat) (ss:List V) (X:Nat->Nat->Option Int),vs=[.ref R.rk,.int i]->d_ a H R e ss X->i < R.P->Q (.int (R.kd i).pr) H->iB a vs H Q E_3
theorem qr (T:θ):x_ P wo K mg base 2 a.f86 ["self", "plank"] (iB a):=by
 refine T.x86.F.okA (k:=1) qd ι
 ·obtain⟨R,e,i,ss,X,rfl,hR,hi,q⟩:=h
  show 169
  show 0
  show 58
  exists xl (aA (PE.or (aW δf εI T.x56.me (fz T) hr.u T.x56.b .nil aj) (PE.or (aW δf ζI T.x60.me (l4 T) hr.u T.x60.b .nil aj) (PE.or (aW δf θv T.me_LostPlank__price (fz T) hr.u T.x56.b .nil aj) (aW δf δP T.me_SparePlank__price (fz T) hr.u T.x56.b .nil aj)))))
  refine ζQ;show 166
  cases kd with
  | whole=>exact .inl τ2
  | slow c=>exact .inr (.inl ⟨_,rfl,R.rk,_,_,_,_,rfl,h1,Γ,γJ,aO R,_,rfl,R.sh,_,_,_,rfl,rfl,c_.of δd,aB γD,p,dp,_,rfl,hp,rfl,p,l,dp,c,rfl,hp,q⟩)
  | lost=>exact .inr (.inr (.inl τ2))
  | spare m=>exact .inr (.inr (.inr τ2))
inductive fP (a:q_) (vs:δ) (H:Hp) (Q:VK) (E_3:XK):Prop
 | mk:∀(R:Rk) (e:Nat) (ss:List V) (X:Nat->Nat->Option Int),vs=[.ref R.rk]->d_ a H R e ss X->Q (.bl true) H->fP a vs H Q E_3
theorem mR (T:θ):x_ P wo K mg base 1 a.f88 ["self"] (fP a):=by
 refine T.x88.F.okA (k:=0) mL ι
 ·obtain⟨R,e,ss,X,rfl,hR,q⟩:=h
  show 17
  show 0
  exists xl (aA (zU ϟ))
  exact #[_,rfl,R.rk,_,_,_,_,rfl,h1,Γ,T.A61,rh R,_,rfl,q]
inductive eZ (a:q_) (vs:δ) (H:Hp) (Q:VK) (E_3:XK):Prop
 | mk:∀(R:Rk) (e i:Nat) (ss:List V) (X:Nat->Nat->Option Int),vs=[.ref R.rk,.int i]->d_ a H R e ss X->i < R.L->Q .non H->eZ a vs H Q E_3
theorem fQ (T:θ):x_ P wo K mg base 1 a.f96 ["self", "slot"] (eZ a):=by
 refine T.x96.F.okA (k:=0) lT ι
 ·obtain⟨R,e,i,ss,X,rfl,hR,hi,q⟩:=h
  show 165
  show 0
  show 69
  show 4
  show 57
  refine #[_,rfl,_,rfl,R.rk,_,_,_,_,rfl,h1,Γ,T.A62,o6 R,_,_,rfl,rfl,_,rfl,?_];show 70
theorem tj {R:Rk} (hR:εg) (s:a_ H H2):d_ a ΨT R e (ss.set i v) X/\KB [R.dn,R.sl] H ΨT :=
 ⟨(hR.same s).slate (by rw[JJ];exact hR.ls),λb o n z=>by
  rw[ae (λy=>n (by rw[y];exact Hl _ Im))]
  exact s _ _ z⟩
inductive kJ (a:q_) (vs:δ) (H:Hp) (Q:VK) (E_3:XK):Prop
 | mk:∀(R:Rk) (e i st:Nat) (ss xs:List V) (pr:Addr) (X:Nat->Nat->Option Int),vs=[.ref R.rk,.int i,.int st,.ref pr]->d_ a H R e ss X->i < R.L->st < R.S->e < 9000->H pr=some (.lst xs)->(∀H' v,KB [R.dn,R.sl] H H'->d_ a H' R (e+1) (ss.set i v) X->Q .non H')->kJ a vs H Q E_3
theorem vE (T:θ):x_ P wo K mg base 2 a.f92 ["self", "slot", "stripe", "pairs"] (kJ a):=by
 refine T.x92.F.okA (k:=1) vj ι
 ·obtain⟨R,e,i,st,ss,xs,pr,X,rfl,hR,hi,Z,he,G,q⟩:=h
  show 17
  show 0
  exists xc Θ3
  exists xc Θ2
  show 109
  exists xc (cA (bJ (aa Ψ (aa Ξs ab))) ζT)
  exists xl Δj
  refine ζQ;refine #[_,rfl,R.rk,dx,_,rfl,h1,rfl,_,rfl,R,e,st,ss,X,rfl,hR,Z,?_];refine ξe;refine #[_,rfl,_,rfl,pr,_,rfl,.inl (c_.of G),λpl ad=>Φ7]
  have g:=(a_.new (o:=.lst xs) ad).trans (a_.new (o:=.tup [V.int (st:Int),V.ref pl]) nt);generalize (upd (upd H pl (.lst xs)) t (.tup [V.int (st:Int),V.ref pl]))=H2 at g;refine #[_,rfl,R.rk,_,_,_,_,rfl,g _ _ h1,Γ,T.A65,o7 R,_,rfl,R.sl,_,_,i,rfl,rfl,g _ _ ιN,cz ϋ3,?_]
  obtain⟨j,D⟩:=tj (i:=i) (v:=.ref t) hR g;generalize (upd H2 R.sl (.lst (ss.set i (.ref t))))=H3 at j D;obtain⟨O,U⟩:=id j.ins;refine #[_,rfl,R.rk,O,_,rfl,U,rfl,_,rfl,_,rfl,(show 3<=sizeLine by decide),λev Y=>?_]
  have s4:=a_.new (o:=.tup [V.str (Go "note"),V.int (i:Int),V.int (st:Int)]) Y
  exact #[R,e,_,X,ev,rfl,j.same s4,he,λH5 k5 J=>q H5 _ ((D.same s4).trans (k5.more λb hb=>by rw[Ge.mp hb];exact Im)) J]
inductive i0 (a:q_) (vs:δ) (H:Hp) (Q:VK) (E_3:XK):Prop
 | mk:∀(R:Rk) (e i:Nat) (ss:List V) (X:Nat->Nat->Option Int),vs=[.ref R.rk,.int i]->d_ a H R e ss X->i < R.L->e < 9000->(∀H',KB [R.dn,R.sl] H H'->d_ a H' R (e+1) (ss.set i .non) X->Q .non H')->i0 a vs H Q E_3
theorem rm (T:θ):x_ P wo K mg base 2 a.f93 ["self", "slot"] (i0 a):=by
 refine T.x93.F.okA (k:=1) qZ ι
 ·obtain⟨R,e,i,ss,X,rfl,hR,hi,he,q⟩:=h
  show 17
  show 0
  exists xc Θ3
  show 109
  exists xc (cA aL ζT)
  exists xl (aE (ao ο Γ T.x95.me (dS T) hr.u T.x95.b .nil aj (aa (bJ (aa dI γ8)) ab)))
  show 371;refine #[_,rfl,R.rk,_,_,_,_,rfl,h1,Γ,T.A65,o7 R,_,rfl,R.sl,_,_,i,rfl,rfl,ιN,cz ϋ3,?_]
  obtain⟨g,j⟩:=tj (i:=i) (v:=.non) hR ϡ;generalize (upd H R.sl (.lst (ss.set i .non)))=H3 at g j;obtain⟨G,J⟩:=id ηr;refine #[_,rfl,R.rk,G,_,rfl,J,rfl,_,rfl,(show 2<=sizeLine by decide),λev O=>?_]
  have s4:=a_.new (o:=.tup [V.str (Go "strike"),V.int (i:Int)]) O
  exact #[R,e,_,X,ev,rfl,g.same s4,he,λH5 k5 D=>q H5 ((j.same s4).trans (k5.more λb hb=>by rw[Ge.mp hb];exact Im)) D]
inductive iC (a:q_) (vs:δ) (H:Hp) (Q:VK) (E_3:XK):Prop
 | mk:∀(R:Rk) (e:Nat) (X:Nat->Nat->Option Int),vs=[.ref R.rk]->d_ a H R e (FL R.L .non) X->(∀D H',a_ H H'->H' D=some (.lst [])->Q (.ref D) H')->iC a vs H Q E_3
theorem qt (T:θ):x_ P wo K mg base 1 a.f89 ["self"] (iC a):=by
 refine T.x89.F.okA (k:=0) Ot ι
 ·obtain⟨R,e,X,rfl,hR,q⟩:=h
  show 17
  show 0
  exists xc (ar (i:=1) Ot.nd rfl 0e2 δW)
  show 1;refine xf Ϙ rfl (gT rfl T.A38 μ1) (c7 rfl (aN (au (i:=2) Ot.nd rfl ε) (aN (au (i:=3) Ot.nd rfl ε) bZ))) ?_;show 7;refine xi (am cg ϐ aL υ) ?_
  exists xl (aE (cF JX JV JU bi ω (aa (bJ (aa Ψ (aa νX (aa (bu bK rfl T.A18 γf ΦJ) ab)))) ab)))
  show 20
  exists xl (aA ω)
  refine #[(show 0<=sizeLine by decide),λD nD=>?_]
  have sD:=a_.new (o:=.lst []) nD
  have hD:(upd H D δr) D=some 14e1:=ac;generalize (upd H D (.lst []))=H1 at sD hD;show 2
  refine #[_,rfl,R.rk,_,_,_,_,rfl,sD _ _ h1,Γ,T.A65,o7 R,R.sl,_,rfl,c_.of (sD _ _ ιN),?_];refine let I_:Nat->L2.St->Hp->Prop:=λk σ H'=>L2.E2 λ(v2 v3:Option V)=>L2.A3 (σ=[some ηz,some γ0,v2,v3]) εi (H' D=some δr);jT I_ #[none,none,rfl,sD,hD] ?_ ?_ ?_
  ·rintro i σ H' _ ⟨_,_,_,s',_⟩
   exact c_.of (s' _ _ ιN)
  ·rintro k u T' σ H2 hk hu nT ⟨v2,v3,rfl,s2,j⟩
   have st:=a_.new (o:=.tup [V.int (k:Nat),u]) nT;show 53
   have s3:=s2.trans st
   have g:=st _ _ j;generalize (upd H2 T' (.tup [V.int (k:Nat),u]))=H3 at st s3 g;show 2
   show 52
   cases Qh (Gi hu);exact b_ γx (λ_=>#[_,_,rfl,s3,g])
  ·rintro σ H' ⟨v2,v3,rfl,s',G⟩
   exact #[_,rfl,q D H' s' G]
def Rk.put (R:Rk) (i:Nat) (p h:Addr) (kd:Kd):Rk:={ R with ps:=R.ps.set i p,hs:=R.hs.set i h,kd:=λk=>if k=i then kd else R.kd k }
def Rk.kind (R:Rk) (i:Nat) (kd:Kd):Rk:={ R with kd:=λk=>if k=i then kd else R.kd k }
def Il (X:δ1) (i:Nat) (f:μN):Nat->Nat->Option Int:=λk j=>if k=i then f j else X k j
theorem tz {x:Addr}:∀{l:Φ}{i:Nat},l.Nodup->x∉l->(l.set i x).Nodup
 | [],_,_,_=>M_
 | b :: l,0,h,n=>HW.mpr ⟨λz=>n ρO,(HW.mp h).2⟩
 | b :: l,i+1,h,n=>HW.mpr ⟨λz=>(OF z).elim (HW.mp h).1 λe=>n (by rw[e];exact .head _),tz (HW.mp h).2 λz=>n ρO⟩
theorem d_.put {a:q_}{H Hn:Hp}{R:Rk}{e i:Nat}{ss:δ}{X:δ1}{p h dp:Addr}{kd:Kd}{f:μN} (hR:εg) (sn:a_ H Hn) (np:ρ0) (nh:ωY) (hp:ΦZ) (hh:ϊe):d_ a Ξc ώJ e ss 111e9:=by
 have g:=hR.same sn
 have nd:=HW.mp hR.nd
 have s:=HW.mp nd.2
 have J:=HW.mp s.2
 have G:=g.shelf
 have E:=g.lst_ne G
 have hm:∀{b:Addr},b∈R.lists->b≠h:=λ{b} hb z=>by
  obtain⟨xs,y⟩:=hR.isLst hb;rw[z,nh] at y;cases y
 refine #[?_,?_,?_,?_,λk q ek=>?_,λk l ek=>?_,?_,?_,hR.ls,hR.l8,?_,hR.p8,hR.s32]
 ·obtain⟨dx,h1⟩:=g.ins
  exact #[dx,(ae (λz=>E.1 εq)).trans h1]
 ·show upd Hn R.sh _ R.sh=some (.lst ((R.ps.set i p).map ϙ))
  rw[ac,N4]
 ·show (R.ps.set i p).length=R.P
  rw[JJ];exact hR.lp
 ·show (R.hs.set i h).length=R.P
  rw[JJ];exact hR.lh
 ·have ek:(R.ps.set i p)[k]?=some q:=ek
  show ∃dp h',197e6[k]?=some h'/\upd Hn R.sh _ q=some (.ins ΨG dp Ψk)
  show 73
  ·subst z
   show 372
   cases FK ek;refine #[dp,h,LK (by rw[hR.lh,← hR.lp];exact hk),?_]
   rw[if_pos rfl,ae (λz=>by rw[z,G] at hp;cases hp)]
   exact hp
  ·rw[LG θj] at ek
   obtain⟨dq,l,el,hq⟩:=g.pl k q ek;refine #[dq,l,by rw[LG θj];exact el,?_]
   rw[if_neg z,ae (λy=>E.2 q ζ5 νA)];exact hq
 ·have ek:197e6[k]?=some l:=ek
  show upd Hn R.sh _ l=some (.lst (aM R.S (Il X i f k)))
  show 73
  ·subst z
   show 372
   cases FK ek;rw[ae (hm νU).symm,hh];show 373;show 25
  ·rw[LG θj] at ek
   rw[ae (λy=>s.1 (by rw[<- y];exact .tail _ ζ5)),g.hd k l ek]
   show 373;rw[if_neg z]
 ·obtain⟨ds,h1,h2⟩:=g.dn
  exact #[ds,by rw[ae (λz=>nd.1 (by rw[show R.dn=R.sh from z];exact .head _))];exact h1,h2]
 ·rw[ae (λz=>s.1 (by rw[<- show R.sl=R.sh from z];exact .head _))];exact g.sl
 ·show (R.dn :: R.sh :: R.sl :: R.hs.set i h).Nodup
  have hn:h∉R.hs:=λz=>hm (.tail _ ό7) rfl
  have D:∀{b:Addr},b∈R.lists->b∉R.hs->b∉R.hs.set i h:=λ{b} hb n z=>(OF z).elim n λe=>hm hb e
  have m1:R.dn∉R.hs:=λz=>nd.1 ό7
  have m2:R.sh∉R.hs:=λz=>s.1 ρO;refine HW.mpr #[λz=>?_,HW.mpr #[λz=>?_,HW.mpr #[D υ8 J.1,tz J.2 hn]]]
  ·rcases FC.mp z with y | z
   ·exact nd.1 υs
   rcases FC.mp z with y | z
   ·exact nd.1 (by rw[y];exact .tail _ δi)
   ·exact D δi m1 z
  ·rcases FC.mp z with y | z
   ·exact s.1 υs
   ·exact D νU m2 z
theorem Kd.held (kd:Kd) (l:Addr):(kd.fs l).lookup ("held" : Str)=some 31e3:=by cases kd <;> rfl
theorem Kd.short (kd:Kd) (l:Addr):(kd.fs l).length<=2:=by cases kd <;> simp[Kd.fs,hf,NF,Kn]
theorem d_.kind {a:q_}{H:Hp}{R:Rk}{e i:Nat}{ss:δ}{X:δ1}{p l dp:Addr}{kd:Kd} (hR:εg) (ep:R.ps[i]?=some p) (el:ϐl):d_ a (upd H p υb) (R.kind i kd) e ss X:=by
 obtain⟨d0,l0,j,hp⟩:=hR.pl i p ep;rw[el] at j
 cases FK j
 have g:∀{b:Addr}{xs:δ},H b=some γP->upd H p υb b=some 10e3:=λ{b xs} y=>by
  rw[ae (λz=>by rw[z,hp] at y;cases y)]
  exact y
 have D:=(HW.mp (HW.mp (HW.mp hR.nd).2).2).2;refine #[?_,g δd,hR.lp,hR.lh,λk q ek=>?_,λk h ek=>g (hR.hd k h ek),?_,g ιN,hR.ls,hR.l8,hR.nd,hR.p8,hR.s32]
 ·obtain⟨dx,h1⟩:=hR.ins
  refine ψS;rw[ae εa]
  ·exact h1
  ·have z:R.rk=p:=z
   rw[z,hp] at h1
   injection FK h1 with y1 y2 y3
   have:=Kd.short (R.kd i) l;rw[y3] at this;exact absurd this (by show ¬ 8<=2;decide)
 ·obtain⟨dq,h,eh,hq⟩:=hR.pl k q ek
  show ∃dp' h',R.hs[k]?=some h'/\upd H p υb q=some (.ins ΨG dp' Ψk)
  show 73
  ·have s:R.ps[k]?=some q:=ek
   rw[z,ep] at s
   cases FK s;exact #[dp,l,by rw[z];exact el,by rw[if_pos z,ac]]
  ·refine #[dq,h,eh,?_]
   rw[if_neg z,ae (λy=>z ?_)]
   ·exact hq
   ·rw[y,hp] at hq
    injection FK hq with y1 y2 y3
    have y4:=Kd.held (R.kd i) l;rw[y3,Kd.held] at y4
    have e:h=l:=V.ref.inj (FK y4);rw[e] at eh
    have hk:=(Gr.mp eh).1
    have hi:=(Gr.mp el).1;rw[s_ hk] at eh;rw[s_ hi] at el;exact(L0 (h₀:=hk) (h₁:=hi) D).mp ((FK eh).trans (FK el).symm)
 ·obtain⟨ds,h1,h2⟩:=hR.dn
  exact #[ds,g h1,h2]
def Nu (a:q_) (H:Hp) (R:Rk) (e:Nat) (ss:δ) (X:δ1) (i:Nat) (kd:Kd) (f:μN) (Q:ζC):Prop:=∀p h H',H p=none->H h=none->KB [R.sh] H H'->d_ a H' ώJ e ss ωd->Q H'
variable {Q:Hp->Prop}
theorem vF {Hn:Hp}{R:Rk}{h dp:Addr}{kd:Kd} (hR:εg) (q:Nu a H R e ss X i kd f Q) (sn:a_ H Hn) (np:ρ0) (nh:ωY) (hp:ΦZ) (hh:ϊe):Q Ξc :=
 q p h _ np nh (λb o n e=>by rw[ae ξz];exact sn _ _ e) (hR.put sn np nh hp hh)
inductive kK (a:q_) (vs:δ) (H:Hp) (Q:VK) (E_3:XK):Prop
 | mk:∀(R:Rk) (e i:Nat) (ss:List V) (X:Nat->Nat->Option Int),vs=[.ref R.rk,.int i]->d_ a H R e ss X->i < R.P->R.kd i=.whole->(Nu a H R e ss X i .lost (λ_=>none) (Q .non))->kK a vs H Q E_3
theorem vG (T:θ):x_ P wo K mg base 4 a.f78 ["self", "plank"] (kK a):=by
 refine T.x78.F.okA (k:=3) vg ι
 ·obtain⟨R,e,i,ss,X,rfl,hR,hi,hw,q⟩:=h
  show 17
  show 0
  show 58
  show 369
  show 4
  show 3
  exists xl (cA (cx T.Ad9 (mQ T) hr.u rfl T.m_LostPlank T.x61.b .nil aj μ1) ζT)
  show 170
  show 72;show 370
  refine #[_,rfl,R.rk,_,_,_,_,rfl,h1,Γ,T.A51,gM R,λx dy nx G ne=>?_]
  have sx:a_ H (upd (upd H dy θw) x (.ins γW dy [])):=λy o e=>by
   rw[ae ηb,ae (aq e G)];exact e
  refine #[x,dy,R.S,rfl,(by have:=hR.s32;omega),ac,λl' H' s' nl J=>ηZ]
  show 374
  show 375
  have sn:a_ H 128e7:=λb o e=>by
   show 376;exact s' _ _ (sx _ _ e)
  have D:128e7 l'=some (.lst (aM R.S λ_=>none)):=by
   rw[ae j,ac];unfold aM;rw[Qw,Gf]
   show some (HO.lst ((FL R.S none).map ov))=_
   rw[SU]
  refine τ1
  exact vF hR q sn nx g ac D
inductive fR (a:q_) (vs:δ) (H:Hp) (Q:VK) (E_3:XK):Prop
 | mk:∀(R:Rk) (e i c:Nat) (ss:List V) (X:Nat->Nat->Option Int),vs=[.ref R.rk,.int i,.int c]->d_ a H R e ss X->i < R.P->R.kd i=.whole->2<=c->c<=9->Nu a H R e ss X i (.slow c) (X i) (Q .non)->fR a vs H Q E_3
theorem mS (T:θ):x_ P wo K mg base 4 a.f80 ["self", "plank", "cost"] (fR a):=by
 refine T.x80.F.okA (k:=3) mK ι
 ·obtain⟨R,e,i,c,ss,X,rfl,hR,hi,hw,c2,c9,q⟩:=h
  show 17
  show 0
  show 58
  show 1;refine xi (PW.pt (aY (am bq Ψ (bg (v:=.int 2) rfl T.Ad6 ϊ) υ) (aS (am b7 Ψ (bg (v:=.int 9) rfl T.Ac3 ϊ) υ)))) ?_
  show 4
  show 44;refine xi (aX (aF zx rfl T.A26 μ6 (aa ιS (aa (bJ (aa (bg (v:=.ref γW) rfl T.m_LostPlank rfl) ΘL)) ab)))) ?_
  show 4
  show 3
  exists xl (cA (cx T.Ae9 (mP T) hr.u rfl T.m_SlowPlank T.x59.b .nil aj (aa (ak ιS rfl) γt)) ζT)
  show 170
  show 72;refine Δu
  refine Δu
  refine #[_,rfl,R.rk,_,_,_,_,rfl,h1,Γ,γJ,aO R,_,rfl,R.sh,_,_,_,rfl,rfl,c_.of δd,aB γD,(show 2<=sizeLine by decide),λtp J=>?_]
  have st:=a_.new (o:=.tup [V.ref γW,V.ref γI]) J
  have g:(upd H tp ΞV) tp=some 141e1:=ac;generalize (upd H tp (.tup [V.ref a.C_LostPlank,V.ref a.C_SparePlank]))=H1 at st g;refine #[p,_,dp,_,tp,[γW,γI],_,rfl,st _ _ hp,εI,T.ty_Plank,g,T.kt_Plank,_,rfl,?_];show 29
  refine #[_,rfl,R.rk,_,_,_,_,rfl,st _ _ h1,Γ,γJ,aO R,_,rfl,R.sh,_,_,_,rfl,rfl,c_.of (st _ _ δd),aB γD,p,_,_,_,_,rfl,st _ _ hp,εI,ιM,rfl,_,rfl,λx dy nx O ne=>?_]
  have sx:a_ H1 136e0:=λy o e=>by
   rw[ae ηb,ae (aq e O)];exact e
  refine #[x,l,dy,c,_,rfl,ac,sx _ _ (st _ _ hl),λl' nl=>ηZ]
  have j:H x=none:=st.free nx
  have D:H l'=none:=st.free (sx.free nl)
  have G:l'≠x:=λz=>by rw[z,ac] at nl;cases nl
  have sn:a_ H (upd (upd Ξ6 l' υU) x (.ins εu dy (NF l' c))):=λb o e=>by
   rw[ae (aq e j),ae (aq e D)];exact sx _ _ (st _ _ e)
  refine τ1
  exact vF hR q sn j D ac (by rw[ae G,ac])
inductive fS (a:q_) (vs:δ) (H:Hp) (Q:VK) (E_3:XK):Prop
 | mk:∀(R:Rk) (e i:Nat) (L:Addr) (ss:List V) (X:Nat->Nat->Option Int) (f:Nat->Option Int),vs=[.ref R.rk,.int i,.ref L]->d_ a H R e ss X->H L=some (.lst (aM R.S f))->i < R.P->R.kd i=.lost->Nu a H R e ss X i (.spare 0) f (Q .non)->fS a vs H Q E_3
theorem mT (T:θ):x_ P wo K mg base 4 a.f79 ["self", "plank", "some"] (fS a):=by
 refine T.x79.F.okA (k:=3) mJ ι
 ·obtain⟨R,e,i,L,ss,X,f,rfl,hR,hL,hi,hw,q⟩:=h
  show 17
  show 0
  show 58
  show 1;refine xi (bS ρY) ?_
  show 4
  show 3
  exists xl (cA (cx T.Ac9 (l7 T) hr.u rfl T.m_SparePlank T.x64.b .nil aj (aa (g0 (am cV Ψ aL υ) (ay dJ νZ ϟ) Ψ) ab)) ζT)
  show 170
  have hp:H p=some (.ins γW dp (hf l)):=hp;refine #[_,rfl,R.rk,_,_,_,_,rfl,h1,Γ,γJ,aO R,_,rfl,R.sh,_,_,_,rfl,rfl,c_.of δd,aB γD,_,_,_,_,rfl,T.ty_LostPlank.of θv hp,T.ki_LostPlank_LostPlank,_,rfl,?_];show 29
  refine ξ7
  refine #[_,rfl,λx dy nx D ne=>?_]
  have sx:a_ H 136e1:=λy o e=>by
   rw[ae ηb,ae (aq e D)];exact e
  refine #[x,L,dy,_,rfl,ac,sx _ _ hL,λl' nl=>ηZ]
  show 374
  show 375
  have sn:a_ H (upd (upd Ξ7 l' (.lst (aM R.S f))) x (.ins γI dy (Kn l' 0))):=λb o e=>by
   show 376;exact sx _ _ e
  refine τ1
  exact vF (kd:=.spare 0) hR q sn nx g ac (by rw[ae j,ac])
inductive fT (a:q_) (vs:δ) (H:Hp) (Q:VK) (E_3:XK):Prop
 | mk:∀(R:Rk) (e i m:Nat) (p:Addr) (ss:List V) (X:Nat->Nat->Option Int),vs=[.ref R.rk,.int i]->d_ a H R e ss X->e < 9000->i < R.P->R.ps[i]?=some p->R.kd i=.spare m->m+1 < R.S->(∀H',KB [R.dn,p] H H'->d_ a H' (R.kind i (.spare (m+1))) (e+1) ss X->Q .non H')->fT a vs H Q E_3
theorem mU (T:θ):x_ P wo K mg base 4 a.f84 ["self", "plank"] (fT a):=by
 refine T.x84.F.okA (k:=3) QY ι
 ·obtain⟨R,e,i,m,p,ss,X,rfl,hR,he,hi,G,hw,hm,q⟩:=h
  show 17
  show 0
  show 58
  show 109
  exists xc (ar (i:=2) QY.nd rfl 0e2 ιS)
  show 1;refine xi (bS (aX (aF iL rfl T.A26 μ6 (aa Ψ ΘL)))) ?_
  show 4
  show 3
  exists xc (aE (aW Ψ δP T.x66.me (l6 T) hr.u T.x66.b .nil aj))
  show 1;refine xi (am bx (ak Ψ rfl) ϟ υ) ?_
  exists xl (cA (cx T.A91 (cW T) hr.u rfl T.m_Plank T.x54.b .nil aj υC) ζT)
  show 3
  exists xl (aE (ao ο Γ T.x95.me (dS T) hr.u T.x95.b .nil aj (aa (bJ (aa dI (aa ω υC))) ab)))
  show 371;obtain⟨p',dp,l,ep,el,hp,hl⟩:=hR.at hi;rw[G] at ep
  cases FK ep;rw[hw] at hp
  have hp:H p=some (.ins γI dp (Kn l m)):=hp;refine #[_,rfl,R.rk,_,_,_,_,rfl,h1,Γ,γJ,aO R,_,rfl,R.sh,_,_,_,rfl,rfl,c_.of δd,aB (aJ G),?_];refine #[_,rfl,_,_,_,_,rfl,T.ty_SparePlank.of δP hp,T.ki_SparePlank_SparePlank,_,rfl,?_];show 29
  refine #[_,rfl,p,dp,_,rfl,hp,rfl,p,l,dp,m,rfl,hp,?_];rw[show ((m:Int)+1)=((m+1:Nat):Int) by omega]
  have g:=hR.kind (dp:=dp) (kd:=.spare (m+1)) G el
  have k2:KB [R.dn,p] H 88e1:=λb o n e=>by
   rw[ae (λz=>n (by rw[z];exact .tail _ δi))]
   exact e
  have D:88e1 p=some (.ins γI dp (Kn l ((m+1:Nat):Int))):=ac
  have g:d_ a τn (R.kind i ϑ3) e ss X:=g;generalize (upd H p (.ins a.C_SparePlank dp (Kn l ((m+1:Nat):Int))))=H2 at g k2 D;obtain⟨J,j⟩:=id ηr
  have j:H2 R.rk=some (.ins ό J (rf R)):=j;show 2
  refine #[_,rfl,p,_,_,_,_,rfl,D,δP,T.A59,rfl,_,rfl,R.rk,_,_,_,_,rfl,j,Γ,T.A51,gM R,rfl,_,rfl,?_];refine b_ (λhz=>absurd (V.int.inj (of_decide_eq_true hz)) γ) ν
  refine #[_,rfl,R.rk,J,_,rfl,j,rfl,_,rfl,_,rfl,p,_,_,_,_,rfl,D,δP,T.A59,rfl,(show 3<=sizeLine by decide),λtp U=>?_]
  have st:=a_.new (o:=.tup [V.str (Go "mark"),V.int (i:Int),V.int ((m+1:Nat):Int)]) U
  exact #[R.kind i ϑ3,e,ss,X,tp,rfl,g.same st,he,λH5 k5 O=>q H5 ((k2.same st).trans (k5.more λb hb=>by rw[Ge.mp hb];exact .head _)) O]
inductive eI (a:q_) (vs:δ) (H:Hp) (Q:VK) (E_3:XK):Prop
 | mk:∀(R:Rk) (e i j:Nat) (ss:List V) (X:Nat->Nat->Option Int),vs=[.ref R.rk,.int i,.int j]->d_ a H R e ss X->i < R.P->j < R.S->R.kd i=.whole->Q .non H->eI a vs H Q E_3
theorem kX (T:θ):x_ P wo K mg base 4 a.f85 ["self", "plank", "stripe"] (eI a):=by
 refine T.x85.F.okA (k:=3) kU ι
 ·obtain⟨R,e,i,j,ss,X,rfl,hR,hi,hj,hw,q⟩:=h
  show 168
  show 72
  show 0
  show 71
  show 7;refine xi (bS ΓU) ?_
  show 4
  show 3;refine μg;refine .inl #[_,rfl,R.rk,_,_,_,_,rfl,h1,Γ,γJ,aO R,_,rfl,R.sh,_,_,_,rfl,rfl,c_.of δd,aB γD,p,dp,_,rfl,hp,rfl,_,rfl,p,_,rfl,_,rfl,?_];show 167
inductive jL (a:q_) (vs:δ) (H:Hp) (Q:VK) (E_3:XK):Prop
 | mk:∀(R:Rk) (e i j:Nat) (ss:List V) (X:Nat->Nat->Option Int),vs=[.ref R.rk,.int i,.int j]->d_ a H R e ss X->i < R.P->j < R.S->R.kd i=.whole->(∀H',KB R.hs H H'->d_ a H' R e ss (HR X i j none)->Q .non H')->jL a vs H Q E_3
theorem ui (T:θ):x_ P wo K mg base 5 a.f81 ["self", "plank", "stripe"] (jL a):=by
 refine T.x81.F.okA (k:=4) uc ι
 ·obtain⟨R,e,i,j,ss,X,rfl,hR,hi,hj,hw,q⟩:=h
  show 168
  show 72
  show 0
  exists xc (aE (ao ο Γ T.x85.me (kX T) hr.u T.x85.b .nil aj ζc))
  exists xl (aE (PE.or (ao δf εI T.x58.me ιF hr.u ιD .nil aj ο8) (PE.or (ao δf ζI ϋK ιF hr.u ιD .nil aj ο8) (PE.or (ao δf θv T.x63.me (eY T) hr.u T.x63.b .nil aj ο8) (ao δf δP ϋn ιF hr.u ιD .nil aj ο8)))))
  refine #[_,rfl,R.rk,dx,_,rfl,h1,rfl,_,rfl,_,rfl,R,e,i,j,ss,X,rfl,hR,hi,hj,hw,?_];refine .inl #[_,rfl,R.rk,_,_,_,_,rfl,h1,Γ,γJ,aO R,_,rfl,R.sh,_,_,_,rfl,rfl,c_.of δd,aB γD,p,dp,_,rfl,hp,rfl,_,rfl,p,l,δN,dp,_,_,j,_,rfl,hp,εI,ιM,rfl,hl,by rw[oo];exact hj,?_]
  exact q _ (λb o n e=>by
   rw[ae (λz=>n (by rw[z];exact Gi el))]
   exact e) (hR.laid (j:=j) (o:=none) el)
inductive kM (a:q_) (vs:δ) (H:Hp) (Q:VK) (E_3:XK):Prop
 | mk:∀(R:Rk) (e i j:Nat) (ss:List V) (X:Nat->Nat->Option Int),vs=[.ref R.rk,.int i,.int j]->d_ a H R e ss X->i < R.P->j < R.S->Q (ov (X i j)) H->kM a vs H Q E_3
theorem vH (T:θ):x_ P wo K mg base 3 a.f82 ["self", "plank", "stripe"] (kM a):=by
 refine T.x82.F.okA (k:=2) vh ι
 ·obtain⟨R,e,i,j,ss,X,rfl,hR,hi,hj,q⟩:=h
  show 169
  show 0
  show 71
  exists xl ΓT
  refine μg;generalize R.kd i=kd at hp
  cases kd with
  | whole=>exact .inl ⟨_,rfl,R.rk,_,_,_,_,rfl,h1,Γ,γJ,aO R,_,rfl,R.sh,_,_,_,rfl,rfl,c_.of δd,aB γD,p,dp,_,rfl,hp,rfl,_,rfl,p,l,_,dp,_,_,j,_,rfl,hp,εI,ιM,rfl,hl,cP hj,q⟩
  | slow c=>exact .inr (.inl ⟨_,rfl,R.rk,_,_,_,_,rfl,h1,Γ,γJ,aO R,_,rfl,R.sh,_,_,_,rfl,rfl,c_.of δd,aB γD,p,dp,_,rfl,hp,rfl,_,rfl,p,l,_,dp,_,_,j,_,rfl,hp,ζI,T.A79,rfl,hl,cP hj,q⟩)
  | lost=>exact .inr (.inr (.inl ⟨_,rfl,R.rk,_,_,_,_,rfl,h1,Γ,γJ,aO R,_,rfl,R.sh,_,_,_,rfl,rfl,c_.of δd,aB γD,p,dp,_,rfl,hp,rfl,_,rfl,p,l,_,dp,_,_,j,_,rfl,hp,θv,T.Ab0,rfl,hl,cP hj,q⟩))
  | spare m=>exact .inr (.inr (.inr ⟨_,rfl,R.rk,_,_,_,_,rfl,h1,Γ,γJ,aO R,_,rfl,R.sh,_,_,_,rfl,rfl,c_.of δd,aB γD,p,dp,_,rfl,hp,rfl,_,rfl,p,l,_,dp,_,_,j,_,rfl,hp,δP,T.A78,rfl,hl,cP hj,q⟩))
inductive i3 (a:q_) (vs:δ) (H:Hp) (Q:VK) (E_3:XK):Prop
 | mk:∀(R:Rk) (e:Nat) (ss ds:List V) (X:Nat->Nat->Option Int),vs=[.ref R.rk]->d_ a H R e ss X->H R.dn=some (.lst ds)->(∀D,H D=none->Q (.ref D) (upd H D (.lst ds)))->i3 a vs H Q E_3
theorem jM (T:θ):x_ P wo K mg base 1 a.f83 ["self"] (i3 a):=by
 refine T.x83.F.okA (k:=0) qY ι
 ·obtain⟨R,e,ss,ds,X,rfl,hR,hd,q⟩:=h
  show 17
  show 0
  exists xl (aA (bu bK rfl T.A18 γf μ1))
  exact #[_,rfl,R.rk,_,_,_,_,rfl,h1,Γ,T.A72,rj R,R.dn,_,rfl,.inl (c_.of hd),λD nD=>q D nD]
theorem tD (h:οO):44e7[i]?=some 156e0:=by
 show 331
def L9 (d n st:Nat) (tp:Addr):List 12e2:=[("data",.int d),("planks",.int n),("stripes",.int st),("size",.int ((d * st:Nat):Int)),("turns",.ref tp)]
theorem o9 (d n st:Nat) (tp:Addr):(L9 d n st tp).lookup ("data" : Str)=some (.int d):=rfl
theorem j3 (d n st:Nat) (tp:Addr):(L9 d n st tp).lookup ("planks" : Str)=some 31e4:=rfl
theorem ow (d n st:Nat) (tp:Addr):(L9 d n st tp).lookup ("stripes" : Str)=some 16e9:=rfl
theorem vI (d n st:Nat) (tp:Addr):(L9 d n st tp).lookup ("size" : Str)=some (.int ((d * st:Nat):Int)):=rfl
theorem tE (d n st:Nat) (tp:Addr):(L9 d n st tp).lookup ("turns" : Str)=some (.ref tp):=rfl
def cq (n:Nat):List Int:=(r_ n).map λi:Nat=>(i:Int)
theorem zE (n:Nat):(cq n).length=n:=by unfold cq;rw[o_,Gf]
theorem EG (n:Nat):((r_ ((n:Int) - 0).toNat).map λi:Nat=>V.int (0+(i:Int)))=(cq n).map V.int:=by
 have e:((n:Int) - 0).toNat=n:=by omega
 unfold cq;rw[e,GB]
 apply KA
 intro i _
 show V.int (0+(i:Int))=V.int (i:Int)
 rw[N8]
theorem Da {ns:γq} (h:c_ K H p δB):h_ K H γR 171e1:=by
 rw[h_];exact #[p,_,rfl,h,uP _]
theorem O4 (ns:γq):Gh ϋL<=60:=by
 rw[Gh,xG]
 decide
inductive vJ (vs:δ) (H:Hp) (Q:VK) (E_3:XK):Prop
 | mk:∀d n st:Nat,vs=[.int d,.int n,.int st]->2<=n->n<=8->1<=d->d < n->n<=d+2->1<=st->st<=32->Q .non H->vJ vs H Q E_3
theorem qu (T:θ):x_ P wo K mg base 1 a.f69 ["data", "planks", "stripes"] vJ:=by
 refine T.x69.F.okA (k:=0) pZ ι
 ·obtain⟨d,n,st,rfl,h1,h2,h3,h4,h5,h6,h7,q⟩:=h
  show 0
  show 1;refine xi (PW.pt (aY (am bq ω (bg (v:=.int 2) rfl T.A89 ϊ) υ) (aS (am b7 ω (bg (v:=.int 8) rfl T.A88 ϊ) υ)))) ?_
  show 4
  show 44;refine xi (PW.pt (aY (am bq ο ai υ) (aY (am dP ο ω υ) (aS (am b7 (ay g7 ω ο) (bg (v:=.int 2) rfl T.Ad2 ϊ) υ))))) ?_
  show 4
  show 34;refine xi (PW.pt (aY ρE (aS (am b7 Ψ ΦS υ)))) ?_
  show 4
  show 3;show 18
  show 18
  show 18
  refine #[_,rfl,_,rfl,_,_,rfl,rfl,_,rfl,?_];show 171
  refine #[_,rfl,_,rfl,_,_,rfl,rfl,_,_,rfl,rfl,_,rfl,?_];show 171
  show 18
  show 18
  exact q
inductive yD (K:m_) (vs:δ) (H:Hp) (Q:VK) (E_3:XK):Prop
 | mk:∀(n m:Nat) (L:Addr) (ps:List Addr) (row:Nat->List Int),vs=[.int n,.ref L]->n<=8->1<=m->m<=16->H L=some (.lst (ps.map V.ref))->(A_ H ps m (λj=>(row j).map δp))->Ψl->(∀H',a_ H H'->Q .non H')->yD K vs H Q E_3
theorem rn (T:θ):x_ P wo K mg base 1 a.f70 ["planks", "turns"] (yD K):=by
 refine T.x70.F.okA (k:=0) QX ι
 ·obtain⟨n,m,L,ps,row,rfl,h8,h1,U,hL,j,g,q⟩:=h
  have el:(ps.map ϙ).length=m:=by rw[o_,j.len]
  show 0
  show 1;refine xi (PW.pt (aY (am bq ξu ai υ) (aS (am b7 ξu (bg (v:=.int 16) rfl T.Ad1 ϊ) υ)))) ?_
  show 4
  show 34;refine xf Ϙ rfl 23e6 (au (i:=2) QX.nd rfl ε) ?_;show 7;refine xi (am ηY (aF wM rfl T.A32 Mz γt) (bu (j8 rfl) rfl T.A18 γf (aa (bu uS rfl T.A06 γf θz) ab)) υ) ?_
  show 4
  show 20;show 377
  show 377
  refine #[_,rfl,L,rfl,ιa,let I_:Nat->L2.St->Hp->Prop:=λi σ H'=>L2.E1 λ(v2:Option V)=>L2.A2 (σ=[some ηe,some ηF,v2]) εi;cm (K:=K) (a:=L) (xs:=ps.map ϙ) I_ #[none,rfl,a_.refl _] ?_ ?_ ?_]
  ·rintro i σ H' _ ⟨v2,_,sm⟩
   exact c_.of (sm _ _ hL)
  ·rintro i v σ H' hv ⟨v2,rfl,sm⟩
   rw[FM] at hv
   cases hp:ps[i]? with
   | none=>rw[hp] at hv;cases hv
   | some p =>
    rw[hp] at hv
    cases hv
    have hi:i < m:=by rw[<- j.len];exact(Gr.mp hp).1
    have J:=sm _ _ (j.on i p hp)
    have R:(row i).length=n:=by rw[(g i hi).length_eq,zE]
    refine #[_,rfl,p,row i,rfl,c_.of J,by omega,λl G nl O hs=>?_]
    have e1:G=cq n:=uT O hs ωZ;refine #[_,rfl,n,rfl,λr nr=>#[r,0,n,rfl,ac,by decide,by decide,by omega,by omega,λl2 D=>?_]]
    subst e1;rw[EG]
    have sF:=((a_.new (o:=.lst ύA) nl).trans (a_.new (o:=.ext (gJ r 0 n)) nr)).trans (a_.new (o:=.lst ύA) D);refine #[_,_,Da (c_.of (((a_.new nr).trans (a_.new D)) _ _ ac)),Da (c_.of ac),rfl,rfl,ϊ,O4 _,_,rfl,?_]
    show if (!FU _ _)=true then _ else _
    rw[fi];exact IC #[_,rfl,sm.trans sF]
  ·rintro σ H' ⟨v2,rfl,sm⟩
   exact q _ sm
inductive oy (a:q_) (vs:δ) (H:Hp) (Q:VK) (E_3:XK):Prop
 | mk:∀(p dx L:Addr) (d n st m:Nat) (ps:List Addr) (row:Nat->List Int),vs=[.ref p,.int d,.int n,.int st,.ref L]->H p=some (.ins a.C_Shape dx [])->2<=n->n<=8->1<=d->d < n->n<=d+2->1<=st->st<=32->1<=m->m<=16->H L=some (.lst (ps.map V.ref))->(A_ H ps m (λj=>(row j).map δp))->Ψl->(∀tp qs H',(∀b o,b≠p->H b=some o->H' b=some o)->H' p=some ΨH->H' tp=some υT->A_ H' qs m (λj=>(row j).map δp)->(∀q∈qs,H q=none)->H tp=none->tp∉qs->Q .non H')->oy a vs H Q E_3
theorem uj (T:θ):x_ P wo K mg base 2 a.f71 ["self", "data", "planks", "stripes", "turns"] (oy a):=by
 refine T.x71.F.okA (k:=1) ub ι
 ·obtain⟨p,dx,L,d,n,st,m,ps,row,rfl,hp,h1,h2,h3,h4,h5,h6,h7,h8,h9,hL,D,Y,q⟩:=h
  show 0
  exists xc (aE (aH (qu T) hr.u rfl T.x69.m T.x69.k T.x69.b .nil aj ξp))
  exists xc (aE (aH (rn T) hr.u rfl T.x70.m T.x70.k T.x70.b .nil aj (aa Ψ ζL)))
  show 41
  show 67
  exists xc υM
  exists xc (aQ ο (ay cU ω ϐ) rfl)
  exists xl (aQ ο (bc (i_.of (cap:=[]) (own:=["turn"]) γc) rfl (aP γv) θP γ3 ΔA) rfl)
  refine #[_,rfl,_,rfl,_,rfl,d,n,st,rfl,h1,h2,h3,h4,h5,h6,h7,?_];refine #[_,rfl,_,rfl,n,m,L,ps,row,rfl,h2,h8,h9,hL,D,Y,λH1 s1=>?_];refine #[_,rfl,_,rfl,p,γC,dx,_,rfl,s1 _ _ hp,γs,T.A67,ζ,?_]
  refine #[_,rfl,_,rfl,p,γC,dx,_,rfl,ac,γs,T.A64,ηJ,?_]
  refine #[_,rfl,_,rfl,p,γC,dx,_,rfl,ac,γs,T.A90,ηK,?_]
  refine #[_,rfl,_,rfl,_,_,rfl,rfl,.inl εR,_,rfl,p,γC,dx,_,rfl,ac,γs,T.A80,μq,?_]
  show 9;rw[bb,bb,bb]
  have ef:FD "size" (.int ((d:Int) * (st:Int))) (FD "stripes" (.int (st:Int)) (FD "planks" 72e0 (FD "data" (.int (d:Int)) [])))=[Γ5,Γ4,Γ3,Γ2]:=by
   rw[Oa];rfl
  rw[ef]
  have aw:L≠p:=λz=>by rw[z,hp] at hL;cases hL
  have an:p∉ps:=λz=>by
   obtain⟨j,hj,e⟩:=LH z
   have:=D.on j p ύQ
   rw[hp] at this
   show 8
  have R:=(D.same s1).upd (o:=.ins γC dx [Γ5,Γ4,Γ3,Γ2]) an
  have O:61e6 L=some 59e4:=by rw[ae aw];exact s1 _ _ hL
  have J:61e6 p=some (.ins γC dx [Γ5,Γ4,Γ3,Γ2]):=ac
  have k2:∀b o,b≠p→H b=some o→61e6 b=some o:=λb o z e=>by rw[ae z];exact s1 _ _ e
  have U:∀b,61e6 b=none→H b=none:=λb e=>by
   have z:b≠p:=λz=>by rw[z,ac] at e;cases e
   show 172;exact s1.free e
  generalize upd H1 p _=H2 at R O J k2 U;refine #[_,rfl,L,rfl,#[_,c_.of O],λtp G=>?_]
  have el:(ps.map ϙ).length=m:=by rw[o_,D.len]
  refine pK (xs:=ps.map ϙ) (row:=λj=>(row j).map δp) (cs:=[]) (c_.of O) G rfl (by rw[el];exact FG h9 ζ) (λi x H3 R3 hx s3 hR=>?_) (λqs H3 s3 hD g hf hd=>?_)
  ·rw[FM] at hx
   cases hq:ps[i]? with
   | none=>rw[hq] at hx;cases hx
   | some q =>
    rw[hq] at hx
    cases hx;exact #[_,rfl,q,_,rfl,.inl (c_.of (s3 _ _ (R.on i q hq))),λl nl=>hR l _ nl (a_.new nl) ac]
  ·rw[el] at g
   refine #[_,rfl,p,γC,dx,_,rfl,s3 _ _ J,γs,T.A74,ξF,?_]
   have ad:p∉qs:=λz=>by have:=hf p z;rw[J] at this;show 8
   have Z:tp≠p:=λz=>by rw[z,J] at G;cases G
   refine q tp qs _ ώ5 ac ?_ (g.upd ad) (λq' z=>U q' (hf q' z)) (U tp G) hd
   ·rw[ae z]
    show 350
   ·rw[ae Z]
    exact hD
def cj (n:Nat) (sh:Int):List Int:=(r_ n).map λ(p:Nat)=>((p:Int)+sh) % (n:Int)
inductive qv (vs:δ) (H:Hp) (Q:VK) (E_3:XK):Prop
 | mk:∀(n:Nat) (sh:Int),vs=[.int n,.int sh]->2<=n->n<=8->(∀D H',H D=none->a_ H H'->H' D=some (.lst ((cj n sh).map V.int))->Q (.ref D) H')->qv vs H Q E_3
theorem vK (T:θ):x_ P wo K mg base 1 a.f67 ["planks", "shift"] qv:=by
 refine T.x67.F.okA (k:=0) vd ι
 ·obtain⟨n,sh,rfl,h2,h8,q⟩:=h
  show 153
  show 0
  exists xl (aA (bc Ξt rfl 158e4 δu γ3 (λ_ _ _ _ _=>by exact(ay aV (ay aU Ψ ω) ο))))
  refine τw
  have ej:((n:Int)).toNat=n:=G5 n;rw[ej];refine jg (n:=n) (f:=λj=>.int (((j:Int)+sh) % (n:Int))) (cs:=[some ηe,some (.int sh)]) nD rfl 100e7 ϊt (λH1 sm hD=>q D H1 nD sm ?_)
  ·exact #[_,rfl,_,rfl,_,_,rfl,rfl,_,rfl,_,_,rfl,rfl,p0 hp,hR _ ϡ]
  ·rw[hD]
   unfold cj;rw[GB];rfl
inductive oz (vs:δ) (H:Hp) (Q:VK) (E_3:XK):Prop
 | mk:∀(n:Nat) (st:Int),vs=[.int n,.int st]->2<=n->n<=8->st.natAbs < 1267650600228229401496703205376->(∀D ps H',H D=none->a_ H H'->H' D=some (.lst (ps.map V.ref))->A_ H' ps n (λj=>(cj n μR).map δp)->(∀p∈ps,H p=none)->D∉ps->Q γ0 H')->oz vs H Q E_3
theorem uk (T:θ):x_ P wo K mg base 2 a.f68 ["planks", "step"] oz:=by
 refine T.x68.F.okA (k:=1) ua ι
 ·obtain⟨n,st,rfl,h2,h8,G,q⟩:=h
  show 0
  show 366
  show 4
  show 3
  exists xl (aA (bc (i_.of (cap:=[0,1]) (own:=["at"]) γc) rfl 158e4 δu γ3 (λ_ _ _ _ _=>by exact(aH (vK T) hr.u rfl T.x67.m T.x67.k T.x67.b .nil aj (aa ο (aa (ay cU ω Ψ) ab))))))
  show 18
  show 18
  refine τw
  rw[show ((n:Int)).toNat=n from G5 n];refine pJ (n:=n) (row:=λj=>(cj n μR).map δp) (cs:=[some ηe,some δT]) nD rfl 100e7 ϊt (λps H1 sm hD g hf hd=>q D ps H1 nD sm hD g hf hd)
  refine #[_,rfl,_,rfl,_,rfl,_,_,rfl,rfl,.inr εR,n,_,rfl,h2,h8,λD2 H2 n2 s2 e2=>hR D2 H2 n2 s2 e2]
theorem i4 (h:εp) (k:Int):(cj n k).Perm (cq n):=by
 show 153
 have j:(cj n k).Nodup:=by
  unfold cj;refine ON _ (λx y (hxy:x < y/\y < n)=>?_) (Um (λ{x y} hx hy h=>#[h,GG.mp hy]) (OE (n:=n)));intro e
  have e1:ϊf % (n:Int)=0:=by rw[Int.sub_emod,e,Int.sub_self,Int.zero_emod]
  have e2:(n:Int) ∣ ((x:Int)+k) - ((y:Int)+k):=Int.dvd_of_emod_eq_zero e1
  have e3:(n:Int) ∣ (y:Int) - (x:Int):=by
   have:(y:Int) - (x:Int) = -161e7:=by omega
   show 19;exact Int.dvd_neg.mpr e2
  have:=Int.le_of_dvd γ e3
  omega
 have s:(cq n).Nodup:=by
  unfold cq;exact ON _ (λx y (hxy:x < y) e=>by omega) OE
 refine(Rg j s).mpr λz=>?_;unfold cj cq;rw[G6,G6]
 constructor
 ·rintro⟨p,_,rfl⟩
  obtain⟨y,hy,ey⟩:=Jp ((p:Int)+k) h;exact #[y,GG.mpr hy,ey.symm]
 ·rintro⟨p,g,rfl⟩
  obtain⟨y,hy,ey⟩:=Jp ((p:Int) - k) h;refine #[y,GG.mpr hy,?_]
  have:=GG.mp g;rw[<- ey,Int.emod_add_emod,Int.sub_add_cancel,Int.emod_eq_of_lt γ γ]
structure FY (a:q_) (H:Hp) (p:Addr) (d n st:Nat) (tp:Addr) (qs:Φ) (m:Nat) (row:δC):Prop where
 sh:∃dx,H p=some ΨH
 tl:H tp=some υT
 rows:A_ H qs m (λj=>rowV (row j))
 m0:0 < m
 len:∀j,j < m->(row j).length=n
inductive dN (a:q_) (vs:δ) (H:Hp) (Q:VK) (E_3:XK):Prop
 | mk:∀(p tp:Addr) (d n st m:Nat) (qs:List Addr) (row:Nat->List Nat) (i:Nat),vs=[.ref p,.int i]->FY a H p d n st tp qs m row->i < st->Q .non H->dN a vs H Q E_3
theorem jN (T:θ):x_ P wo K mg base 1 a.f75 ["self", "stripe"] (dN a):=by
 refine T.x75.F.okA (k:=0) jJ ι
 ·obtain⟨p,tp,d,n,st,m,qs,row,i,rfl,hS,hi,q⟩:=h
  show 110
  show 0
  show 69
  show 4
  show 57
  refine #[_,rfl,_,rfl,p,_,_,_,_,rfl,hp,γs,T.A90,ow d n st tp,_,_,rfl,rfl,_,rfl,?_];show 70
inductive fU (a:q_) (vs:δ) (H:Hp) (Q:VK) (E_3:XK):Prop
 | mk:∀(p tp:Addr) (d n st m:Nat) (qs:List Addr) (row:Nat->List Nat) (i:Nat),vs=[.ref p,.int i]->FY a H p d n st tp qs m row->0 < d->d<=8->i < d * st->(∀t,H t=none->Q (.ref t) (upd H t (.tup [.int ((i / d:Nat):Int),.int ((i % d:Nat):Int)])))->fU a vs H Q E_3
theorem mV (T:θ):x_ P wo K mg base 1 a.f72 ["self", "at"] (fU a):=by
 refine T.x72.F.okA (k:=0) mH ι
 ·obtain⟨p,tp,d,n,st,m,qs,row,i,rfl,hS,d0,d8,hi,q⟩:=h
  show 110
  show 0
  show 378
  show 4
  show 3
  exists xl (aA (bJ (aa (ay bN ω ϟ) (aa (ay aV ω ϟ) ab))))
  show 22
  refine #[_,rfl,_,rfl,p,_,_,_,_,rfl,hp,γs,T.A80,vI d n st tp,_,_,rfl,rfl,_,rfl,?_];show 173
  rw[Rr,Qc] at q;exact #[_,rfl,_,rfl,p,_,_,_,_,rfl,hp,γs,T.A67,o9 d n st tp,_,_,rfl,rfl,εR,_,rfl,_,rfl,p,_,_,_,_,rfl,hp,γs,T.A67,o9 d n st tp,_,_,rfl,rfl,p0 γ,(show 2<=sizeLine by decide),λt nt=>q t nt]
inductive fV (a:q_) (vs:δ) (H:Hp) (Q:VK) (E_3:XK):Prop
 | mk:∀(p tp:Addr) (d n st m:Nat) (qs:List Addr) (row:Nat->List Nat) (i:Nat),vs=[.ref p,.int i]->FY a H p d n st tp qs m row->i < st->(∀D,H D=none->Q (.ref D) (upd H D (.lst (rowV (row (i % m))))))->fV a vs H Q E_3
theorem gC (T:θ):x_ P wo K mg base 2 a.f74 ["self", "stripe"] (fV a):=by
 refine T.x74.F.okA (k:=1) mI ι
 ·obtain⟨p,tp,d,n,st,m,qs,row,i,rfl,hS,hi,q⟩:=h
  show 110
  show 0
  exists xc (aE (ao ο γs T.x75.me (jN T) hr.u T.x75.b .nil aj γ8))
  exists xl (aA (bu bK rfl T.A18 γf (aa (aD ax ϟ (ay aV ω (aF aG rfl T.A03 G0 μ1)) γ6) ab)))
  refine #[_,rfl,p,dp,_,rfl,hp,rfl,_,rfl,p,tp,d,n,st,m,qs,row,i,rfl,hS,hi,?_]
  have el:(qs.map ϙ).length=m:=by rw[o_,hS.rows.len]
  have m0:=hS.m0
  have g:(0:Int) < (((qs.map ϙ).length:Nat):Int):=by rw[el];omega
  have ei:(i:Int) % (((qs.map ϙ).length:Nat):Int)=((i % m:Nat):Int):=by rw[el,Qc]
  obtain⟨r,e1,e2,_⟩:=hS.rows.get (j:=i % m) (KP _ m0);refine #[_,rfl,p,_,_,_,_,rfl,hp,γs,T.A74,tE d n st tp,_,rfl,_,rfl,p,_,_,_,_,rfl,hp,γs,T.A74,tE d n st tp,tp,_,rfl,.inl (c_.of hS.tl),_,_,rfl,rfl,p0 g,tp,_,_,_,rfl,rfl,c_.of hS.tl,?_,r,_,rfl,.inl (c_.of e2),λD nD=>q D nD];rw[ei];exact aB (by rw[FM,e1];rfl)
inductive fW (a:q_) (vs:δ) (H:Hp) (Q:VK) (E_3:XK):Prop
 | mk:∀(p tp:Addr) (d n st m:Nat) (qs:List Addr) (row:Nat->List Nat) (i j:Nat),vs=[.ref p,.int i,.int j]->FY a H p d n st tp qs m row->i < st->j < n->(∀H',a_ H H'->Q (.int (((row (i % m)).getD j 0:Nat):Int)) H')->fW a vs H Q E_3
theorem mW (T:θ):x_ P wo K mg base 3 a.f73 ["self", "stripe", "role"] (fW a):=by
 refine T.x73.F.okA (k:=2) Q5 ι
 ·obtain⟨p,tp,d,n,st,m,qs,row,i,j,rfl,hS,hi,hj,q⟩:=h
  show 110
  show 0
  exists xc (ar (i:=3) Q5.nd rfl 0e2 (ao ο γs T.x74.me (gC T) hr.u T.x74.b .nil aj γ8))
  show 379
  show 4
  show 3
  exists xl (aA (aD ax ϐ Ψ γ6))
  refine #[_,rfl,p,dp,_,rfl,hp,rfl,_,rfl,p,tp,d,n,st,m,qs,row,i,rfl,hS,hi,λD nD=>?_]
  have g:=a_.new (o:=.lst (rowV (row (i % m)))) nD _ _ hp;show 18
  refine #[_,rfl,_,rfl,p,_,_,_,_,rfl,g,γs,T.A64,j3 d n st tp,_,_,rfl,rfl,_,rfl,?_];show 171
  exact #[_,rfl,_,rfl,D,_,_,_,rfl,rfl,c_.of ac,aB (tD (by rw[hS.len _ (KP _ hS.m0)];exact hj)),q _ πi]
def fx (r w M N:Nat) (l:ϕ) (ks:δG) (k:Nat):Bool:=ks.getD k τ || KU r w M N l ks k
theorem EH {k:Nat} (h:ϑK):ks[k]?=some 102e3:=by
 show 84
inductive yE (K:m_) (a:q_) (vs:δ) (H:Hp) (Q:VK) (E_3:XK):Prop
 | mk:∀(c bp fp kn:Addr) (r w n M N k:Nat) (l:Nat->Nat->Nat) (ks:List Bool),vs=[.ref c,.ref kn,.int k]->Fz a H c bp fp r w n M N l->GF.Gg r w->IP w M N l->H kn=some (.lst (HG ks))->ks.length=N+M->k < N+M->(∀H',a_ H H'->Q (.bl (fx r w M N l ks k)) H')->yE K a vs H Q E_3
theorem kN (T:θ):x_ P wo K mg base 8 a.f25 ["self", "known", "role"] (yE K a):=by
 refine T.x25.F.okA (k:=7) tZ ι
 ·obtain⟨c,bp,fp,kn,r,w,n,M,N,k,l,ks,rfl,hC,g,W,J,j,hk,q⟩:=h
  show 108
  show 0
  exists xc Θ1
  exists xl (aA (CV μm (gZ (bT bx (aD cI (ao ο ϖ T.x23.me (l3 T) hr.u T.x23.b .nil aj ζc) ai γ6) dI υ))))
  refine Θe
  have hb:=EH (ks:=ks) (k:=k) γ
  have O:(HG ks)[k]?=some (.bl χF):=by unfold HG;rw[FM,hb];rfl
  refine #[_,rfl,_,rfl,kn,_,_,_,rfl,rfl,c_.of J,aB O,_,rfl,?_];unfold fx at q
  cases hz:ks.getD k false with
  | true =>
   show 74;show 55;exact q H ϡ
  | false =>
   rw[hz] at q hb;show 29
   refine⟨_,rfl,c,dx,_,rfl,h1,rfl,_,rfl,_,rfl,c,bp,fp,kn,r,w,n,M,N,k,l,ks,rfl,hC,g,W,J,j,hk,hb,λD H1 s1 nD told fr=>?_⟩;rcases told with ⟨e,R,hD,he,G⟩ | ⟨e,mk,hD,he,G⟩
   ·refine Φz
    show 6
    show 380
    have:=q H1 s1;rw[sV g W j hk hz G] at this;show 11
   ·refine Φz
    show 6
    rw[decide_eq_false (λz=>absurd (V.str.inj z) ζ)]
    have:=q H1 s1;rw[sX g W j hk hz G] at this;show 11
inductive qw (K:m_) (a:q_) (vs:δ) (H:Hp) (Q:VK) (E_3:XK):Prop
 | mk:∀(c bp fp kn so:Addr) (r w n M N:Nat) (l:Nat->Nat->Nat) (ks:List Bool) (rs:List Nat),vs=[.ref c,.ref kn,.ref so]->Fz a H c bp fp r w n M N l->GF.Gg r w->IP w M N l->H kn=some (.lst (HG ks))->ks.length=N+M->c_ K H so (rowV rs)->((∀k∈rs,k < N+M))->(∀H',a_ H H'->Q (.bl (rs.all (fx r w M N l ks))) H')->qw K a vs H Q E_3
theorem iD (T:θ):x_ P wo K mg base 9 a.f30 ["code", "known", "some"] (qw K a):=by
 refine T.x30.F.okA (k:=8) QS ι
 ·obtain⟨c,bp,fp,kn,so,r,w,n,M,N,l,ks,rs,rfl,hC,g,W,J,O,D,R,q⟩:=h
  show 0
  show 1;refine xf Ϙ rfl 44e4 (au (i:=3) QS.nd rfl ε) ?_;show 7;refine xi (bS (aX (ao ο ϖ T.x25.me (kN T) hr.u T.x25.b .nil aj (aa ω θy)))) ?_
  show 23
  show 20
  show 23
  refine #[_,rfl,so,rfl,#[_,D],?_];refine let I_:Nat->L2.St->Hp->Prop:=λi σ H'=>L2.A3 ((∃v3:Option V,σ=[some γw,some ωy,some θc,v3])) εi ((rs.take i).all χG=true);cm (xs:=rowV rs) I_ #[ζO,a_.refl _,rfl] ?_ ?_ ?_
  ·rintro i σ H' _ ⟨_,sm,_⟩
   exact sm.seq D
  ·rintro i x σ H' hx ⟨⟨v3,rfl⟩,sm,j⟩
   show 174
   have hk:=R k ζ5
   have G:=hC.same sm;obtain⟨dx,Lp,qs,h1,_,_⟩:=id G.ins;refine #[_,rfl,c,dx,_,rfl,h1,rfl,_,rfl,_,rfl,c,bp,fp,kn,r,w,n,M,N,k,l,ks,rfl,G,g,W,sm _ _ J,O,hk,λH2 s2=>?_];show 26
   cases hz:fx r w M N l ks k with
   | true =>
    refine b_ γx (λ_=>#[ϊ,sm.trans s2,?_])
    rw[L5,ek,List.all_append,j]
    show (true && ([k].all χG))=true
    rw[P7,hz];rfl
   | false =>
    show 55
    have:rs.all χG=false:=by
     rw[Bool.eq_false_iff];intro z
     have:=IM.mp z k ζ5;rw[hz] at this
     show 8
    rw[this] at q;exact q H2 οU
  ·rintro σ H' ⟨⟨v3,rfl⟩,sm,j⟩
   rw[az,MC] at j;rw[j] at q;exact q H' sm
def af (c f cl rl sl:Addr):List 12e2:=[("code",.ref c),("ask",.ref f),("costs",.ref cl),("row",.ref rl),("asked",.ref sl)]
theorem cL (c f cl rl sl:Addr):(af c f cl rl sl).lookup ("code" : Str)=some 8e4:=rfl
theorem EI (c f cl rl sl:Addr):(af c f cl rl sl).lookup ("ask" : Str)=some 6e5:=rfl
theorem dj (c f cl rl sl:Addr):(af c f cl rl sl).lookup ("costs" : Str)=some (.ref cl):=rfl
theorem iE (c f cl rl sl:Addr):(af c f cl rl sl).lookup ("row" : Str)=some 77e5:=rfl
theorem d5 (c f cl rl sl:Addr):(af c f cl rl sl).lookup ("asked" : Str)=some (.ref sl):=rfl
inductive tF (K:m_) (a:q_) (vs:δ) (H:Hp) (Q:VK) (E_3:XK):Prop
 | mk:∀(x dx c bp fp f cl0:Addr) (r w n M N:Nat) (l:Nat->Nat->Nat) (cs:List (Option Nat)),vs=[.ref x,.ref c,.ref f,.ref cl0]->H x=some (.ins a.C_Asking dx [])->Fz a H c bp fp r w n M N l->IP w M N l->c_ K H cl0 (Ft cs)->cs.length<=8->(∀H' cl rl sl,(∀b o,b≠x->H b=some o->H' b=some o)->H' x=some (.ins a.C_Asking dx (af c f cl rl sl))->H cl=none->H rl=none->H sl=none->cl≠rl->cl≠sl->rl≠sl->H' cl=some (.lst (Ft cs))->H' rl=some (.lst (Ft (FL (N+M) none)))->H' sl=some (.lst (rowV []))->Q .non H')->tF K a vs H Q E_3
theorem rp (T:θ):x_ P wo K mg base 1 a.f31 ["self", "code", "ask", "costs"] (tF K a):=by
 refine T.x31.F.okA (k:=0) qS ι
 ·obtain⟨x,dx,c,bp,fp,f,a1,r,w,n,M,N,l,cs,rfl,hx,hC,W,a2,a8,q⟩:=h
  obtain⟨dc,Lp,qs,h1,_,_⟩:=id δc
  show 68
  have O:c≠x:=λz=>by
   rw[z,hx] at h1
   have:=(HO.ins.inj (FK h1)).2.2;unfold cf at this
   show 8
  show 0
  show 41
  show 67
  exists xc (aQ ο Ξs rfl)
  exists xc (aQ ο (ay dJ νZ νP) rfl)
  exists xl ϋm
  refine #[_,rfl,_,rfl,x,γ1,dx,_,rfl,hx,ϋ,ζj,ζ,?_]
  refine #[_,rfl,_,rfl,x,γ1,dx,_,rfl,ac,ϋ,T.A93,ηJ,?_]
  show 9;rw[bb]
  have a5:FD "ask" 6e5 (FD "code" 8e4 [])=[ΓG,ΓI]:=rfl
  rw[a5]
  have fr:∀{fs:οJ}{b:Addr},(upd H x (.ins γ1 dx fs)) b=none->H b=none:=λ{fs b} z=>by
   by_cases e:b=x
   ·rw[e,ac] at z;cases z
   ·rwa [ae e] at z
  have a3:c_ K ΔR a1 (Ft cs):=by
   rcases a2 with (z | ⟨o,z⟩) | z
   ·exact .inl (.inl (by rw[ae ΩJ];exact z))
   ·exact .inl (.inr #[o,by rw[ae ΩJ];exact z])
   ·show 102
  refine #[_,rfl,a1,_,rfl,.inl a3,λcl Z=>?_]
  have D:=fr Z
  have g:x≠cl:=λz=>by rw[<- z,ac] at Z;cases Z
  refine #[_,rfl,x,γ1,dx,_,rfl,(by rw[ae g];exact ac),ϋ,ζG,ηK,?_]
  refine #[(show 1<=sizeLine by decide),λp1 n1=>?_]
  have G:x≠p1:=λz=>by rw[<- z,ac] at n1;cases n1
  have U:p1≠cl:=λz=>by rw[z,ae θk,ac] at n1;cases n1
  have a4:(upd (upd (upd ΔR cl ψj) x (.ins γ1 dx (FD "costs" (.ref cl) [ΓG,ΓI]))) p1 οQ) c=some (.ins γb dc ϐZ):=by
   have n2:c≠p1:=λz=>by
    rw[<- z,ae O,ae (λy=>by rw[y,D] at h1;cases h1),ae O,h1] at n1
    cases n1
   rw[ae n2,ae O,ae (λy=>by rw[y,D] at h1;cases h1),ae O]
   exact h1
  refine #[_,rfl,c,_,_,_,_,rfl,a4,ϖ,ηp,dZ bp M N Lp,p1,_,_,rfl,rfl,ac,by omega,by omega,?_,λrl nrl=>?_]
  ·rw[G5]
   show 352
   show 353
  have j:x≠rl:=λz=>by rw[<- z,ae G,ac] at nrl;cases nrl
  have a0:rl≠p1:=λz=>by rw[z,ac] at nrl;cases nrl
  have Y:rl≠cl:=λz=>by rw[z,ae (F5 U),ae θk,ac] at nrl;cases nrl
  have aT:H rl=none:=by
   rw[ae a0,ae νB,ae Y,ae νB] at nrl;exact nrl
  refine #[_,rfl,x,γ1,dx,_,rfl,(by rw[ae j,ae G];exact ac),ϋ,ηs,μq,?_]
  refine #[GO _,λsl nsl=>?_]
  have J:x≠sl:=λz=>by rw[<- z,ac] at nsl;cases nsl
  have an:sl≠rl:=λz=>by rw[z,ae νB,ac] at nsl;cases nsl
  have a7:sl≠p1:=λz=>by rw[z,ae (F5 G),ae (F5 a0),ac] at nsl;cases nsl
  have aw:sl≠cl:=λz=>by rw[z,ae θk,ae (F5 Y),ae (F5 U),ae θk,ac] at nsl;cases nsl
  have ad:H sl=none:=by
   rw[ae (F5 J),ae an,ae a7,ae (F5 J),ae aw,ae (F5 J)] at nsl;exact nsl
  have a6:H p1=none:=by
   rw[ae (F5 G),ae U,ae (F5 G)] at n1;exact n1
  refine #[_,rfl,x,γ1,dx,_,rfl,(by rw[ae J];exact ac),ϋ,ηt,ξF,?_]
  refine q _ cl rl sl (λb o hb hz=>?_) ac D aT ad (F5 Y) (F5 aw) (F5 an) ?_ ?_ ?_
  ·have f1:∀y,H y=none->b≠y:=λy ny e=>by rw[e,ny] at hz;cases hz
   rw[ae hb,ae (f1 sl ad),ae hb,ae (f1 rl aT),ae (f1 p1 a6),ae hb,ae (f1 cl D),ae hb];exact hz
  ·rw[ae θk,ae (F5 aw),ae θk,ae (F5 Y),ae (F5 U),ae θk,ac]
  ·rw[ae νB,ae (F5 an),ae νB,ac]
   have:(FL (((N+M:Nat):Int)).toNat [γQ]).flatten=Ft (FL (N+M) none):=by
    rw[G5];unfold Ft;rw[SU];generalize N+M=R
    induction R with
    | zero=>rfl
    | succ R ih=>rw[JZ,LL,ih];rfl
   show 19
  ·rw[ae (F5 J),ac]
   rfl
theorem PB {w:Ϣ}{x qual:Str}{st:Stmt}{f:Addr}{N ps:ώ}{k:Nat}{sp:Sp}{oc:μ}{od an:γG}{osl:εT}{kV doc pm cdv ct:μ} (lk:Δp) (hcd:οz) (S:η4) (len:θT)
  (hbody:∀(A:Ϟ) (outer:γ4) (s:ξ) (H:Hp) (vs:δ) (Q:VK) (E:XK),Fv k μi->sp vs H Q E →
   ∃t,ND (Hu HV P w K mg base N qual δg f cdv A Δ s H E).nox δq t/\t Δ2 δE H):F7 P w K mg base HV (k+1) f ρB ps sp:=by
 refine #[len,λA outer s H R us vs Q E hr e0 hb r j=>?_]
 have hl:=len _ _ _ _ j
 have KX:K.In s.heap:=e0.mod.kin.keeps λb o e=>(e0.bs b o e).1
 have G:s.heap.NoLimit:=e0.mod.nolimit.keeps λb o e=>(e0.bs b o e).1
 have h:∀y∈ps.zip us,(ah st).names.lookup y.1=some .local\/((ah st).names.lookup y.1=some .cell/\((cellsFrom Ϛ (ah st).names []).lookup y.1).isSome=true):=λ⟨n,v⟩ hy=>by
  rcases S.par n (N6 hy).1 with q | q
  ·show 76
  ·exact .inr ϊy
 refine SO πT (KX _ _ lk) rfl S.co S.gen rfl (UJ KX hcd) ϐ5;refine SD εD h λenv he s1 y=>?_;subst he;refine #[G.keeps y.toInCall.keep,codeAny_func ?_];obtain⟨t,ht,hq⟩:=hbody A Δ s H vs Q E ϑl j
 have I:Inv (Hu HV P w K mg base N qual δg f cdv A Δ s H E) [] δE H s1:=rL S hr.hd e0 hl r y;refine IT (ht [] s1 δE H _ (I.wish _) hq) ύa λe s' hs=>False.elim hs;obtain⟨v,σ',H',u,rfl,J0,rv,cvs,O,hQ⟩:=hs
 have J:=J0.unwish
 have B:Un δl [] H H' ύ s'.heap:=J.base
 have cell:∀c v,cvs.lookup c=some v->H' c=none/\s.heap.objs.size<=c/\∃u,k_ v u/\s'.heap.IsCell c 15e8:=λc v e=>by
  obtain⟨i,y,h1,h2,h3,h4⟩:=O c v e;obtain⟨m,hn,hl⟩:=J.loc;obtain⟨u,ru,l⟩:=hl i y v h1 h2 (.inr (.inl h4));refine⟨J.freeC y c h3,J.ok.cab y c rfl h3,u,ru,?_⟩;rcases l with ⟨l,_⟩ | ⟨_,c',e',z⟩
  ·have l:(ah st).names.lookup y=some .local:=l
   rw[h4] at l
   cases l
  ·have e':(cellsFrom Ϛ (ah st).names []).lookup y=some c':=e'
   rw[h3] at e'
   cases e';exact z
 have D:∀b o,s.heap.get? b=some o->cvs.lookup b=none:=λb o e=>by
  cases z:cvs.lookup b with
  | none=>rfl
  | some v=>exact absurd εG (OL.mpr (cell b v z).2.1)
 have g:∀b x,H' b=some x->cvs.lookup b=none:=λb x e=>by
  cases z:cvs.lookup b with
  | none=>rfl
  | some v=>rw[(cell b v z).1] at e;cases e
 refine #[v,Kc cvs H',J.os,J.bare,#[B.keep,B.slot,λb o e n hx=>(bO ωj).trans (B.free b o e n hx),B.there,λb xs e=>?_,λb o x e=>?_,λb ps e=>?_],xL J.hok ϊd (λc v e=>(cell c v e).2.2),rv,hQ λc v e=>#[(cell c v e).1,e0.hok.fresh (cell c v e).2.1]]
 ·have z:=B.tups b xs e
  exact(bO ωA).trans z
 ·have z:=B.frzs b o x e
  exact(bO ωA).trans z
 ·obtain⟨more,z⟩:=B.tbls b ps e
  exact #[more,(bO ωA).trans z]
variable {t:Addr}
theorem Bn {w:Ϣ}{x qual:Str}{st:Stmt}{f c:Addr}{fd:γp}{N ps:ώ}{k:Nat}{sp:Sp} (F:ο1) (S:η4) (len:θT)
  (hbody:∀(A:Ϟ) (outer:γ4) (s:ξ) (H:Hp) (vs:δ) (Q:VK) (E:XK),Fv k τh->sp vs H Q E →
   ∃t,ND (Hu HV P w K mg base N qual δg f γw A Δ s H E).nox δq t/\t Δ2 δE H):F7 P w K mg base HV (k+1) f fd ps sp:=by
 obtain⟨oc,od,kV,h,pm,an,ct,osl,rfl,lk,g⟩:=F.ex;exact PB lk g S len hbody
def Fy (H:Hp) (t:Addr) (p:Pos) (q:Str):Prop:=∃ps,H t=some εb/\(ps = #[]\/∃c',ps = [rawInt p.line,rawInt p.col,.ref c'].toArray/\H c'=some ρq)
variable {q:Str}
theorem Fy.keep {p:Pos} (h:ζv) (k:γN):Fy H' t p q:=by
 show 35;refine⟨ps,k _ _ h1,?_⟩;rcases h2 with h2 | ⟨c',e,h2⟩
 ·show 36
 ·exact .inr #[c',e,k _ _ h2]
theorem vL {P:Addr}{pos:Pos}{mk:μl}{σ:θp}{Q:VK} (ht:Fy H P pos q)
  (h:∀(H1:Hp) (c' fa:Addr) (doc pm ctv:μ),(∀b o,b≠P->H b=some o->H1 b=some o)->Fy H1 P pos q->H fa=none->H1 fa=some ΨQ->H1 c'=some ρq->(∀b,H1 b=none->H b=none)->Q ζK H1):Le P pos q mk σ H Q:=by
 obtain⟨ps,hP,h2⟩:=ht;rcases h2 with rfl | ⟨c0,rfl,g⟩
 ·refine #[#[],hP,ρ6,.inl #[rfl,λc' fa doc pm ctv n1 n2 ne=>h _ c' fa doc pm ctv (λb o hb e=>?_) #[_,?_,.inr #[c',rfl,?_]] n2 ac ?_ λb e=>?_]]
  ·rw[ae (aq e n2),ae (aq e n1),ae hb];exact e
  ·rw[ae (aq hP n2),ae (aq hP n1)];exact ac
  ·rw[ae ne.symm];exact ac
  ·rw[ae ne.symm];exact ac
  ·by_cases z1:b=fa
   ·rw[z1];exact n2
   rw[ae z1] at e
   by_cases z2:b=c'
   ·rw[z2];exact n1
   rw[ae z2] at e
   by_cases z3:b=P
   ·rw[z3,ac] at e;cases e
   rwa [ae z3] at e
 ·refine #[_,hP,⟨⟩,.inr #[c0,?_,g,λfa doc pm ctv n=>h _ c0 fa doc pm ctv (λb o _ e=>?_) #[_,?_,.inr #[c0,rfl,?_]] n ac ?_ λb e=>?_]]
  ·show codeAmong pos [rawInt θd,rawInt pos.col,.ref c0]=some (.ref c0)
   simp[codeAmong,rawInt]
  ·rw[ae (aq e n)];exact e
  ·rw[ae (aq hP n)];exact hP
  ·rw[ae (aq g n)];exact g
  ·rw[ae (aq g n)];exact g
  ·by_cases z1:b=fa
   ·rw[z1];exact n
   rwa [ae z1] at e
def K4:Arguments × Expr × Scope:=match (aZ iy).getD 3 (.Pass ⟨0,0,0,0⟩) with
 | .Return (some (.Call _ (_ :: .Lambda p b sc _ :: _) _ _)) _=>(p,b,sc)
 | _=>default
def Lv:Pos:=#[215,33,215,76]
def qR:Str:="Row.asking" ++ Go ".<locals>." ++ Go "<lambda>"
def Op (c1 c2 c3:Addr):List 117e7:=[("stripe",c3),("rack",c1),("order",c2)]
structure IR (H:Hp) (f rk ol:Addr) (st:Nat):Prop where
 ex:∃(c' c1 c2 c3:Addr) (pm ctv:μ),H f=some (Hs f (Kg νO qR K4.1 K4.2.1 K4.2.2 ϑO pm ιT ctv))∧H c'=some (dQ qR c')∧H c1=some (Ia c1 (.ref rk))∧H c2=some (Ia c2 ζM)∧H c3=some (Ia c3 δT)∧c1≠c2∧c1≠c3∧c2≠c3
variable {st:Nat}
theorem IR.same {f rk ol:Addr} (h:IR H f rk ol st) (s:γN):IR H' f rk ol st:=by
 obtain⟨c',c1,c2,c3,pm,g,h1,h2,h3,h4,h5,h6⟩:=h.ex;exact #[c',c1,c2,c3,pm,g,s _ _ h1,s _ _ h2,s _ _ h3,s _ _ h4,s _ _ h5,h6]
def Iy (c1 c2 c3:Addr) (v1 v2 v3:V):List (Addr × V):=[(c1,v1),(c2,v2),(c3,v3)]
variable {c1 c2 c3:Addr}{v1 v2 v3:V}
theorem vM {c:Addr} (e:(Iy c1 c2 c3 v1 v2 v3).lookup c=some v):(c=c1/\v=v1)\/(c=c2/\v=v2)\/(c=c3/\v=v3):=by
 unfold Iy at e;show 40
 split at e
 ·cases e;rename_i h;exact .inl Γk
 show 40
 split at e
 ·cases e;rename_i h;exact .inr ϊ2
 show 40
 split at e
 ·cases e;rename_i h;exact .inr ϊ3
 ·cases e
theorem zF:(Iy c1 c2 c3 v1 v2 v3).lookup c1=some v1:=by unfold Iy;rw[Ii];simp
theorem zG (h:c1≠c2):(Iy c1 c2 c3 v1 v2 v3).lookup c2=some v2:=by
 unfold Iy;rw[Ii,beq_eq_false_iff_ne.mpr h.symm,Ii];simp
theorem zH (h:c1≠c3) (h2:c2≠c3):(Iy c1 c2 c3 v1 v2 v3).lookup c3=some v3:=by
 unfold Iy;rw[Ii,beq_eq_false_iff_ne.mpr h.symm,Ii,beq_eq_false_iff_ne.mpr h2.symm,Ii];simp
theorem vN {c:Addr}{x:Str} (e:(Op c1 c2 c3).lookup x=some c):(x=("rack" : Str)∧c=c1) ∨ (x=("order" : Str)∧c=c2) ∨ (x=("stripe" : Str)∧c=c3):=by
 unfold Op at e;show 40
 split at e
 ·cases e;rename_i h;exact .inr ϊ3
 show 40
 split at e
 ·cases e;rename_i h;exact .inl Γk
 show 40
 split at e
 ·cases e;rename_i h;exact .inr ϊ2
 ·cases e
inductive vO (a:q_) (f:V) (vs:δ) (H:Hp) (Q:VK):Prop
 | mk:∀(fa ol:Addr) (R:Rk) (k st e:Nat) (tu:List Nat) (ss:List V) (X:Nat->Nat->Option Int),f=.ref fa->vs=[.int k]->IR H fa R.rk ol st->H ol=some (.lst (rowV tu))->k < tu.length->tu.getD k 0 < R.P->st < R.S->d_ a H R e ss X->e < 9000->(∀H',KB [R.dn] H H'->my H H' R.dn (tu.getD k 0) st->d_ a H' R (e+1) ss X->Q (ov (sv R X (tu.getD k 0) st)) H')->vO a f vs H Q
theorem EJ (T:θ):pO P wo K mg base 4 (vO a):=by
 intro A outer s H f us vs Q hr e0 r h;obtain⟨fa,ol,R,k,st,e,tu,ss,X,rfl,rfl,hA,J,hk,hp,ad,hR,he,q⟩:=h;obtain⟨c',c1,c2,c3,pm,aw,h1,h2,h3,h4,h5,g,D,j⟩:=hA.ex;refine #[fa,_,rfl,h1,?_]
 have at_:∀c v,(Iy c1 c2 c3 ηz ζM δT).lookup c=some v->H c=some 45e6:=λc v e=>by
  rcases vM e with ⟨rfl,rfl⟩ | ⟨rfl,rfl⟩ | ⟨rfl,rfl⟩
  ·exact h3
  ·exact h4
  ·exact h5
 refine Ci (k:=3) (cvs:=Iy c1 c2 c3 ηz ζM δT) (vs:=[.int ((k:Nat):Int)]) (N:=["role", "stripe", "rack", "order"]) (ps:=["role"]) (σ0:=[some (.int ((k:Nat):Int)),some δT,some ηz,some ζM]) τb hr e0 r h1 h2 ?_ ?_ ?_ (have hr:=hr.deeper (Jq qR K4.2.2 Ω fa ιT ϑO);(ao Ψ Γ T.x90.me (vD T) hr.u T.x90.b .nil aj (aa (aD ax ϐ ο γ6) γ8))) ?_
 ·obtain⟨u,rfl,_⟩:=ca r
  rfl
 ·refine #[λx y c e1 e2=>?_,λx hx=>?_,λx c e=>?_,at_]
  ·rcases vN e1 with ⟨rfl,rfl⟩ | ⟨rfl,rfl⟩ | ⟨rfl,rfl⟩ <;> rcases vN e2 with ⟨rfl,z⟩ | ⟨rfl,z⟩ | ⟨rfl,z⟩
   ·rfl
   ·exact absurd z g
   ·exact absurd z D
   ·exact absurd εq g
   ·rfl
   ·exact absurd z j
   ·exact absurd εq D
   ·exact absurd εq j
   ·rfl
  ·have d:∀q∈(K4.2.2).names,q.2=.free→q.1=("rack" : Str) ∨ q.1=("order" : Str) ∨ q.1=("stripe" : Str):=by decide +kernel
   have d:=d (x,.free) (Kr hx) rfl;rcases d with d | d | d
   ·have d:x=_:=d
    subst d;exact #[c1,rfl]
   ·have d:x=_:=d
    subst d;exact #[c2,rfl]
   ·have d:x=_:=d
    subst d;exact #[c3,rfl]
  ·rcases vN e with ⟨_,rfl⟩ | ⟨_,rfl⟩ | ⟨_,rfl⟩
   ·exact #[_,zF]
   ·exact #[_,zG g]
   ·exact #[_,zH D j]
 ·refine ΩE
  match i,e1,e2 with
  | 0,e1,e2=>exact .inl υx
  | 1,e1,e2 =>
   cases e1
   cases e2;exact .inr #[rfl,c3,rfl,zH D j]
  | 2,e1,e2 =>
   cases e1
   cases e2;exact .inr #[rfl,c1,rfl,zF]
  | 3,e1,e2 =>
   cases e1
   cases e2;exact .inr #[rfl,c2,rfl,zG g]
 ·have no:∀{b:Addr}{o:HO},H b=some o->(∀φ,o≠.ext φ)->(Iy c1 c2 c3 ηz ζM δT).lookup b=none:=λ{b o} e n=>by
   cases y:(Iy c1 c2 c3 (.ref R.rk) (.ref ol) (.int st)).lookup b with
   | none=>rfl
   | some v=>rw[at_ b v y] at e;exact absurd (FK e).symm (n _)
  have kb:KB [c1,c2,c3] H 138e4:=λb o n e=>by
   rw[bv]
   ·exact e
   cases y:(Iy c1 c2 c3 (.ref R.rk) (.ref ol) (.int st)).lookup b with
   | none=>rfl
   | some v =>
    refine absurd ?_ n;rcases vM y with ⟨rfl,_⟩ | ⟨rfl,_⟩ | ⟨rfl,_⟩ <;> simp
  have O:∀b∈[c1,c2,c3],∃v,H b=some 79e3:=λb hb=>by
   rcases FC.mp hb with rfl | hb
   ·exact #[_,h3]
   rcases FC.mp hb with rfl | hb
   ·exact #[_,h4]
   ·rw[Ge.mp hb]
    exact #[_,h5]
  have G:d_ a Ξu R e ss X:=hR.keep kb (λb hb C dx fs z=>by
   obtain⟨v,y⟩:=O b hb;rw[y] at z;cases z) (λb hb z=>by
   obtain⟨v,y⟩:=O b z;show 381
   rw[y] at y2;cases y2)
  obtain⟨dx,an⟩:=id G.ins
  have U:=(bv (no J εe)).trans J
  refine #[_,rfl,R.rk,dx,_,rfl,an,rfl,_,rfl,_,rfl,ol,_,_,_,rfl,rfl,c_.of U,aB (tD hk),_,rfl,R,e,tu.getD k 0,st,ss,X,rfl,G,he,hp,ad,λH2 k2 l2 Y fr=>?_]
  have nd:(Iy c1 c2 c3 ηz ζM δT).lookup R.dn=none:=by
   obtain⟨ds,y,_⟩:=hR.dn;exact no y εe
  have k3:KB [R.dn] H 137e4:=λb o n z=>by
   cases y:(Iy c1 c2 c3 (.ref R.rk) (.ref ol) (.int st)).lookup b with
   | some v=>rw[li y,← at_ b v y];exact z
   | none=>rw[bO y];exact k2 b o n ((bv y).trans z)
  obtain⟨ds,y1,y2⟩:=Y.dn
  have lk:my H Ξk R.dn (tu.getD k 0) st:=by
   obtain⟨Z,tp,z1,z2,z3,z4⟩:=l2
   have E:(Iy c1 c2 c3 ηz ζM δT).lookup tp=none:=by
    cases y:(Iy c1 c2 c3 (.ref R.rk) (.ref ol) (.int st)).lookup tp with
    | none=>rfl
    | some v=>rw[fr _ _ y] at z4;cases z4
   exact #[Z,tp,(bv nd).symm.trans z1,(bO nd).trans z2,(bv E).symm.trans z3,(bO E).trans z4]
  exact q _ k3 lk (hR.told k3 ((bO nd).trans y1) y2)
def Lr:Pos:=#[54,32,54,69]
def qL:Str:="Asking.order" ++ Go ".<locals>." ++ Go "<lambda>"
structure FQ where
 A:Addr
 c:Addr
 bp:Addr
 fp:Addr
 f:Addr
 cl:Addr
 rl:Addr
 sl:Addr
 z:Addr
 B:Nat
 ol:Addr
 st:Nat
 tu:List Nat
 RK:Rk
 ss:List V
 X:Nat->Nat->Option Int
structure Ip (a:q_) (H:Hp) (R:FQ) (srow:ϝ):Prop where
 z:R.z=R.RK.dn
 lam:IR H R.f R.RK.rk R.ol R.st
 ol:H R.ol=some (.lst (rowV R.tu))
 len:R.tu.length=srow.length
 at_:∀k,k < srow.length->R.tu.getD k 0 < R.RK.P/\ov (sv R.RK R.X ψ4 R.st)=Gd χv
 stl:R.st < R.RK.S
 rack:∀zs,d_ a (upd H R.RK.dn ηa) R.RK ωB R.ss R.X
variable {d:Addr}
theorem PH (s:γN):a_ (upd H d o) (upd H' d o):=λb u e=>by
 by_cases z:b=d
 ·rw[z,ac] at e ⊢;exact e
 ·rw[ae z] at e ⊢;exact s _ _ e
theorem Ip.same {a:q_}{H H':Hp}{R:FQ}{srow:ϝ} (h:Ip a H R srow) (s:γN):Ip a H' R srow :=
 #[h.z,h.lam.same s,s _ _ h.ol,δ5,h.at_,h.stl,λzs=>(h.rack zs).same (PH s)]
structure F2 (a:q_) (H0:Hp) (R:FQ) (r w n M N:Nat) (l:ϕ) (cs srow:ϝ):Prop where
 code:Fz a H0 R.c R.bp R.fp r w n M N l
 full:GF.Gg r w
 n16:n<=16
 W:IP w M N l
 obj:∃dx,H0 R.A=some (.ins γ1 dx (af R.c R.f R.cl R.rl R.sl))
 cost:H0 R.cl=some ψj
 csl:cs.length=N+M
 asker:Ip a H0 R srow
 row:R.B<=8000
 srl:srow.length=N+M
 nrl:H0 R.rl=none
 nsl:H0 R.sl=none
 nz:H0 R.z=none
 nt:H0 a.t38=none
 d1:R.rl≠R.sl
 d2:R.rl≠R.z
 d3:R.sl≠R.z
structure t_ (a:q_) (H0 H:Hp) (R:FQ) (n:Nat) (os:ϝ) (as:η):Prop where
 sm:a_ H0 H
 hr:H R.rl=some ϑ4
 hs:H R.sl=some (.lst (rowV as))
 hz:∃zs,H R.z=some ηa/\zs.length<=R.B+as.length
 tab:Fy H ζ8 Lr qL
 osl:os.length=n
 nd:as.Nodup
 lt:∀k∈as,k < n
theorem bR:∀(n:Nat) (as:η),as.Nodup->(∀k∈as,k < n)->as.length<=n
 | 0,[],_,_=>B_ _
 | 0,k :: _,_,h=>absurd (h k δi) (JW k)
 | n+1,as,nd,h=>by
  by_cases z:n∈as
  ·have e:=List.length_erase_of_mem z
   have ih:=bR n (as.erase n) (nd.erase n) λk hk=>by
    have h1:=h k (List.mem_of_mem_erase hk)
    have h2:k≠n:=λe=>by
     subst e;exact(List.Nodup.mem_erase_iff nd).mp hk |>.1 rfl
    omega
   omega
  ·exact Ul (bR n as nd λk hk=>by
    have h1:=h k hk
    have h2:k≠n:=λe=>z (e ▸ hk)
    omega)
variable {H0:Hp}{as:List Nat}
theorem t_.asl {R:FQ} (h:ηP):as.length<=n:=bR n as h.nd h.lt
def FB (cs:ϝ) (as:η) (k:Nat):Bool:=(cs.getD k none).isSome && !as.contains k
theorem vP (k:Nat):∀as:List Nat,Ox μQ (rowV as)=as.contains k
 | []=>rfl
 | x :: as=>by
  have ih:=vP k as;unfold Ox rowV at ih ⊢;rw[Ie,Ob,ih,List.contains_cons]
  congr 1
  show LC ρz μQ=(k == x)
  show (((x:Nat):Int) == ((k:Nat):Int))=(k == x)
  by_cases z:x=k
  ·subst z;simp
  ·have h1:((x:Nat):Int)≠((k:Nat):Int):=by omega
   rw[beq_eq_false_iff_ne.mpr h1,beq_eq_false_iff_ne.mpr θj]
theorem vQ (as:η):(rowV as).all gH=true:=by
 show 42;rw[RT];exact IM.mpr λ_ _=>rfl
theorem cX {k:Nat} (h:ϑP):os[k]?=some 53e3:=by
 show 84
theorem mz (o:ιo):(!decide (Gd o=γQ))=o.isSome:=by
 cases o with
 | none=>rfl
 | some b=>rw[decide_eq_false ηx];rfl
inductive Db (a:q_) (vs:δ) (H:Hp) (Q:VK) (E_3:XK):Prop
 | mk:∀(H0:Hp) (R:FQ) (r w n M N k:Nat) (l:Nat->Nat->Nat) (cs srow os:List (Option Nat)) (as:List Nat),vs=[.ref R.A,.int k]->F2 a H0 R r w n M N l cs srow->t_ a H0 H R (N+M) os as->k < N+M->Q (.bl (FB cs as k)) H->Db a vs H Q E_3
theorem gc (T:θ):x_ P wo K mg base 1 a.f32 ["self", "role"] (Db a):=by
 refine T.x32.F.okA (k:=0) t8 ι
 ·obtain⟨H0,R,r,w,n,M,N,k,l,cs,g,os,as,rfl,I,J,hk,q⟩:=h
  show 12
  show 45
  show 0
  exists xl (aA (jm (bT cg ιS aL υ) (gZ (bT uC ω ϟ rfl))))
  refine #[_,rfl,R.A,_,_,_,_,rfl,hA,ϋ,ζG,dj _ _ _ _ _,_,rfl,R.cl,_,_,_,rfl,rfl,c_.of ώ7,aB (bP (cX (by rw[I.csl];exact hk))),rfl,_,rfl,?_]
  rw[mz];unfold FB at q
  cases hz:(cs.getD k none).isSome with
  | false =>
   show 74;exact q
  | true =>
   show 74;refine #[_,rfl,_,rfl,R.A,_,_,_,_,rfl,hA,ϋ,ηt,d5 _ _ _ _ _,R.sl,_,rfl,.inl (c_.of J.hs),rfl,vQ as,?_];rw[vP];exact q
variable {xs:List V}
theorem Fy.kb {p:Pos} (h:ζv) (k:KB [d] H H') (hd:H d=some γP):Fy H' t p q:=by
 have k:∀b o,b≠d->H b=some o->H' b=some o:=λb o n e=>k b o όC e;show 35;refine #[ps,k _ _ (bo h1 hd δ6) h1,?_]
 rcases h2 with h2 | ⟨c',e,h2⟩
 ·show 36
 ·exact .inr #[c',e,k _ _ (bo h2 hd δ6) h2]
variable {n':Nat}{cs srow:List (Option Nat)}
theorem t_.rk {R:FQ} (I:ξH) (J:χa):∃e,e<=R.B+as.length/\d_ a H R.RK e R.ss R.X:=by
 obtain⟨zs,hz,hl⟩:=J.hz;rw[I.asker.z] at hz;refine #[ωB,hl,(I.asker.rack zs).same λb o e=>?_]
 show 382
 ·rw[z,ac] at e;rw[z,hz];exact e
 ·show 172;exact J.sm _ _ e
variable {x:Addr}
theorem Fy.up {p:Pos} (h:ζv) (hx:οA):Fy ζs t p q:=by
 show 35;refine #[ps,by rw[ae (bo h1 hx δ6)];exact h1,?_]
 rcases h2 with h2 | ⟨c',e,h2⟩
 ·show 36
 ·exact .inr #[c',e,by rw[ae (bo h2 hx δ6)];exact h2]
theorem t_.same {R:FQ} (h:ηP) (s:γN):t_ a H0 H' R n os as :=
 #[h.sm.trans s,s _ _ h.hr,s _ _ h.hs,h.hz.imp λ_ e=>#[s _ _ e.1,e.2],h.tab.keep s,h.osl,h.nd,h.lt]
def tk (cs srow os:ϝ) (as:η) (k:Nat):List ζd × List Nat:=if FB cs as k=true then (os.set k χv,as++[k]) else (os,as)
theorem Ct (os:ϝ) (k:Nat) (o:ιo):(Ft os).set k (Gd o)=Ft (os.set k o):=by
 unfold Ft;rw[N4]
theorem DQ {k:Nat} (h:ψ5):k∉as:=λz=>by
 unfold FB at h;rw[K9.mpr z,Bool.not_true,Tk] at h
 cases h
theorem j4 {k:Nat} (h:as.Nodup) (n:k∉as):(as++[k]).Nodup:=MR.mpr ⟨h,Uv _ k,λx hx y hy e=>by
 rw[Ge.mp hy] at e
 exact n (e ▸ hx)⟩
def Sh (H H':Hp) (R:FQ) (b:Bool) (k:Nat):Prop:=(b=true/\my H H' R.RK.dn ψ4 R.st)\/(b=false/\H'=H)
inductive Bo (a:q_) (vs:δ) (H:Hp) (Q:VK) (E_3:XK):Prop
 | mk:∀(H0:Hp) (R:FQ) (r w n M N k:Nat) (l:Nat->Nat->Nat) (cs srow os:List (Option Nat)) (as:List Nat),vs=[.ref R.A,.int k]->F2 a H0 R r w n M N l cs srow->t_ a H0 H R (N+M) os as->k < N+M->(∀H',t_ a H0 H' R (N+M) (tk cs srow os as k).1 (tk cs srow os as k).2->Sh H H' R (FB cs as k) k->Q (Gd ((tk cs srow os as k).1.getD k none)) H')->Bo a vs H Q E_3
theorem jO (T:θ):x_ P wo K mg base 5 a.f33 ["self", "role"] (Bo a):=by
 have CK:pO P wo K mg base 4 (vO a):=EJ T;refine T.x33.F.okA (k:=4) qT ι
 ·obtain⟨H0,R,r,w,n,M,N,k,l,cs,g,os,as,rfl,I,J,hk,q⟩:=h
  show 12
  show 24
  have ad:=J.asl
  show 0
  show 1;refine xi Θ4 ?_
  exists xc Ξr
  exists xl (cA (B8 CK hr.u ο γ8) ζT)
  show 3
  exists xl ΞP
  refine #[_,rfl,R.A,dx,_,rfl,J.sm _ _ hA,rfl,_,rfl,H0,R,r,w,n,M,N,k,l,cs,g,os,as,rfl,I,J,hk,?_]
  cases hz:FB cs as k with
  | true =>
   refine τx
   have an:(rowV as).length < sizeLine:=by
    rw[az];exact KM ad (KM n8 ζ)
   have j:=J.sm.up (o:=.lst (rowV (as++[k]))) I.nsl;refine #[_,rfl,R.A,_,_,_,_,rfl,J.sm _ _ hA,ϋ,ηt,d5 _ _ _ _ _,.inl #[rfl,_,c_.of J.hs],_,rfl,R.sl,_,_,rfl,rfl,J.hs,an,?_];rw[iZ]
   have nz:R.sl≠R.RK.dn:=by rw[<- I.asker.z];exact I.d3
   obtain⟨e0,a3,aw⟩:=t_.rk I J;obtain⟨zs,Y,_⟩:=J.hz;rw[I.asker.z] at Y;obtain⟨c',c1,c2,c3,pm,a7,hf,_⟩:=I.asker.lam.ex
   have a0:d_ a τP R.RK e0 R.ss R.X:=by
    obtain⟨ds,y1,y2⟩:=aw.dn
    have:=(I.asker.rack ds).same (H':=upd H R.sl Γp) λb o e=>by
     show 382
     ·rw[z,ac] at e;rw[z,ae nz.symm,y1];exact e
     ·show 172;exact j _ _ e
    rwa [y2] at this
   have D:k < g.length:=by rw[I.srl];exact hk
   have a6:=I.row;refine #[_,rfl,R.A,_,_,_,R.f,_,rfl,j _ _ hA,ϋ,T.A93,EI _ _ _ _ _,j _ _ hf,_,rfl,j _ _ hf,R.f,R.ol,R.RK,k,R.st,e0,R.tu,R.ss,R.X,rfl,rfl,I.asker.lam.same j,j _ _ I.asker.ol,(by rw[I.asker.len];exact D),(I.asker.at_ k D).1,I.asker.stl,a0,by omega,λH2 k2 l2 aT=>?_]
   rw[(I.asker.at_ k D).2]
   have k2:∀b o,b≠R.z->90e9 b=some o->H2 b=some o:=λb o n e=>k2 b o (λz=>n ((Ge.mp z).trans I.asker.z.symm)) e
   have U:a_ H0 H2:=λb o e=>k2 b o (λz=>by rw[z,I.nz] at e;cases e) (j _ _ e)
   have O:H2 R.rl=some 197e8:=k2 _ _ I.d2 (by rw[ae I.d1];exact J.hr)
   have a4:H2 R.sl=some 119e3:=k2 _ _ I.d3 ac;obtain⟨ds,Z,a5⟩:=aT.dn;rw[<- I.asker.z] at Z Y
   have a1:90e9 R.z=some 31e0:=by rw[ae (F5 I.d3)];exact Y
   have t2:Fy H2 ζ8 Lr qL:=(J.tab.up J.hs).kb (d:=R.z) (λb o n e=>k2 b o ξz e) a1
   refine #[_,rfl,R.A,_,_,_,_,rfl,U _ _ hA,ϋ,ηs,iE _ _ _ _ _,_,rfl,R.rl,_,_,k,rfl,rfl,O,cz (by rw[bH,ε5];exact hk),?_]
   rw[Ct]
   have G:=U.up (o:=.lst (Ft (os.set k (g.getD k none)))) I.nrl
   have J3:t_ a H0 Ξv R (N+M) (os.set k (g.getD k none)) (as++[k]):=by
    refine #[G,ac,?_,#[ds,?_,?_],t2.up O,by rw[JJ,ε5],j4 J.nd (DQ hz),λx hx=>?_]
    ·rw[ae (F5 I.d1)];exact a4
    ·rw[ae (F5 I.d2)];exact Z
    ·rw[a5,Hr];exact Nat.add_le_add_right a3 1
    ·rcases Hi.mp hx with y | y
     ·exact J.lt x y
     ·rw[Ge.mp y];exact hk
   have e:tk cs g os as k=(os.set k (g.getD k none),as++[k]):=by unfold tk;rw[if_pos hz]
   rw[e] at q
   have lk:my H Ξv R.RK.dn ψ4 R.st:=by
    obtain⟨a2,tp,z1,z2,z3,z4⟩:=l2
    have n1:tp≠R.sl:=λz=>by rw[z,ac] at z3;cases z3
    have n2:R.RK.dn≠R.rl:=by rw[<- I.asker.z];exact F5 I.d2
    rw[ae n1] at z3;rw[ae nz.symm] at z1;exact #[a2,tp,z1,by rw[ae n2];exact z2,z3,by rw[ae (λz=>by rw[z,O] at z4;cases z4)];exact z4]
   exact #[_,rfl,R.A,_,_,_,_,rfl,G _ _ hA,ϋ,ηs,iE _ _ _ _ _,_,rfl,R.rl,_,_,_,rfl,rfl,c_.of ac,aB (bP (cX (by rw[JJ,ε5];exact hk))),q _ J3 (.inl #[hz,lk])]
  | false =>
   refine #[_,rfl,b_ δ6 (λ_=>?_)]
   have e:tk cs g os as k=(os,as):=by unfold tk;rw[if_neg (by rw[hz];decide)]
   rw[e] at q;exact #[_,rfl,R.A,_,_,_,_,rfl,J.sm _ _ hA,ϋ,ηs,iE _ _ _ _ _,_,rfl,R.rl,_,_,_,rfl,rfl,c_.of J.hr,aB (bP (cX ξU)),q _ J (.inr #[hz,rfl])]
theorem Bp (ns:γq):preSum ζX ns.length=ns.sum:=by
 have h:∀(f:γM) (j:Nat),preSum f j=((r_ j).map f).sum:=λf j=>by
  induction j with
  | zero=>rfl
  | succ j ih =>
   have e:preSum f (j+1)=preSum f j+f j:=rfl;rw[e,ih,M7,HU,List.sum_append]
   simp
 rw[h]
 congr 1
 apply JY
 show 146
 show 301
 ·rw[Ib hi,s_ hi,Ks,v_,s_ hi]
  rfl
 ·rw[Hj δw,Hj γ]
  rfl
inductive oA (K:m_) (xs:δ) (H:Hp) (Q:VK):Prop
 | mk:∀(p:Addr) (ns:List Int),xs=[.ref p]->c_ K H p (ns.map V.int)->ns.length<=1000->((∀y∈ns,0<=y/\y<=1000000))->Q (.int ns.sum) H->oA K xs H Q
theorem Bq {X:Cx} (hc:γi):bI X (.builtin "sum") (oA X.K):=by
 intro E s σ H xs us Q I r h;obtain⟨p,ns,rfl,hq,hn,hb,q⟩:=h;show 39
 show 99
 have D:p≠s.heap.objs.size:=F0 ιz
 have hl:g.toArray.size=ns.length:=by
  show 65
  show 33
 have hv:∀j,0<=ns.getD j 0/\ns.getD j 0<=1000000:=λj=>by
  by_cases hj:j < ns.length
  ·rw[v_,s_ hj]
   exact hb _ (IV hj)
  ·rw[v_,Hj γ]
   exact δh
 have hs:∀j,0<=preSum ζX j/\preSum ζX j<=1000000 * (j:Int)/\∀i,i < j->ns.getD i 0<=preSum ζX j:=λj=>by
  induction j with
  | zero=>exact⟨N3 _,N3 _,λi h=>absurd h θh⟩
  | succ j ih =>
   have e:preSum ζX (j+1)=preSum ζX j+ns.getD j 0:=rfl
   have:=hv j;rw[e];refine #[by omega,by omega,λi h=>?_]
   by_cases y:i=j
   ·subst y;omega
   ·have:=ih.2.2 i γ
    omega
 refine call_sum_walk ξK;refine #[_,_,_,_,_,_,λi=>ns.getD i 0,rfl,OK (A:=νJ) (show X.A.in1.handled=none from I.ok.hd hc) Ω p D εc,Γt,λb hb=>?_,λi v hv=>uU rv hv,λj hj=>?_,λh' tk t' kp=>?_]
 ·show b < (s.heap.push _).objs.size
  rw[Qz];rcases FC.mp hb with z | z
  ·rw[z];exact ID _
  ·rw[Ge.mp z];exact IL ιz
 ·have h1:=hv j
  have h2:=hs (j+1);rw[hl] at hj
  have h3:=h2.2.1
  have h4:=h2.1
  show InLong ιe/\InLong (preSum ζX (j+1))
  generalize preSum (λi=>ns.getD i 0) (j+1)=pp at h3 h4;unfold InLong;omega
 ·rw[hl]
  rw[<- Bp] at q;exact #[.int _,H,I.kept (t':=tk) λb o e=>kp b o (λz=>by rw[Ge.mp z] at e;exact absurd εG δ9) μ7,ϊ,q]
theorem Br (os:ϝ):ΘU=HG 3e1:=by
 unfold HG knO
 apply JY
 show 106
 show 361
 ·rw[Ib hi,s_ hi]
  show 362
  show 107
 ·rw[Hj δw,Hj γ]
  rfl
theorem cQ (os:ϝ):(knO os).length=os.length:=by unfold knO;rw[o_]
inductive yF (a:q_) (vs:δ) (H:Hp) (Q:VK) (E_3:XK):Prop
 | mk:∀(H0:Hp) (R:FQ) (r w n M N:Nat) (l:Nat->Nat->Nat) (cs srow os:List (Option Nat)) (as:List Nat),vs=[.ref R.A]->F2 a H0 R r w n M N l cs srow->t_ a H0 H R (N+M) os as->(∀D H',a_ H H'->H D=none->H' D=some (.lst (HG (knO os)))->Q (.ref D) H')->yF a vs H Q E_3
theorem c6 (T:θ):x_ P wo K mg base 1 a.f35 ["self"] (yF a):=by
 refine T.x35.F.okA (k:=0) pW ι
 ·obtain⟨H0,R,r,w,n,M,N,l,cs,G,os,as,rfl,I,J,q⟩:=h
  show 12
  show 24
  have D:=J.osl
  show 0
  exists xl (aA (bc ΞN rfl 176e6 θP γ3 ΞO))
  refine #[_,rfl,R.A,_,_,_,_,rfl,J.sm _ _ hA,ϋ,ηs,iE _ _ _ _ _,R.rl,rfl,#[_,c_.of J.hr],λkn j=>?_];refine cB (xs:=Ft os) (f:=λi=>.bl (os.getD i none).isSome) (cs:=[]) (c_.of J.hr) j rfl 134e5 ηM χH
  ·have hi:i < os.length:=by rw[<- bH];exact(Gr.mp hu).1
   rw[bP (cX hi)] at hu
   show 360;show 383
  rw[bH,Br] at g;exact q kn H2 s2 j g
inductive vR (K:m_) (a:q_) (vs:δ) (H:Hp) (Q:VK) (E_3:XK):Prop
 | mk:∀(H0:Hp) (R:FQ) (so:Addr) (r w n M N:Nat) (l:Nat->Nat->Nat) (cs srow os:List (Option Nat)) (as rs:List Nat),vs=[.ref R.A,.ref so]->F2 a H0 R r w n M N l cs srow->t_ a H0 H R (N+M) os as->c_ K H so (rowV rs)->((∀k∈rs,k < N+M))->(∀H',a_ H H'->Q (.bl (rs.all (fx r w M N l (knO os)))) H')->vR K a vs H Q E_3
theorem eO (T:θ):x_ P wo K mg base 10 a.f36 ["self", "some"] (vR K a):=by
 refine T.x36.F.okA (k:=9) pX ι
 ·obtain⟨H0,R,so,r,w,n,M,N,l,cs,g,os,as,rs,rfl,I,J,j,G,q⟩:=h
  show 12
  show 0
  exists xl (aA (aH (iD T) hr.u rfl T.x30.m T.x30.k T.x30.b .nil aj (aa ϟ (aa ξb γ8))))
  refine #[_,rfl,R.A,_,_,_,_,rfl,J.sm _ _ hA,ϋ,ζj,cL _ _ _ _ _,_,rfl,R.A,dx,_,rfl,J.sm _ _ hA,rfl,H0,R,r,w,n,M,N,l,cs,g,os,as,rfl,I,J,λD H1 s1 nD hD=>?_];exact #[_,rfl,R.c,R.bp,R.fp,D,so,r,w,n,M,N,l,knO os,rs,rfl,I.code.same (J.sm.trans s1),ζn,I.W,hD,by rw[cQ,ε5],s1.seq j,G,λH' s'=>q H' (s1.trans s')]
inductive tG (K:m_) (a:q_) (vs:δ) (H:Hp) (Q:VK) (E_3:XK):Prop
 | mk:∀(H0:Hp) (R:FQ) (so:Addr) (r w n M N:Nat) (l:Nat->Nat->Nat) (cs srow os:List (Option Nat)) (as rs:List Nat),vs=[.ref R.A,.ref so]->F2 a H0 R r w n M N l cs srow->t_ a H0 H R (N+M) os as->c_ K H so (rowV rs)->rs.length<=8->((∀k∈rs,k < N+M/\(cs.getD k none).isSome=true/\(cs.getD k none).getD 0<=1000000))->(∀H',a_ H H'->Q (.int (((rs.map λk=>(((cs.getD k none).getD 0:Nat):Int)).sum:Int))) H')->tG K a vs H Q E_3
theorem fX (T:θ):x_ P wo K mg base 1 a.f37 ["self", "some"] (tG K a):=by
 refine T.x37.F.okA (k:=0) lM ι
 ·obtain⟨H0,R,so,r,w,n,M,N,l,cs,O,os,as,rs,rfl,I,J,g,G,j,q⟩:=h
  show 12
  show 0
  exists xl (aA (aF (Bq rfl) rfl T.Ae1 PyProof.Rows.Boot.sum (aa (bc τv rfl 23e6 ε9 γ3 (λ_ _ _ _ _=>by exact(aD νC υn ω γ6))) ab)))
  refine #[_,rfl,so,rfl,#[_,g],λD nD=>?_];refine cB (xs:=rowV rs) (f:=λi=>.int (((cs.getD μW none).getD 0:Nat):Int)) (cs:=[some ε2]) g nD rfl (by rw[az];exact FG G ζ) ηM ηR
  ·obtain⟨k,ek,rfl⟩:=br hu
   obtain⟨h1,h2,h3⟩:=j k ζ5
   have eg:rs.getD i 0=k:=by rw[v_,ek];rfl
   show 105
   have ev:Gd ώK=.int (((cs.getD k none).getD 0:Nat):Int):=by
    cases hz:cs.getD k none with
    | none=>rw[hz] at h2;cases h2
    | some b=>rfl
   have gi:=aB (bP (cX (os:=cs) (k:=k) (by rw[I.csl];exact h1)))
   rw[ev] at gi;exact #[_,rfl,R.A,_,_,_,_,rfl,s2 _ _ ϑQ,ϋ,ζG,dj _ _ _ _ _,_,rfl,R.cl,_,_,_,rfl,rfl,c_.of (s2 _ _ ώ7),gi,hR _ ϡ]
  rw[az] at hD
  have ex:((r_ ωC).map λi=>V.int (((cs.getD μW none).getD 0:Nat):Int))=(rs.map λk=>(((cs.getD k none).getD 0:Nat):Int)).map V.int:=by
   rw[GB]
   apply JY
   intro i;rw[FM,FM]
   show 384
   ·rw[Ib hi,s_ hi]
    have eg:rs.getD i 0=rs[i]:=by rw[v_,s_ hi];rfl
    show 385
   ·rw[Hj δw,Hj γ]
    rfl
  rw[ex] at hD;refine #[D,_,rfl,c_.of hD,by rw[o_];omega,λy hy=>?_,q H2 s2]
  obtain⟨k,hk,rfl⟩:=G6.mp hy
  have:=(j k hk).2.2;omega
inductive tH (a:q_) (vs:δ) (H:Hp) (Q:VK) (E_3:XK):Prop
 | mk:∀(H0:Hp) (R:FQ) (r w n M N k:Nat) (l:Nat->Nat->Nat) (cs srow os:List (Option Nat)) (as X:List Nat),vs=[.ref R.A,.int k]->F2 a H0 R r w n M N l cs srow->t_ a H0 H R (N+M) os as->k < N+M->X.length=N+M->((∀b∈X,b < (2 ^ w) ^ n))->Jj r w n M N l X=true->c5 (N+M) os X->(∀H',a_ H H'->Q (if fx r w M N l (knO os) k=true then .int ((X.getD k 0:Nat):Int) else .non) H')->tH a vs H Q E_3
theorem dm (T:θ):x_ P wo K mg base 9 a.f40 ["self", "role"] (tH a):=by
 refine T.x40.F.okA (k:=8) lN ι
 ·obtain⟨H0,R,r,w,n,M,N,k,l,cs,G,os,as,X,rfl,I,J,hk,hX,D,hm,g,q⟩:=h
  show 12
  show 111
  show 0
  exists xl (aA (ao εN ϖ T.x27.me (o4 T) hr.u T.x27.b .nil aj (aa ϟ γ8)))
  refine #[_,rfl,R.A,_,_,_,_,rfl,J.sm _ _ hA,ϋ,ζj,cL _ _ _ _ _,R.c,dc,_,rfl,hc,rfl,_,rfl,R.A,_,_,_,_,rfl,J.sm _ _ hA,ϋ,ηs,iE _ _ _ _ _,_,rfl,?_];refine #[R.c,R.bp,R.fp,R.rl,r,w,n,M,N,k,l,os,rfl,hC,ζn,I.n16,I.W,J.hr,ε5,hk,λb hb=>?_,λhz H' s'=>#[λO j=>?_,λmk hf=>?_]]
  ·have e:fx r w M N l ϑ k=true:=by
    unfold fx;rw[v_,Cs ξU hb]
    rfl
   have:=q H ϡ;rw[e,if_pos rfl,g k hk b hb] at this;show 11
  ·have kz:=j0 ξU hz
   show 386
   have e:fx r w M N l ϑ k=true:=by
    unfold fx;rw[sV ζn I.W ύB hk kg j,RZ]
   have:=q H' s';rw[e,if_pos rfl,← JT μX I.W ε5 hX D hk hz hm g j] at this;show 11
  ·have kz:=j0 ξU hz
   show 386
   have e:fx r w M N l ϑ k=false:=by
    unfold fx;rw[sX ζn I.W ύB hk kg hf,kg]
    rfl
   have:=q H' s';rw[e,if_neg ζ] at this
   show 11
def cb (cs srow:ϝ):List Nat->List ζd->List Nat->List ζd × List Nat
 | [],os,as=>(os,as)
 | k :: ks,os,as=>if ((tk cs srow os as k).1.getD k none).isSome=true then cb cs srow ks (tk cs srow os as k).1 (tk cs srow os as k).2 else tk cs srow os as k
inductive yG (K:m_) (a:q_) (vs:δ) (H:Hp) (Q:VK) (E_3:XK):Prop
 | mk:∀(H0:Hp) (R:FQ) (so:Addr) (r w n M N:Nat) (l:Nat->Nat->Nat) (cs srow os:List (Option Nat)) (as rs:List Nat),vs=[.ref R.A,.ref so]->F2 a H0 R r w n M N l cs srow->t_ a H0 H R (N+M) os as->c_ K H0 so (rowV rs)->((∀k∈rs,k < N+M))->(∀H',t_ a H0 H' R (N+M) (cb cs srow rs os as).1 (cb cs srow rs os as).2->Q .non H')->yG K a vs H Q E_3
theorem j5 (T:θ):x_ P wo K mg base 6 a.f34 ["self", "some"] (yG K a):=by
 refine T.x34.F.okA (k:=5) QG ι
 ·obtain⟨H0,R,so,r,w,n,M,N,l,cs,g,os,as,rs,rfl,I,J,G,O,q⟩:=h
  show 12
  show 0
  show 7;refine xf Ϙ rfl 23e6 (au (i:=2) QG.nd rfl ε) ?_;show 7;refine xi (am cV (ao ο ϋ T.x33.me (jO T) hr.u T.x33.b .nil aj γt) aL υ) ?_
  exists xl BR
  show 20;refine #[_,rfl,so,rfl,#[_,J.sm.seq G],?_];refine let I_:Nat->L2.St->Hp->Prop:=λi σ H'=>L2.A2 ((∃v2:Option V,σ=[some ε2,some θc,v2])) (L2.E2 λj D=>L2.A2 (t_ a H0 H' R (N+M) j D) (cb cs g rs os as=cb cs g (rs.drop i) j D));cm (xs:=rowV rs) I_ #[ζO,os,as,J,rfl] ?_ ?_ ?_
  ·rintro i σ H' _ ⟨_,_,_,J',_⟩
   exact J'.sm.seq G
  ·rintro i x σ H' hx ⟨⟨v2,rfl⟩,j,D,J',e'⟩
   show 174
   have hk:=O k ζ5
   have hi:=(Gr.mp ek).1
   have ed:rs.drop i=k :: rs.drop (i+1):=by
    rw[Qk hi,(Gr.mp ek).2]
   refine #[_,rfl,R.A,dx,_,rfl,J'.sm _ _ hA,rfl,_,rfl,H0,R,r,w,n,M,N,k,l,cs,g,j,D,rfl,I,J',hk,λH2 J2 _=>?_];refine #[rfl,_,rfl,?_];rw[ed] at e'
   have e2:cb cs g (k :: rs.drop (i+1)) j D=if ((tk cs g j D k).1.getD k none).isSome=true then cb cs g (rs.drop (i+1)) (tk cs g j D k).1 (tk cs g j D k).2 else tk cs g j D k:=rfl
   rw[e2] at e'
   cases hz:(tk cs g j D k).1.getD k none with
   | none =>
    show 30;rw[hz,if_neg ζ] at e'
    rw[e'] at q;exact q H2 J2
   | some b =>
    refine b_ τo (λ_=>?_)
    rw[hz,if_pos (show (some b).isSome=true from rfl)] at e';exact #[ϊ,_,_,J2,e']
  ·rintro σ H' ⟨⟨v2,rfl⟩,j,D,J',e'⟩
   rw[az,SJ] at e';rw[e'] at q;exact q H' J'
theorem tI {k:Nat} (h:ϐY):row.getD k 0∈row:=by
 rw[v_,s_ h];exact IV h
variable {rs:List Nat}{te:TE}{D:Addr}
theorem gN {l:Addr}{b:ιt}{k:Nat}{tt:TT}{cs:θp} (hl:ύ2) (hD:γz) (hk:γU) (hn:rs.length<=εt)
  (ht:∀x H (R:εW),x∈rs->a_ H1 H->(∀H4,a_ H H4->R (b x) H4)->tt υg H R)
  (he:∀x H (R:γj),x∈rs->b x=true->a_ H1 H->(∀H4,a_ H H4->R ρz H4)->te υg H R)
  (hQ:∀H,a_ H1 H->H D=some (.lst (rowV (rs.filter b)))->Q H):bA (Lg K l) δn tt te δk H1 D Q:=by
 refine jh (n:=ωC) (src:=λi=>.int ((rs.getD i 0:Nat):Int)) (f:=λi=>.int ((rs.getD i 0:Nat):Int)) (b:=λi=>b μW) hD hk hn (λH sm=>#[_,sm.seq hl,by rw[az];exact B_ _]) (λi H hi sm=>#[_,_,sm.seq hl,bX hi]) μy (λi H R hi sm r=>ht _ H R (tI hi) sm r) (λi H R hi hb sm r=>he _ H R (tI hi) hb sm r) ϋ4
 ·obtain⟨e,y⟩:=y
  exact #[FK ((y _ (sm.seq hl)).symm.trans (bX hi)),e]
 ·rw[h]
  refine congrArg ϋ5 ?_;unfold rowV;clear hl hn ht he hQ h
  have:rs=(r_ ωC).map λi=>rs.getD i 0:=by
   apply JY
   intro i
   show 384
   ·rw[FM,Ib hi,Ks,v_,s_ hi]
    rfl
   ·rw[Hj γ,Hj (by rw[o_,Gf];omega)]
  conv=>rhs;rw[this]
  rw[List.filter_map,GB];rfl
inductive qx (K:m_) (a:q_) (vs:δ) (H:Hp) (Q:VK) (E_3:XK):Prop
 | mk:∀(H0:Hp) (R:FQ) (so:Addr) (r w n M N:Nat) (l:Nat->Nat->Nat) (cs srow os:List (Option Nat)) (as rs:List Nat),vs=[.ref R.A,.ref so]->F2 a H0 R r w n M N l cs srow->t_ a H0 H R (N+M) os as->c_ K H so (rowV rs)->rs.length<=8->((∀k∈rs,k < N+M))->(∀D H',a_ H H'->H D=none->H' D=some (.lst (rowV (rs.filter λk=>!fx r w M N l ϑ k)))->Q γ0 H')->qx K a vs H Q E_3
theorem gE (T:θ):x_ P wo K mg base 10 a.f41 ["self", "some"] (qx K a):=by
 refine T.x41.F.okA (k:=9) QK ι
 ·obtain⟨H0,R,so,r,w,n,M,N,l,cs,G,os,as,rs,rfl,I,J,g,h8,Y,q⟩:=h
  show 12
  show 45
  show 0
  exists xc (ar (i:=2) QK.nd rfl 15e3 ξb)
  exists xl (aA (bc Ξw rfl 23e6 δu (λ_ _ _ _ _=>(cY (bS (aX (ao Ψ9 ϖ T.x25.me (kN T) hr.u T.x25.b .nil aj υm))))) ξD))
  refine #[_,rfl,R.A,dx,_,rfl,hA,rfl,H0,R,r,w,n,M,N,l,cs,G,os,as,rfl,I,J,λkn H1 s1 Z O=>?_];refine #[_,rfl,so,rfl,#[_,s1.seq g],λD nD=>?_];refine gN (rs:=rs) (b:=λk=>!fx r w M N l ϑ k) (cs:=[some ωy,some ε2]) (s1.seq g) nD rfl 100e7 (λx Hx Rx hx sx hR=>?_) (λx Hx Rx hx _ sx hR=>ζN) ηR
  ·have j:=J.sm.trans ϑR
   obtain⟨U,Lp,qs,hc,_⟩:=I.code.ins;refine #[_,rfl,R.A,_,_,_,_,rfl,202e7 _ _ hA,ϋ,ζj,cL _ _ _ _ _,R.c,U,_,rfl,j _ _ hc,rfl,_,rfl,_,rfl,R.c,R.bp,R.fp,kn,r,w,n,M,N,x,l,knO os,rfl,I.code.same j,ζn,I.W,sx _ _ O,by rw[cQ,ε5],Y x hx,λH' s'=>?_]
   exact χq
  ·exact q D H2 ιf ψF hD
def j6 (cs:ϝ) (rs:η):Int:=(rs.map λk=>(((cs.getD k none).getD 0:Nat):Int)).sum
def vS (cs:ϝ) (as ls:η):V:=if ls.all ζl=true then .int (j6 cs ls) else .non
inductive vT (K:m_) (a:q_) (vs:δ) (H:Hp) (Q:VK) (E_3:XK):Prop
 | mk:∀(H0:Hp) (R:FQ) (so:Addr) (r w n M N:Nat) (l:Nat->Nat->Nat) (cs srow os:List (Option Nat)) (as rs:List Nat),vs=[.ref R.A,.ref so]->F2 a H0 R r w n M N l cs srow->t_ a H0 H R (N+M) os as->c_ K H so (rowV rs)->rs.length<=8->((∀k∈rs,k < N+M))->((∀k,(cs.getD k none).getD 0<=1000000))->(∀H',a_ H H'->Q (vS cs as (rs.filter λk=>!fx r w M N l ϑ k)) H')->vT K a vs H Q E_3
theorem qy (T:θ):x_ P wo K mg base 11 a.f42 ["self", "some"] (vT K a):=by
 refine T.x42.F.okA (k:=10) QP ι
 ·obtain⟨H0,R,so,r,w,n,M,N,l,cs,j,os,as,rs,rfl,I,J,Y,h8,U,Z,q⟩:=h
  show 12
  show 45
  show 0
  exists xc (ar (i:=2) QP.nd rfl 0e2 (ao ο ϋ T.x41.me (gE T) hr.u T.x41.b .nil aj γ8))
  show 1
  refine xi (bS (aX (aF (AF rfl) rfl T.Ad0 boot_all (aa (bc τv rfl 44e4 ε9 γ3 (λ_ _ _ _ _=>by exact(ao ο ϋ T.x32.me (gc T) hr.u T.x32.b .nil aj γ8))) ab)))) ?_
  show 28
  show 3
  exists xl (aA (ao ο ϋ T.x37.me (fX T) hr.u T.x37.b .nil aj γt))
  refine #[_,rfl,R.A,dx,_,rfl,hA,rfl,_,rfl,H0,R,so,r,w,n,M,N,l,cs,j,os,as,rs,rfl,I,J,Y,h8,U,λL H1 s1 nL hL=>?_]
  have G:∀k∈(rs.filter λk=>!fx r w M N l ϑ k),k < N+M:=λk hk=>U k (G1.mp hk).1
  have O:(rs.filter λk=>!fx r w M N l ϑ k).length<=8:=FG νn h8;generalize (rs.filter λk=>!fx r w M N l (knO os) k)=ls at q hL G O;refine #[_,rfl,L,rfl,ιa,λD nD=>?_];refine cB (xs:=rowV ls) (f:=λi=>.bl ϋ6) (cs:=[some ε2]) ηA nD rfl (by rw[az];exact FG O ζ) ηM ηR
  ·obtain⟨k,ek,rfl⟩:=br hu
   have eg:ls.getD i 0=k:=by rw[v_,ek];rfl
   show 105
   have g:=s1.trans s2;refine #[_,rfl,R.A,dx,_,rfl,g _ _ hA,rfl,_,rfl,H0,R,r,w,n,M,N,k,l,cs,j,os,as,rfl,I,J.same g,G k ζ5,?_];show 54
  rw[az] at hD
  have ex:((r_ ls.length).map λi=>V.bl ϋ6)=(ls.map ζl).map V.bl:=by
   rw[GB]
   apply JY
   intro i;rw[FM,FM]
   by_cases hi:i < ls.length
   ·rw[Ib hi,s_ hi]
    have eg:ls.getD i 0=ls[i]:=by rw[v_,s_ hi];rfl
    show 385
   ·rw[Hj δw,Hj γ]
    rfl
  rw[ex] at hD
  have g:=s1.trans s2;refine Ωl
  have ea:((ls.map ζl).all λb=>b)=ls.all 25e9:=by rw[RT];rfl
  rw[ea];unfold vS at q
  cases hz:ls.all (FB cs as) with
  | false =>
   show 74;show 30;exact q H2 g
  | true =>
   show 74;show 59
   refine #[_,rfl,R.A,dx,_,rfl,g _ _ hA,rfl,_,rfl,H0,R,L,r,w,n,M,N,l,cs,j,os,as,ls,rfl,I,J.same g,c_.of (s2 _ _ hL),O,λk hk=>#[G k hk,?_,Z k],λH' s'=>q H' (g.trans s')]
   have:=IM.mp hz k hk;unfold FB at this;exact(IU _ _ ▸ this).1
def LV (cs:ϝ) (k:Nat):Int:=(((cs.getD k none).getD 0:Nat):Int)
inductive yH (a:q_) (vs:δ) (H:Hp) (Q:VK) (E_3:XK):Prop
 | mk:∀(H0:Hp) (R:FQ) (r w n M N:Nat) (l:Nat->Nat->Nat) (cs srow os:List (Option Nat)) (as:List Nat),vs=[.ref R.A]->F2 a H0 R r w n M N l cs srow->t_ a H0 H R (N+M) os as->(∀D H' ms,t_ a H0 H' R (N+M) os as->(∀b o,b≠a.t38->H b=some o->H' b=some o)->H D=none->H' D=some (.lst (rowV ms))->ms.Perm ((r_ (N+M)).filter (FB cs as))->ms.Pairwise (IE (LV cs))->Q (.ref D) H')->yH a vs H Q E_3
theorem qz (T:θ) (B:η7):x_ P wo K mg base 5 a.f38 ["self"] (yH a):=by
 refine T.x38.F.okA (k:=4) QR τU
 ·obtain⟨H0,R,r,w,n,M,N,l,cs,O,os,as,rfl,I,J,q⟩:=h
  show 12
  show 24
  show 111
  show 0
  exists xc (cK (i:=1) QR.nd rfl 0e2 τv rfl (ba rfl T.A06 Ωb) ε9 (λ_ _ _ _ _=>(cY Θ4)) ξC)
  exists xl (aA (Cc (k:=0) (p:="role") (y:="self") (j:=0) (T.x38.F.tab B.Ae3 B.Ac1) rfl hr.u rfl T.A32 ω τb rfl 6e7 rfl rfl rfl rfl 182e6 (λ_ _ _ _ _ _ hr=>(bJ (aa (aD νC ΓE ο γ6) θz)))))
  refine #[_,rfl,R.A,_,_,_,_,rfl,J.sm _ _ hA,ϋ,ζj,cL _ _ _ _ _,R.c,_,_,_,_,rfl,hc,ϖ,ηp,dZ R.bp M N Lp,_,rfl,by omega,by omega,λfl Y=>?_]
  rw[G5];refine dM (n:=N+M) (f:=λk=>.int ((k:Nat):Int)) (b:=FB cs as) (cs:=[some ε2]) Y rfl 70e3 μz ΩG (λH2 s2 U=>?_)
  ·refine #[_,rfl,R.A,dx,_,rfl,s2 _ _ ϑQ,rfl,_,rfl,H0,R,r,w,n,M,N,k,l,cs,O,os,as,rfl,I,J.same s2,hk,?_]
   exact ζN
  ·exact ζN
  have J2:=J.same s2
  have g:H2 fl=some (.lst (rowV Ωv)):=U;show 26;refine vL (q:=qL) (pos:=Lr) J2.tab λH3 c' fa aT pm an k3 t3 n3 aw a0 ad=>?_
  have ht:∀{b:Addr}{xs:δ},H2 b=some γP->b≠a.t38:=λ{b xs} e=>by
   obtain⟨ps,hp,_⟩:=J2.tab;exact bo e hp δ6
  have h0:∀{b:Addr}{o:HO},H0 b=some o->b≠a.t38:=λ{b o} e=>aq e I.nt
  have J3:t_ a H0 H3 R (N+M) os as:=#[λb o e=>k3 b o (h0 e) (J2.sm b o e),k3 _ _ (ht J2.hr) J2.hr,k3 _ _ (ht J2.hs) J2.hs,J2.hz.imp λ_ e=>#[k3 _ _ (ht e.1) e.1,e.2],t3,J2.osl,J2.nd,J2.lt];refine #[fl,(r_ (N+M)).filter ζl,LV cs,8,.ref R.A,rfl,c_.of (k3 _ _ (ht g) g),Ll _ MB,λk hk=>?_,?_,rfl,λk H' hk sm=>?_,λD H' ms n1 n2 sm pm pw=>?_]
  ·have:=GG.mp (G1.mp hk).1
   omega
  ·have:=JG ζl πo
   show 159
  ·have Z:=GG.mp (G1.mp hk).1
   have G:=(G1.mp hk).2
   have J':=J3.same sm
   have ev:Gd ώK=.int (LV cs k):=by
    unfold FB at G;unfold LV
    cases hz:cs.getD k none with
    | none=>rw[hz] at G;cases G
    | some b=>rfl
   have gi:=aB (bP (cX (os:=cs) (k:=k) (by rw[I.csl];exact Z)))
   rw[ev] at gi;exact #[_,rfl,R.A,_,_,_,_,rfl,J'.sm _ _ hA,ϋ,ζG,dj _ _ _ _ _,_,rfl,R.cl,_,_,_,rfl,rfl,c_.of (J'.sm _ _ I.cost),gi,_,rfl,(by show 2<=εt;decide),λp np=>#[p,rfl,ac,a_.new np]]
  ·have s4:a_ H3 52e4:=sm.up n1
   refine q D _ ms (J3.same s4) (λb o hb e=>s4 b o (k3 b o hb (s2 b o e))) ?_ ac pm pw;exact s2.free (ad D n1)
def IW (ks:δG):List Nat->List Bool
 | []=>ks
 | k :: way=>IW ϐm way
theorem Cu (ks:δG) (k:Nat):∀way,IW ks (way++[k])=(IW ks way).set k true:=λway=>by
 induction way generalizing ks with
 | nil=>rfl
 | cons x way ih=>exact ih _
theorem qA (ks:δG):∀way,(IW ks way).length=ks.length:=λway=>by
 induction way generalizing ks with
 | nil=>rfl
 | cons x way ih =>
  show (IW (ks.set x true) way).length=_
  rw[ih,JJ]
theorem DR (ks:δG) (k:Nat):(HG ks).set k (.bl true)=HG 193e4:=by
 unfold HG;rw[N4]
theorem i6 {ms:η}{k:Nat} (h:ms[j]?=some k):ms.take (j+1)=ms.take j++[k]:=by
 rw[L5,h];rfl
def vU (r w M N:Nat) (l:ϕ) (ks:δG) (rs ms:η) (j:Nat):Prop :=
 j<=ms.length/\rs.all ΓA=true/\∀i,i < j->rs.all ΨI=false
def vV (r w M N:Nat) (l:ϕ) (ks:δG) (rs ms:η):Prop:=∀i,i<=ms.length->rs.all ΨI=false
inductive vW (a:q_) (vs:δ) (H:Hp) (Q:VK) (E_3:XK):Prop
 | mk:∀(H0:Hp) (R:FQ) (so:Addr) (r w n M N:Nat) (l:Nat->Nat->Nat) (cs srow os:List (Option Nat)) (as rs:List Nat),vs=[.ref R.A,.ref so]->F2 a H0 R r w n M N l cs srow->t_ a H0 H R (N+M) os as->H so=some (.lst (rowV rs))->((∀k∈rs,k < N+M))->(∀H' ms,t_ a H0 H' R (N+M) os as->(∀b o,b≠a.t38->H b=some o->H' b=some o)->ms.Perm ((r_ (N+M)).filter (FB cs as))->ms.Pairwise (IE (LV cs))->(∀D j,vU r w M N l (knO os) rs ms j->H D=none->H' D=some (.lst (rowV (ms.take j)))->Q (.ref D) H')/\(vV r w M N l (knO os) rs ms->Q .non H'))->vW a vs H Q E_3
theorem iF (T:θ) (B:η7):x_ P wo K mg base 10 a.f39 ["self", "some"] (vW a):=by
 refine T.x39.F.okA (k:=9) Nj ι
 ·obtain⟨H0,R,so,r,w,n,M,N,l,cs,Y,os,as,rs,rfl,I,J,an,a6,q⟩:=h
  show 12
  show 24
  have a7:so≠a.t38:=by
   show 387;exact bo an hp δ6
  show 0
  exists xc (ar (i:=2) Nj.nd rfl 0e2 (aW ο ϋ T.x38.me (qz T B) hr.u T.x38.b .nil aj))
  exists xc (ar (i:=3) Nj.nd rfl 0e2 ξb)
  exists xc (ar (i:=4) Nj.nd rfl 0e2 δW)
  show 1;refine xw Ϙ (bS (aX (aH (iD T) hr.u rfl T.x30.m T.x30.k T.x30.b .nil aj (aa ϟ (aa ϐ γ8))))) ?_;show 1;refine xi (am bx Ψv ζo υ) ?_
  show 28
  show 3
  exists xc (ar (i:=5) Nj.nd rfl 0e2 (aD ax Ψ Ψv γ6))
  exists xc (cA dz (cH ϐ γ2 bU))
  exists xl (aE (cF JX JV JU bi γv Γa))
  show 5
  exists xl ψR
  refine #[_,rfl,R.A,dx,_,rfl,J.sm _ _ hA,rfl,H0,R,r,w,n,M,N,l,cs,Y,os,as,rfl,I,J,λD1 H1 ms J1 k1 bm a1 pm pw=>?_]
  have q:=λH' (s:a_ H1 H')=>q H' ms (J1.same s) (λb o hb e=>s b o (k1 b o hb e)) pm pw
  have a3:=k1 _ _ a7 an
  have ml:ms.length<=8:=by
   rw[πa]
   show 388;omega
  have a8:∀k∈ms,k < N+M:=λk hk=>GG.mp (G1.mp (pm.mem_iff.mp hk)).1;refine #[_,rfl,R.A,dx,_,rfl,J1.sm _ _ hA,rfl,H0,R,r,w,n,M,N,l,cs,Y,os,as,rfl,I,J1,λD2 H2 s2 a5 aw=>?_];refine #[GO _,λD3 aT=>?_]
  have U:D2≠D3:=aq aw aT
  have G:H1 D3=none:=s2.free aT
  have a9:∀D,H1 D=none->H D=none:=λD e=>by
   cases z:H D with
   | none=>rfl
   | some o =>
    by_cases y:D=a.t38
    ·obtain⟨ps,hp,_⟩:=J1.tab
     rw[y,hp] at e;cases e
    ·rw[k1 D o y z] at e;cases e
  have a0:97e7 D3=some (.lst (rowV (ms.take 0))):=ac
  have Z:97e7 D2=some (.lst (HG (IW ϑ (ms.take 0)))):=by rw[ae U];exact aw
  have s3:a_ H1 97e7:=s2.up G;generalize (upd H2 D3 (.lst []))=H3 at a0 Z s3
  refine⟨λm σ H'=>∃(j:Nat) (v5:ζ2),m=ms.length - j/\j<=ms.length/\σ=[some ε2,some θc,some (.ref D1),some (.ref D2),some (.ref D3),v5]/\a_ H1 H'/\H' D2=some (.lst (HG (IW ϑ ιU)))/\H' D3=some ϊM/\∀i,i < j->rs.all (fx r w M N l (IW ϑ (ms.take i)))=τ,
   ⟨_,0,none,rfl,GO _,rfl,s3,Z,a0,λi hi=>absurd hi (JW i)⟩,?_⟩
  rintro m σ H' ⟨j,v5,rfl,hj,rfl,sm,h2,h3,ad⟩
  have J':=J1.same sm;refine #[_,rfl,R.A,_,_,_,_,rfl,J'.sm _ _ hA,ϋ,ζj,cL _ _ _ _ _,_,rfl,_,rfl,?_];refine #[R.c,R.bp,R.fp,D2,so,r,w,n,M,N,l,IW ϑ ιU,rs,rfl,I.code.same J'.sm,ζn,I.W,h2,by rw[qA,cQ,ε5],c_.of (sm _ _ a3),a6,λH4 s4=>?_]
  show 26
  have g:=sm.trans s4
  cases hz:rs.all (fx r w M N l (IW (knO os) (ms.take j))) with
  | true =>
   show 59
   exact #[_,rfl,(q H4 g).1 D3 j #[hj,hz,ad] (a9 D3 G) (s4 _ _ h3)]
  | false =>
   refine b_ Ωc ε8;refine #[_,rfl,D3,_,rfl,.inl ύ3,_,rfl,D1,_,rfl,.inl (c_.of (g _ _ a1)),rfl,_,rfl,?_]
   have e1:(rowV ιU).length=j:=by rw[az,Kx];omega
   rw[e1,az]
   by_cases hjm:j=ms.length
   ·refine b_ ν (λy=>absurd (decide_eq_true (by rw[hjm])) y)
    refine(q H4 g).2 λi hi=>?_
    by_cases y:i=j
    ·rw[y];exact hz
    ·exact ad i γ
   ·refine b_ ΘK ν
    have O:j < ms.length:=by omega
    have gk:ms[j]?=some ms[j]:=s_ O
    have hk:=a8 _ (IV O)
    have ek:(rowV ms)[j]?=some (.int (ms[j]:Nat)):=oW O;refine #[_,rfl,_,rfl,D3,_,rfl,.inl ύ3,?_];rw[e1];refine #[D1,_,_,_,rfl,rfl,c_.of (g _ _ a1),aB ek,?_];refine #[_,rfl,_,rfl,D2,_,_,ms[j],rfl,rfl,s4 _ _ h2,cz (by unfold HG;rw[o_,qA,cQ,ε5];exact hk),?_]
    rw[DR,← Cu,← i6 gk]
    have a2:(upd H4 D2 (.lst (HG (IW ϑ (ms.take (j+1)))))) D3=some 165e0:=by
     rw[ae (F5 U)];exact s4 _ _ h3
    have a4:(rowV ιU).length < sizeLine:=by
     rw[e1];exact GU (by omega:j < 8) ζ
    refine #[_,rfl,.inl #[rfl,_,c_.of a2],_,rfl,D3,_,_,rfl,rfl,a2,a4,?_];rw[iZ,← i6 gk];refine #[ms.length - (j+1),by omega,j+1,_,rfl,O,rfl,(g.up a5).up G,?_,ac,λi hi=>?_]
    ·rw[ae U];exact ac
    ·by_cases y:i=j
     ·rw[y];exact hz
     ·exact ad i γ
theorem F2.ext {R:FQ} (I:ξH) (nD:H0 D=none) (h1:R.rl≠D) (h2:R.sl≠D) (h3:R.z≠D) (h4:a.t38≠D):F2 a πc R r w n M N l cs srow:=by
 have s:=a_.new (o:=o) nD;show 389
theorem t_.ext {R:FQ} (J:ηP) (hD:ωe):t_ a πc H R n os as :=
 ⟨λb u e=>by
  by_cases z:b=D
  ·rw[z,ac] at e
   cases e;rw[z];exact hD
  ·rw[ae z] at e
   exact J.sm b u e,J.hr,J.hs,J.hz,ιO,ε5,J.nd,J.lt⟩
theorem t_.rebs {H0':Hp}{R:FQ} (J:t_ a H0' H R n os as) (s:a_ H0 H0'):t_ a H0 H R n os as:=#[s.trans J.sm,J.hr,J.hs,J.hz,ιO,ε5,J.nd,J.lt]
theorem t_.away {R:FQ} (J:ηP) (nD:πU):R.rl≠D/\R.sl≠D/\R.z≠D/\a.t38≠D:=by
 show 387;exact #[aq J.hr nD,aq J.hs nD,J.hz.elim λ_ e=>aq e.1 nD,aq hp nD]
theorem Cv {R:Nat}{X:η}{k:Nat} (hl:os.length=R) (hs:c5 R srow X) (ho:c5 R os X) (hk:k < R):c5 R (tk cs srow os as k).1 X:=by
 unfold tk
 split
 ·intro j hj b hb
  by_cases z:j=k
  ·subst z
   rw[v_,LK γ] at hb
   exact hs j hj b hb
  ·rw[v_,LG θj,← v_] at hb
   exact ho j hj b hb
 ·exact ho
theorem EK {k:Nat}:(tk cs srow os as k).1.length=os.length:=by
 unfold tk
 split
 ·exact JJ
 ·rfl
theorem yI {k:Nat} (h:ψ5):(tk cs srow os as k).2.length=as.length+1:=by
 unfold tk;rw[if_pos h];exact Hr
theorem Dc {k:Nat}:as.length<=(tk cs srow os as k).2.length:=by
 unfold tk
 split
 ·rw[Hr];exact MS _ _
 ·show 38
theorem oB {R:Nat}{cs srow:ϝ}{X:η} (hs:c5 R srow X):∀(ks:η) (os:ϝ) (as:η),ρm=R->(∀k∈ks,k < R)->c5 R os X->c5 R (cb cs srow ks os as).1 X
 | [],_,_,_,_,h=>h
 | k :: ks,os,as,hl,hk,h=>by
  have h1:=Cv (cs:=cs) (as:=as) hl hs h ώL;unfold cb
  split
  ·exact oB hs ks _ _ (by rw[EK,hl]) ΩK h1
  ·exact h1
theorem vX {cs srow:ϝ}:∀(ks:η) (os:ϝ) (as:η),as.length<=(cb cs srow ks os as).2.length
 | [],_,_=>B_ _
 | k :: ks,os,as=>by
  unfold cb
  split
  ·exact FG Dc (vX ks _ _)
  ·exact Dc
theorem zI {k:Nat}{ks:η} (h:ψ5):as.length+1<=(cb cs srow (k :: ks) os as).2.length:=by
 unfold cb
 split
 ·rw[<- yI (srow:=srow) (os:=os) h]
  exact vX ks _ _
 ·rw[yI h]
  show 38
theorem Bs {F:ζC}{G:Prop} (Pz:ζC) (h:όF) (key:ϐn):G:=h key
theorem cR {l:Addr}{f:Nat->V}{k:Nat}{cs:θp} (hl:ύ2) (hD:γz) (hk:γU) (hn:rs.length<=1000)
  (he:∀x H (R:γj),x∈rs->a_ H1 H->ΩU->te υg H R)
  (hQ:∀H,a_ H1 H->H D=some (.lst (rs.map f))->Q H):bA (Lg K l) δn bE te δk H1 D Q:=by
 refine cB (xs:=rowV rs) (f:=λi=>f μW) hl hD hk (by rw[az];exact FG hn ζ) (λi u H R hu sm hR=>?_) ϋ4
 ·obtain⟨x,ex,rfl⟩:=br hu
  have eg:rs.getD i 0=x:=by rw[v_,ex];rfl
  rw[eg] at hR;exact he x H R (Gi ex) sm hR
 ·rw[h,az]
  refine congrArg ϋ5 ?_
  apply JY
  intro i;rw[FM,FM]
  by_cases hi:i < rs.length
  ·rw[Ib hi,s_ hi,Ks,v_,s_ hi]
   rfl
  ·rw[Hj δw,Hj γ]
   rfl
def Gp (l:ϕ) (t k:Nat):Bool:=decide (l t k≠0)
def bh (nk:η) (nb:ϣ):List (Key × V):=nk.map λk=>(Sum.inl ((k:Nat):Int),V.int ((nb k:Nat):Int))
def l_ (N:Nat) (nk:η):List Nat:=(r_ N).filter λk=>nk.contains k
variable {nk:List Nat}
theorem bV {k:Nat} (lt:ιb):k∈l_ N nk ↔ k∈nk:=by
 unfold l_;rw[G1,GG,K9];exact #[λh=>h.2,λh=>#[lt k h,h]]
theorem du:(l_ N nk).length<=N:=by
 have:=JG (λk=>nk.contains k) (r_ N)
 rwa [Gf] at this
theorem eQ (nk:η) (nb:ϣ):(bh nk nb).map (·.1)=(nk.map λk=>((k:Nat):Int)).map Sum.inl:=by
 unfold bh;show 158
theorem dv (nd:nk.Nodup) (lt:ιb) {ns:γq} (p:ns.Perm (nk.map λk=>((k:Nat):Int))) (s:ns.Pairwise λx y=>x<=y):ns.map V.int=rowV 13e8:=by
 have e:ns=(l_ N nk).map λk=>((k:Nat):Int):=by
  refine Qu (le:=λx y=>x<=y) ΩC s ?_ (p.trans (SX _ ?_))
  ·rw[Rf]
   exact(Ll _ OE).imp λh=>by omega
  ·refine(Rg nd πG).mpr λk=>?_
   exact(bV lt).symm
 rw[e];show 43
theorem dw (nk:η) (nb:ϣ) (k:Nat):G3 (bh nk nb) ϋo=if k∈nk then some (.int ((nb k:Nat):Int)) else none:=by
 unfold bh
 induction nk with
 | nil=>rfl
 | cons x nk ih =>
  rw[Ie]
  by_cases e:x=k
  ·subst e
   rw[hV rfl,if_pos Im]
  ·rw[hZ (λy=>e (by have:=Sum.inl.inj y;omega)),ih]
   show 112
   ·rw[if_pos m,if_pos (Hl _ m)]
   ·rw[if_neg m,if_neg (λy=>by rcases FC.mp y with y | y;exact e y.symm;exact m y)]
inductive tJ (a:q_) (vs:δ) (H:Hp) (Q:VK) (E_3:XK):Prop
 | mk:∀(c bp fp:Addr) (r w n M N t k:Nat) (l:Nat->Nat->Nat),vs=[.ref c,.int t,.int k]->Fz a H c bp fp r w n M N l->t < M->k < N->Q (.bl (Gp l t k)) H->tJ a vs H Q E_3
theorem i7 (T:θ):x_ P wo K mg base 1 a.f29 ["self", "total", "role"] (tJ a):=by
 refine T.x29.F.okA (k:=0) pV ι
 ·obtain⟨c,bp,fp,r,w,n,M,N,t,k,l,rfl,hC,ht,hk,q⟩:=h
  show 108
  show 0
  show 378
  show 4
  show 3;show 379
  show 4
  show 3
  exists xl (aA (bT c4 (aD ax ιS Ψ γ6) ai υ))
  show 22
  refine #[_,rfl,_,rfl,c,_,_,_,_,rfl,h1,ϖ,T.A58,yv bp M N Lp,_,_,rfl,rfl,_,rfl,?_];show 173
  show 22
  refine #[_,rfl,_,rfl,c,_,_,_,_,rfl,h1,ϖ,ζa,ee bp M N Lp,_,_,rfl,rfl,_,rfl,?_];show 173
  obtain⟨p,ep,hp⟩:=h3.get ht
  have gi:=aB τk
  rw[bB (by omega:νs),show eqn N l t k=l t k by unfold eqn;rw[if_pos hk]] at gi
  refine #[_,rfl,c,_,_,_,_,rfl,h1,ϖ,T.A47,jY bp M N Lp,_,rfl,Lp,_,_,_,rfl,rfl,c_.of h2,aB γD,_,rfl,p,_,_,_,rfl,rfl,c_.of hp,gi,rfl,?_]
  have ed:(!decide (V.int ((l t k:Nat):Int)=V.int 0))=Gp l t k:=by
   unfold Gp
   by_cases x:l t k=0
   ·rw[x];rfl
   ·show 390
  rw[ed];exact q
inductive tK (K:m_) (a:q_) (vs:δ) (H:Hp) (Q:VK) (E_3:XK):Prop
 | mk:∀(c bp fp tl:Addr) (r w n M N k:Nat) (l:Nat->Nat->Nat) (ts:List Nat),vs=[.ref c,.ref tl,.int k]->Fz a H c bp fp r w n M N l->c_ K H tl (rowV ts)->ts.length<=8->((∀t∈ts,t < M))->k < N->(∀H',a_ H H'->Q (.bl (ts.any λt=>Gp l t k)) H')->tK K a vs H Q E_3
theorem qB (T:θ):x_ P wo K mg base 2 a.f43 ["code", "totals", "role"] (tK K a):=by
 refine T.x43.F.okA (k:=1) zy ι
 ·obtain⟨c,bp,fp,tl,r,w,n,M,N,k,l,ts,rfl,hC,g,h8,j,hk,q⟩:=h
  show 0
  exists xl (aA (aF (sr rfl) rfl T.A71 ρ1 (aa (bc (i_.of (cap:=[2,0]) (own:=["total"]) γc) rfl 23e6 δu γ3 (λ_ _ _ _ _=>by exact(ao ω ϖ T.x29.me (i7 T) hr.u T.x29.b .nil aj ξO))) ab)))
  refine #[_,rfl,tl,rfl,#[_,g],λD nD=>?_];refine cR (f:=λt=>.bl (Gp l t k)) (cs:=[some μQ,some γw]) g nD rfl 0e0 υo ηR
  ·obtain⟨dx,Lp,qs,h1,h2,h3⟩:=id δc
   exact #[_,rfl,c,dx,_,rfl,sx _ _ h1,rfl,_,rfl,_,rfl,c,bp,fp,r,w,n,M,N,t,k,l,rfl,hC.same sx,j t ht,hk,hR _ ϡ]
  ·refine #[D,ts.map λt=>Gp l t k,rfl,c_.of (by rw[hD,GB];rfl),?_]
   rw[T9];exact q H2 s2
def Gx (M N:Nat) (l:ϕ) (cs:ϝ) (rs:η):List Nat:=((r_ M).filter λt=>(cs.getD (N+t) none).isSome).filter λt=>rs.any Γ0
def bL (N:Nat) (l:ϕ) (ts nk:η):List Nat:=(r_ N).filter λk=>!nk.contains k && ts.any λt=>Gp l t k
def GC (N:Nat) (l:ϕ) (ts rs:η):List Nat:=(rs.filter λk=>ts.any λt=>Gp l t k)++ts.map λt=>N+t
theorem mB {t:Nat} (h:t∈Gx M N l cs rs):t < M:=GG.mp (G1.mp (G1.mp h).1).1
theorem Cw:(Gx M N l cs rs).length<=M:=by
 have h1:=JG (λt=>rs.any Γ0) ΞQ
 have h2:=JG Ψm (r_ M);rw[Gf] at h2;exact FG h1 h2
inductive Bt (a:q_) (vs:δ) (H:Hp) (Q:VK) (E_3:XK):Prop
 | mk:∀(H0:Hp) (R:FQ) (nd:Addr) (r w n M N:Nat) (l:Nat->Nat->Nat) (cs srow os:List (Option Nat)) (as nk:List Nat) (nb:Nat->Nat),vs=[.ref R.A,.ref nd]->F2 a H0 R r w n M N l cs srow->t_ a H0 H R (N+M) os as->H nd=some (.dK (bh nk nb))->nk.Nodup->((∀k∈nk,k < N))->(∀D H',a_ H H'->H D=none->H' D=some (.lst (rowV (Gx M N l cs (l_ N nk))))->Q (.ref D) H')->Bt a vs H Q E_3
theorem pc (T:θ):x_ P wo K mg base 2 a.f44 ["asking", "news"] (Bt a):=by
 refine T.x44.F.okA (k:=1) Pe ι
 ·obtain⟨H0,R,nd,r,w,n,M,N,l,cs,an,os,as,nk,nb,rfl,I,J,Y,G,j,q⟩:=h
  show 12
  show 45
  show 111
  show 24
  show 0
  exists xc (ar (i:=2) Pe.nd rfl 15e3 ϟ)
  exists xc (cK (i:=3) Pe.nd rfl 0e2 (i_.of (cap:=[0,2]) (own:=["total"]) γc) rfl (ba rfl T.A06 υC) δu (λ_ _ _ _ _=>(cY (am cg (aD νC υn (ay aU ΓE Ψ) γ6) aL υ))) ξD)
  exists xl (aA (B5 (GK.of (cap:=[2,1]) (y:="total") γc) rfl (aP ϐ) (λ_ _ _ _ _=>(au (i:=2) (of_decide_eq_true γc) rfl 15e3 (Or.inl (beq_self_eq_true _)))) (λ_ _ _ _ _=>by exact(cY (aX (aF (zt (K:=K) rfl rfl) rfl T.A71 ρ1 (aa (bc Ξw rfl (Cf (K:=K) rfl Γy) δu γ3 (λ_ _ _ _ _=>by exact(ao ω ϖ T.x29.me (i7 T) hr.u T.x29.b .nil aj υm))) ab))))) ξD))
  refine τl;refine #[_,rfl,R.c,_,_,_,_,rfl,hc,ϖ,T.A58,yv R.bp M N Lp,_,rfl,by omega,by omega,λtl ad=>?_]
  rw[G5];refine dM (n:=M) (f:=λk=>.int ((k:Nat):Int)) (b:=λt=>(cs.getD (N+t) none).isSome) (cs:=[some ε2,some ν5]) ad rfl 154e8 (λt H2 R2 ht s2 hR=>?_) (λt H2 R2 ht hb s2 hR=>ζN) χH
  ·have gi:=aB (bP (cX (os:=cs) (k:=N+t) ό8))
   refine #[_,rfl,R.A,_,_,_,_,rfl,s2 _ _ hA,ϋ,ζG,dj _ _ _ _ _,_,rfl,R.c,_,_,_,_,rfl,s2 _ _ hc,ϖ,ζa,ee R.bp M N Lp,_,rfl,_,_,rfl,rfl,R.cl,_,_,_,rfl,congrArg δp (show (N:Int)+(t:Int)=((N+t:Nat):Int) by omega),c_.of ((J.sm.trans s2) _ _ I.cost),gi,rfl,_,rfl,?_]
   show 383
  have g:H2 tl=some (.lst (rowV ΞQ)):=g
  have aw:((r_ M).filter λt=>(cs.getD (N+t) none).isSome).length<=M:=by
   have:=JG Ψm (r_ M)
   rwa [Gf] at this
  refine #[_,rfl,tl,rfl,ψ6,λD nD=>?_];refine gN (rs:=(r_ M).filter λt=>(cs.getD (N+t) none).isSome) (b:=λt=>(l_ N nk).any Γ0) (cs:=[some ν5,some ζA]) νg nD rfl (FG (by omega:_<=8) ζ) υo (λt Hx Rx ht _ sx hR=>ζN) (λH3 s3 hD=>?_)
  ·have U:=GG.mp (G1.mp ht).1
   have sx:=s2.trans sx
   have nl:nk.length<=8:=FG (bR N nk G j) γ
   refine #[_,rfl,nd,_,nk.map λk=>((k:Nat):Int),rfl,sx _ _ Y,eQ nk nb,by rw[o_];omega,λL ns nL pm pw=>?_]
   rw[dv G j pm pw]
   show 391
   have hL:=ac (H:=Hx) (a:=L) (o:=.lst εx);generalize (upd Hx L (.lst (rowV (l_ N nk))))=Hy at sL hL;refine #[L,rfl,ιa,λD2 O=>?_];refine cR (f:=λk=>.bl (Gp l t k)) (cs:=[some (.int (t:Nat)),some ν5]) ηA O rfl 182e7 (λk Hz Rz hk sz hR=>?_) (λH4 s4 Z=>?_)
   ·have sz:=(sx.trans sL).trans sz
    exact #[_,rfl,R.c,dc,_,rfl,sz _ _ hc,rfl,_,rfl,_,rfl,R.c,R.bp,R.fp,r,w,n,M,N,t,k,l,rfl,hC.same sz,U,j k ((bV j).mp hk),hR _ ϡ]
   ·refine #[D2,(l_ N nk).map λk=>Gp l t k,rfl,c_.of (by rw[Z,GB];rfl),_,rfl,?_]
    rw[T9];exact hR _ (sL.trans s4)
  ·exact q D H3 ψu (s2.free nD) hD
inductive vY (K:m_) (a:q_) (vs:δ) (H:Hp) (Q:VK) (E_3:XK):Prop
 | mk:∀(c bp fp tl nd:Addr) (r w n M N:Nat) (l:Nat->Nat->Nat) (ts nk:List Nat) (nb:Nat->Nat),vs=[.ref c,.ref tl,.ref nd]->Fz a H c bp fp r w n M N l->N<=8->c_ K H tl (rowV ts)->ts.length<=8->((∀t∈ts,t < M))->H nd=some (.dK (bh nk nb))->(∀D H',a_ H H'->H D=none->H' D=some (.lst (rowV (bL N l ts nk)))->Q (.ref D) H')->vY K a vs H Q E_3
theorem zJ (T:θ):x_ P wo K mg base 3 a.f45 ["code", "totals", "news"] (vY K a):=by
 refine T.x45.F.okA (k:=2) zz ι
 ·obtain⟨c,bp,fp,tl,nd,r,w,n,M,N,l,ts,nk,nb,rfl,hC,n8,G,h8,g,j,q⟩:=h
  show 392
  show 0
  exists xl (aA (bc (i_.of (cap:=[2,0,1]) (own:=["role"]) γc) rfl 63e4 ΔP (λ_ _ _ _ _=>(cY (PW.pt (jl (uu (sj εv ϐ ο)) (gQ (aX (aH (qB T) hr.u rfl T.x43.m T.x43.k T.x43.b .nil aj ξp))))))) (λ_ _ _ _ _=>by exact ϐ)))
  refine #[_,rfl,c,_,_,_,_,rfl,hc,ϖ,ζa,ee bp M N Lp,_,rfl,by omega,by omega,λD nD=>?_]
  rw[G5];refine dM (n:=N) (f:=λk=>.int ((k:Nat):Int)) (b:=λk=>!nk.contains k && ts.any λt=>Gp l t k) (cs:=[some ζA,some γw,some πH]) nD rfl 70e3 μz τr (λH2 s2 hD=>q D H2 s2 nD hD)
  refine #[_,rfl,_,rfl,nd,_,rfl,GV.k (k:=Sum.inl ((k:Nat):Int)) (s2 _ _ j),_,rfl,?_];rw[dw]
  show 112
  ·rw[if_pos m]
   rw[show nk.contains k=true from K9.mpr m] at hR;exact b_ (λy=>absurd y ηx) (λ_=>hR _ (a_.refl _))
  ·rw[if_neg m]
   rw[show nk.contains k=false from by
    cases e:nk.contains k with
    | false=>rfl
    | true=>exact absurd ωD m] at hR
   show 30;exact #[_,rfl,_,rfl,_,rfl,c,bp,fp,tl,r,w,n,M,N,k,l,ts,rfl,hC.same s2,s2.seq G,h8,g,hk,λH' s'=>χq]
inductive qC (a:q_) (vs:δ) (H:Hp) (Q:VK) (E_3:XK):Prop
 | mk:∀(c bp fp tl nd:Addr) (r w n M N:Nat) (l:Nat->Nat->Nat) (ts nk:List Nat) (nb:Nat->Nat),vs=[.ref c,.ref tl,.ref nd]->Fz a H c bp fp r w n M N l->N<=8->H tl=some (.lst (rowV ts))->ts.length<=8->((∀t∈ts,t < M))->H nd=some (.dK (bh nk nb))->nk.Nodup->((∀k∈nk,k < N))->(∀D H',a_ H H'->H D=none->H' D=some (.lst (rowV (GC N l ts (l_ N nk))))->Q (.ref D) H')->qC a vs H Q E_3
theorem vZ (T:θ):x_ P wo K mg base 3 a.f46 ["code", "totals", "news"] (qC a):=by
 refine T.x46.F.okA (k:=2) vc ι
 ·obtain⟨c,bp,fp,tl,nd,r,w,n,M,N,l,ts,nk,nb,rfl,hC,n8,j,h8,R,U,O,g,q⟩:=h
  show 392
  have nl:nk.length<=8:=FG (bR N nk O g) n8
  show 0
  exists xl (aA (ay Ao (bc Ξt rfl (aP (aF (de rfl) rfl T.A32 Mz γt)) δu (λ_ _ _ _ _=>(cY (aX (aH (qB T) hr.u rfl T.x43.m T.x43.k T.x43.b .nil aj (aa ο ζc))))) ξD) (bc (i_.of (cap:=[0]) (own:=["total"]) γc) rfl 23e6 ε9 γ3 (λ_ _ _ _ _=>by exact(ay aU υn ω)))))
  refine #[_,rfl,nd,_,nk.map λk=>((k:Nat):Int),rfl,U,eQ nk nb,by rw[o_];omega,λL ns nL pm pw=>?_]
  rw[dv O g pm pw]
  show 391
  have hL:=ac (H:=H) (a:=L) (o:=.lst εx);generalize (upd H L (.lst (rowV (l_ N nk))))=H1 at sL hL;refine #[L,rfl,ιa,λD nD=>?_];refine gN (rs:=l_ N nk) (b:=λk=>ts.any λt=>Gp l t k) (cs:=[some γw,some πH]) ηA nD rfl (FG du οv) μB (λk Hx Rx hk _ sx hR=>ζN) ηR
  ·have sx:=sL.trans sx
   exact #[_,rfl,_,rfl,_,rfl,c,bp,fp,tl,r,w,n,M,N,k,l,ts,rfl,hC.same sx,c_.of (sx _ _ j),h8,R,g k ((bV g).mp hk),λH' s'=>χq]
  have J:=sL.trans s2;refine #[_,rfl,tl,rfl,#[_,c_.of (J _ _ j)],λD2 Y=>?_];refine cR (f:=λt=>.int ((N+t:Nat):Int)) (cs:=[some γw]) (c_.of (J _ _ j)) Y rfl 0e0 υo ώ8
  ·refine #[_,rfl,c,_,_,_,_,rfl,(J.trans sx) _ _ hc,ϖ,ζa,ee bp M N Lp,_,rfl,_,_,rfl,rfl,?_]
   have e:V.int ((N:Int)+(t:Int))=V.int ((N+t:Nat):Int):=congrArg δp γ
   rw[<- e] at hR;show 54
  have G:H3 D2=some (.lst (rowV (ts.map λt=>N+t))):=by rw[G];show 43
  refine #[D,D2,_,_,rfl,rfl,s3 _ _ hD,G,?_,λp np=>?_]
  ·rw[az,az,o_]
   have:=JG Ωm δo
   have:=du (N:=N) (nk:=nk);exact FG (by omega:_<=16) ζ
  refine q p _ (((sL.trans s2).trans s3).up ?_) ?_ ?_
  ·show 393
  ·show 393
  ·rw[ac,jk]
   rfl
def IG {α:Type} (f:νt):List α->Option α
 | []=>none
 | x :: xs=>match IG f xs with
  | none=>some x
  | some y=>if f y < f x then some y else some x
theorem i9 {α:Type}{f:νt}{d:α}:∀{xs:ε3},0 < xs.length->∃i x,xs[i]?=some x/\IG f xs=some x/\GE ϋ7 γm i
 | [],h=>absurd h (Iu 0)
 | x :: xs,_=>by
  by_cases hx:0 < xs.length
  ·obtain⟨i,y,h1,h2,h3⟩:=i9 (f:=f) (d:=d) hx
   have ei:xs.getD i d=y:=by rw[v_,h1];rfl
   unfold IG;rw[h2];show 9
   by_cases z:f y < f x
   ·rw[if_pos z]
    refine #[i+1,y,h1,rfl,λj hj=>?_]
    cases j with
    | zero =>
     show f ρK<=f x/\_
     rw[ei];exact #[by omega,λ_=>by show f ρK < f x;rw[ei];exact z]
    | succ j =>
     have:=h3 j χo
     exact #[ξ5,λe=>this.2 γ]
   ·rw[if_neg z]
    refine ΘM
    cases j with
    | zero=>exact N3 _
    | succ j =>
     have:=(h3 j χo).1
     show f x<=f ϑS
     have h4:f ρK<=f 202e8:=this;rw[ei] at h4;omega
  ·have e:xs=[]:=Ss γ
   subst e;refine ΘM;obtain rfl:j=0:=by simpa using hj
   exact N3 _
theorem Bu {kf:γM} (hi:i < n) (hj:j < n) (h1:GE kf n i) (h2:GE kf n j):i=j:=by
 have a:=h1 j hj
 have b:=h2 i hi;rcases Nat.lt_trichotomy i j with z | z | z
 ·have:=b.2 z;omega
 ·exact z
 ·have:=a.2 z;omega
theorem yJ {α:Type}{f:νt}{d:α}{xs:ε3}{x:α} (h:ϑC) (l:GE ϋ7 γm i):IG f xs=some x:=by
 have hi:=(Gr.mp h).1;obtain⟨j,y,h1,h2,h3⟩:=i9 (f:=f) (d:=d) (xs:=xs) γ
 obtain rfl:=Bu hi (Gr.mp h1).1 l h3;rw[h] at h1;rw[h2,← h1]
theorem v8 {α:Type}{f:νt}{xs:ε3}{x:α} (h:IG f xs=some x):x∈xs:=by
 cases xs with
 | nil=>cases h
 | cons y ys =>
  show 394
  cases h2;exact Gi h1
theorem Bv {α:Type}{f:νt}{xs:ε3} (h:IG f xs=none):xs=[]:=by
 cases xs with
 | nil=>rfl
 | cons y ys =>
  show 394
  cases h2
section
variable (r w M N:Nat) (l:Nat->Nat->Nat) (cs:List (Option Nat)) (as:List Nat) (ks:List Bool) (ms:List Nat)
def JP (L:η):List Nat:=L.filter λk=>!fx r w M N l ks k
def bM (L:η):List 119e4:=if (JP r w M N l ks L).all ζl=true then [(j6 cs (JP r w M N l ks L),JP r w M N l ks L)] else []
def Ij (L:η):Option 61e1:=((r_ ψv).find? λj=>L.all ΓA).map λj=>ms.take j
def dU (L L':η):List 61e1:=(Ij r w M N l ks ms L).toList++(Ij r w M N l ks ms L').toList
def ja (L L':η):List 119e4:=bM r w M N l cs as ks L++bM r w M N l cs as ks L'++((IG (λd=>((d.length:Nat):Int)) (dU r w M N l ks ms L L')).toList.map λd=>(j6 cs d,d))
def gO (L L':η):Option 61e1:=(IG (λp=>p.1) (ja r w M N l cs as ks ms L L')).map (·.2)
end
variable {L:List Nat}
theorem yK {ms:η} (h:vU r w M N l ks L ms j):Ij r w M N l ks ms L=some 48e0:=by
 unfold Ij
 have:(r_ ψv).find? ΞW=some j:=by
  rw[List.find?_range_eq_some];exact #[h.2.1,GG.mpr (Nat.lt_succ_of_le h.1),λi hi=>by rw[h.2.2 i hi];rfl]
 show 62
theorem yL {ms:η} (h:vV r w M N l ks L ms):Ij r w M N l ks ms L=none:=by
 unfold Ij
 have:(r_ ψv).find? ΞW=none:=by
  rw[List.find?_eq_none];intro i hi;rw[h i (Nat.le_of_lt_succ (GG.mp hi))]
  decide
 show 62
theorem Cy {ck:γM}{m:Nat} (h1:IE ck m n) (h2:IE ck n m):m=n:=by
 unfold IE at h1 h2;omega
theorem Bw {ck:γM}{f:ιt}{R:Nat}{ms ms':η} (p1:ms.Perm ώ9) (w1:ms.Pairwise ιA) (p2:ms'.Perm ώ9) (w2:ms'.Pairwise ιA):ms'=ms:=Qu (le:=IE ck) (λ_ _ _ _ h1 h2=>Cy h1 h2) w2 w1 (p2.trans p1.symm)
variable {way:List Nat}
theorem v9 {ms:η} (h:Ij r w M N l ks ms L=some way):∃j,way=ms.take j:=by
 unfold Ij at h;rw[UB] at h;obtain⟨j,_,e⟩:=h;exact #[j,e.symm]
def bz (xs:Φ) (H:Hp):Hp:=λb=>if b∈xs then none else H b
theorem qD (xs:Φ) (H:Hp):a_ ωE H:=λb o e=>by
 unfold bz at e
 split at e
 ·cases e
 ·exact e
theorem dH {xs:Φ}{b:Addr} (h:b∈xs):bz xs H b=none:=by unfold bz;rw[if_pos h]
theorem b9 {xs:Φ}{b:Addr} (h:b∉xs):bz xs H b=H b:=by unfold bz;rw[if_neg h]
variable {G:Hp}
theorem zK {xs:Φ} (s:a_ G H) (h:∀x∈xs,G x=none):a_ G 114e6:=λb o e=>by
 rw[b9 (λz=>by rw[h b z] at e;cases e)]
 exact s b o e
theorem t_.up {a:q_}{H0 H:Hp}{R:FQ}{n:Nat}{os:ϝ}{as:η}{x:Addr}{xs:δ}{o:HO} (J:ηP) (n0:H0 x=none) (hx:οA) (h1:R.rl≠x) (h2:R.sl≠x) (h3:R.z≠x):t_ a H0 ζs R n os as :=
 #[J.sm.up n0,by rw[ae h1];exact J.hr,by rw[ae h2];exact J.hs,by rw[ae h3];exact J.hz,J.tab.up hx,ε5,J.nd,J.lt]
theorem Cz (R k:Nat):(FL R (none:ιo)).getD k none=none:=by
 rw[v_,LN]
 split <;> rfl
theorem Bx (R:Nat) (X:η):c5 R (FL R none) X:=λj _ b hb=>by
 rw[Cz] at hb
 cases hb
theorem Fy.kp {t':Addr}{p:Pos}{ps:γF} (h:ζv) (ne:t≠t') (ht:H t'=some εb) (k:∀b o,b≠t'->H b=some o->H' b=some o):Fy H' t p q:=by
 obtain⟨g,h1,h2⟩:=h;refine⟨g,k _ _ ne h1,?_⟩;rcases h2 with h2 | ⟨c',e,h2⟩
 ·show 36
 ·exact .inr #[c',e,k _ _ (bo h2 ht δ6) h2]
theorem Fy.hide {p:Pos}{xs:Φ} (h:ζv) (ht:t∉xs) (hx:∀x∈xs,(∃ys,H x=some γV)\/∃ps,H x=some εb):Fy ωE t p q:=by
 show 35;refine #[ps,by rw[b9 ht];exact h1,?_]
 rcases h2 with h2 | ⟨c',e,h2⟩
 ·show 36
 ·refine .inr #[c',e,?_]
  rw[b9 λz=>?_]
  ·exact h2
  ·rcases hx c' z with ⟨ys,y⟩ | ⟨ys,y⟩
   ·show 395
   ·show 395
def IJ:Pos:=#[147,25,147,43]
def qW:Str:="next_way" ++ Go ".<locals>." ++ Go "<lambda>"
def Kp (H H':Hp):Prop:=∀b o,(∀ps,o≠HO.tbl ps)->H b=some o->H' b=some o
theorem Kp.of (s:γN):Kp H H':=λb o _ e=>s b o e
theorem Kp.tab {ps:γF} (h:ύE) (k:Ψ0):Kp H H':=λb o n e=>k b o (bo e h (n _)) e
theorem eU:∀ps,HO.lst xs≠.tbl ps:=λ_ y=>by cases y
theorem wb:∀ps,HO.tup xs≠.tbl ps:=λ_ y=>by cases y
def GJ (Hb H:Hp) (W:Addr) (ws:υN):Prop:=∃ts:List Addr,H W=some μH/\ts.length=ws.length/\∀(i:Nat) (t:Addr) (cw:ϐo),ts[i]?=some t->ws[i]?=some cw->∃D,H t=some (.tup [.int cw.1,.ref D])/\H D=some (.lst (rowV cw.2))/\Hb D=none/\D≠W
variable {Hb:Hp}
theorem GJ.keep {W:Addr}{ws:υN} (h:GJ Hb H W ws) (k:ρb):GJ Hb H' W ws:=by
 show 396;refine #[ts,k _ _ eU h1,h2,λi t cw e1 e2=>?_];obtain⟨D,a1,a2,a3⟩:=h3 i t cw e1 e2;exact #[D,k _ _ wb a1,k _ _ eU a2,a3]
variable {c:Int}
theorem GJ.push {W:Addr}{ws:υN} (h:GJ Hb H W ws) (hp:H p=some (.tup [.int c,.ref D])) (hD:H D=some ώa) (hb:Hb D=none) (dW:D≠W):∃ts:List Addr,H W=some μH/\ts.length=ws.length/\GJ Hb (upd H W (.lst (ts.map V.ref++[.ref p]))) W (ws++[(c,way)]):=by
 show 396;refine #[ts,h1,h2,ts++[p],by rw[ac,HU];rfl,by rw[Hr,Hr,h2];rfl,λi t cw e1 e2=>?_]
 have ht:∀{t:Addr}{x y:V},H t=some (.tup [x,y])->t≠W:=λ{t x y} e=>bo e h1 ηx
 show 151
 ·rw[Ky hi] at e1
  rw[Ky γ] at e2
  obtain⟨D',a1,a2,a3,a4⟩:=h3 i t cw e1 e2;exact #[D',by rw[ae (ht a1)];exact a1,by rw[ae a4];exact a2,a3,a4]
 ·rw[Ld γ] at e1
  rw[Ld γ,← h2] at e2
  cases z:i - ts.length with
  | zero =>
   rw[z] at e1 e2
   cases FK e1
   cases FK e2;exact #[D,by rw[ae (ht hp)];exact hp,by rw[ae dW];exact hD,hb,dW]
  | succ m=>rw[z] at e1;cases e1
def JS (Hb H:Hp) (W:Addr) (v:V) (o:Option (List Nat)):Prop:=match o with
 | none=>v=.non
 | some way=>∃D,v=.ref D/\H D=some ώa/\Hb D=none/\D≠W
theorem JS.keep {W:Addr}{o:ώb} (h:JS Hb H W v o) (k:ρb):JS Hb H' W v o:=by
 cases o with
 | none=>exact h
 | some way =>
  obtain⟨D,a1,a2,a3⟩:=h;exact #[D,a1,k _ _ eU a2,a3]
theorem By {a:Addr}{b:ιt}{k:Nat}{tt:TT}{cs:θp} (hl:H1 a=some ε7) (hD:γz) (hk:γU) (hn:xs.length<=1000)
  (ht:∀i H (R:εW),i < xs.length->a_ H1 H->υa->tt ΩL H R)
  (he:∀i H (R:γj),i < xs.length->b i=true->a_ H1 H->(∀H4,a_ H H4->R ρH H4)->te ΩL H R)
  (hQ:∀H,a_ H1 H->H D=some (.lst (((r_ γm).filter b).map λi=>xs.getD i .non))->Q H):bA (MQ K a) δn tt te δk H1 D Q:=by
 have g:∀i,i < xs.length->xs[i]?=some 83e9:=λi hi=>by rw[v_,s_ hi];rfl
 refine jh (n:=γm) (src:=λi=>xs.getD i .non) hD hk (FG hn ζ) (λH sm=>#[_,Gn.of ψT,B_ _]) (λi H hi sm=>#[_,_,Gn.of ψT,g i hi]) μy ht he hQ
 obtain⟨e,y⟩:=y;exact #[FK ((y _ (Gn.of ψT)).symm.trans ωZ),e]
def EM (Hb H:Hp) (W:Addr) (as:Φ) (ds:List ξ1):Prop:=ωx=ds.length/\∀(i:Nat) (p:Addr) (d:η),as[i]?=some p->ds[i]?=some d->H p=some ϐp/\Hb p=none/\p≠W
theorem DS {W:Addr}{o1 o2:ώb} (h1:JS Hb H W v1 o1) (h2:JS Hb H W v2 o2):∃as:List Addr,(((r_ 2).filter λi=>!decide ϊu).map λi=>[v1,v2].getD i .non)=as.map V.ref/\EM Hb H W as (o1.toList++o2.toList):=by
 have n0:∀D,(!decide (V.ref D=γQ))=true:=λD=>by rw[decide_eq_false ηx];rfl
 cases o1 with
 | none =>
  have h1:v1=.non:=h1;subst h1
  cases o2 with
  | none =>
   show 397;exact #[[],rfl,rfl,λi p d e=>by simp at e]
  | some d2 =>
   show 398;refine #[[D2],?_,rfl,λi p d e1 e2=>?_]
   ·rfl
   ·match i,e1,e2 with
    | 0,e1,e2=>cases e1;cases e2;exact a2
    | i+1,e1,_=>cases e1
 | some d1 =>
  obtain⟨D1,rfl,a1⟩:=h1
  cases o2 with
  | none =>
   show 397;refine #[[D1],?_,rfl,λi p d e1 e2=>?_]
   ·rfl
   ·match i,e1,e2 with
    | 0,e1,e2=>cases e1;cases e2;exact a1
    | i+1,e1,_=>cases e1
  | some d2 =>
   show 398;refine #[[D1,D2],?_,rfl,λi p d e1 e2=>?_]
   ·rfl
   ·match i,e1,e2 with
    | 0,e1,e2=>cases e1;cases e2;exact a1
    | 1,e1,e2=>cases e1;cases e2;exact a2
    | i+2,e1,_=>cases e1
theorem Bz {F:V->Prop}{G:Prop} (Pz:V->Prop) (h:(∀v,Pz v->F v)->G) (key:∀v,Pz v->F v):G:=h key
theorem Fm {F:Option V->Hp->Prop}{G:Prop} (Pz:ζC) (h:(∀v H,Pz H->F v H)->G) (key:∀v H,Pz H->F v H):G:=h key
theorem t_.kpw {R:FQ}{ps:γF} (J:ηP) (ne:a.t38≠t) (n0:H0 t=none) (ht:ύE) (k:Ψ0):t_ a H0 H' R n os as :=
 #[λb o e=>k b o (λz=>by rw[z,n0] at e;cases e) (J.sm b o e),k _ _ (bo J.hr ht (λz=>by cases z)) J.hr,k _ _ (bo J.hs ht (λz=>by cases z)) J.hs,J.hz.imp λ_ e=>⟨k _ _ (bo e.1 ht (λz=>by cases z)) e.1,e.2⟩,J.tab.kp ne ht k,J.osl,J.nd,J.lt]
inductive BA (a:q_) (vs:δ) (H:Hp) (Q:VK) (E_3:XK):Prop
 | mk:∀(H0:Hp) (R:FQ) (RS CH:Addr) (r w n M N:Nat) (l:Nat->Nat->Nat) (cs srow os:List (Option Nat)) (as rest chg:List Nat),vs=[.ref R.A,.ref RS,.ref CH]->F2 a H0 R r w n M N l cs srow->t_ a H0 H R (N+M) os as->Fy H a.t47 IJ qW->H0 a.t47=none->H0 RS=some (.lst (rowV rest))->H0 CH=some (.lst (rowV chg))->rest.length<=8->((∀k∈rest,k < N+M))->chg.length<=8->((∀k∈chg,k < N+M))->((∀k,(cs.getD k none).getD 0<=1000000))->(∀H' ms,t_ a H0 H' R (N+M) os as->Fy H' a.t47 IJ qW->ms.Perm ((r_ (N+M)).filter (FB cs as))->ms.Pairwise (IE (LV cs))->(∀D way,gO r w M N l cs as (knO os) ms rest chg=some way->H D=none->H' D=some (.lst (rowV way))->Q (.ref D) H')/\(gO r w M N l cs as (knO os) ms rest chg=none->Q .non H'))->BA a vs H Q E_3
theorem wU (T:θ) (B:η7):x_ P wo K mg base 12 a.f47 ["asking", "rest", "change"] (BA a):=by
 refine T.x47.F.okA (k:=11) ML τU
 ·obtain⟨H0,R,RS,CH,r,w,n,M,N,l,cs,U,os,as,rest,g,rfl,I,J,TW,dA,b6,c0,r8,a5,c8,a9,ce,q⟩:=h
  show 12
  show 0
  exists xc (ar (i:=3) ML.nd rfl 0e2 δW)
  show 1;refine xf Ϙ rfl (zZ (bJ ζc)) (au (i:=4) ML.nd rfl ε) ?_
  exists xc (ar (i:=5) ML.nd rfl 0e2 (ao ο ϋ T.x42.me (qy T) hr.u T.x42.b .nil aj ζL))
  show 7;refine xi (am cg γ2 aL υ) ?_
  exists xl (aE (cF JX JV JU bi ϐ (aa (bJ (aa γ2 (aa (ao ο ϋ T.x41.me (gE T) hr.u T.x41.b .nil aj ζL) ab))) ab)))
  show 20
  exists xc (cK (i:=6) ML.nd rfl 0e2 (i_.of (cap:=[]) (own:=["way"]) γc) rfl (zZ (bJ (aa (ao ο ϋ T.x39.me (iF T B) hr.u T.x39.b .nil aj γ8) (aa (ao ο ϋ T.x39.me (iF T B) hr.u T.x39.b .nil aj γt) ab)))) θP (λ_ _ _ _ _=>(cY (am cg ο aL υ))) (λ_ _ _ _ _=>by exact ο))
  show 1;refine xi (am b7 (aF aG rfl T.A03 G0 νI) ai υ) ?_
  exists xc (ar (i:=7) ML.nd rfl 0e2 (AX rfl rfl T.A86 rfl T.A03 γX))
  exists xl (aE (cF JX JV JU bi ϐ (aa (bJ (aa (ao ο ϋ T.x37.me (fX T) hr.u T.x37.b .nil aj ηD) ηD)) ab)))
  show 44;refine xi (am bx Ψw ai υ) ?_
  show 28
  show 3
  exists xl (aA (aD cI (DJ (k:=0) (p:="way") (T.x47.F.tab B.Ac5 B.Ac2) rfl rfl hr.u rfl T.A86 ϐ τb γf ύC (λ_ _ _ _ _ _ hr=>Φl)) ai γ6))
  refine #[GO _,λW nW=>?_]
  have sW:=a_.new (o:=.lst []) nW
  have w0:GJ H (upd H W δr) W []:=#[[],ac,rfl,λi t cw e=>by simp at e]
  generalize (upd H W (.lst []))=H1 at sW w0;refine #[_,rfl,_,rfl,(show 2<=sizeLine by decide),λtp dl=>?_]
  have sT:=a_.new (o:=.tup [.ref RS,.ref CH]) dl
  have bt:=ac (H:=H1) (a:=tp) (o:=.tup [.ref RS,.ref CH])
  have w1:=w0.keep (Kp.of sT)
  have s1:=sW.trans sT;generalize (upd H1 tp (.tup [.ref RS,.ref CH]))=H2 at sT bt w1 s1;refine #[tp,rfl,#[_,Gn.of bt],?_];refine let I_:Nat->L2.St->Hp->Prop:=λi σ H'=>L2.A4 ((∃v4 v5:Option V,σ=[some ε2,some (.ref RS),some (.ref CH),some (.ref W),v4,v5,none,none])) εi (H' tp=some (.tup [.ref RS,.ref CH])) (GJ H H' W (([rest,g].take i).flatMap μv));Di (xs:=[.ref RS,.ref CH]) I_ #[ι5,s1,bt,w1] ?_ ?_ ?_
  ·rintro i σ H' _ ⟨_,_,h,_⟩
   exact Gn.of h
  ·rintro i x σ H' hx ⟨⟨v4,v5,rfl⟩,sm,ht,ww⟩
   obtain⟨LA,L,hL,L8,cc,rfl,eL⟩:∃LA L,H0 LA=some (.lst (rowV L))/\L.length<=8/\(∀k∈L,k < N+M)/\x=.ref LA/\[rest,g][i]?=some L:=by
    match i,hx with
    | 0,hx=>cases hx;exact⟨RS,rest,b6,r8,a5,rfl,rfl⟩
    | 1,hx=>cases hx;exact⟨CH,g,c0,c8,a9,rfl,rfl⟩
    | i+2,hx=>cases hx
   have J1:=J.same sm;refine #[_,rfl,R.A,dx,_,rfl,J1.sm _ _ hA,rfl,_,rfl,H0,R,LA,r,w,n,M,N,l,cs,U,os,as,L,rfl,I,J1,c_.of (J1.sm _ _ hL),L8,cc,ce,λH3 s3=>?_]
   have ef:([rest,g].take (i+1)).flatMap μv=([rest,g].take i).flatMap μv++bM r w M N l cs as ϑ L:=by
    rw[L5,eL,List.flatMap_append]
    simp
   have wl:(([rest,g].take i).flatMap μv).length<=2:=by
    have c1:∀L,(bM r w M N l cs as ϑ L).length<=1:=λL=>by
     unfold bM
     split
     ·show 38
     ·exact GO _
    have hi:=(Gr.mp eL).1
    match i,hi with
    | 0,_=>exact GO _
    | 1,_=>simpa using FG (c1 rest) ζ
   have b3:=sm.trans s3
   have J3:=J1.same s3
   have w3:=ww.keep (Kp.of s3);unfold vS
   cases hz:(L.filter λk=>!fx r w M N l (knO os) k).all (FB cs as) with
   | false =>
    show 144
    refine #[_,rfl,rfl,_,rfl,b_ εL ν]
    have e0:bM r w M N l cs as ϑ L=[]:=by unfold bM JP;rw[hz,if_neg ζ]
    exact #[εJ,b3,s3 _ _ ht,by rw[ef,e0,MZ];exact w3]
   | true =>
    show 25;refine #[_,rfl,rfl,_,rfl,b_ ν Θk]
    have e1:bM r w M N l cs as ϑ L=[(j6 cs (L.filter λk=>!fx r w M N l ϑ k),L.filter λk=>!fx r w M N l ϑ k)]:=by unfold bM JP;rw[hz,if_pos rfl]
    obtain⟨eh,b4,_⟩:=id w3;refine #[_,rfl,.inl #[rfl,_,c_.of b4],_,rfl,_,rfl,R.A,dx,_,rfl,J3.sm _ _ hA,rfl,_,rfl,H0,R,LA,r,w,n,M,N,l,cs,U,os,as,L,rfl,I,J3,c_.of (J3.sm _ _ hL),L8,cc,λD H4 s4 nD hD=>?_];refine #[(show 2<=sizeLine by decide),λp np=>?_]
    have s5:=a_.new (o:=.tup [.int ΞR,.ref D]) np
    have hp:=ac (H:=H4) (a:=p) (o:=.tup [.int ΞR,.ref D]);generalize (upd H4 p (.tup [.int (j6 cs (L.filter λk=>!fx r w M N l (knO os) k)),.ref D]))=H5 at s5 hp
    have a3:=s4.trans s5;obtain⟨ts,hW,hl,w6⟩:=(w3.keep (Kp.of a3)).push hp (s5 _ _ hD) (b3.free nD) (aq b4 nD).symm;refine #[W,_,_,rfl,rfl,hW,?_,εJ,(b3.trans a3).up nW,?_,by rw[ef,e1];exact w6]
    ·rw[o_,hl]
     exact KM wl ζ
    ·rw[ae (bo (a3 _ _ (s3 _ _ ht)) hW δ6)]
     exact a3 _ _ (s3 _ _ ht)
  ·rintro σ H' ⟨⟨v4,v5,rfl⟩,sm,_,ww⟩
   have J1:=J.same sm
   have cy:=TW.keep sm
   have ew:([rest,g].take [V.ref RS,V.ref CH].length).flatMap μv=bM r w M N l cs as ϑ rest++bM r w M N l cs as ϑ g:=by simp
   rw[ew] at ww;show 2
   refine #[_,rfl,R.A,dx,_,rfl,J1.sm _ _ hA,rfl,_,rfl,H0,R,RS,r,w,n,M,N,l,cs,U,os,as,rest,rfl,I,J1,J1.sm _ _ b6,a5,λHa ms Ja ka pm pw=>?_]
   have q:=λH' Jx Tx=>q H' ms Jx Tx pm pw;obtain⟨em,b0,_⟩:=id J1.tab
   have dV:=Kp.tab b0 ka
   have wa:=ww.keep dV
   have ck:∀{D:Addr},H' D=none->H D=none:=λ{D} e=>sm.free e
   have dB:=ww.choose_spec.1;obtain⟨en,ea,_⟩:=id cy
   have d4:=cy.kp (F5 B.A45) b0 ka
   refine Bz (λv=>JS H Ha W v (Ij r w M N l ϑ ms rest)) (λO=>by
    refine Ψa
    ·obtain⟨v,hv⟩:∃v,v=V.ref D:=ϊ
     rw[<- hv];exact O v (by rw[yK hd];exact #[D,hv,hD,ck nD,(aq dB nD).symm])
    ·exact O .non ύ4) ?_
   intro v1 a2;refine #[_,rfl,R.A,dx,_,rfl,Ja.sm _ _ hA,rfl,_,rfl,H0,R,CH,r,w,n,M,N,l,cs,U,os,as,g,rfl,I,Ja,Ja.sm _ _ c0,a9,λHc el Jc kc d0 dF=>?_]
   cases Bw pm pw d0 dF;obtain⟨ej,an,_⟩:=id Ja.tab
   have b5:=Kp.tab an kc
   have wc:=wa.keep b5
   have a2:=a2.keep b5
   have d8:∀{D:Addr},Ha D=none->H D=none:=λ{D} e=>by
    cases z:H' D with
    | none=>exact ck z
    | some o =>
     by_cases y:D=a.t38
     ·rw[y,an] at e;cases e
     ·rw[ka D o y z] at e;cases e
   have dt:=wa.choose_spec.1
   have dd:=d4.kp (F5 B.A45) an kc
   refine Bz (λv=>JS H Hc W v (Ij r w M N l ϑ ms g)) (λO=>by
    refine Ψa
    ·obtain⟨v,hv⟩:∃v,v=V.ref D:=ϊ
     rw[<- hv];exact O v (by rw[yK hd];exact #[D,hv,hD,d8 nD,(aq dt nD).symm])
    ·exact O .non ύ4) ?_
   intro v2 cr;obtain⟨Y,a6,aw⟩:=DS a2 cr;refine #[(show 2<=sizeLine by decide),λtq dW=>?_]
   have sq:=a_.new (o:=.tup [v1,v2]) dW
   have a8:=ac (H:=Hc) (a:=tq) (o:=.tup [v1,v2]);generalize (upd Hc tq (.tup [v1,v2]))=Hd at sq a8;refine #[tq,rfl,#[_,Gn.of a8],λDL dr=>?_];refine By (b:=λi=>!decide ϊu) (cs:=[]) a8 dr rfl (show 2<=1000 by decide) (λi Hx Rx hi sx hR=>#[_,rfl,rfl,_,rfl,hR _ ϡ]) (λi Hx Rx hi _ sx hR=>ζN) (λHe se a0=>?_)
   have a0:He DL=some (.lst (Y.map ϙ)):=by rw[a0,← a6];rfl
   have aT:=sq.trans se
   have We:=wc.keep (Kp.of aT)
   have Je:=Jc.same aT
   have cv:=dd.keep aT
   have ad:=aw.1
   have ch:∀(i:Nat) (p:Addr) (d:η),Y[i]?=some p->(dU r w M N l ϑ ms rest g)[i]?=some d->He p=some ϐp/\H p=none/\p≠W:=λi p d e1 e2=>by
    obtain⟨h1,h2⟩:=aw.2 i p d e1 e2;exact #[aT _ _ h1,h2]
   have ad:Y.length=(dU r w M N l ϑ ms rest g).length:=ad
   have db:∀d∈dU r w M N l ϑ ms rest g,∃j,d=ms.take j:=λd hd=>by
    unfold dU at hd;rcases Hi.mp hd with y | y
    ·exact v9 πI
    ·exact v9 πI
   have dc:(bM r w M N l cs as ϑ rest++bM r w M N l cs as ϑ g).length<=2:=by
    have c1:∀L,(bM r w M N l cs as ϑ L).length<=1:=λL=>by
     unfold bM
     split
     ·show 38
     ·exact GO _
    rw[Hr];exact Nat.add_le_add (c1 rest) (c1 g)
   clear a2 cr aw a6;show 2
   refine #[_,rfl,DL,_,rfl,.inl (c_.of a0),_,_,rfl,rfl,_,rfl,?_]
   refine Fm (λHf=>t_ a H0 Hf R (N+M) os as/\Fy Hf γZ IJ qW/\GJ H Hf W (ja r w M N l cs as ϑ ms rest g)) (λO=>by
    by_cases hz:0 < Y.length
    ·refine b_ ν (λy=>absurd (decide_eq_true ύF) y)
     refine #[_,rfl,DL,Y,λi=>((dU r w M N l ϑ ms rest g).getD i []).length,rfl,a0,hz,λi p hp=>?_,λi p Hm hp hl Z=>?_]
     ·have hi:i < (dU r w M N l ϑ ms rest g).length:=by rw[<- ad];exact(Gr.mp hp).1
      obtain⟨h1,_⟩:=ch i p _ hp ηg;exact #[_,h1,by rw[az];show _=((dU r w M N l ϑ ms rest g).getD i []).length;rw[v_,s_ hi];rfl]
     have hi:i < (dU r w M N l ϑ ms rest g).length:=by rw[<- ad];exact(Gr.mp hp).1
     obtain⟨d,ed⟩:∃d,(dU r w M N l (knO os) ms rest g)[i]?=some d:=#[_,s_ hi];obtain⟨h1,h2,h3⟩:=ch i p d hp ed;rw[ad] at hl
     have ep:=yJ (f:=λd:List Nat=>((d.length:Nat):Int)) (d:=[]) ed hl;obtain⟨jd,c3⟩:=db d (Gi ed)
     have Jm:=Je.same Z
     have Wm:=We.keep (Kp.of Z)
     have ml:ms.length<=8:=by
      rw[πa]
      show 388
      have:=I.W.n8;omega
     have ds:d.length<=8:=by rw[c3,Kx];omega
     have dk:∀k∈d,k < N+M/\(cs.getD k none).isSome=true/\(cs.getD k none).getD 0<=1000000:=λk hk=>by
      rw[c3] at hk
      have:=G1.mp ϋp
      have h2:=this.2;unfold FB at h2;exact #[GG.mp ξ5,(IU _ _ ▸ h2).1,ce k]
     obtain⟨eo,df,_⟩:=id Wm;refine #[_,rfl,.inl #[rfl,_,c_.of df],_,rfl,R.A,dx,_,rfl,Jm.sm _ _ hA,rfl,_,rfl,H0,R,p,r,w,n,M,N,l,cs,U,os,as,d,rfl,I,Jm,c_.of (Z _ _ h1),ds,dk,λHn sn=>?_];refine #[_,rfl,(show 2<=sizeLine by decide),λpt dy=>?_]
     have so:=a_.new (o:=.tup [.int ΘX,.ref p]) dy
     have c9:=ac (H:=Hn) (a:=pt) (o:=.tup [.int ΘX,.ref p]);generalize (upd Hn pt (.tup [.int ((d.map λk=>(((cs.getD k none).getD 0:Nat):Int)).sum),.ref p]))=Ho at so c9
     have a4:=sn.trans so;obtain⟨ts,hW,G,wp⟩:=(Wm.keep (Kp.of a4)).push c9 ((Z.trans a4) _ _ h1) h2 h3;refine #[W,_,_,rfl,rfl,hW,?_,?_]
     ·rw[o_,G]
      exact KM dc ζ
     have Jo:=(Jm.same a4).up (x:=W) (o:=.lst ϊN) (J.sm.free nW) hW (aq J.hr nW) (aq J.hs nW) (J.hz.elim λ_ e=>aq e.1 nW)
     have To:=(cv.keep (Z.trans a4)).up (o:=.lst ϊN) hW;generalize (upd Ho W (.lst (ts.map V.ref++[.ref pt])))=Hq at wp Jo To;show 2
     obtain⟨o,ho⟩:∃o:Option V,o=some (V.ref p):=ϊ;rw[<- ho];refine O o Hq #[Jo,To,?_];unfold ja;rw[ep];exact wp
    ·refine b_ (λy=>absurd ηv ύF) ν
     unfold yX;show 2
     have e0:dU r w M N l ϑ ms rest g=[]:=Ss γ
     refine O none He #[Je,cv,?_];unfold ja;rw[e0]
     simpa[IG] using We) ?_
   rintro v7 Hf ⟨Jf,a7,Wf⟩;obtain⟨ts,c2,G,bm⟩:=id Wf;refine #[_,rfl,W,_,rfl,.inl (c_.of c2),rfl,_,rfl,?_];rw[o_,G]
   cases hws:ja r w M N l cs as (knO os) ms rest g with
   | nil =>
    show 30;exact(q Hf Jf a7).2 (by unfold gO;rw[hws];rfl)
   | cons w0 ws0 =>
    refine b_ (λy=>absurd ΓB ύ9) ν
    rw[hws] at G bm;show 26;refine vL (q:=qW) (pos:=IJ) a7 λHg c' fa ek eg eb kg tg ng eq es er=>?_;obtain⟨ec,b1,_⟩:=id a7
    have a1:=Kp.tab b1 kg
    have Jg:=Jf.kpw B.A45 dA b1 kg
    have dq:=a1 _ _ eU c2;refine #[W,ts.map ϙ,λi=>((w0 :: ws0).getD i (0,[])).1,rfl,dq,by rw[o_,G];exact RO _,λi y Hh hy sh=>?_,λi y Hh hy hl sh=>?_]
    ·obtain⟨t,et,rfl⟩:=iM hy
     show 399
     obtain⟨D,h1,h2,h3,h4⟩:=bm i t _ et ηg
     have e:((w0 :: ws0).getD i (0,[])).1=(w0 :: ws0)[i].1:=by rw[v_,s_ hi];rfl
     rw[<- e] at h1;exact #[_,rfl,t,_,_,_,rfl,rfl,Gn.of ϋq,aB (j:=0) rfl,rfl,a_.refl _]
    ·obtain⟨t,et,rfl⟩:=iM hy
     rw[o_,G] at hl
     show 399
     have ei:=s_ hi;obtain⟨D,h1,h2,h3,h4⟩:=bm i t _ et ei;refine #[t,_,_,_,rfl,rfl,Gn.of ϋq,aB (j:=1) rfl,?_];refine(q Hh (Jg.same sh) (tg.keep sh)).1 D _ ?_ h3 (sh _ _ (a1 _ _ eU h2));unfold gO;rw[hws,yJ (d:=((0:Int),([]:List Nat))) ei hl];rfl
inductive Dd (a:q_) (vs:δ) (H:Hp) (Q:VK) (E_3:XK):Prop
 | mk:∀(c bp fp:Addr) (r w n M N:Nat) (l:Nat->Nat->Nat),vs=[.ref c]->Fz a H c bp fp r w n M N l->M<=8->(∀D qs H',H D=none->a_ H H'->H' D=some (.lst (List.map V.ref qs))->Fw H' qs M (g_ (N+M) (eqn N l))->(∀p∈qs,H p=none)->D∉qs->Q (.ref D) H')->Dd a vs H Q E_3
theorem gF (T:θ):x_ P wo K mg base 1 a.f28 ["self"] (Dd a):=by
 refine T.x28.F.okA (k:=0) mE ι
 ·obtain⟨c,bp,fp,r,w,n,M,N,l,rfl,hC,m8,q⟩:=h
  show 108
  show 351
  show 0
  exists xl (aA (bc (i_.of (cap:=[]) (own:=["line"]) γc) rfl 176e6 θP γ3 ΔA))
  refine #[_,rfl,c,_,_,_,_,rfl,h1,ϖ,T.A47,jY bp M N Lp,Lp,rfl,#[_,c_.of h2],λD nD=>?_];refine pK (xs:=qs.map ϙ) (row:=λi=>rowV ϋJ) (cs:=[]) (c_.of h2) nD rfl (by rw[el];exact FG m8 ζ) ϊ1 (λgs H7 s4 hG g j G=>?_)
  ·obtain⟨p,ep,hp⟩:=h3.get (i:=i) (by rw[<- el];exact(Gr.mp hu).1)
   rw[aJ ep] at hu
   cases FK hu;exact #[_,rfl,p,_,rfl,.inl (c_.of (s4 _ _ hp)),λd nd=>hR d _ nd (a_.new nd) ac]
  ·rw[el] at g
   exact q D gs H7 nD s4 hG #[ιP,λi p e=>g.on i p e] j G
theorem wd (F:ϣ) (N:Nat):∀M,GF.FF (N+M) F=GF.FF N F ^^^ GF.FF M ώM
 | 0=>(Js _).symm
 | M+1=>by
  show GF.FF (N+M) F ^^^ F (N+M)=GF.FF N F ^^^ (GF.FF M ώM ^^^ F (N+M))
  rw[wd F N M,KO]
def cS (r w n N:Nat) (l:ϕ) (t:Nat) (nv:ϣ):Nat:=GF.FF N λk=>GF.sc r w n (l t k) (nv k)
def newV (nk:η) (nb:ϣ) (X:η) (k:Nat):Nat:=if k∈nk then nb k else X.getD k 0
theorem BB {t:Nat}{X:η} (g:ν1) (hX:ψH) (hlt:ϊK) (h:ό5) (ht:t < M):X.getD (N+t) 0=cS r w n N l t λk=>X.getD k 0:=by
 have e:=(vz hX).mp h t ht;rw[wd] at e
 have e1:GF.FF N τA=cS r w n N l t λk=>X.getD k 0:=GF.FX N λk hk=>by
  show 56;rw[if_pos hk]
 have e2:GF.FF M (λi=>GF.sc r w n (eqn N l t (N+i)) (X.getD (N+i) 0))=X.getD (N+t) 0:=by
  rw[GF.Ig ht λi hi ne=>?_]
  ·unfold eqn
   rw[if_neg γ,if_pos γ]
   refine GF.OZ γh g.w1 (hlt _ ?_);show 104
   exact IV _
  ·unfold eqn
   rw[if_neg γ,if_neg γ,ηq]
 rw[e1,e2] at e;exact(Bi e).symm
theorem CA {t:Nat}{nv:ϣ}:GF.F8 r w n ((((r_ N).filter λk=>Gp l t k).map λk=>l t k).zip (((r_ N).filter λk=>Gp l t k).map nv))=cS r w n N l t nv:=by
 rw[RC,GF.Gu];refine GF.FX N λk hk=>?_
 by_cases z:l t k=0
 ·rw[if_neg (by unfold Gp;rw[decide_eq_false (by simpa using z)];decide),z,ηq]
 ·rw[if_pos (by unfold Gp;exact decide_eq_true z)]
variable {nb:Nat->Nat}
theorem DT {t:Nat}{X:η} (g:ν1) (hl:∀k,k < N->l t k < 2 ^ w):(cS r w n N l t λk=>X.getD k 0) ^^^ GF.F8 r w n ((((l_ N nk).filter λk=>Gp l t k).map λk=>l t k).zip Θl)=cS r w n N l t 43e7:=by
 unfold l_;rw[List.filter_filter,RC,GF.Gu];unfold cS;rw[<- GF.HI];refine GF.FX N λk hk=>?_;show 75
 show 112
 ·rw[if_pos m]
  have mc:nk.contains k=true:=K9.mpr m
  by_cases z:l t k=0
  ·rw[z,ηq,ηq,ηq]
   split <;> rfl
  ·rw[if_pos (by rw[mc,Sy];unfold Gp;exact decide_eq_true z),GF.QI γh (hl k hk),← KO,LO,Jr]
 ·rw[if_neg m,if_neg (λy=>m (K9.mp (IU _ _ ▸ y).2)),Js]
theorem BC {t k:Nat} (hk:k < N):(!decide (V.int ((eqn N l t k:Nat):Int)=V.int 0))=Gp l t k:=by
 unfold Gp eqn;rw[if_pos hk]
 by_cases x:l t k=0
 ·rw[x];rfl
 ·show 390
structure Ou (r w n M N:Nat) (l:ϕ) (os:ϝ) (X:η):Prop where
 len:X.length=N+M
 lt:∀b∈X,b < γg ^ n
 ism:Jj r w n M N l X=true
 ag:c5 (N+M) os X
inductive BD (a:q_) (vs:δ) (H:Hp) (Q:VK) (E_3:XK):Prop
 | mk:∀(H0:Hp) (R:FQ) (nd:Addr) (r w n M N t:Nat) (l:Nat->Nat->Nat) (cs srow os:List (Option Nat)) (as X nk:List Nat) (nb:Nat->Nat),vs=[.ref R.A,.ref nd,.int t]->F2 a H0 R r w n M N l cs srow->t_ a H0 H R (N+M) os as->H nd=some (.dK (bh nk nb))->t < M->Ou r w n M N l os X->((∀k,k < N->Gp l t k=true->k∉nk->fx r w M N l (knO os) k=true))->(∀H',a_ H H'->Q (.int ((cS r w n N l t (newV nk nb X):Nat):Int)) H')->BD a vs H Q E_3
theorem rq (T:θ):x_ P wo K mg base 10 a.f48 ["asking", "news", "total"] (BD a):=by
 refine T.x48.F.okA (k:=9) NT ι
 ·obtain⟨H0,R,nd,r,w,n,M,N,t,l,cs,aT,os,as,X,nk,nb,rfl,I,J,an,ht,mx,a1,q⟩:=h
  show 12
  show 45
  show 400
  show 24
  show 0
  exists xc (ar (i:=3) NT.nd rfl 0e2 ϟ)
  exists xc (ar (i:=4) NT.nd rfl 15e3 ΔK)
  exists xc (cK (i:=5) NT.nd rfl 0e2 Γu rfl (ba rfl T.A06 (aa ΓN ab)) ε9 ΔH ξC)
  exists xc (cK (i:=6) NT.nd rfl 0e2 Ξx rfl 84e7 δu γ3 (λ_ _ _ _ _=>by exact(g0 (uu (AT εv Ψ ο)) ΦA Θg)))
  exists xl (aA ΓV)
  refine τl;refine #[_,rfl,R.c,dc,_,rfl,hc,rfl,R.c,R.bp,R.fp,r,w,n,M,N,l,rfl,hC,by omega,λEL es H1 a7 s1 a5 a0 _ _=>?_]
  obtain⟨lp,a3,ad⟩:=a0.get ht;refine #[_,rfl,EL,_,_,_,rfl,rfl,c_.of a5,aB (aJ a3),?_]
  have gi:∀k,k < N->LP ΩM (k:Int)=some 157e2:=λk hk=>by
   have:=aB τk
   rwa [bB (by omega:νs)] at this
  refine #[_,rfl,R.c,_,_,_,_,rfl,s1 _ _ hc,ϖ,ζa,ee R.bp M N Lp,_,rfl,by omega,by omega,λrl nrl=>?_]
  rw[G5];refine dM (n:=N) (f:=λk=>.int ((k:Nat):Int)) (b:=λk=>Gp l t k) (cs:=[some πJ]) nrl rfl 155e3 μz τr χH
  ·refine #[_,rfl,_,rfl,lp,_,_,_,rfl,rfl,c_.of (s2 _ _ ad),gi k hk,rfl,_,rfl,?_]
   rw[BC hk];show 54
  have g:H2 rl=some (.lst (rowV Ωn)):=g
  have a6:((r_ N).filter λk=>Gp l t k).length<=8:=by
   have:=JG (λk=>Gp l t k) (r_ N);show 159
  have j:∀k∈Ωn,k < N/\Gp l t k=true:=λk hk=>#[GG.mp (G1.mp hk).1,(G1.mp hk).2]
  have aw:=s1.trans s2;refine #[_,rfl,rl,rfl,ψ6,λso a4=>?_];refine cR (f:=λk=>.int ((newV nk nb X k:Nat):Int)) (cs:=[some ζA,some ε2]) νg a4 rfl 0e0 μB ώ8
  ·obtain⟨D,Y⟩:=j k hk
   have sx:=aw.trans sx;refine #[_,rfl,_,rfl,nd,_,rfl,GV.k (k:=Sum.inl ((k:Nat):Int)) (sx _ _ an),_,rfl,?_];rw[dw];unfold newV at hR
   show 112
   ·rw[if_pos m] at hR
    rw[if_pos m];show 30
    have dg:=GV.k (k:=Sum.inl ((k:Nat):Int)) (sx _ _ an);rw[dw,if_pos m] at dg;exact #[_,rfl,_,rfl,nd,_,rfl,dg,hR _ ϡ]
   ·rw[if_neg m] at hR
    rw[if_neg m];show 59
    refine Δ5
    rw[if_pos (a1 k D Y m)];exact hR _ s'
  have U:=aw.trans s3
  have G:H3 so=some (.lst (rowV (((r_ N).filter λk=>Gp l t k).map ιd))):=by rw[G];show 43
  refine #[_,rfl,R.c,_,_,_,_,rfl,U _ _ hc,ϖ,θo,d9 R.bp M N Lp,R.bp,dB,_,rfl,U _ _ hB,rfl,?_];refine #[_,rfl,rl,rfl,#[_,c_.of (s3 _ _ g)],λfl a2=>?_];refine cR (f:=λk=>.int ((l t k:Nat):Int)) (cs:=[some πJ]) (c_.of (s3 _ _ g)) a2 rfl 0e0 μB (λH4 s4 O=>?_)
  ·obtain⟨D,Y⟩:=j k hk
   have g2:=gi k D;rw[show eqn N l t k=l t k by unfold eqn;rw[if_pos D]] at g2
   exact #[_,rfl,_,rfl,lp,_,_,_,rfl,rfl,c_.of ((s2.trans (s3.trans sx)) _ _ ad),g2,hR _ ϡ]
  have O:H4 fl=some (.lst (rowV (((r_ N).filter λk=>Gp l t k).map λk=>l t k))):=by rw[O];show 43
  have Z:=U.trans s4;refine #[_,rfl,R.bp,R.fp,fl,so,r,w,n,_,_,rfl,hC.blk.same Z,μX,I.n16,c_.of O,c_.of (s4 _ _ G),by rw[o_,o_],λf hf=>?_,λH' s'=>?_]
  ·obtain⟨k,hk,rfl⟩:=G6.mp hf
   exact I.W.lt t k ht (j k hk).1
  ·rw[CA]
   exact q H' (Z.trans s')
inductive BE (a:q_) (vs:δ) (H:Hp) (Q:VK) (E_3:XK):Prop
 | mk:∀(H0:Hp) (R:FQ) (nd:Addr) (r w n M N t:Nat) (l:Nat->Nat->Nat) (cs srow os:List (Option Nat)) (as X nk:List Nat) (nb:Nat->Nat),vs=[.ref R.A,.ref nd,.int t]->F2 a H0 R r w n M N l cs srow->t_ a H0 H R (N+M) os as->H nd=some (.dK (bh nk nb))->nk.Nodup->((∀k∈nk,k < N))->t < M->Ou r w n M N l os X->((∀k∈nk,Gp l t k=true->fx r w M N l (knO os) k=true))->fx r w M N l (knO os) (N+t)=true->(∀H',a_ H H'->Q (.int ((cS r w n N l t (newV nk nb X):Nat):Int)) H')->BE a vs H Q E_3
theorem pd (T:θ):x_ P wo K mg base 10 a.f49 ["asking", "news", "total"] (BE a):=by
 refine T.x49.F.okA (k:=9) Nq ι
 ·obtain⟨H0,R,nd,r,w,n,M,N,t,l,cs,aT,os,as,X,nk,nb,rfl,I,J,a3,a5,D,ht,mx,a7,bt,q⟩:=h
  show 12
  show 45
  show 400
  show 24
  have nl:nk.length<=8:=FG (bR N nk a5 D) γ
  show 0
  exists xc (ar (i:=3) Nq.nd rfl 0e2 ϟ)
  exists xc (ar (i:=4) Nq.nd rfl 15e3 ΔK)
  exists xc (cK (i:=5) Nq.nd rfl 0e2 Γu rfl 142e6 ε9 ΔH ξC)
  exists xc (cK (i:=6) Nq.nd rfl 0e2 Ξx rfl 84e7 δu γ3 (λ_ _ _ _ _=>by exact(ay jn Θg ΦA)))
  exists xl (aA (ay jn (ao ο ϋ T.x40.me (dm T) hr.u T.x40.b .nil aj (aa (ay aU ΓN Ψ) ab)) ΓV))
  refine τl;refine #[_,rfl,R.c,dc,_,rfl,hc,rfl,R.c,R.bp,R.fp,r,w,n,M,N,l,rfl,hC,by omega,λEL es H1 b4 s1 b1 a6 _ _=>?_]
  obtain⟨lp,bm,Z⟩:=a6.get ht;refine #[_,rfl,EL,_,_,_,rfl,rfl,c_.of b1,aB (aJ bm),?_]
  have gi:∀k,k < N->LP ΩM (k:Int)=some 157e2:=λk hk=>by
   have:=aB τk
   rwa [bB (by omega:νs)] at this
  refine #[_,rfl,nd,_,nk.map λk=>((k:Nat):Int),rfl,s1 _ _ a3,eQ nk nb,by rw[o_];omega,λsl ns nsl pm pw=>?_]
  rw[dv a5 D pm pw]
  show 175
  have a0:=ac (H:=H1) (a:=sl) (o:=.lst εx);generalize (upd H1 sl (.lst (rowV (l_ N nk))))=H1' at sS a0
  have s1:=s1.trans sS
  have Z:=sS _ _ Z
  have U:∀k∈l_ N nk,k < N/\k∈nk:=λk hk=>#[D k ((bV D).mp hk),(bV D).mp hk];refine #[sl,rfl,#[_,c_.of a0],λrl nrl=>?_];refine gN (rs:=l_ N nk) (b:=λk=>Gp l t k) (cs:=[some πJ]) (c_.of a0) nrl rfl (FG du Ωd) μz τr (λH2 s2 ad=>?_)
  ·have g:=(U k hk).1
   refine #[_,rfl,_,rfl,lp,_,_,_,rfl,rfl,c_.of ωf,gi k g,rfl,_,rfl,?_];rw[BC g];show 54
  have b2:((l_ N nk).filter λk=>Gp l t k).length<=8:=FG νn ύD
  have G:∀k∈((l_ N nk).filter λk=>Gp l t k),k < N/\k∈nk/\Gp l t k=true:=λk hk=>#[(U k (G1.mp hk).1).1,(U k (G1.mp hk).1).2,(G1.mp hk).2]
  have a4:=s1.trans s2;refine #[_,rfl,rl,rfl,#[_,c_.of ad],λso b0=>?_];refine cR (f:=λk=>.int ((X.getD k 0 ^^^ nb k:Nat):Int)) (cs:=[some ζA,some ε2]) (c_.of ad) b0 rfl 0e0 μB (λH3 s3 an=>?_)
  ·obtain⟨g,a2,a8⟩:=G k hk
   have sx:=a4.trans sx;refine Δ5
   rw[if_pos (a7 k a2 a8)]
   have dg:=GV.k (k:=Sum.inl ((k:Nat):Int)) ((sx.trans s') _ _ a3);rw[dw,if_pos a2] at dg;refine #[_,rfl,_,rfl,nd,_,rfl,dg,_,_,rfl,rfl,?_]
   show Rx χS H'
   rw[dE];exact hR _ s'
  have Y:=a4.trans s3
  have an:H3 so=some (.lst (rowV Θl)):=by rw[an];show 43
  refine #[_,rfl,R.A,dx,_,rfl,Y _ _ hA,rfl,_,rfl,R.c,_,_,_,_,rfl,Y _ _ hc,ϖ,ζa,ee R.bp M N Lp,_,rfl,_,_,rfl,rfl,?_];refine #[H0,R,r,w,n,M,N,N+t,l,cs,aT,os,as,X,congrArg (λz=>[V.ref R.A,V.int z]) (show (N:Int)+(t:Int)=((N+t:Nat):Int) by omega),I,J.same Y,by omega,mx.len,mx.lt,mx.ism,mx.ag,λb3 j=>?_]
  rw[if_pos bt]
  have O:=Y.trans j;refine #[_,rfl,R.c,_,_,_,_,rfl,O _ _ hc,ϖ,θo,d9 R.bp M N Lp,R.bp,dB,_,rfl,O _ _ hB,rfl,?_];refine #[_,rfl,rl,rfl,#[_,c_.of ό9],λfl a9=>?_];refine cR (f:=λk=>.int ((l t k:Nat):Int)) (cs:=[some πJ]) (c_.of ό9) a9 rfl 0e0 μB (λH4 s4 aw=>?_)
  ·have g:=(G k hk).1
   have g2:=gi k g;rw[show eqn N l t k=l t k by unfold eqn;rw[if_pos g]] at g2
   exact #[_,rfl,_,rfl,lp,_,_,_,rfl,rfl,c_.of ((s2.trans ((s3.trans j).trans sx)) _ _ Z),g2,hR _ ϡ]
  have aw:H4 fl=some (.lst (rowV (((l_ N nk).filter λk=>Gp l t k).map λk=>l t k))):=by rw[aw];show 43
  have a1:=O.trans s4;refine #[_,rfl,R.bp,R.fp,fl,so,r,w,n,_,_,rfl,hC.blk.same a1,μX,I.n16,c_.of aw,c_.of ((j.trans s4) _ _ an),by rw[o_,o_],λf hf=>?_,λH' s'=>?_]
  ·obtain⟨k,hk,rfl⟩:=G6.mp hf
   exact I.W.lt t k ht (G k hk).1
  ·refine όG
   show Q χS H'
   rw[dE,BB μX mx.len mx.lt mx.ism ht,DT μX λk hk=>I.W.lt t k ht hk];exact q H' (a1.trans s')
def bF (N:Nat) (cs:ϝ) (ts nk:η):List Nat:=νS++ts.map λt=>N+t
def laidV (r w n N:Nat) (l:ϕ) (nk:η) (nb:ϣ) (X:η) (k:Nat):Nat:=if k < N then nb k else cS r w n N l (k - N) ιd
theorem jb {ks:η}{f:ϣ}{k:Nat} (h:k∉ks):HP (bh ks f) ϋo (.int ((f k:Nat):Int))=bh (ks++[k]) f:=by
 rw[u3 _ (by rw[dw,if_neg h])]
 unfold bh;rw[HU];rfl
theorem md (ks:η) (f:ϣ):(bh ks f).length=ks.length:=by unfold bh;rw[o_]
theorem pf {xs:η} (nd:xs.Nodup) {i k:Nat} (e:xs[i]?=some k):k∉xs.take i:=λh=>by
 have hi:=Gr.mp e
 have n2:(xs.take i++xs.drop i).Nodup:=by rw[List.take_append_drop];exact nd
 refine(MR.mp n2).2.2 k h k ?_ rfl;rw[Qk hi.1,hi.2];exact Im
inductive yM (a:q_) (vs:δ) (H:Hp) (Q:VK) (E_3:XK):Prop
 | mk:∀(H0:Hp) (R:FQ) (nd tl:Addr) (b:Bool) (r w n M N:Nat) (l:Nat->Nat->Nat) (cs srow os:List (Option Nat)) (as X nk ts:List Nat) (nb:Nat->Nat),vs=[.ref R.A,.ref nd,.ref tl,.bl b]->F2 a H0 R r w n M N l cs srow->t_ a H0 H R (N+M) os as->H nd=some (.dK (bh nk nb))->nk.Nodup->((∀k∈nk,k < N))->H tl=some (.lst (rowV ts))->ts.Nodup->((∀t∈ts,t < M))->Ou r w n M N l os X->((b=true->∀t∈ts,∀k,k < N->Gp l t k=true->k∉nk->fx r w M N l (knO os) k=true))->((b=false->∀t∈ts,(∀k∈nk,Gp l t k=true->fx r w M N l (knO os) k=true)/\fx r w M N l (knO os) (N+t)=true))->(∀D H',a_ H H'->H D=none->H' D=some (.dK (bh (bF N cs ts nk) (laidV r w n N l nk nb X)))->Q (.ref D) H')->yM a vs H Q E_3
theorem BF (T:θ):x_ P wo K mg base 11 a.f50 ["asking", "news", "totals", "by_rest"] (yM a):=by
 refine T.x50.F.okA (k:=10) Nf ι
 ·obtain⟨H0,R,nd,tl,b,r,w,n,M,N,l,cs,U,os,as,X,nk,ts,nb,rfl,I,J,O,ad,j,aw,a2,an,mx,a5,a7,q⟩:=h
  show 12
  show 45
  show 111
  show 24
  have nl:nk.length<=8:=FG (bR N nk ad j) γ
  have a8:ts.length<=M:=bR M ts a2 an
  show 0
  exists xc (ar (i:=4) Nf.nd rfl 0e2 oR)
  show 1;refine xf Ϙ rfl 142e6 (au (i:=5) Nf.nd rfl ε) ?_;show 7;refine xi (am cg (aD ax ϟ γ2 γ6) aL υ) ?_
  exists xl (mw εv γv γ2 (jt εv ω γ2 γ6) rfl)
  show 401;refine xf Ϙ rfl 44e4 (au (i:=6) Nf.nd rfl ε) ?_
  exists xc (ar (i:=5) Nf.nd rfl 0e2 (ay aU θE γX))
  exists xl (mw εv γv γ2 (g0 (aX ϐ) (aH (rq T) hr.u rfl T.x48.m T.x48.k T.x48.b .nil aj Ψ1) (aH (pd T) hr.u rfl T.x49.m T.x49.k T.x49.b .nil aj Ψ1)) rfl)
  show 5
  exists xl ψR
  refine λD nD=>?_
  show 402
  have hD:=ac (H:=H) (a:=D) (o:=.dK []);show 403;refine #[_,rfl,nd,_,nk.map λk=>((k:Nat):Int),rfl,sD _ _ O,eQ nk nb,by rw[o_];omega,λsl ns nsl pm pw=>?_]
  rw[dv ad j pm pw]
  show 175
  have Z:=ac (H:=H1) (a:=sl) (o:=.lst εx)
  have a4:sl≠D:=(aq hD nsl).symm;generalize (upd H1 sl (.lst (rowV (l_ N nk))))=H2 at sS Z
  have a6:=sS _ _ hD
  have s2:=sD.trans sS;refine #[sl,rfl,ϐq,?_];refine let I_:Nat->L2.St->Hp->Prop:=λi σ H'=>L2.A4 ((∃v5:Option V,σ=[some ε2,some ζA,some πH,some ιy,some γ0,v5,none])) εi (H' sl=some (.lst εx)) (H' D=some (.dK (bh (((l_ N nk).take i).filter λk=>(cs.getD k none).isSome) ξR)));cm (xs:=rowV δo) I_ #[ζO,s2,Z,a6] ?_ ?_ ?_
  ·rintro i σ H' _ ⟨_,_,h,_⟩
   exact c_.of h
  ·rintro i x σ H' hx ⟨⟨v5,rfl⟩,sm,a0,g⟩
   show 174
   have a1:=(bV j).mp ζ5
   have a3:=j k a1
   have gi:=aB (bP (cX (os:=cs) (k:=k) ό8))
   have sx:=sm;refine #[_,rfl,R.A,_,_,_,_,rfl,sx _ _ hA,ϋ,ζG,dj _ _ _ _ _,_,rfl,R.cl,_,_,_,rfl,rfl,c_.of ((J.sm.trans sx) _ _ I.cost),gi,rfl,_,rfl,?_];rw[mz]
   have et:((l_ N nk).take (i+1)).filter τY=((l_ N nk).take i).filter τY++(if (cs.getD k none).isSome=true then [k] else []):=by
    rw[i6 ek,Sd]
    congr 1
    by_cases z:(cs.getD k none).isSome=true
    ·rw[if_pos z,Rh (p:=λk=>(cs.getD k none).isSome) z,Og]
    ·rw[if_neg z,Ru (p:=λk=>(cs.getD k none).isSome) z,Og]
   cases hz:(cs.getD k none).isSome with
   | false =>
    show 59
    exact #[ϊ,sm,a0,by rw[et,hz,if_neg ζ,MZ];exact g]
   | true =>
    show 30
    have dg:=GV.k (k:=Sum.inl ((k:Nat):Int)) (sx _ _ O);rw[dw,if_pos a1] at dg
    have G:k∉((l_ N nk).take i).filter λk=>(cs.getD k none).isSome:=λy=>pf (Ll _ MB:(l_ N nk).Nodup) ek (G1.mp y).1;refine #[_,rfl,_,rfl,nd,_,rfl,dg,_,rfl,_,rfl,D,_,rfl,Jd.k (k:=Sum.inl ((k:Nat):Int)) g ?_,?_]
    ·rw[md]
     exact KM (FG νn (FG (by rw[Kx];exact TK _ _) (FG du (by omega:N<=8)))) ζ
    refine #[ϊ,sm.up nD,by rw[ae a4];exact a0,?_]
    rw[ac,et,hz,if_pos rfl]
    have ev:laidV r w n N l nk nb X k=nb k:=by unfold laidV;rw[if_pos a3]
    rw[<- jb G,ev]
  ·rintro σ H' ⟨⟨v5,rfl⟩,sm,_,g⟩
   rw[az,MC] at g;refine #[_,rfl,tl,rfl,#[_,c_.of (sm _ _ aw)],?_];refine let I_:Nat->L2.St->Hp->Prop:=λi σ H'=>L2.A3 ((∃v5 v6:Option V,σ=[some ε2,some ζA,some πH,some ιy,some γ0,v5,v6])) εi (H' D=some (.dK (bh τa ξR)));cm (xs:=rowV ts) I_ #[εJ,sm,by rw[g];simp] ?_ ?_ ?_
   ·rintro i σ H' _ ⟨_,sm,_⟩
    exact c_.of (sm _ _ aw)
   ·rintro i x σ H' hx ⟨⟨v5,v6,rfl⟩,sm,g⟩
    obtain⟨t,et,rfl⟩:=br hx
    have Y:=Gi et
    have aT:=an t Y;refine #[_,rfl,R.A,_,_,_,_,rfl,sm _ _ hA,ϋ,ζj,cL _ _ _ _ _,R.c,_,_,_,_,rfl,sm _ _ hc,ϖ,ζa,ee R.bp M N Lp,_,rfl,_,_,rfl,rfl,?_]
    have G:N+t∉νS++(ts.take i).map λt=>N+t:=λy=>by
     rcases Hi.mp y with y | y
     ·have:=j _ ((bV j).mp (G1.mp y).1)
      omega
     ·obtain⟨t',h1,h2⟩:=G6.mp y
      have:t'=t:=by omega
      show 16;exact pf a2 et h1
    have len:(bh τa ξR).length < sizeLine:=by
     rw[md,Hr,o_]
     have h1:=JG τY δo
     show 404
     have h3:(ts.take i).length<=ts.length:=by rw[Kx];exact TK _ _
     exact KM (by omega:_<=8) ζ
    have ev:laidV r w n N l nk nb X (N+t)=cS r w n N l t 43e7:=by unfold laidV;rw[if_neg γ,MY]
    have fin:∀H2,a_ H' H2->a_ H (upd H2 D (.dK (bh (νS++(ts.take (i+1)).map λt=>N+t) ξR))):=λH2 s2=>(sm.trans s2).up nD
    have ed:τa++[N+t]=νS++(ts.take (i+1)).map λt=>N+t:=by
     rw[i6 et,HU,Qm];rfl
    show 6
    rw[show (N:Int)+(t:Int)=((N+t:Nat):Int) by omega]
    refine χ8
    cases b with
    | true =>
     show 30;refine #[_,rfl,_,rfl,_,rfl,H0,R,nd,r,w,n,M,N,t,l,cs,U,os,as,X,nk,nb,rfl,I,J.same sm,sm _ _ O,aT,mx,a5 rfl t Y,λH2 s2=>?_];show 405
    | false =>
     show 59
     obtain⟨f1,f2⟩:=a7 rfl t Y;refine #[_,rfl,_,rfl,_,rfl,H0,R,nd,r,w,n,M,N,t,l,cs,U,os,as,X,nk,nb,rfl,I,J.same sm,sm _ _ O,ad,j,aT,mx,f1,f2,λH2 s2=>?_];show 405
   ·rintro σ H' ⟨⟨v5,v6,rfl⟩,sm,g⟩
    rw[az,MC] at g;exact #[_,rfl,q D H' sm nD g]
section
variable (r w M N:Nat) (l:Nat->Nat->Nat) (cs srow:List (Option Nat)) (L L':List Nat)
inductive LU:List ζd->List Nat->List ζd->List Nat->Bool->Prop
 | done {os as:_}:(L.all (fx r w M N l (knO os)) || L'.all (fx r w M N l (knO os)))=true->LU os as os as true
 | none {os as ms:_}:L.all (fx r w M N l (knO os))=false->L'.all (fx r w M N l (knO os))=false->ms.Perm ((r_ (N+M)).filter (FB cs as))->ms.Pairwise (IE (LV cs))->gO r w M N l cs as (knO os) ms L L'=none->LU os as os as false
 | step {os as ms way os' as' b:_}:L.all (fx r w M N l (knO os))=false->L'.all (fx r w M N l (knO os))=false->ms.Perm ((r_ (N+M)).filter (FB cs as))->ms.Pairwise (IE (LV cs))->gO r w M N l cs as (knO os) ms L L'=some way->LU (cb cs srow way os as).1 (cb cs srow way os as).2 os' as' b->LU os as os' as' b
end
theorem we {ms L':η} (h1:L.all μF=τ) (h2:L'.all μF=τ) (pm:ms.Perm Ωv) (hL:ώc) (hL':ύG) (h:gO r w M N l cs as ϑ ms L L'=some way):(∀k∈way,k < N+M/\FB cs as k=true)/\∃k rest,way=k :: rest:=by
 have kw:IW ϑ []=knO os:=rfl
 have g:∀{L:η}{p:ϐo},L.all μF=false->(∀k∈L,k < N+M)->p∈bM r w M N l cs as ϑ L->(∀k∈p.2,k < N+M/\FB cs as k=true)/\∃k rest,p.2=k :: rest:=λ{L p} h1 hL h=>by
  unfold bM at h
  split at h
  ·next hz =>
   rw[Ge.mp h];refine #[λk hk=>#[hL k (G1.mp hk).1,IM.mp hz k hk],?_]
   cases e:JP r w M N l (knO os) L with
   | cons k rest=>exact ώN
   | nil =>
    have:L.all μF=true:=IM.mpr λk hk=>by
     cases hf:fx r w M N l (knO os) k with
     | true=>rfl
     | false =>
      have:k∈JP r w M N l ϑ L:=G1.mpr #[hk,by rw[hf];rfl]
      rw[e] at this
      show 8
    rw[h1] at this
    show 8
  ·cases h
 have s:∀{L d:η},L.all μF=false->Ij r w M N l ϑ ms L=some d->(∀k∈d,k < N+M/\FB cs as k=true)/\∃k rest,d=k :: rest:=λ{L d} h1 h=>by
  unfold Ij at h
  cases hf:(r_ (ms.length+1)).find? λj=>L.all (fx r w M N l (IW (knO os) (ms.take j))) with
  | none=>rw[hf] at h;cases h
  | some j =>
   rw[hf] at h
   have hd:ms.take j=d:=FK h;subst hd;refine #[λk hk=>?_,?_]
   ·have:=G1.mp ϋp
    exact ϊJ
   ·cases e:ms.take j with
    | cons k rest=>exact ώN
    | nil =>
     have:=List.find?_some hf;rw[e,kw,h1] at this
     show 8
 unfold gO at h
 cases hp:IG (λp=>p.1) (ja r w M N l cs as (knO os) ms L L') with
 | none=>rw[hp] at h;cases h
 | some p =>
  rw[hp] at h
  have hd:p.2=way:=FK h;subst hd
  have hm:=v8 hp;unfold ja at hm;rcases Hi.mp hm with hm | hm
  ·rcases Hi.mp hm with hm | hm
   ·exact g h1 hL hm
   ·exact g h2 hL' hm
  ·obtain⟨d,hd,rfl⟩:=G6.mp hm
   have D:=v8 (OQ.mp hd);unfold dU at D;rcases Hi.mp D with y | y
   ·exact s h1 πI
   ·exact s h2 πI
def Lf (os:ϝ) (L:η):List Bool:=(r_ ρm).map λk=>(os.getD k none).isSome || L.contains k
variable {ts:List Nat}
theorem H_ {k:Nat}:k∈bL N l ts nk ↔ k < N/\k∉nk/\∃t∈ts,Gp l t k=true:=by
 unfold bL;rw[G1,GG,IU,RL,MW];refine #[λ⟨a,b,c⟩=>#[a,λz=>?_,c],λ⟨a,b,c⟩=>#[a,?_,c]]
 ·rw[K9.mpr z] at b
  cases b
 ·cases z:nk.contains k with
  | false=>rfl
  | true=>exact absurd (K9.mp z) b
theorem yN (ht:ώO):∀k∈GC N l ts δo,k < N+M:=λk hk=>by
 unfold GC at hk;rcases Hi.mp hk with h | h
 ·have:=GG.mp (G1.mp (G1.mp h).1).1
  omega
 ·obtain⟨t,h1,rfl⟩:=G6.mp h
  have:=ht t h1;omega
theorem t_.has {R:FQ} (J:ηP) (hD:ωe):a_ H0 74e6:=λb u e=>by
 by_cases z:b=D
 ·subst z
  rw[ac,← hD];exact J.sm b u e
 ·rw[ae z];exact e
theorem F2.extH {R:FQ} (I:ξH) (J:χa) (hD:ωe) (h1:R.rl≠D) (h2:R.sl≠D) (h3:R.z≠D) (h4:a.t38≠D):F2 a πc R r w n M N l cs srow:=by
 have s:=J.has hD;show 389
theorem CB {R:FQ}{p:Pos} (I:ξH) (J:χa) (h:ζv) (ne:a.t38≠t):∃H1,a_ H0 H1/\F2 a H1 R r w n M N l cs srow/\t_ a H1 H R n' os as/\Fy H1 t p q:=by
 show 35
 have I1:=I.extH J h1 (bo J.hr h1 δ6) (bo J.hs h1 (λy=>by cases y)) (J.hz.elim λ_ e=>bo e.1 h1 (λy=>by cases y)) ne
 have J1:=J.ext h1
 have s1:=J.has h1;rcases h2 with h2 | ⟨c',e,h2⟩
 ·exact #[_,s1,I1,J1,ps,ac,.inl h2]
 ·obtain⟨po,g,_⟩:=id ιO
  have nt:t≠c':=bo h1 h2 δ6
  refine #[_,s1.trans (J1.has h2),I1.extH J1 h2 (bo J.hr h2 δ6) (bo J.hs h2 (λy=>by cases y)) (J.hz.elim λ_ e=>bo e.1 h2 (λy=>by cases y)) (bo g h2 (λy=>by cases y)),J1.ext h2,ps,?_,.inr ⟨c',e,ac⟩]
  rw[ae nt];exact ac
inductive BG (a:q_) (vs:δ) (H:Hp) (Q:VK) (E_3:XK):Prop
 | mk:∀(H0:Hp) (R:FQ) (nd:Addr) (r w n M N:Nat) (l:Nat->Nat->Nat) (cs srow os:List (Option Nat)) (as X nk:List Nat) (nb:Nat->Nat),vs=[.ref R.A,.ref nd]->F2 a H0 R r w n M N l cs srow->t_ a H0 H R (N+M) os as->Fy H a.t47 IJ qW->H0 a.t47=none->H0 nd=some (.dK (bh nk nb))->nk.Nodup->((∀k∈nk,k < N))->((∀k,(cs.getD k none).getD 0<=1000000))->Ou r w n M N l os X->c5 (N+M) srow X->(∀H' os' as' b,LU r w M N l cs srow (bL N l (Gx M N l cs (l_ N nk)) nk) (GC N l (Gx M N l cs (l_ N nk)) (l_ N nk)) os as os' as' b->c5 (N+M) os' X->t_ a H0 H' R (N+M) os' as'->Fy H' a.t47 IJ qW->(b=true->(l_ N nk).all (fx r w M N l (Lf os' (bF N cs (Gx M N l cs (l_ N nk)) nk)))=true->∀D,H0 D=none->H' D=some (.dK (bh (bF N cs (Gx M N l cs (l_ N nk)) nk) (laidV r w n N l nk nb X)))->Q (.ref D) H')/\((b && (l_ N nk).all (fx r w M N l (Lf os' (bF N cs (Gx M N l cs (l_ N nk)) nk))))=false->Q .non H'))->BG a vs H Q E_3
theorem um (T:θ) (B:η7):x_ P wo K mg base 13 a.f51 ["asking", "news"] (BG a):=by
 refine T.x51.F.okA (k:=12) LW ι
 ·obtain⟨H0,R,nd,r,w,n,M,N,l,cs,srow,os,as,X,nk,nb,rfl,I,J,TW,dq,an,a0,U,c3,mx,dk,q⟩:=h
  show 12
  show 24
  show 0
  exists xc (ar (i:=2) θq rfl 0e2 ϟ)
  exists xc (ar (i:=3) θq rfl 0e2 (aH (pc T) hr.u rfl T.x44.m T.x44.k T.x44.b .nil aj ρD))
  exists xc (ar (i:=4) θq rfl 0e2 (aH (zJ T) hr.u rfl T.x45.m T.x45.k T.x45.b .nil aj Ψ2))
  exists xc (ar (i:=5) θq rfl 0e2 (aH (vZ T) hr.u rfl T.x46.m T.x46.k T.x46.b .nil aj Ψ2))
  show 1;refine xw Ϙ (PW.pt (jl (bS (aX Θh)) (gQ (bS (aX (ao ο ϋ T.x36.me (eO T) hr.u T.x36.b .nil aj Γa)))))) ?_
  exists xc (ar (i:=6) θq rfl 0e2 (aH (wU T B) hr.u rfl T.x47.m T.x47.k T.x47.b .nil aj (aa ο ξN)))
  show 1;refine xi (am cV γX aL υ) ?_
  show 28
  show 3
  exists xl (aE (ao ο ϋ T.x34.me (j5 T) hr.u T.x34.b .nil aj νI))
  show 5
  exists xc (ar (i:=7) θq rfl 15e3 (aH (BF T) hr.u rfl T.x50.m T.x50.k T.x50.b .nil aj (aa ο (aa ω (aa ϐ (aa Θh ab))))))
  exists xc (cK (i:=8) θq rfl 0e2 (i_.of (cap:=[7]) (own:=["role", "is_known"]) γc) rfl (gT rfl T.A38 (aa ξb ab)) ΓZ γ3 (λ_ _ _ _ _=>by exact(CV Ψ (gZ (El (AT εv ω ο))))))
  show 1;refine xi (bS (aX (aH (iD T) hr.u rfl T.x30.m T.x30.k T.x30.b .nil aj (aa Ψ (aa θC (aa Γy ab)))))) ?_
  show 28
  show 3
  exists xl (aA εH)
  refine #[_,rfl,R.A,_,_,_,_,rfl,J.sm _ _ hA,ϋ,ζj,cL _ _ _ _ _,?_];refine #[_,rfl,_,rfl,H0,R,nd,r,w,n,M,N,l,cs,srow,os,as,nk,nb,rfl,I,J,J.sm _ _ an,a0,U,λTL H1 s1 c8 Z=>?_]
  have Y:∀t∈Gx M N l cs δo,t < M:=λt h=>mB h
  have b6:(Gx M N l cs δo).length<=8:=FG Cw γ
  have c0:(Gx M N l cs δo).Nodup:=Ll _ πG;generalize dy:Gx M N l cs (l_ N nk)=ts at *
  have J1:=J.same s1;refine #[_,rfl,_,rfl,_,rfl,R.c,R.bp,R.fp,TL,nd,r,w,n,M,N,l,ts,nk,nb,rfl,I.code.same J1.sm,by omega,c_.of Z,b6,Y,J1.sm _ _ an,λRS H2 s2 cc b4=>?_]
  have J2:=J1.same s2
  have cw:=s1.trans s2;refine #[_,rfl,_,rfl,_,rfl,R.c,R.bp,R.fp,TL,nd,r,w,n,M,N,l,ts,nk,nb,rfl,I.code.same J2.sm,by omega,s2 _ _ Z,b6,Y,J2.sm _ _ an,a0,U,λCH H3 s3 b0 df=>?_]
  have J3:=J2.same s3
  have dc:=cw.trans s3
  have t3:=TW.keep dc
  have aw:∀{D:Addr},H D=none->H0 D=none/\(R.rl≠D/\R.sl≠D/\R.z≠D/\a.t38≠D)/\a.t47≠D:=λ{D} e=>by
   obtain⟨pt,dr,_⟩:=id TW;exact #[J.sm.free e,J.away e,aq dr e]
  obtain⟨z1,⟨z2,z3,z4,z5⟩,z6⟩:=aw c8;obtain⟨y1,⟨y2,y3,y4,y5⟩,y6⟩:=aw (s1.free cc);obtain⟨x1,⟨x2,x3,x4,x5⟩,x6⟩:=aw (cw.free b0)
  have d1:RS≠TL:=(aq Z cc).symm
  have d2:CH≠TL:=(aq ωf b0).symm
  have d3:CH≠RS:=(aq b4 b0).symm
  have e1:(upd H0 TL (.lst (rowV ts))) RS=none:=by rw[ae d1];exact y1
  have e2:(upd (upd H0 TL (.lst (rowV ts))) RS (.lst (rowV νF))) CH=none:=by rw[ae d3,ae d2];exact x1
  have I3:=((I.ext (o:=.lst (rowV ts)) z1 z2 z3 z4 z5).ext (o:=.lst (rowV νF)) e1 y2 y3 y4 y5).ext (o:=.lst (rowV ρd)) e2 x2 x3 x4 x5
  have K3:=((J3.ext (107e4 _ _ Z)).ext (s3 _ _ b4)).ext df
  have sb:a_ H0 49e9:=(a_.new z1).trans ((a_.new e1).trans (a_.new e2))
  have cy:49e9 a.t47=none:=by rw[ae x6,ae y6,ae z6];exact dq
  have c2:49e9 TL=some (.lst (rowV ts)):=by rw[ae (F5 d2),ae (F5 d1)];exact ac
  have a5:49e9 RS=some (.lst (rowV νF)):=by rw[ae (F5 d3)];exact ac
  have a9:49e9 CH=some (.lst (rowV ρd)):=ac;generalize (upd (upd (upd H0 TL (.lst (rowV ts))) RS (.lst (rowV (bL N l ts nk)))) CH (.lst (rowV (GC N l ts (l_ N nk)))))=Hb at I3 K3 sb cy c2 a5 a9
  have ds:(bL N l ts nk).length<=8:=FG νn δw
  have a7:∀k∈bL N l ts nk,k < N+M:=λk h=>by have:=(H_.mp h).1;omega
  have db:(GC N l ts δo).length<=8:=by
   unfold GC;rw[Hr,o_]
   have h1:=JG Ωm δo
   show 404
   have h3:=bR M ts c0 Y;omega
  have b1:=yN (N:=N) (l:=l) (nk:=nk) Y;show 2
  refine⟨λm σ H'=>∃(g:ϝ) (j:η) (v6:ζ2),m=(N+M) - j.length/\σ=[some ε2,some ζA,some ν5,some (.ref TL),some (.ref RS),some (.ref CH),v6,none,none]/\t_ a Hb H' R (N+M) g j/\Fy H' γZ IJ qW/\c5 (N+M) g X/\∀bt a8 b,LU r w M N l cs srow νF ρd g j bt a8 b->LU r w M N l cs srow νF ρd os as bt a8 b,
   ⟨_,os,as,none,rfl,rfl,K3,t3,mx.ag,λ_ _ _ h=>h⟩,?_⟩
  rintro m σ H' ⟨g,j,v6,rfl,rfl,J4,t4,a6,bm⟩;obtain⟨aT,ad⟩:=I3.obj;refine #[_,rfl,R.A,aT,_,rfl,J4.sm _ _ ad,rfl,_,rfl,Hb,R,RS,r,w,n,M,N,l,cs,srow,g,j,bL N l ts nk,rfl,I3,J4,c_.of (J4.sm _ _ a5),a7,λH5 s5=>?_]
  have J5:=J4.same s5
  have t5:=t4.keep s5
  refine Bs (λH6=>a_ H' H6/\((bL N l ts nk).all υO || (GC N l ts δo).all υO)=true) (λck=>by
   cases hz:(bL N l ts nk).all (fx r w M N l (knO g)) with
   | true =>
    refine τq
    show 59
    exact ck H5 #[s5,by rw[hz];rfl]
   | false =>
    refine τx;refine #[_,rfl,R.A,aT,_,rfl,J5.sm _ _ ad,rfl,_,rfl,Hb,R,CH,r,w,n,M,N,l,cs,srow,g,j,GC N l ts δo,rfl,I3,J5,c_.of (J5.sm _ _ a9),b1,λH6 s6=>?_]
    have J6:=J5.same s6
    have t6:=t5.keep s6
    cases hy:(GC N l ts (l_ N nk)).all (fx r w M N l (knO g)) with
    | true =>
     refine τq
     exact ck H6 #[s5.trans s6,by rw[hz,hy];rfl]
    | false =>
     refine #[_,rfl,b_ Ωc ε8];refine #[_,rfl,_,rfl,_,rfl,Hb,R,RS,CH,r,w,n,M,N,l,cs,srow,g,j,bL N l ts nk,GC N l ts δo,rfl,I3,J6,t6,cy,a5,a9,ds,a7,db,b1,c3,λH7 ms J7 t7 pm pw=>#[λD ch hn nD hD=>?_,λhn=>?_]]
     ·obtain⟨O,k0,b3,e0⟩:=we hz hy pm a7 b1 hn
      show 406
      have b5:Hb D=none:=J6.sm.free nD;obtain⟨a1,a2,a3,a4⟩:=J6.away nD;refine #[_,rfl,R.A,aT,_,rfl,J7.sm _ _ ad,rfl,_,rfl,?_];obtain⟨Hc,sc,Ic,Jc,Tc⟩:=CB (I3.ext b5 a1 a2 a3 a4) (J7.ext hD) t7 B.A45;refine #[Hc,R,D,r,w,n,M,N,l,cs,srow,g,j,ch,rfl,Ic,Jc,c_.of (sc _ _ ac),λx hx=>(O x hx).1,λH8 J8=>?_]
      have J9:=J8.rebs ((a_.new b5).trans sc);refine #[(N+M) - (cb cs srow ch g j).2.length,?_,_,_,_,rfl,rfl,J9,Tc.keep J8.sm,oB dk _ _ _ J4.osl (λx hx=>(O x hx).1) a6,λbt a8 b h=>bm _ _ _ (.step hz hy pm pw hn h)]
      have h1:=zI (srow:=srow) (ks:=b3) (os:=g) (O k0 (by rw[e0];exact .head _)).2
      have h2:=J9.asl;rw[e0] at h2 ⊢;omega
     ·refine εw
      show 30
      exact(q H7 g j τ (bm _ _ _ (.none hz hy pm pw hn)) a6 (J7.rebs sb) t7).2 rfl) ?_
  rintro H6 ⟨s6,G⟩
  have J6:=J4.same s6
  have t6:=t4.keep s6;refine #[_,rfl,_,rfl,_,rfl,_,rfl,R.A,aT,_,rfl,J6.sm _ _ ad,rfl,_,rfl,Hb,R,RS,r,w,n,M,N,l,cs,srow,g,j,bL N l ts nk,rfl,I3,J6,c_.of (J6.sm _ _ a5),a7,λH7 s7=>?_]
  have J7:=J6.same s7;refine #[Hb,R,nd,TL,(bL N l ts nk).all υO,r,w,n,M,N,l,cs,srow,g,j,X,nk,ts,nb,rfl,I3,J7,(sb.trans J7.sm) _ _ an,a0,U,J7.sm _ _ c2,c0,Y,#[mx.len,mx.lt,mx.ism,a6],λhb t ht k hk b2 dl=>?_,λhb t ht=>#[λk hk b2=>?_,?_],λD H8 s8 nD hD=>?_]
  ·exact IM.mp hb k (H_.mpr #[hk,dl,t,ht,b2])
  ·rw[hb,Qa] at G
   refine IM.mp G k (Hi.mpr (.inl (G1.mpr #[(bV U).mpr hk,MW.mpr #[t,ht,b2]])))
  ·rw[hb,Qa] at G
   exact IM.mp G _ (Hi.mpr (.inr (G6.mpr #[t,ht,rfl])))
  have J8:=J7.same s8;show 2
  refine #[_,rfl,R.A,aT,_,rfl,J8.sm _ _ ad,rfl,Hb,R,r,w,n,M,N,l,cs,srow,g,j,rfl,I3,J8,λKL H9 s9 dt cr=>?_]
  have cv:=s9 _ _ hD
  have J9:=J8.same s9;refine #[KL,_,rfl,c_.of cr,λKN dd=>?_]
  have o8:g.length<=8:=by rw[J4.osl];exact n8
  have kl:(HG (knO g)).length=g.length:=by unfold HG;rw[o_,cQ]
  refine zn (xs:=HG (knO g)) (f:=λi=>.bl Ξd) (cs:=[some γ0]) (c_.of cr) dd rfl (by rw[kl];exact FG o8 ζ) ηM (λHA sA ce=>?_)
  ·have hi:i < g.length:=by rw[<- kl];exact(Gr.mp hu).1
   have eu:u=.bl (g.getD i none).isSome:=by
    rw[<- Br,FM,Ib hi] at hu;exact(FK hu).symm
   subst eu
   have dg:=GV.k (k:=Sum.inl ((i:Nat):Int)) (s2 _ _ cv);rw[dw] at dg
   cases ho:(g.getD i none).isSome with
   | true =>
    rw[ho,Q6] at hR;refine #[_,rfl,_,rfl,b_ (λ_=>hR _ ϡ) ε8]
   | false =>
    rw[ho,Qa] at hR;refine #[_,rfl,_,rfl,b_ εL ν]
    refine #[_,rfl,_,rfl,D,_,rfl,dg,?_]
    have ec:(if i∈bF N cs ts nk then some (V.int ((laidV r w n N l nk nb X i:Nat):Int)) else none).isSome=(bF N cs ts nk).contains i:=by
     by_cases z:i∈bF N cs ts nk
     ·rw[if_pos z,K9.mpr z];rfl
     ·rw[if_neg z]
      cases e:(bF N cs ts nk).contains i with
      | false=>rfl
      | true=>exact absurd ωD z
    rw[ec];show 54
  have ek:(r_ (HG (knO g)).length).map (λi=>V.bl Ξd)=HG (Lf g ϐr):=by
   unfold Lf;rw[kl];unfold HG;rw[GB];rfl
  rw[ek] at ce
  have JA:=J9.same sA
  have nl:nk.length<=8:=FG (bR N nk a0 U) γ
  refine #[_,rfl,_,rfl,_,rfl,nd,_,nk.map λk=>((k:Nat):Int),rfl,(sb.trans JA.sm) _ _ an,eQ nk nb,by rw[o_];omega,λsl ns nsl pm pw=>?_]
  rw[dv a0 U pm pw]
  show 175
  have c1:=ac (H:=HA) (a:=sl) (o:=.lst εx);generalize (upd HA sl (.lst (rowV (l_ N nk))))=HB at sS c1
  have JB:=JA.same sS;refine #[R.c,R.bp,R.fp,KN,sl,r,w,n,M,N,l,Lf g ϐr,l_ N nk,rfl,I.code.same (sb.trans JB.sm),ζn,I.W,sS _ _ ce,by unfold Lf;rw[o_,Gf,J4.osl],c_.of c1,λk hk=>?_,λHC sC=>?_]
  ·have:=U k ((bV U).mp hk)
   omega
  have JC:=JB.same sC
  have c9:=s7.trans (s8.trans (s9.trans ϋ8));obtain⟨qa,qb⟩:=q HC g j true (bm _ _ _ (.done G)) a6 (JC.rebs sb) (t6.keep c9)
  cases hz:(l_ N nk).all (fx r w M N l (Lf g (bF N cs ts nk))) with
  | true =>
   refine τq
   exact #[_,rfl,qa rfl hz D (sb.free (J7.sm.free nD)) (167e2 _ _ cv)]
  | false =>
   refine τx;exact qb (by rw[hz];rfl)
structure Rw where
 c:Addr
 bp:Addr
 fp:Addr
 sp:Addr
 tp:Addr
 qs:List Addr
 r:Nat
 w:Nat
 n:Nat
 M:Nat
 N:Nat
 m:Nat
 l:Nat->Nat->Nat
 row:Nat->List Nat
 K:Rk
def Rw.pl (R:Rw) (st k:Nat):Nat:=(R.row ιV).getD k 0
def Ka (R:Rw):List 12e2:=[ώd,ύ5,("rack",.ref γS)]
theorem wf (R:Rw):(Ka R).lookup ("code" : Str)=some 55e3:=rfl
theorem jc (R:Rw):(Ka R).lookup ("shape" : Str)=some (.ref R.sp):=rfl
theorem cT (R:Rw):(Ka R).lookup ("rack" : Str)=some 73e5:=rfl
def Rw.ms (a:q_) (R:Rw):List Addr:=R.K.dn :: R.K.sl :: a.t38 :: a.t47 :: a.t105 :: R.K.sh :: R.K.hs
structure Kq (a:q_) (G:Hp) (R:Rw):Prop where
 code:Fz a G R.c R.bp R.fp R.r R.w R.n R.M R.N R.l
 full:GF.Gg R.r R.w
 n16:R.n<=16
 W:IP R.w R.M R.N R.l
 sh:FY a G R.sp R.N δR γO R.tp R.qs R.m ιQ
 nd:∀j,j < R.m->(R.row j).Nodup
 lt:∀j,j < R.m->∀x∈R.row j,x < R.N+R.M
 P:R.K.P=R.N+R.M
 L1:1<=R.K.L
 no:∀x∈R.ms a,G x=none
structure MN (R:Rw) (Y:η):Prop where
 len:Y.length=R.N+R.M
 lt:∀b∈Y,b < νh ^ R.n
 ok:Jj R.r R.w R.n R.M R.N R.l Y=true
structure LB (a:q_) (H:Hp):Prop where
 o:Fy H ζ8 Lr qL
 n:Fy H γZ IJ qW
 r:Fy H εF Lv qR
 on:a.t38≠a.t47
 or:a.t38≠a.t105
 nr:a.t47≠a.t105
def IB (R:Rw) (X:δ1) (Y:δC):Prop:=(∀i,R.K.kd i=.whole)/\∀st,st < R.K.S->MN R εs/\∀k,k < R.N+R.M->X ρQ st=some (((Y st).getD k 0:Nat):Int)
variable {R:Rw}
theorem Kq.pll (I:ιx) {st k:Nat} (hk:ψU):R.pl st k < R.K.P:=by
 show 176;unfold Rw.pl;rw[I.P,v_,s_ (by rw[I.sh.len _ m0];exact hk)]
 exact I.lt _ m0 _ (IV _)
theorem FY.same {a:q_}{H H':Hp}{p tp:Addr}{d n st m:Nat}{qs:Φ}{row:δC} (h:ϊg) (s:γN):FY a H' p d n st tp qs m row:=#[h.sh.imp λ_ e=>s _ _ e,s _ _ h.tl,h.rows.same s,h.m0,δ5]
def GA (n:Nat):List 25e1:=FL n (some 1)
def Jk (Y:η):List 25e1:=Y.map some
def Kl (R:Rk) (st p:Nat):Option Nat:=if (R.kd p).thr st=true then some (R.kd p).pr else none
def HK (R:Rw) (st:Nat):List 25e1:=(R.row ιV).map (Kl R.K st)
def Ov (R:Rk) (st:Nat):V->V
 | .int p=>Gd (Kl R st p.toNat)
 | _=>.non
theorem Fn (R:Rw) (st:Nat):(rowV Γ6).map (Ov R.K st)=Ft (HK R st):=by
 unfold HK Ft rowV;show 158
theorem Kq.ones {a:q_}{G:Hp}{R:Rw} (I:ιx) (wh:∀i,R.K.kd i=.whole) (st:Nat):HK R st=GA 16e7:=by
 unfold HK My.GA;refine List.eq_replicate_iff.mpr #[by rw[o_,I.sh.len _ (KP st νu)],λb hb=>?_]
 obtain⟨p,_,rfl⟩:=G6.mp hb;unfold Kl;rw[wh];rfl
theorem CC {R:Rk} (h:R.kd i=.whole):sv R X i j=X i j:=by
 unfold sv;rw[h];rfl
theorem IB.sees {Y:δC} (hX:IB R X Y) (hst:st < γO):(Jk εs).length=R.N+R.M/\∀k,k < R.N+R.M->ov ϊO=Gd ((Jk εs).getD k none):=by
 obtain⟨g,hk⟩:=hX.2 st hst;unfold Jk;refine #[by rw[o_,ιP],λk h=>?_]
 rw[CC (hX.1 _),hk k h,v_,v_,FM,s_ (by rw[ιP];exact h)]
 rfl
structure Ik (a:q_) (H H':Hp) (R:Rw) (e st:Nat) (X:δ1) (cs srow:ϝ) (A:FQ):Prop where
 kp:∀b o,b≠a.t105->H b=some o->H' b=some o
 rk:A.RK=R.K
 z:A.z=R.K.dn
 B:A.B=e
 ss:A.ss=FL δO .non
 X:A.X=X
 at_:A.st=st
 tu:A.tu=R.row ιV
 rl:H A.rl=none
 sl:H A.sl=none
 tb:LB a H'
 ask:∀ys:List Addr,(∀y∈ys,y=γZ)->F2 a τB A R.r R.w R.n R.M R.N R.l cs srow/\t_ a τB H' A δR Γb []
theorem DU {H3 H6:Hp}{dx fa cl rl sl ol:Addr} (I:ιx) (sG:a_ G H) (hR:d_ a H R.K e η5 X) (hcs:cs.length=R.N+R.M) (hsr:srow.length=R.N+R.M) (hat:∀k,k < R.N+R.M->ov ϊO=Gd χv) (tb:LB a H) (he:e<=8000) (hst:st < γO) (k3:∀b o,b≠a.t105->H b=some o->H3 b=some o) (t3:Fy H3 εF Lv qR) (s36:a_ H3 H6) (ncl:H3 cl=none) (nrl:H3 rl=none) (nsl:H3 sl=none) (d1:cl≠rl) (d2:cl≠sl) (d3:rl≠sl) (hx6:H6 x=some (.ins γ1 dx (af R.c fa cl rl sl))) (hcl:H6 cl=some ψj) (hrl:H6 rl=some μr) (hsl:H6 sl=some (.lst (rowV []))) (nol:H ol=none) (hol:H3 ol=some τZ) (lam:IR H6 fa γS ol st) :
  Ik a H H6 R e st X cs srow #[x,R.c,R.bp,R.fp,fa,cl,rl,sl,R.K.dn,e,ol,st,R.row ιV,R.K,FL δO .non,X]:=by
 have kp:∀b o,b≠a.t105->H b=some o->H6 b=some o:=λb o n z=>s36 _ _ (k3 b o n z)
 have fr:∀{b:Addr},H3 b=none->H b=none:=λ{b} z=>by
  cases y:H b with
  | none=>rfl
  | some o =>
   by_cases w:b=a.t105
   ·obtain⟨ps,y2,_⟩:=t3
    rw[w,y2] at z;cases z
   ·rw[k3 b o w y] at z;cases z
 obtain⟨ds,g,aw⟩:=id hR.dn
 have nl:∀{b:Addr}{xs:δ},H b=some γP->b≠a.t105:=λ{b xs} z w=>by
  show 407;rw[w,y] at z;cases z
 have T:=kp _ _ (nl g) g
 have s:=fr nrl
 have j:=fr nsl
 have tr:∀{t:Addr}{p:Pos}{q:Str},Fy H t p q->t≠a.t105->Fy H6 t p q:=λ{t p q} h n=>by
  obtain⟨ps,y,_⟩:=id tb.r;exact h.kp n y kp
 have E:LB a H6:=#[tr tb.o tb.or,tr tb.n tb.nr,t3.keep s36,tb.on,tb.or,tb.nr];refine #[kp,rfl,rfl,rfl,rfl,rfl,rfl,rfl,s,j,E,λys Z=>?_];obtain⟨po,ho,_⟩:=id E.o;obtain⟨pn,hn,_⟩:=id E.n
 have J:∀b∈νN,(b=R.K.dn\/b=rl\/b=sl)\/b=a.t38\/b=a.t47:=λb hb=>by
  rcases FC.mp hb with y | hb
  ·exact .inl ρn
  rcases FC.mp hb with y | hb
  ·exact .inl ρe
  rcases FC.mp hb with y | hb
  ·exact .inl ϐs
  rcases FC.mp hb with y | hb
  ·exact .inr ρn
  ·exact .inr (.inr (Z b hb))
 have Y:∀{b:Addr}{o:HO},H6 b=some o->όH->ηO->b∉59e7:=λ{b o} z n1 n2 hb=>by
  rcases J b hb with (y | y | y) | y | y <;> rw[y] at z
  ·rw[T] at z;show 113
  ·rw[hrl] at z;show 113
  ·rw[hsl] at z;show 113
  ·rw[ho] at z;show 177
  ·rw[hn] at z;show 177
 have Q:∀{b:Addr}{xs:δ},H6 b=some γP->b≠R.K.dn->b≠rl->b≠sl->b∉59e7:=λ{b xs} z n1 n2 n3 hb=>by
  rcases J b hb with (y | y | y) | y | y
  ·exact n1 y
  ·exact n2 y
  ·exact n3 y
  ·rw[y,ho] at z;cases z
  ·rw[y,hn] at z;cases z
 have an:a_ G 120e1:=zK (λb o z=>kp b o (λw=>by rw[w,I.no _ ζr] at z;cases z) (sG _ _ z)) λb hb=>by
  rcases J b hb with (y | y | y) | y | y <;> rw[y]
  ·show 178
  ·exact sG.free s
  ·exact sG.free j
  ·show 178
  ·show 178
 have U:∀zs,d_ a (upd Γx R.K.dn ηa) R.K ωB η5 X:=λzs=>by
  have tn:∀b∈[a.t38,γZ,εF],∃ps,H b=some 18e7:=λb hb=>by
   rcases FC.mp hb with rfl | hb
   ·obtain⟨ps,y,_⟩:=tb.o;exact ωg
   rcases FC.mp hb with rfl | hb
   ·obtain⟨ps,y,_⟩:=tb.n;exact ωg
   ·rw[Ge.mp hb]
    show 407;exact ωg
  have h1:d_ a Θn R.K e η5 X:=hR.keep (ms:=[ζ8,γZ,εF]) (λb o n z=>by
   by_cases w:b=R.K.dn
   ·rw[w,ac,← g,← w];exact z
   ·rw[ae w,b9]
    ·exact kp b o (λy=>n χU) z
    ·intro hb
     rcases J b hb with (y | y | y) | y | y
     ·exact w y
     ·rw[y,s] at z;cases z
     ·rw[y,j] at z;cases z
     ·exact n χU
     ·exact n χU) (λb hb C d fs z=>by
    obtain⟨ps,y⟩:=tn b hb;rw[y] at z;cases z) (λb hb z=>by
    obtain⟨ps,y⟩:=tn b z;show 381
    rw[y] at y2;cases y2)
  have:=h1.told (H':=upd Θn R.K.dn ηa) (λb o n z=>by rw[ae τV];exact z) ac rfl
  rwa [bb] at this
 obtain⟨c',c1,c2,c3,pm,ad,a1,a2,a3,a4,a5,a6⟩:=lam.ex
 have ex:∀{b:Addr}{φ:Heap->Prop},H6 b=some (.ext φ)->bz νN H6 b=some (.ext φ):=λ{b φ} z=>by
  rw[b9 (Y z εe (λ_ y=>by cases y))]
  exact z
 have O:=s36 _ _ hol
 have m0:=KP st νu;refine #[#[I.code.same an,ζn,I.n16,I.W,ψS,?_,hcs,#[rfl,#[c',c1,c2,c3,pm,ad,ex a1,ex a2,ex a3,ex a4,ex a5,a6],?_,?_,λk D=>?_,hst,U],he,?_,dH ϒ,dH (by simp),dH (by simp),dH (by simp),d3,?_,?_],#[qD _ _,hrl,hsl,#[ds,T,by rw[aw];exact B_ _],E.o,KR,M_,λk hk=>absurd hk GH]]
 ·rw[b9 (Y hx6 εe (λ_ y=>by cases y))];exact hx6
 ·show bz _ H6 cl=_
  rw[b9 (Q hcl (λz=>by rw[z] at ncl;rw[k3 _ _ (nl g) g] at ncl;cases ncl) d1 d2)];exact hcl
 ·show bz _ H6 ol=_
  rw[b9 (Q O (λz=>by rw[z,g] at nol;cases nol) (aq hol nrl) (aq hol nsl))];exact O
 ·rw[hsr]
  exact I.sh.len _ m0
 ·have D:k < R.N+R.M:=by rw[<- hsr];exact D
  exact #[I.pll D,hat k D]
 ·exact hsr
 ·exact(aq ώe nrl).symm
 ·exact(aq ώe nsl).symm
inductive wg (a:q_) (vs:δ) (H:Hp) (Q:VK) (E_3:XK):Prop
 | mk:∀(G:Hp) (R:Rw) (ro dx:Addr) (e st:Nat) (X:Nat->Nat->Option Int) (srow:List (Option Nat)),vs=[.ref ro,.int st]->G ro=some (.ins a.C_Row dx (Ka R))->Kq a G R->a_ G H->d_ a H R.K e (FL R.K.L .non) X->srow.length=R.N+R.M->((∀k,k < R.N+R.M->ov (sv R.K X (R.pl st k) st)=Gd (srow.getD k none)))->LB a H->e<=8000->st < R.K.S->(∀A H',Ik a H H' R e st X (HK R st) srow A->Q (.ref A.A) H')->wg a vs H Q E_3
theorem gf (T:θ) (B:η7):x_ P wo K mg base 5 a.f105 ["self", "stripe"] (wg a):=by
 refine Bn T.x105.F (k:=4) Os (λvs H Q E h=>?_) τU
 ·obtain⟨G,R,ro,dx,e,st,X,Y,rfl,_⟩:=h
  rfl
 ·obtain⟨G,R,ro,dx,e,st,X,cw,rfl,ce,I,sG,hR,cv,b6,tb,he,aw,q⟩:=h
  refine⟨_,(oO (ar (i:=2) Os.nd rfl 15e3 ϟ)
   (oO (ar (i:=3) Os.nd rfl 15e3 (ao εN γs T.x74.me (gC T) hr.u T.x74.b .nil aj γ8))
   (oO (cK (i:=4) Os.nd rfl 0e2 (i_.of (cap:=[1,2]) (own:=["plank"]) γc) rfl (aP ϐ) δu γ3 (λ_ _ _ _ _=>by exact(g0 (aX (ao ω Γ T.x87.me (uh T) hr.u T.x87.b .nil aj ξO)) (ao ω Γ T.x86.me (qr T) hr.u T.x86.b .nil aj γt) aL)))
   (DB (cx T.Ad3 (rp T) hr.u rfl T.m_Asking T.x31.b .nil aj (aa ϟ (aa (Ex (T.x105.F.tab B.Ad8 B.Ad5) rfl) ζL))))))),?_⟩
  unfold QU QF Mg
  have O:=sG _ _ ce;refine #[_,rfl,ro,_,_,_,_,rfl,O,ϧ,εd,cT R,?_];show 2
  obtain⟨a7,b2⟩:=id (I.sh.same sG).sh;refine #[_,rfl,ro,_,_,_,_,rfl,O,ϧ,T.A56,jc R,R.sp,a7,_,rfl,b2,rfl,_,rfl,R.sp,R.tp,R.N,R.N+R.M,γO,R.m,R.qs,ιQ,st,rfl,I.sh.same sG,aw,λol a1=>?_];show 2
  have sO:=a_.new (o:=.lst (rowV Γ6)) a1
  have Z:(upd H ol τZ) ol=some 91e9:=ac;generalize (upd H ol (.lst (rowV (R.row (st % R.m)))))=H1 at sO Z
  show 176
  show 24
  have ad:(R.row ιV).length=R.N+R.M:=I.sh.len _ m0;refine #[_,rfl,ol,rfl,ϐq,λD nD=>?_];refine gI (xs:=rowV Γ6) (f:=Ov R.K st) (cs:=[some δT,some π1]) (c_.of Z) nD rfl (by rw[az,ad];exact FG n8 ζ) (λx Hx R1 hx sx g=>?_) ηR
  ·obtain⟨j,hj⟩:=Lc hx
   obtain⟨p,ep,rfl⟩:=br hj
   have hp:p < R.K.P:=by rw[I.P];exact I.lt _ m0 _ (Gi ep)
   have a0:=hR.same (sO.trans sx);obtain⟨dr,a3⟩:=id a0.ins;refine #[_,rfl,γS,dr,_,rfl,a3,rfl,_,rfl,_,rfl,R.K,e,p,st,_,X,rfl,a0,hp,aw,_,rfl,?_]
   have g:=g _ ϡ;refine b_ ν0 ν0
   ·rw[show Ov R.K st ψi=.int ((R.K.kd p).pr:Nat) by show Gd ϑT=_;unfold Kl;rw[if_pos y];rfl] at g
    exact #[_,rfl,γS,dr,_,rfl,a3,rfl,_,rfl,R.K,e,p,_,X,rfl,a0,hp,g]
   ·rw[show Ov R.K st ψi=.non by show Gd ϑT=_;unfold Kl;rw[if_neg y];rfl] at g
    exact g
  ·rw[Fn] at hD
   have U:=sO.trans s2;refine #[_,rfl,ro,_,_,_,_,rfl,U _ _ O,ϧ,T.A84,wf R,?_];refine vL (q:=qR) (pos:=Lv) (tb.r.keep U) λH3 c' fa _ pm bm k3 t3 c0 ch b5 cy=>?_
   have a5:∀b o,b≠a.t105->H b=some o->H3 b=some o:=λb o n e=>k3 b o n (U _ _ e)
   have a2:∀{b:Addr}{o:HO},H2 b=some o->ηO->H3 b=some o:=λ{b o} e n=>k3 b o (λz=>by
    obtain⟨ps,y,_⟩:=tb.r.keep U
    rw[z,y] at e;exact n _ (FK e).symm) e
   have cr:=a2 hD εe
   have a8:a_ G H3:=λb o e=>a5 b o (λz=>by rw[z,I.no _ ζr] at e;cases e) (sG _ _ e)
   refine #[_,rfl,λx an nx b0 b3=>?_]
   have sx:a_ H3 (upd (upd H3 an θw) x (.ins γ1 an [])):=(a_.new (o:=.own x) b0).trans λb o z=>by
    by_cases w:b=x
    ·rw[w,ae b3.symm,nx] at z;cases z
    ·rw[ae w];exact z
   refine #[x,an,R.c,R.bp,R.fp,fa,D,R.r,R.w,R.n,R.M,R.N,R.l,HK R st,rfl,ac,(I.code.same a8).same sx,I.W,c_.of (sx _ _ cr),by unfold HK;rw[o_,ad];exact n8,λH5 cl rl sl k5 a9 bt nrl nsl d1 d2 d3 cc b4 ck=>#[rfl,Iy (s.heap.objs.size+1+1+1) (s.heap.objs.size+1+1) Ϛ π1 ζM δT,?_,λa4=>?_]]
   ·intro c v z
    rcases vM z with ⟨rfl,rfl⟩ | ⟨rfl,rfl⟩ | ⟨rfl,rfl⟩
    ·exact #[2,_,rfl,rfl,rfl,rfl]
    ·exact #[3,_,rfl,rfl,rfl,rfl]
    ·exact #[1,_,rfl,rfl,rfl,rfl]
   ·have n1:s.heap.objs.size+1+1+1≠s.heap.objs.size+1+1:=by omega
    have n2:s.heap.objs.size+1+1+1≠s.heap.objs.size+1:=by omega
    have n3:s.heap.objs.size+1+1≠s.heap.objs.size+1:=by omega
    generalize J:Iy (s.heap.objs.size+1+1+1) (s.heap.objs.size+1+1) (s.heap.objs.size+1) (.ref R.K.rk) (.ref ol) (.int st)=cvs at a4
    have sm:a_ H5 (Kc cvs H5):=λb o z=>by
     rw[bO]
     ·exact z
     cases y:cvs.lookup b with
     | none=>rfl
     | some v=>rw[(a4 b v y).1] at z;cases z
    have aT:a_ H3 H5:=λb o z=>k5 b o (aq z nx) (sx _ _ z)
    have a6:=sm _ _ (aT _ _ ch)
    have b1:=sm _ _ (aT _ _ b5);refine q _ _ (DU I sG hR (by unfold HK;rw[o_,ad]) cv b6 tb he aw a5 t3 (aT.trans sm) (sx.free bt) (sx.free nrl) (sx.free nsl) d1 d2 d3 (sm _ _ a9) (sm _ _ cc) (sm _ _ b4) (sm _ _ ck) a1 (a2 ωf εe) #[c',_,_,_,pm,bm,a6,b1,li (by rw[<- J];exact zF),li (by rw[<- J];exact zG n1),li (by rw[<- J];exact zH n2 n3),n1,n2,n3])
theorem DV (r w n M N:Nat) (l:ϕ) (bs:η) (g:ν1) (W:θ4) (hb:bs.length=N):Jj r w n M N l (eF r w n M N l bs)=true:=by
 unfold Jj eF;rw[IM];intro t ht
 have ht:=GG.mp ht
 apply decide_eq_true
 rw[yu,SV (by rw[aK,hb]),GF.Gv]
 have h1:=GF.IN γh g.w1 (n:=n) (t:=t) M 0 ((r_ M).map λt=>GF.F8 r w n ύ0) (by rw[o_,Gf]) λb hb=>by
  obtain⟨j,hj,rfl⟩:=G6.mp hb;exact GF.Jh γh Ψb
 simp only[Qj] at h1;rw[h1,if_pos γ,Uf,v_,FM,Ib ht]
 exact LO _
theorem CD (r w n M N:Nat) (l:ϕ) (bs:η) (hb:bs.length=N):(eF r w n M N l bs).length=N+M:=by
 unfold eF;rw[Hr,o_,Gf,hb]
theorem DW {bs:η} (g:ν1) (W:θ4) (hlt:∀b∈bs,b < γg ^ n):∀b∈eF r w n M N l bs,b < γg ^ n:=λb hb=>by
 unfold eF at hb;rcases Hi.mp hb with h | h
 ·exact hlt b h
 ·obtain⟨j,hj,rfl⟩:=G6.mp h
  exact GF.Jh γh Ψb
theorem CF:(knO os).getD j false=(os.getD j none).isSome:=by
 unfold knO;rw[v_,FM,v_]
 cases os[j]? <;> rfl
def Nw (R:Nat) (os:ϝ) (as:η):Prop:=ρm=R/\∀k,k < R->(os.getD k none).isSome=true\/k∉as
theorem Fo {R:Nat}{k:Nat} (hs:(srow.getD k none).isSome=true) (h:Nw R os as):Nw R (tk cs srow os as k).1 (tk cs srow os as k).2:=by
 unfold tk
 split
 ·refine #[by rw[JJ];exact h.1,λj hj=>?_]
  by_cases z:j=k
  ·subst z
   exact .inl (by rw[v_,LK (by rw[h.1];exact hj)];exact hs)
  ·rcases h.2 j hj with y | y
   ·exact .inl (by rw[v_,LG θj,← v_];exact y)
   ·exact .inr λe=>(Hi.mp e).elim y λe=>z (Ge.mp e)
 ·exact h
theorem wj {R:Nat}{cs srow:ϝ}:∀(ks:η) (os:ϝ) (as:η),(∀k∈ks,(srow.getD k none).isSome=true)->Nw R os as->Nw R (cb cs srow ks os as).1 (cb cs srow ks os as).2
 | [],_,_,_,h=>h
 | k :: ks,os,as,hk,h=>by
  have h1:=Fo (cs:=cs) ώL h;unfold cb
  split
  ·exact wj ks _ _ ΩK h1
  ·exact h1
theorem mC {k:Nat} (h:ιJ):((GA n).getD k none).isSome=true:=by
 unfold GA;rw[v_,LN,if_pos h];rfl
theorem DX (n k:Nat):((GA n).getD k none).getD 0<=1000000:=by
 unfold GA;rw[v_,LN]
 split
 ·exact(by decide:1<=1000000)
 ·exact GO _
theorem zL (n:Nat) (Y:η):c5 n (Jk Y) Y:=λj _ b hb=>by
 unfold Jk at hb;rw[v_,FM] at hb;rw[v_]
 cases e:Y[j]? with
 | none=>rw[e] at hb;cases hb
 | some y=>rw[e] at hb;exact FK hb
theorem EN (n:Nat):Nw n θ1 []:=#[KR,λ_ _=>.inr GH]
variable {Y:List Nat}
theorem DY {k:Nat} (h:k < Y.length):((Jk Y).getD k none).isSome=true:=by
 unfold Jk;rw[v_,FM,s_ h];rfl
theorem EO {k:Nat} (h:Nw n os as) (hk:ιJ) (z:(knO os).getD k false=τ):FB (GA n) as k=true:=by
 rw[CF] at z;unfold FB;rw[mC hk,Bool.true_and];rcases h.2 k hk with y | y
 ·rw[y] at z;cases z
 ·cases e:as.contains k with
  | false=>rfl
  | true=>exact absurd ωD y
theorem DZ {os':ϝ}{as' L':η}{b:Bool} (hL:ώc) (hL':ύG) (hs:∀j,j < N+M->(srow.getD j none).isSome=true) (h:LU r w M N l (GA (N+M)) srow L L' os as os' as' b):Nw (N+M) os as->b=true/\os'.length=N+M:=by
 induction h with
 | done _=>exact λnw=>⟨rfl,nw.1⟩
 | none e1 e2 pm pw hn =>
  intro nw
  exfalso
  rename_i os as ms
  unfold gO at hn
  have hn:=Bv (Option.map_eq_none_iff.mp hn);unfold ja bM at hn;rw[if_pos] at hn
  ·cases hn
  ·refine IM.mpr λk hk=>?_
   have hk:=G1.mp hk;refine EO nw (hL k hk.1) ?_
   have z:fx r w M N l ϑ k=false:=by
    cases z:fx r w M N l (knO os) k with
    | false=>rfl
    | true=>rw[z] at hk;show 357
   unfold fx at z;exact(Bool.or_eq_false_iff.mp z).1
 | step e1 e2 pm _ hn _ ih=>exact λnw=>ih (wj _ _ _ (λj hj=>hs j ((we e1 e2 pm hL hL' hn).1 j hj).1) nw)
structure Iv (a:q_) (G H:Hp) (R:Rw) (ro:Addr) (e:Nat) (Pr:ϊ4):Prop where
 ro:∃dx,G ro=some ξV
 I:Kq a G R
 sG:a_ G H
 rk:∃X,d_ a H R.K e η5 X/\Pr X
 tb:LB a H
abbrev KD (a:q_) (G H:Hp) (R:Rw) (ro:Addr) (e:Nat) (Y:δC):Prop:=Iv a G H R ro e λX=>IB R X Y
theorem Iv.same {G H H':Hp}{a:q_}{R:Rw}{ro:Addr}{e:Nat}{Pr:ϊ4} (h:ι8) (s:γN):Iv a G H' R ro e Pr :=
 #[h.ro,h.I,h.sG.trans s,h.rk.imp λ_ z=>#[z.1.same s,z.2],#[h.tb.o.keep s,h.tb.n.keep s,h.tb.r.keep s,h.tb.on,h.tb.or,h.tb.nr]]
variable {ro:Addr}{Pr:(Nat->Nat->Option Int)->Prop}
theorem Iv.kb (h:ι8) (k:KB δV H H'):a_ G H':=λb o z=>k b o (λy=>by rw[h.I.no b y] at z;cases z) (h.sG _ _ z)
theorem Iv.mst (h:ι8):∀x∈R.ms a,93e7\/∃ps,H x=some 18e7:=λx hx=>by
 obtain⟨X,hR,_⟩:=h.rk;unfold Rw.ms at hx;rcases FC.mp hx with rfl | hx
 ·exact .inl (hR.isLst Im)
 rcases FC.mp hx with rfl | hx
 ·exact .inl #[_,ιN]
 rcases FC.mp hx with rfl | hx
 ·exact .inr (h.tb.o.imp λ_ z=>z.1)
 rcases FC.mp hx with rfl | hx
 ·exact .inr (h.tb.n.imp λ_ z=>z.1)
 rcases FC.mp hx with rfl | hx
 ·exact .inr (h.tb.r.imp λ_ z=>z.1)
 rcases FC.mp hx with rfl | hx
 ·exact .inl #[_,δd]
 ·exact .inl (hR.isLst (Hl _ (Hl _ ωs)))
variable {A:FQ}{ys:List Addr}
theorem Ik.isL (S:ξI) (hys:χw):∀x∈Γn,(∃xs,H' x=some γP)\/∃ps,H' x=some 18e7:=λx hb=>by
 obtain⟨_,J0⟩:=S.ask ys hys;rcases FC.mp hb with y | hb
 ·obtain⟨zs,w,_⟩:=J0.hz
  rw[S.z] at w;rw[y];exact .inl #[_,w]
 rcases FC.mp hb with y | hb
 ·rw[y];exact .inl #[_,J0.hr]
 rcases FC.mp hb with y | hb
 ·rw[y];exact .inl #[_,J0.hs]
 rcases FC.mp hb with y | hb
 ·rw[y];exact .inr (S.tb.o.imp λ_ z=>z.1)
 ·rw[hys x hb];exact .inr (S.tb.n.imp λ_ z=>z.1)
theorem Ik.keep (S:ξI) (hys:χw) {b:Addr}{o:HO} (nb:b∉R.ms a) (z:H b=some o):bz Γn H' b=some o:=by
 have n1:∀{x},x∈R.ms a->b≠x:=λ{x} hx y=>nb (y ▸ hx);rw[b9]
 ·exact S.kp b o (n1 ζr) z
 ·intro hb
  rcases FC.mp hb with y | hb
  ·exact n1 ζr y
  rcases FC.mp hb with y | hb
  ·rw[y,S.rl] at z;cases z
  rcases FC.mp hb with y | hb
  ·rw[y,S.sl] at z;cases z
  rcases FC.mp hb with y | hb
  ·exact n1 ζr y
  ·exact n1 ζr (hys b hb)
variable {kvs:List (Key × V)}
theorem Fy.ob {p:Pos} (h:ζv) (hD:ύH):Fy (upd H D o) t p q:=by
 show 35;refine #[ps,by rw[ae (bo h1 hD δ6)];exact h1,?_]
 rcases h2 with h2 | ⟨c',e,h2⟩
 ·show 36
 ·exact .inr #[c',e,by rw[ae (bo h2 hD δ6)];exact h2]
theorem Iv.obj (h:ι8) (hD:ύH) (gD:G D=none):Iv a G (upd H D o) R ro e Pr :=
 ⟨h.ro,h.I,h.sG.up gD,h.rk.imp λX z=>⟨z.1.keep (ms:=[D]) (λb u n y=>by rw[ae τV];exact y) (λb hb C dx fs y=>by rw[Ge.mp hb,hD] at y;cases y) (λb hb y=>by
  obtain⟨xs,w⟩:=z.1.isLst hb
  rw[Ge.mp y,hD] at w;cases w),z.2⟩,⟨h.tb.o.ob hD,h.tb.n.ob hD,h.tb.r.ob hD,h.tb.on,h.tb.or,h.tb.nr⟩⟩
theorem Kq.lists {G:Hp}{a:q_}{R:Rw} (I:ιx):∀b∈R.K.lists,b∈R.ms a:=λb hb=>by
 unfold Rk.lists at hb;unfold Rw.ms;rcases FC.mp hb with rfl | hb
 ·show 114
 rcases FC.mp hb with rfl | hb
 ·simp
 rcases FC.mp hb with rfl | hb
 ·simp
 ·exact .tail _ Ξy
theorem Iv.upL (h:ι8) (hx:οA) (nx:x∉R.ms a) (gx:G x=none):Iv a G ζs R ro e Pr :=
 #[h.ro,h.I,h.sG.up gx,h.rk.imp λX z=>#[z.1.keep (ms:=[x]) (λb u n y=>by rw[ae τV];exact y) (λb hb C dx fs y=>by rw[Ge.mp hb,hx] at y;cases y) (λb hb y=>nx (by rw[<- Ge.mp y];exact h.I.lists b hb)),z.2],#[h.tb.o.up hx,h.tb.n.up hx,h.tb.r.up hx,h.tb.on,h.tb.or,h.tb.nr]]
theorem Ik.back (h:ι8) (hX:Pr X) (S:ξI) (hys:χw) (J:t_ a τB H2 A n os as) (tn:Fy H2 γZ IJ qW):∃e',e'<=e+as.length/\Iv a G H2 R ro e' Pr/\KB δV H H2:=by
 obtain⟨I,J0⟩:=S.ask ys hys;obtain⟨e',he,hR⟩:=t_.rk I J;rw[S.rk,S.ss,S.X] at hR;rw[S.B] at he;obtain⟨po,ho,_⟩:=id S.tb.o;show 408;obtain⟨pr,hr,_⟩:=id S.tb.r
 have kb:KB δV H H2:=λb o nb z=>J.sm b o (S.keep hys nb z)
 have isL:=S.isL hys
 have hz:∃zs,H' R.K.dn=some 31e0:=by
  obtain⟨zs,y,_⟩:=J0.hz;rw[S.z] at y;exact #[zs,y]
 have tr:Fy H2 εF Lv qR:=(S.tb.r.hide (λhb=>by
  rcases FC.mp hb with y | hb
  ·obtain⟨zs,w⟩:=hz
   show 179
  rcases FC.mp hb with y | hb
  ·have w:=J0.hr
   show 179
  rcases FC.mp hb with y | hb
  ·have w:=J0.hs
   show 179
  rcases FC.mp hb with y | hb
  ·exact S.tb.or νA
  ·exact S.tb.nr (hys _ hb).symm) isL).keep J.sm
 exact #[e',he,#[h.ro,h.I,h.kb kb,#[X,hR,hX],#[ιO,tn,tr,S.tb.on,S.tb.or,S.tb.nr]],kb]
inductive fb (a:q_) (vs:δ) (H:Hp) (Q:VK) (E_3:XK):Prop
 | mk:∀(G:Hp) (R:Rw) (ro:Addr) (e:Nat) (Pr:(Nat->Nat->Option Int)->Prop),vs=[.ref ro]->Iv a G H R ro e Pr->Q .non H->fb a vs H Q E_3
theorem mf (T:θ):x_ P wo K mg base 2 a.f103 ["self"] (fb a):=by
 refine T.x103.F.okA (k:=1) lV ι
 ·obtain⟨G,R,ro,e,Pr,rfl,S,q⟩:=h
  show 409
  show 0
  show 7;refine xi (bS (aX (aW εN Γ T.x88.me (mR T) hr.u T.x88.b .nil aj))) ?_
  show 4
  show 3;refine #[_,rfl,ro,_,_,_,_,rfl,S.sG _ _ g,ϧ,εd,cT R,γS,dr,_,rfl,j,rfl,R.K,e,_,X,rfl,hR,_,rfl,?_];exact b_ εL εB
inductive iG (a:q_) (vs:δ) (H:Hp) (Q:VK) (E_3:XK):Prop
 | mk:∀(G:Hp) (R:Rw) (ro:Addr) (e:Nat) (Pr:(Nat->Nat->Option Int)->Prop),vs=[.ref ro]->Iv a G H R ro e Pr->(∀D H',a_ H H'->H' D=some (.lst [])->Q (.ref D) H')->iG a vs H Q E_3
theorem je (T:θ):x_ P wo K mg base 2 a.f104 ["self"] (iG a):=by
 refine T.x104.F.okA (k:=1) qe ι
 ·obtain⟨G,R,ro,e,Pr,rfl,S,q⟩:=h
  show 409
  show 0
  exists xl (aA (bc (i_.of (cap:=[]) (own:=["note"]) γc) rfl (aP (aW εN Γ T.x89.me (qt T) hr.u T.x89.b .nil aj)) θP γ3 (λ_ _ _ _ _=>by exact Φl)))
  refine #[_,rfl,ro,_,_,_,_,rfl,S.sG _ _ g,ϧ,εd,cT R,γS,dr,_,rfl,j,rfl,R.K,e,X,rfl,hR,λI H1 s1 hI=>#[I,rfl,#[_,c_.of hI],λD nD=>?_]];exact gI (xs:=[]) (f:=λx=>x) (cs:=[]) (c_.of hI) nD rfl 48e4 (λx _ _ hx=>absurd hx GH) λH2 s2 hD=>q D H2 ιf hD
inductive kO (a:q_) (vs:δ) (H:Hp) (Q:VK) (E_3:XK):Prop
 | mk:∀(G:Hp) (R:Rw) (ro:Addr) (e:Nat) (Pr:(Nat->Nat->Option Int)->Prop),vs=[.ref ro]->Iv a G H R ro e Pr->(∀H',a_ H H'->Q .non H')->kO a vs H Q E_3
theorem mh (T:θ):x_ P wo K mg base 3 a.f102 ["self"] (kO a):=by
 refine T.x102.F.okA (k:=2) QJ ι
 ·obtain⟨G,R,ro,e,Pr,rfl,S,q⟩:=h
  obtain⟨dx,g⟩:=S.ro
  show 0
  exists xc (aE (aW ο ϧ T.x103.me (mf T) hr.u T.x103.b .nil aj))
  exists xc (ar (i:=1) QJ.nd rfl 0e2 (aW ο ϧ T.x104.me (je T) hr.u T.x104.b .nil aj))
  show 7;refine xi (am b7 ξu ai υ) ?_
  show 4
  show 3;refine #[_,rfl,ro,dx,_,rfl,S.sG _ _ g,rfl,G,R,ro,e,Pr,rfl,S,?_];refine #[_,rfl,ro,dx,_,rfl,S.sG _ _ g,rfl,G,R,ro,e,Pr,rfl,S,λD H1 s1 hD=>?_];refine #[_,rfl,D,_,rfl,.inl (c_.of hD),_,_,rfl,rfl,_,rfl,?_];exact b_ (λy=>absurd ηv ζ) (λ_=>q H1 s1)
inductive yO (a:q_) (vs:δ) (H:Hp) (Q:VK) (E_3:XK):Prop
 | mk:∀(p fp:Addr) (r w n:Nat) (i:Int),vs=[.ref p,.int i]->FR a H p fp r w n->Q (.bl (decide (0<=i/\i < (((2 ^ w) ^ n:Nat):Int)))) H->yO a vs H Q E_3
theorem rA (T:θ):x_ P wo K mg base 1 a.f53 ["self", "block"] (yO a):=by
 refine T.x53.F.okA (k:=0) qU ι
 ·obtain⟨p,fp,r,w,n,i,rfl,hB,q⟩:=h
  show 330
  show 0
  exists xl (aA (BU CY bq ai ω ϟ))
  refine Ϥ;show 101
  ·have h0:=of_decide_eq_true h
   refine #[_,rfl,p,_,_,_,_,rfl,g,γT,T.A63,Co fp w n,_,_,rfl,rfl,?_]
   have e:decide (i < ((γg ^ n:Nat):Int))=decide 151e1:=decide_eq_decide.mpr #[λz=>#[h0,z],λz=>z.2];rw[<- e] at q;exact q
  ·have e:decide Ψx=false:=decide_eq_false λz=>h (decide_eq_true z.1)
   show 145
def II (N at' i s:Nat):List Nat:=(r_ N).filter λk=>decide (at'<=s * N+k/\s * N+k < at'+i)
variable {at' s:Nat}
theorem GL {k:Nat}:k∈II N at' i s ↔ k < N/\at'<=s * N+k/\s * N+k < at'+i:=by
 unfold II;rw[G1,GG];exact #[λh=>#[h.1,of_decide_eq_true h.2],λh=>#[h.1,decide_eq_true h.2]]
theorem qE (N at' i s:Nat):(II N at' i s).Pairwise (· < ·):=Ll _ OE
theorem iH {p:Nat}:p / N * N+p % N=p:=by rw[Kt];exact UO p N
theorem wk {p k:Nat} (hk:k < N) (h:s * N+k=p):s=p / N/\k=p % N:=by
 subst h;rw[Kt,Tf γ,SC hk,Ti,Tl hk]
 exact μT
theorem tL (h:s≠(at'+i) / N):II N at' (i+1) s=II N at' i s:=by
 unfold II;refine List.filter_congr λk hk=>decide_eq_decide.mpr #[λz=>#[z.1,?_],λz=>#[z.1,by omega]]
 have:s * N+k≠at'+i:=λe=>h (wk πm e).1;omega
theorem D0 (n0:0 < N):II N at' (i+1) ιg=II N at' i ιg++[(at'+i) % N]:=by
 have e:=iH (N:=N) (p:=at'+i)
 have hm:=KP (at'+i) n0
 have j:∀k∈II N at' i ιg,k < (at'+i) % N:=λk hk=>by
  have:=(GL.mp hk).2.2;omega
 have g:(II N at' i ιg++[(at'+i) % N]).Pairwise (· < ·):=List.pairwise_append.mpr #[qE _ _ _ _,Uv _ _,λx hx y hy=>by rw[Ge.mp hy];exact j x hx]
 refine Qu (le:=λx y:Nat=>x < y) (λx y _ _ h1 h2=>by omega) (qE _ _ _ _) g ?_
 refine(Rg ((qE _ _ _ _).imp λh=>F0 h) (g.imp λh=>F0 h)).mpr λx=>?_;rw[Hi,Ge,GL,GL]
 constructor
 ·intro⟨h1,h2,h3⟩
  by_cases z:x=(at'+i) % N
  ·show 102
  ·exact .inl ⟨h1,h2,by
    have:(at'+i) / N * N+x≠at'+i:=λy=>z (wk h1 y).2
    omega⟩
 ·rintro(⟨h1,h2,h3⟩ | h)
  ·exact #[h1,h2,by omega]
  ·subst h
   exact #[hm,by omega,by omega]
def Gq (es:χx):List (Key × V):=es.map λe=>(Sum.inl ((e.1:Nat):Int),V.ref e.2)
variable {es:List (Nat × Addr)}
theorem yP:(s∉es.map (·.1)/\G3 (Gq es) ο3=none)\/∃nd,(s,nd)∈es/\G3 (Gq es) ο3=some 27e4:=by
 induction es with
 | nil=>exact .inl ⟨GH,rfl⟩
 | cons e es ih =>
  by_cases z:e.1=s
  ·subst z
   refine .inr #[e.2,.head _,?_];unfold Gq;rw[Ie,hV rfl]
  ·have h:G3 (Gq δm) ο3=G3 (Gq es) 67e5:=by
    unfold Gq;rw[Ie,hZ (λy=>z (Ql (Sum.inl.inj y)))]
   rw[h];rcases ih with ⟨h1,h2⟩ | ⟨nd,h1,h2⟩
   ·exact .inl #[λy=>(FC.mp y).elim (λy=>z νA) h1,h2]
   ·exact .inr #[nd,.tail _ h1,h2]
structure Kf (N at' S:Nat) (nb:ϕ) (H H':Hp) (D:Addr) (es:χx) (i:Nat):Prop where
 sm:a_ H H'
 hD:H' D=some Γ7
 n1:(es.map (·.1)).Nodup
 n2:(es.map (·.2)).Nodup
 is:∀e∈es,H' e.2=some (.dK (bh (II N at' i e.1) (nb e.1)))/\H e.2=none/\e.2≠D
 lt:∀e∈es,e.1 < S
 all:∀s,II N at' i s≠[]->s∈es.map (·.1)
theorem Kf.same {nb:ϕ} (h:ξS) (s:a_ H' H2):Kf N at' S nb H H2 D es i :=
 #[h.sm.trans s,s _ _ h.hD,h.n1,h.n2,λe he=>#[s _ _ (h.is e he).1,(h.is e he).2],h.lt,h.all]
theorem Kf.len {nb:ϕ} (h:ξS):es.length<=S:=by
 have:=bR S _ h.n1 λs hs=>by
  obtain⟨e,he,rfl⟩:=G6.mp hs;exact h.lt e he
 rwa [o_] at this
theorem Kf.new {N at' S i s:Nat}{nb:ϕ}{H H' H2:Hp}{D nd:Addr}{es:χx} (h:ξS) (hs:s∉es.map (·.1)) (hS:s < S) (nD:πU) (nn:H' nd=none) (h2:H2=upd (upd H' nd πZ) D (.dK (Gq ϑ5))):Kf N at' S nb H H2 D ϑ5 i:=by
 subst h2
 have dn:nd≠D:=(aq h.hD nn).symm
 have em:II N at' i s=[]:=Decidable.byContradiction λz=>hs (h.all s z);refine #[((h.sm.trans (a_.new nn)).up nD),ac,?_,?_,λe he=>?_,λe he=>?_,λs' z=>?_]
 ·rw[HU]
  exact j4 h.n1 hs
 ·rw[HU]
  refine j4 h.n2 λz=>?_;obtain⟨e,he,y⟩:=G6.mp z
  have:=(h.is e he).1;rw[y,nn] at this
  show 8
 ·rcases Hi.mp he with he | he
  ·obtain⟨a1,a2,a3⟩:=h.is e he
   exact #[by rw[ae a3,ae (aq a1 nn)];exact a1,a2,a3]
  ·rw[Ge.mp he]
   exact #[by rw[ae dn,ac,em];rfl,h.sm.free nn,dn]
 ·rcases Hi.mp he with he | he
  ·exact h.lt e he
  ·rw[Ge.mp he];exact hS
 ·rw[HU]
  exact Oe _ (h.all s' z)
theorem Kf.put {nb:ϕ}{nd:Addr} (n0:0 < N) (h:ξS) (he:190e1∈es) (nD:πU):Kf N at' S nb H (upd H' nd (.dK (bh (II N at' i ιg++[(at'+i) % N]) (nb ιg)))) D es (i+1):=by
 obtain⟨a1,a2,a3⟩:=h.is _ he;refine #[h.sm.up a2,by rw[ae (F5 a3)];exact h.hD,h.n1,h.n2,λe hm=>?_,h.lt,λs z=>?_]
 ·obtain⟨b1,b2,b3⟩:=h.is e hm
  refine #[?_,b2,b3]
  by_cases y:e.2=nd
  ·have:e=190e1:=by
    show 410
    have:194e1[j]'(by rw[o_];exact hj)=194e1[j']'(by rw[o_];exact g):=by rw[MA,MA,e1,e2];exact y
    have:=(L0 h.n2).mp this;show 16;exact e1.symm.trans e2
   show 16;rw[ac,D0 n0]
  ·rw[ae y,b1,tL (λz=>y ?_)]
   show 410
   have:105e1[j]'(by rw[o_];exact hj)=105e1[j']'(by rw[o_];exact g):=by rw[MA,MA,e1,e2];exact z
   have:=(L0 h.n1).mp this;show 411;rw[e2]
 ·by_cases y:s=(at'+i) / N
  ·rw[y];exact G6.mpr #[_,he,rfl]
  ·rw[tL y] at z
   exact h.all s z
inductive fY (a:q_) (vs:δ) (H:Hp) (Q:VK) (E_3:XK):Prop
 | mk:∀(G:Hp) (R:Rw) (ro so:Addr) (i e:Nat) (Y:Nat->List Nat) (bs:List Nat),vs=[.ref ro,.int i,.ref so]->KD a G H R ro e Y->H so=some (.lst (rowV bs))->bs≠[]->i+bs.length<=R.N * R.K.S->((∀b∈bs,b < (2 ^ R.w) ^ R.n))->Q .non H->fY a vs H Q E_3
theorem mX (T:θ):x_ P wo K mg base 2 a.f107 ["self", "at", "some"] (fY a):=by
 refine T.x107.F.okA (k:=1) QW ι
 ·obtain⟨G,R,ro,so,i,e,Y,bs,rfl,S,g,O,Z,J,q⟩:=h
  obtain⟨dx,j⟩:=S.ro
  have j:=S.sG _ _ j;obtain⟨U,D⟩:=id (S.I.sh.same S.sG).sh;obtain⟨dc,Lp,qs,hc,_,_⟩:=id (S.I.code.same S.sG).ins;obtain⟨db,hb⟩:=id (S.I.code.same S.sG).blk.ins
  have hl:(rowV bs).length=bs.length:=az bs
  have l0:bs.length≠0:=λz=>O (SH.mp z)
  show 0
  show 1;refine xi (PW.pt (aY ρi (aY (am bx ζo ai υ) (aS (am b7 (ay aU ω ζo) θE υ))))) ?_
  show 4
  show 34;refine xf Ϙ rfl 44e4 (au (i:=3) QW.nd rfl ε) ?_;show 7;refine xi (bS (aX (ao (by exact θE) γT T.x53.me (rA T) hr.u T.x53.b .nil aj θy))) ?_
  show 4
  show 20;show 22
  refine #[_,rfl,so,_,rfl,.inl νg,rfl,_,rfl,?_];refine b_ (λy=>absurd ΓB ύI) ν
  refine #[_,rfl,_,rfl,so,_,rfl,.inl νg,_,_,rfl,rfl,_,rfl,ro,_,_,_,_,rfl,j,ϧ,T.A56,jc R,R.sp,_,_,_,_,rfl,D,γs,T.A80,vI _ _ _ _,_,_,rfl,rfl,_,rfl,?_];refine b_ (λy=>absurd ηv ύI) ν
  refine #[_,rfl,so,rfl,ψ6,?_];refine cm (xs:=rowV bs) (λi' σ H'=>(∃v3:Option V,σ=[some δH,some ζB,some θc,v3])/\H'=H) ϋ0 ?_ ?_ ?_
  ·rintro i' σ H' _ ⟨_,rfl⟩
   exact c_.of g
  ·rintro i' x σ H' hx ⟨⟨v3,rfl⟩,rfl⟩
   obtain⟨b,eb,rfl⟩:=br hx;refine #[_,rfl,ro,_,_,_,_,rfl,j,ϧ,T.A84,wf R,R.c,_,_,_,_,rfl,hc,ϖ,θo,d9 _ _ _ _,R.bp,db,_,rfl,hb,rfl,_,rfl,R.bp,R.fp,R.r,R.w,R.n,b,rfl,(S.I.code.same S.sG).blk,_,rfl,?_]
   have ad:=J b (Gi eb);rw[decide_eq_true (show (0:Int)<=((b:Nat):Int)/\((b:Nat):Int) < ((νh ^ R.n:Nat):Int) by omega)]
   exact b_ εL υ2
  ·rintro σ H' ⟨⟨v3,rfl⟩,rfl⟩
   exact q
def KC (N at':Nat) (bs:η) (s k:Nat):Nat:=bs.getD (s * N+k - at') 0
inductive dO (a:q_) (vs:δ) (H:Hp) (Q:VK) (E_3:XK):Prop
 | mk:∀(G:Hp) (R:Rw) (ro so:Addr) (i e:Nat) (Y:Nat->List Nat) (bs:List Nat),vs=[.ref ro,.int i,.ref so]->KD a G H R ro e Y->H so=some (.lst (rowV bs))->bs.length<=48->i+bs.length<=R.N * R.K.S->(∀D H' es,H D=none->Kf R.N i R.K.S (KC R.N i bs) H H' D es bs.length->es.length<=bs.length->Q (.ref D) H')->dO a vs H Q E_3
theorem jP (T:θ):x_ P wo K mg base 2 a.f108 ["self", "at", "some"] (dO a):=by
 refine T.x108.F.okA (k:=1) NO ι
 ·obtain⟨G,R,ro,so,i,e,Y,bs,rfl,S,U,h9,a8,q⟩:=h
  obtain⟨dx,O⟩:=S.ro
  have O:=S.sG _ _ O
  show 180
  have ad:=S.I.sh.same S.sG
  have N0:0 < R.N:=S.I.W.n1
  show 0
  exists xc (ar (i:=3) NO.nd rfl 0e2 oR)
  show 1;refine xf Ϙ rfl (gT rfl T.A38 γt) (c7 rfl (aN (au (i:=4) NO.nd rfl ε) (aN (au (i:=5) NO.nd rfl ε) bZ))) ?_
  exists xc (ar (i:=6) NO.nd rfl 0e2 (ao εN γs T.x72.me (mV T) hr.u T.x72.b .nil aj (aa (ay aU ω γv) ab)))
  show 1;refine xi (uu (sj εv ξE ϐ)) ?_
  exists xl (mw εv ϐ ξE oR rfl)
  show 3
  exists xl (mw εv (jt εv ϐ ξE γ6) ξE γ2 rfl)
  show 5
  show 27
  refine λD nD=>?_
  show 402
  have hD:(upd H D πZ) D=some (.dK (Gq [])):=ac;show 403;show 2
  refine #[_,rfl,so,_,rfl,c_.of (sD _ _ U),?_];refine let I_:Nat->L2.St->Hp->Prop:=λj σ H'=>L2.E4 λ(v4 v5 v6:Option V) (es:List (Nat × Addr))=>L2.A3 (σ=[some δH,some ζB,some θc,some γ0,v4,v5,v6]) (Kf R.N i γO ϑU H H' D es j) (es.length<=j);jT (xs:=rowV bs) I_ #[none,none,none,[],rfl,#[sD,hD,M_,M_,λe he=>absurd he GH,λe he=>absurd he GH,λs z=>absurd (List.eq_nil_iff_forall_not_mem.mpr λk hk=>by have:=(GL.mp hk).2;omega) z],B_ _] ?_ ?_ ?_
  ·rintro j σ H' _ ⟨_,_,_,_,_,I,_⟩
   exact c_.of (I.sm _ _ U)
  ·rintro j u T' σ H2 hj hu nT ⟨v4,v5,v6,es,rfl,I2,g⟩
   rw[az] at hj;obtain⟨b,eb,rfl⟩:=br hu;show 53
   have I3:=I2.same (a_.new (o:=.tup [V.int (j:Nat),.int (b:Nat)]) nT);generalize (upd H2 T' (.tup [V.int (j:Nat),.int (b:Nat)]))=H3 at I3;show 2
   have hp:i+j < R.N * R.K.S:=by omega
   obtain⟨aw,a0⟩:=id (ad.same I3.sm).sh;refine #[_,rfl,ro,_,_,_,_,rfl,I3.sm _ _ O,ϧ,T.A56,jc R,R.sp,aw,_,rfl,a0,rfl,_,rfl,_,rfl,_,_,rfl,rfl,?_];show 6
   rw[show (i:Int)+(j:Int)=((i+j:Nat):Int) by omega]
   refine #[R.sp,R.tp,R.N,R.N+R.M,γO,R.m,R.qs,ιQ,i+j,rfl,ad.same I3.sm,N0,by omega,hp,λt nt=>?_]
   have I4:=I3.same (a_.new (o:=.tup [.int (((i+j) / R.N:Nat):Int),.int (((i+j) % R.N:Nat):Int)]) nt)
   have ht:(upd H3 t τe) t=some 87e2:=ac;generalize (upd H3 t (.tup [.int (((i+j) / R.N:Nat):Int),.int (((i+j) % R.N:Nat):Int)]))=H4 at I4 ht;show 2
   have hs:(i+j) / R.N < R.K.S:=SY hp
   have nb:KC R.N i bs ϑV ((i+j) % R.N)=b:=by
    unfold KC;rw[iH,MY,v_,eb];rfl
   have a6:=I4.len;obtain⟨X,hR,_⟩:=S.rk
   have s32:=hR.s32
   refine Bs (λH5=>H5 t=some τe/\∃es nd,Kf R.N i γO ϑU H H5 D es j/\190e2∈es/\es.length<=j+1) (λZ=>by
    refine⟨_,rfl,t,_,_,_,rfl,rfl,Gn.of ht,rfl,_,rfl,D,_,rfl,GV.k (k:=Sum.inl (((i+j) / R.N:Nat):Int)) I4.hD,_,rfl,?_⟩;rcases yP (es:=es) (s:=(i+j) / R.N) with ⟨h1,h2⟩ | ⟨nd,h1,h2⟩
    ·rw[h2]
     show 30;refine λnd nn=>#[_,rfl,_,rfl,t,_,_,_,rfl,rfl,Gn.of (a_.new nn _ _ ht),rfl,D,_,rfl,Jd.k (k:=Sum.inl (((i+j) / R.N:Nat):Int)) (a_.new nn _ _ I4.hD) (by unfold Gq;rw[o_];exact KM a6 (KM s32 ζ)),?_]
     rw[u3 _ h2]
     have eK:Gq es++[(Sum.inl (((i+j) / R.N:Nat):Int),V.ref nd)]=Gq (es++[ώQ]):=by unfold Gq;rw[HU];rfl
     rw[eK];exact Z _ #[by rw[ae (bo ht I4.hD δ6)];exact a_.new nn _ _ ht,_,nd,I4.new h1 hs nD nn rfl,JH _ δi,by rw[Hr];exact Nat.succ_le_succ g]
    ·rw[h2]
     refine b_ (λy=>nomatch y) (λ_=>?_)
     exact Z _ ⟨ht,es,nd,I4,h1,Ul g⟩) ?_
   rintro H5 ⟨an,J,nd,I5,hm,a5⟩;obtain⟨a1,a2,a3⟩:=I5.is _ hm
   have dg:GV H5 D (kV (Sum.inl (((i+j) / R.N:Nat):Int))) (some ζA):=by
    have:=GV.k (k:=Sum.inl (((i+j) / R.N:Nat):Int)) I5.hD;rcases yP (es:=J) (s:=(i+j) / R.N) with ⟨h1,_⟩ | ⟨a7,h1,h2⟩
    ·exact absurd (G6.mpr #[_,hm,rfl]) h1
    ·obtain⟨x,hx,e1⟩:=LH h1
     obtain⟨x',a4,e2⟩:=LH hm
     have e3:198e0[x]'(by rw[o_];exact hx)=198e0[x']'(by rw[o_];exact a4):=by rw[MA,MA,e1,e2]
     have:=(L0 I5.n1).mp e3;show 411
     cases e2
     rwa [h2] at this
   have aT:(II R.N i j ϑV).length<=8:=FG νn δw
   refine #[_,rfl,_,rfl,_,rfl,t,_,_,_,rfl,rfl,Gn.of an,rfl,D,_,rfl,dg,_,rfl,t,_,_,_,rfl,rfl,Gn.of an,rfl,nd,_,rfl,Jd.k (k:=Sum.inl (((i+j) % R.N:Nat):Int)) a1 (by rw[md];exact KM aT ζ),?_]
   rw[<- nb,jb (λz=>absurd (GL.mp z).2.2 (by rw[iH];exact Iu _))]
   exact #[_,_,_,J,rfl,I5.put N0 hm nD,a5]
  ·rintro σ H' ⟨v4,v5,v6,es,rfl,I,g⟩
   rw[az] at I g;exact #[_,rfl,q D H' es nD I g]
theorem iI {x:Nat} (nlt:ιb):x∈bF N cs ts nk ↔ (x∈nk/\(cs.getD x none).isSome=true)\/∃t∈ts,N+t=x:=by
 unfold bF;rw[Hi,G1,G6,bV nlt]
def dX (N:Nat) (nk:η) (nb:ϣ) (X:η):List Nat:=(r_ N).map ιd
theorem CG {k:Nat}{X:η} (nlt:ιb) (ht:ώO) (hk:k∈bF N cs ts nk):laidV r w n N l nk nb X k=(eF r w n M N l ϑ7).getD k 0:=by
 have sl:(dX N nk nb X).length=N:=by unfold dX;rw[o_,Gf]
 unfold laidV eF;rcases(iI nlt).mp hk with ⟨h1,_⟩ | ⟨t,j,rfl⟩
 ·have g:=nlt k h1
  rw[if_pos g,v_,Ky γ]
  unfold dX;rw[FM,Ib g]
  show nb k=newV nk nb X k
  show 75;rw[if_pos h1]
 ·have h:=ht t j
  rw[if_neg γ,v_,Ld γ,sl,MY,FM,Ib h]
  show cS r w n N l t ιd=GF.F8 r w n ((g_ N l t).zip ϑ7)
  show 412
theorem CI {t:Nat} (nlt:ιb):t∈Gx M N l cs δo ↔ t < M/\(cs.getD (N+t) none).isSome=true/\∃k∈nk,l t k≠0:=by
 unfold Gx;rw[G1,G1,GG,MW];refine #[λ⟨⟨a,b⟩,k,hk,c⟩=>#[a,b,k,(bV nlt).mp hk,of_decide_eq_true c],λ⟨a,b,k,hk,c⟩=>#[#[a,b],k,(bV nlt).mpr hk,decide_eq_true c]]
theorem CJ {k:Nat} (hk:ϑP):(Lf os L).getD k false=((knO os).getD k τ || L.contains k):=by
 unfold Lf knO;rw[v_,FM,Ib hk,Ks,Option.getD_some,v_,v_,FM,s_ hk];rfl
structure IY (H:Hp) (ps:Φ) (n:Nat) (ob:νv):Prop where
 len:ps.length=n
 on:∀j p,ps[j]?=some p->H p=some (ob j)
theorem IY.same {ob:νv} (h:IY H ps n ob) (s:γN):IY H' ps n ob:=#[δ5,λj p e=>s _ _ (h.on j p e)]
theorem IY.snoc {ob:νv} (h:IY H ps n ob) (hp:H p=some (ob n)):IY H πv (n+1) ob:=⟨by rw[Hr,δ5];rfl,λj q e=>by
 by_cases z:j < ps.length
 ·rw[Ky z] at e
  show 140
 ·rw[Ld γ] at e
  have:j - ps.length=0:=by
   cases y:j - ps.length with
   | zero=>rfl
   | succ m=>rw[y] at e;cases e
  rw[this] at e
  cases FK e
  have:j=n:=by have:=δ5;omega
  show 19
  exact hp⟩
theorem BH {J:It}{g:TG}{stt:Nat->L2.St}{Ok:L2.St->Prop}{ob:νv}{σ0:θp} (hD:γz) (hn:ε0) (h0:Ok σ0) (hok:υA)
  (stop:ι0) (go:θW)
  (tg:∀i σ H x H' (R:L2.St->Hp->Prop),i < n->a_ H1 H->Ok σ->J.yld i H x H'->(∀H'',a_ H H''->R (stt i) H'')->g x σ H' R)
  (he:∀i H (R:γj),i < n->a_ H1 H->(∀p H4,H p=none->a_ H H4->H4 p=some (ob i)->R γR H4)->te (stt i) H R)
  (hQ:∀ps H,a_ H1 H->H D=some νK->IY H ps n ob->Q H):bA J g bE te σ0 H1 D Q:=by
 refine⟨λi m ys σ H=>m=n - i/\i<=n/\a_ H1 H/\(∃ps:List Addr,ys=ps.map V.ref/\IY H ps i ob/\D∉ps)/\H D=some γV/\Ok σ,
  ⟨n,rfl,GO _,(a_.refl _).up hD,⟨[],rfl,⟨rfl,λj p e=>by simp at e⟩,GH⟩,ac,h0⟩,?_⟩
 rintro i m ys σ H ⟨rfl,hi,sm,⟨ps,rfl,hr,h⟩,hd,ho⟩;refine θ0
 by_cases hlt:i < n
 ·refine .inr θV
  refine tg i σ H x H' _ hlt sm ho y λH'' s2=>?_;unfold bE;refine HS ?_;refine he i H'' _ hlt οU λp H4 hp s4 h4=>?_
  have np:p≠D:=λz=>by rw[z,s2 _ _ hd] at hp;cases hp
  refine #[35e9 _ _ hd,?_,n - (i+1),by omega,rfl,hlt,(sm.trans ηX).up hD,#[ps++[p],by rw[HU];rfl,?_,?_],ac,hok i hlt]
  ·rw[o_,hr.len]
   omega
  ·have h5:=(hr.same ηX).snoc h4
   exact⟨h5.len,λj q e=>by
    rw[ae λz=>?_]
    ·exact h5.on j q e
    ·rcases Hi.mp (Gi e) with y | y
     ·exact h (z ▸ y)
     ·exact np ((Ge.mp y).symm.trans z)⟩
  ·intro z
   rcases Hi.mp z with z | z
   ·exact h z
   ·exact np (Ge.mp z).symm
 ·have e:i=n:=by omega
  subst e;exact .inl #[stop H sm,hQ ps H sm hd hr]
theorem BI {o:Obj}{ks:η}{ob:νv}{kk:Nat}{cs:θp} (hks:kvs.map (·.1)=ks.map λk:Nat=>Sum.inl ((k:Nat):Int)) (hd:H1 d=some θG) (hD:γz) (hk:kk=cs.length) (hn:ks.length<=εt)
  (he:∀(k i:Nat) (H:Hp) (R:γj),ks[i]?=some k->a_ H1 H->(∀p H4,H p=none->a_ H H4->H4 p=some (ob k)->R γR H4)->te (cs++[some μQ]) H R)
  (hQ:∀ps H,a_ H1 H->H D=some νK->IY H ps ks.length (λi=>ob ϑW)->Q H):bA (O3 d o kvs) (bj kk) bE te δk H1 D Q:=by
 have hl:kvs.length=ks.length:=by
  have:=congrArg Mx hks;show 318
 have g:∀i,i < ks.length->ks[i]?=some 203e2:=λi hi=>by rw[v_,s_ hi];rfl
 refine BH (n:=ks.length) (stt:=λi=>cs++[some (.int ((ks.getD i 0:Nat):Int))]) (Ok:=λσ=>∃o,σ=cs++[o]) hD hn ζO (λi _=>ϊ) (λH s=>#[s _ _ hd,by rw[hl];exact B_ _]) (λi H hi s=>#[s _ _ hd,by rw[hl];exact hi]) ξt (λi H R hi sm r=>he _ i H R ωZ sm r) hQ
 obtain⟨o',rfl⟩:=ho;obtain⟨e,k,v,ek,ex⟩:=y
 have h1:(kvs.map (·.1))[i]?=some k:=by rw[FM,ek];rfl
 rw[hks,FM,g i hi] at h1
 have h1:(Sum.inl ((ks.getD i 0:Nat):Int):Key)=k:=FK h1;subst e;unfold bj;rw[hk,M0 _ _ Θ,LX,ex,← h1];exact q _ ϡ
theorem wm {H:Hp}:∀{ps:δy}{ts:Φ},ts.length=ps.length->(∀i t,ts[i]?=some t->H t=some ΞK)->GR H ps ts
 | [],[],_,_=>trivial
 | [],_ :: _,e,_=>by cases e
 | _ :: _,[],e,_=>by cases e
 | _ :: ps,t :: ts,e,h=>⟨h 0 t rfl,wm (ps:=ps) (ts:=ts) (Uw e) λi u z=>h (i+1) u z⟩
theorem wn {α β:Type}{F:α->β->Prop}:∀(us:ε3),(∀u∈us,∃b,F u b)->∃bs:List β,ιr=bs.length/\∀(i:Nat) u,us[i]?=some u->∃b,bs[i]?=some b/\F u b
 | [],_=>⟨[],rfl,λi u e=>by simp at e⟩
 | u :: us,h=>by
  obtain⟨b,hb⟩:=h u δi;obtain⟨bs,h1,h2⟩:=wn us λx hx=>h x ψI;refine #[b :: bs,by rw[Io,Io,h1],λi x e=>?_]
  cases i with
  | zero=>cases FK e;exact⟨b,rfl,hb⟩
  | succ i=>exact h2 i x e
def FT (ms:Φ) (H:Hp) (pl:Addr) (prs:δy):Prop:=pl∉ms/\∃us:List Addr,H pl=some (.lst (us.map ϙ))/\us.length=prs.length/\∀(i:Nat) u,us[i]?=some u->∃pb,prs[i]?=some pb/\H u=some (G9 (pb.1:Int) pb.2)
structure K1 (R:Rw) (Y:η) (st:Nat) (prs:δy) (Y':η):Prop where
 ok:MN R Y'
 is:∀pb∈prs,∃k,k < R.N+R.M/\pb=ϋr
 all:∀k,k < R.N+R.M->169e1∈prs\/Y'.getD k 0=Y.getD k 0
def Hv (R:Rw) (nk:η) (nb:ϣ) (Y:η):List Nat:=eF R.r R.w R.n R.M R.N R.l ώR
theorem fZ (N:Nat) (nk:η) (nb:ϣ) (X:η):(dX N nk nb X).length=N:=by unfold dX;rw[o_,Gf]
theorem BJ {k:Nat} (hk:k < R.N):(Hv R nk nb Y).getD k 0=newV nk nb Y k:=by
 unfold Hv eF;rw[v_,Ky (by rw[fZ];exact hk)]
 unfold dX;rw[FM,Ib hk];rfl
theorem CL {t:Nat} (ht:t < R.M):(Hv R nk nb Y).getD (R.N+t) 0=cS R.r R.w R.n R.N R.l t (newV nk nb Y):=by
 unfold Hv eF;rw[v_,Ld (by rw[fZ];omega),fZ,MY,FM,Ib ht]
 show GF.F8 R.r R.w R.n ((g_ R.N R.l t).zip ώR)=_
 show 412
theorem D9 (g:ϐu) (W:IP R.w R.M R.N R.l) (hY:MN R Y) (hb:∀k∈nk,nb k < νh ^ R.n):MN R (Hv R nk nb Y) :=
 ⟨CD _ _ _ _ _ _ _ (fZ _ _ _ _),DW g W λb h=>by
  obtain⟨k,hk,rfl⟩:=G6.mp h
  have hk:=GG.mp hk;show 75
  split
  ·next z=>exact hb k z
  ·rw[v_,s_ (by rw[hY.len];omega)]
   exact hY.lt _ (IV _),DV _ _ _ _ _ _ _ g W (fZ _ _ _ _)⟩
theorem BK {k:Nat} (g:ϐu) (hY:MN R Y) (nlt:∀k∈nk,k < R.N) (hk:ψU) (h:k∉bF R.N νQ ξk nk):(Hv R nk nb Y).getD k 0=Y.getD k 0:=by
 by_cases z:k < R.N
 ·rw[BJ z]
  show 75;rw[if_neg λy=>h ((iI nlt).mpr (.inl #[y,mC hk]))]
 ·obtain⟨t,rfl⟩:∃t,k=R.N+t:=#[k - R.N,by omega]
  have ht:t < R.M:=by omega
  rw[CL ht,BB g hY.len hY.lt hY.ok ht];unfold cS;refine congrArg (GF.FF R.N) (funext λj=>?_);show 75
  split
  ·next y =>
   have:R.l t j=0:=Decidable.byContradiction λw=>h ((iI nlt).mpr (.inr #[t,(CI nlt).mpr #[ht,mC γ,j,y,w],rfl]))
   rw[this,ηq,ηq]
  ·rfl
theorem Kq.inj (I:ιx) {st k k':Nat} (hk:ψU) (hk':k' < R.N+R.M) (e:R.pl st k=R.pl st k'):k=k':=by
 show 176
 have l0:=I.sh.len _ m0;unfold Rw.pl at e;rw[v_,s_ (by rw[l0];exact hk),v_,s_ (by rw[l0];exact hk')] at e
 exact(L0 (I.nd _ m0)).mp e
theorem CM (nlt:ιb):∀k∈bF N cs ϋs nk,k < N+M:=λk hk=>by
 rcases(iI nlt).mp hk with ⟨h,_⟩ | ⟨t,h,rfl⟩
 ·have:=nlt k h;omega
 ·have:=mB h;omega
theorem CN:(bF N cs ϋs nk).Nodup:=by
 unfold bF;refine MR.mpr #[Ll _ πG,ON _ (λx y h e=>h γ) (Ll _ πG),λx hx y hy e=>?_]
 obtain⟨t,_,rfl⟩:=G6.mp hy
 have:=GG.mp (G1.mp (G1.mp hx).1).1;omega
inductive iJ (a:q_) (vs:δ) (H:Hp) (Q:VK) (E_3:XK):Prop
 | mk:∀(G:Hp) (R:Rw) (ro nd:Addr) (st e:Nat) (Y:Nat->List Nat) (nk:List Nat) (nb:Nat->Nat),vs=[.ref ro,.int st,.ref nd]->KD a G H R ro e Y->st < R.K.S->e<=8000->H nd=some (.dK (bh nk nb))->nk.Nodup->((∀k∈nk,k < R.N/\nb k < (2 ^ R.w) ^ R.n))->(∀H' pl prs e',KD a G H' R ro e' Y->e'<=e+8->KB (R.ms a) H H'->H pl=none->FT (R.ms a) H' pl prs->prs.length<=8->K1 R (Y st) st prs (Hv R nk nb (Y st))->Q (.ref pl) H')->iJ a vs H Q E_3
theorem qF (T:θ) (B:η7):x_ P wo K mg base 14 a.f109 ["self", "stripe", "news"] (iJ a):=by
 refine T.x109.F.okA (k:=13) QZ ι
 ·obtain⟨G,R,ro,nd,st,e,Y,nk,nb,rfl,S,Z,he,a0,cy,bm,q⟩:=h
  obtain⟨dx,a3⟩:=S.ro
  show 180
  have O:∀k∈nk,k < R.N:=λk hk=>(bm k hk).1;show 413
  show 0
  exists xc (ar (i:=3) QZ.nd rfl 15e3 (aH (um T B) hr.u rfl T.x51.m T.x51.k T.x51.b .nil aj (aa (ao ο ϧ T.x105.me (gf T B) hr.u T.x105.b .nil aj γ8) γt)))
  show 1;refine xi (am cV ϐ aL υ) ?_
  show 4
  show 3
  exists xl (aA (aF (u8 rfl hr.in1.in1.units) rfl T.A32 Mz (aa (bc (i_.of (cap:=[1,3,0]) (own:=["role"]) γc) rfl (DG ϐ) ΔP γ3 (λ_ _ _ _ _=>by exact(bJ (aa (ao (by exact(d6 (K:=K) rfl 2e3 rfl)) γs T.x73.me (mW T) hr.u T.x73.b .nil aj (aa ο θy)) (aa (jt εv ω ϐ γ6) ab))))) ab)))
  refine #[_,rfl,ro,dx,_,rfl,S.sG _ _ a3,rfl,_,rfl,G,R,ro,dx,e,st,X,Jk εs,rfl,a3,S.I,S.sG,hR,(hX.sees Z).1,(hX.sees Z).2,S.tb,he,Z,λA H3 AS=>?_];rw[S.I.ones hX.1] at AS;obtain⟨I0,J0⟩:=AS.ask [γZ] χy;obtain⟨mk,_⟩:=hX.2 _ Z
  have b4:∀{b:Addr}{o:HO},H3 b=some o->όH->ηO->b∉(R.K.dn :: A.rl :: A.sl :: a.t38 :: [γZ]):=λ{b o} z n1 n2 hb=>by
   rcases AS.isL (λ_ z=>Ge.mp z) b hb with ⟨xs,y⟩ | ⟨xs,y⟩ <;> rw[y] at z
   ·show 113
   ·show 177
  have aw:H3 nd=some (.dK (bh nk nb)):=AS.kp nd _ (λw=>by
   obtain⟨ps,y,_⟩:=S.tb.r
   rw[w,y] at a0;cases a0) a0
  refine #[_,rfl,_,A,nd,R.r,R.w,R.n,R.M,R.N,R.l,GA δR,Jk εs,_,_,Y st,nk,nb,rfl,I0,J0,AS.tb.n,dH ϒ,by rw[b9 (b4 aw (λ_ y=>by cases y) (λ_ y=>by cases y))];exact aw,cy,O,DX _,#[mk.len,mk.lt,mk.ok,Bx _ _],zL _ _,λH4 ce c0 b wr ag J4 t4=>?_]
  obtain⟨bt,cr⟩:=DZ (λk h=>by have:=(H_.mp h).1;omega) (yN λt h=>mB h) (λj hj=>DY (by rw[mk.len];exact hj)) wr (EN _)
  subst bt
  have b0:(l_ R.N nk).all (fx R.r R.w R.M R.N R.l (Lf ce (bF R.N νQ ξk nk)))=true:=IM.mpr λk hk=>by
   have hk:=(bV O).mp hk
   have c3:=O k hk;unfold fx;rw[CJ (by rw[cr];omega),K9.mpr ((iI O).mpr (.inl #[hk,mC γ])),RZ,Q6]
  refine #[λ_ _ D nD hD=>?_,λz=>by rw[b0] at z;cases z]
  obtain⟨e',c2,S4,k4⟩:=AS.back S hX χy J4 t4
  have asl:=J4.asl;show 406
  have U:=CM (M:=R.M) (l:=R.l) (cs:=GA δR) O
  have a9:=CN (M:=R.M) (N:=R.N) (l:=R.l) (cs:=GA δR) (nk:=nk)
  have lv:∀k∈bF R.N νQ ξk nk,laidV R.r R.w R.n R.N R.l nk nb εs k=(Hv R nk nb εs).getD k 0:=λk hk=>CG O (λt h=>mB h) hk
  have ch:∀k,k < R.N+R.M->k∉bF R.N νQ ξk nk->(Hv R nk nb εs).getD k 0=(Y st).getD k 0:=λk hk hn=>BK ϐv mk O hk hn;generalize bF R.N (GA (R.N+R.M)) (Gx R.M R.N R.l (GA (R.N+R.M)) (l_ R.N nk)) nk=rs at *
  have a6:rs.length<=8:=FG (bR _ rs a9 U) n8;refine #[_,rfl,D,_,rfl,hD,λo=>?_]
  have a4:∀{b:Addr}{u:HO},b∉R.ms a->H b=some u->b≠D:=λ{b u} nb z y=>by
   have:=AS.keep (ys:=[γZ]) χy nb z;rw[y,nD] at this
   show 8
  have gD:G D=none:=by
   cases y:G D with
   | none=>rfl
   | some u=>exact absurd rfl (a4 (λz=>by rw[S.I.no D z] at y;cases y) (S.sG _ _ y))
  have S5:=S4.obj (o:=.frz o (.dK (bh rs (laidV R.r R.w R.n R.N R.l nk nb εs)))) hD gD
  have k5:KB δV H 129e7:=λb u nb z=>by
   rw[ae (a4 nb z)];exact k4 b u nb z
  have a2:129e7 D=some (.frz o (.dK (bh rs (laidV R.r R.w R.n R.N R.l nk nb εs)))):=ac;generalize (upd H4 D (.frz o (.dK (bh rs (laidV R.r R.w R.n R.N R.l nk nb (Y st))))))=H5 at S5 k5 a2;refine λC nC=>?_;refine BI (ks:=rs) (ob:=λk=>G9 ((R.pl st k:Nat):Int) ((Hv R nk nb εs).getD k 0)) (cs:=[some δT,some γ0,some δH]) (by unfold bh;rw[GB];rfl) a2 nC rfl (FG a6 ζ) (λk i H6 R6 ek s6 ck=>?_) (λts H6 s6 hC g=>?_)
  ·have aT:=Gi ek
   have S6:=S5.same s6
   have a7:=S6.I.sh.same S6.sG;obtain⟨b3,cc⟩:=id a7.sh;refine #[_,rfl,ro,_,_,_,_,rfl,S6.sG _ _ a3,ϧ,T.A56,jc R,R.sp,b3,_,rfl,cc,rfl,_,rfl,_,rfl,R.sp,R.tp,R.N,R.N+R.M,γO,R.m,R.qs,ιQ,st,k,rfl,a7,Z,U k aT,λH7 s7=>?_];refine #[_,rfl,_,rfl,D,_,rfl,.inl #[_,Sum.inl ((k:Nat):Int),.inr #[o,(s6.trans s7) _ _ a2],rfl,by rw[dw,if_pos aT,lv k aT]],(show 2<=sizeLine by decide),λt nt=>ck t _ (s7.free nt) (s7.trans (a_.new nt)) ac]
  ·have S6:=S5.same s6
   have an:∀i,i < rs.length->rs[i]?=some 54e4:=λi hi=>by rw[v_,s_ hi];rfl
   have cw:(rs.map λk=>R.pl st k).Nodup:=ON _ (λx y (h:x≠y/\x < R.N+R.M/\y < R.N+R.M) e=>h.1 (S.I.inj h.2.1 h.2.2 e)) (Um (λ{x y} hx hy h=>#[h,U x hx,U y hy]) a9);refine #[C,ts,rs.map λk=>ΦK,rfl,c_.of hC,wm (by rw[o_,ιP]) (λi t e=>?_),by rw[GB];exact cw,by rw[o_];omega,λl J nl pm=>?_]
   ·have hi:i < rs.length:=by rw[<- g.len];exact(Gr.mp e).1
    rw[v_,FM,an i hi];exact g.on i t e
   ·have s7:=a_.new (o:=.lst (J.map ϙ)) nl
    have a5:(upd H6 l όI) l=some 177e0:=ac;generalize (upd H6 l (.lst (J.map V.ref)))=H7 at s7 a5
    have S7:=S6.same s7
    have k7:KB δV H H7:=(k5.same s6).same s7
    have b1:∀t∈J,∃pb:Nat × Nat,H7 t=some (G9 ((pb.1:Nat):Int) pb.2)/\∃k∈rs,pb=146e2:=λt ht=>by
     obtain⟨i,ei⟩:=Lc (pm.mem_iff.mp ht)
     have hi:i < rs.length:=by rw[<- g.len];exact(Gr.mp ei).1
     exact #[_,s7 _ _ (g.on i t ei),rs.getD i 0,Gi (an i hi),rfl]
    obtain⟨b6,ad,a1⟩:=wn J b1
    have a8:l∉R.ms a:=λz=>by
     rcases S6.mst l z with ⟨xs,y⟩ | ⟨xs,y⟩ <;> rw[nl] at y <;> cases y
    have b2:H l=none:=by
     cases y:H l with
     | none=>rfl
     | some u=>have:=(k5.same s6) l u a8 y;rw[nl] at this;show 8
    refine q H7 l b6 e' S7 γ k7 b2 #[a8,J,a5,ad,λi u eu=>?_] (by rw[<- ad,πa,ιP];exact a6) #[D9 ϐv S.I.W mk λk hk=>(bm k hk).2,λpb cv=>?_,λk hk=>?_]
    ·obtain⟨pb,h1,h2,_⟩:=a1 i u eu
     exact #[pb,h1,h2]
    ·obtain⟨i,ei⟩:=Lc cv
     have hi:i < J.length:=by rw[ad];exact(Gr.mp ei).1
     obtain⟨c1,h1,_,k,hk,h3⟩:=a1 i _ ηg;rw[ei] at h1
     cases FK h1;exact #[k,U k hk,h3]
    ·by_cases z:k∈rs
     ·refine .inl ?_
      obtain⟨j,ej⟩:=Lc z
      have hj:j < ts.length:=by rw[ιP];exact(Gr.mp ej).1
      have h1:=s7 _ _ (g.on j _ (s_ hj));obtain⟨i,ei⟩:=Lc (pm.mem_iff.mpr (IV hj));obtain⟨pb,h2,h3,k',b5,h4⟩:=a1 i _ ei;rw[h3] at h1
      have h5:R.pl st k'=R.pl st k:=by
       rw[h4] at h1
       have:=FK h1;unfold G9 at this
       have:=(Qr (HO.tup.inj this)).1
       have e2:rs.getD j 0=k:=by rw[v_,ej];rfl
       rw[e2] at this;exact Ql (V.int.inj this)
      have:=S.I.inj (U k' b5) hk h5;show 16;rw[<- h4];exact Gi h2
     ·exact .inr (ch k hk z)
def IZ (X:δ1) (st:Nat) (prs:δy):Nat->Nat->Option Int:=prs.foldl (λX pb=>HR X pb.1 st ΓH) X
theorem gP {st:Nat}:∀(prs:δy) (X:δ1) {p j:Nat},(j=st->∀pb∈prs,pb.1≠p)->IZ X st prs p j=X p j
 | [],_,_,_,_=>rfl
 | pb :: prs,X,p,j,h=>by
  show IZ Ψ3 st prs p j=_
  rw[gP prs _ λe x hx=>h e x ψI];unfold HR;rw[if_neg λz=>h z.2 pb δi z.1.symm]
theorem yQ {st:Nat}:∀(prs:δy) (X:δ1) {p b:Nat},(∀pb∈prs,pb.1=p->pb.2=b)->(∃pb∈prs,pb.1=p)->IZ X st prs p st=some ((b:Nat):Int)
 | [],_,_,_,_,h=>by obtain⟨_,h,_⟩:=h;cases h
 | pb :: prs,X,p,b,h,hx=>by
  show IZ Ψ3 st prs p st=_
  by_cases z:∃x∈prs,x.1=p
  ·exact yQ prs _ (λx hx=>h x ψI) z
  ·rw[gP prs _ λ_ x hx e=>z #[x,hx,e]]
   obtain⟨x,hx,e⟩:=hx;rcases FC.mp hx with rfl | hx
   ·unfold HR
    rw[if_pos #[e.symm,rfl],h x δi e]
   ·exact absurd #[x,hx,e] z
variable {prs:List (Nat × Nat)}
theorem BL {pb:ω1}:IZ X st (prs++[pb])=HR ϑX pb.1 st 121e1:=by
 unfold IZ;rw[Ro];rfl
theorem BM {Y:δC}{Y':η} (I:ιx) (h:IB R X Y) (E:K1 R εs st prs Y'):IB R ϑX (λs=>if s=st then Y' else Y s):=⟨h.1,λs hs=>by
 obtain⟨mk,hk⟩:=h.2 s hs
 by_cases z:s=st
 ·subst z
  show 66;refine #[E.ok,λk hkk=>?_]
  have cons:∀pb∈prs,pb.1=R.pl s k->pb.2=Y'.getD k 0:=λpb hpb e=>by
   obtain⟨k',hk',e'⟩:=E.is pb hpb;rw[e'] at e ⊢;rw[I.inj hk' hkk e]
  by_cases w:∃pb∈prs,pb.1=R.pl s k
  ·exact yQ prs X cons w
  ·rw[gP prs X λ_ pb hpb e=>w #[pb,hpb,e],hk k hkk]
   rcases E.all k hkk with y | y
   ·exact absurd #[_,y,rfl] w
   ·rw[y]
 ·dsimp only
  rw[if_neg z]
  exact⟨mk,λk hkk=>by rw[gP prs X λe=>absurd e z];exact hk k hkk⟩⟩
def HY (ms:Φ) (H:Hp) (gl:Addr) (es:μs):Prop:=gl∉ms/\∃ts:List Addr,H gl=some μH/\ts.length=es.length/\∀(i:Nat) t,ts[i]?=some t->∃en pl,es[i]?=some en/\H t=some μk/\FT ms H pl en.2
def LT (ms:Φ) (H:Hp):Prop:=∀x∈ms,93e7\/∃ps,H x=some εb
theorem LT.tup {ms:Φ}{H:Hp}{b:Addr}{xs:δ} (h:ρc) (e:H b=some ε7):b∉ms:=λz=>by
 rcases h b z with ⟨ys,y⟩ | ⟨ys,y⟩ <;> rw[e] at y <;> cases y
theorem FT.kb {ms:Φ}{pl:Addr} (h:ψk) (t:ρc) (k:θ5):FT ms H' pl prs:=by
 show 181;refine #[h0,us,k _ _ h0 h1,h2,λi u e=>?_];show 414;exact #[pb,e1,k _ _ ωh e2]
theorem HY.kb {ms:Φ}{H H':Hp}{gl:Addr}{es:μs} (h:HY ms H gl es) (t:ρc) (k:θ5):HY ms H' gl es:=by
 show 415;obtain⟨en,pl,e1,e2,e3⟩:=h3 i u e;exact #[en,pl,e1,k _ _ ωh e2,e3.kb t k]
theorem Fy.kbl {ms:Φ}{p:Pos} (h:ζv) (hm:∀x∈ms,∃xs,H x=some γP) (k:θ5):Fy H' t p q:=by
 show 35;refine #[ps,k _ _ (λz=>by obtain⟨xs,y⟩:=hm _ z;rw[h1] at y;cases y) h1,?_]
 rcases h2 with h2 | ⟨c',e,h2⟩
 ·show 36
 ·exact .inr #[c',e,k _ _ (λz=>by obtain⟨xs,y⟩:=hm _ z;rw[h2] at y;cases y) h2]
def Rw.ls (R:Rw):List Addr:=R.K.dn :: R.K.sl :: R.K.hs
theorem Rw.ls_ms:∀b∈R.ls,b∈R.ms a:=λb hb=>by
 unfold Rw.ls at hb;unfold Rw.ms;rcases FC.mp hb with rfl | hb
 ·show 114
 rcases FC.mp hb with rfl | hb
 ·exact .tail _ δi
 ·exact .tail _ Ξy
theorem d_.lsl (h:d_ a H R.K e ss X):∀x∈R.ls,∃xs,H x=some 10e3:=λb hb=>by
 unfold Rw.ls at hb;rcases FC.mp hb with rfl | hb
 ·exact h.isLst δi
 rcases FC.mp hb with rfl | hb
 ·exact #[_,h.sl]
 ·exact h.isLst ΓC
theorem Nk:∀b∈[R.K.dn,R.K.sl],b∈R.ls:=λb hb=>by
 rcases FC.mp hb with rfl | hb
 ·show 114
 ·rw[Ge.mp hb];exact .tail _ δi
theorem Pw:∀b∈(R.K.dn :: R.K.hs),b∈R.ls:=λb hb=>by
 rcases FC.mp hb with rfl | hb
 ·show 114
 ·exact .tail _ (.tail _ hb)
inductive fe (a:q_) (vs:δ) (H:Hp) (Q:VK) (E_3:XK):Prop
 | mk:∀(G:Hp) (R:Rw) (ro gl:Addr) (e:Nat) (Y Z:Nat->List Nat) (es:List (Nat × List (Nat × Nat))),vs=[.ref ro,.ref gl]->KD a G H R ro e Y->HY (R.ms a) H gl es->es.length<=R.K.L->(es.map (·.1)).Nodup->((∀en∈es,en.1 < R.K.S/\en.2.length<=8/\K1 R (Y en.1) en.1 en.2 (Z en.1)))->e+18 * es.length<=8900->(∀H' e',KD a G H' R ro e' (λs=>if s∈es.map (·.1) then Z s else Y s)->e'<=e+18 * es.length->KB δV H H'->Q .non H')->fe a vs H Q E_3
theorem mi (T:θ):x_ P wo K mg base 4 a.f110 ["self", "group"] (fe a):=by
 refine T.x110.F.okA (k:=3) LQ ι
 ·obtain⟨G,R,ro,gl,e,Y,Z,es,rfl,S,a8,hL,nd,bt,he,q⟩:=h
  obtain⟨dx,a6⟩:=S.ro;show 413
  have ad:LT δV H:=S.mst
  have l8:=hR.l8;obtain⟨gn,ts,a0,tl,a9⟩:=id a8
  have kG:∀{H':Hp},KB R.ls H H'->a_ G H':=λ{H'} k=>S.kb ώf
  have pk:∀{H':Hp},KB R.ls H H'->HY δV H' gl es:=λ{H'} k=>a8.kb ad ώf
  show 0
  show 1;refine xf Ϙ rfl 92e7 (c7 rfl (aN ΨJ (aN (au (i:=3) LQ.nd rfl ε) bZ))) ?_
  exists xl (aE (ao εN Γ T.x92.me (vE T) hr.u T.x92.b .nil aj (aa Ψ (aa νX ΦJ))))
  show 416;refine xf Ϙ rfl 23e6 (c7 rfl (aN (au (i:=4) LQ.nd rfl ε) (aN (au (i:=5) LQ.nd rfl ε) bZ))) ?_;show 7;refine xf Ϙ rfl 84e7 (c7 rfl (aN (au (i:=6) LQ.nd rfl ε) (aN (au (i:=7) LQ.nd rfl ε) bZ))) ?_
  exists xl (aE (ao εN Γ T.x91.me (wT T) hr.u T.x91.b .nil aj (aa γX (aa γv ηD))))
  show 5;show 5;show 7;refine xf Ϙ rfl (ba rfl T.A06 (aa ξu ab)) ΨJ ?_
  exists xl (aE (ao εN Γ T.x93.me (rm T) hr.u T.x93.b .nil aj γt))
  show 5;refine #[_,rfl,gl,_,rfl,c_.of a0,?_];refine let I_:Nat->L2.St->Hp->Prop:=λi σ H'=>L2.A3 ((∃(v2 v3:ζ2),σ=[some δH,some πK,v2,v3,none,none,none,none])) οR (L2.E1 λss=>L2.A2 (d_ a H' R.K (e+i) ss X) (∀k,i<=k->k < R.K.L->ss[k]?=some .non));jT I_ #[ι5,KB.refl _ _,_,hR,λk _ hk=>by rw[LN,if_pos hk]] ?_ ?_ ?_
  ·rintro i σ H' _ ⟨_,k,_⟩
   exact c_.of Ψc
  ·rintro i u T' σ H2 hi hu nT ⟨⟨v2,v3,rfl⟩,k2,ss,U,D⟩
   rw[o_] at hi
   have et:ts[i]?=some ts[i]:=s_ hi;rw[FM,et] at hu
   show 417
   show 418;show 53
   have sT:=a_.new (o:=.tup [V.int (i:Nat),V.ref ts[i]]) nT
   have k3:=k2.same sT
   have g:=U.same sT;generalize (upd H2 T' (.tup [V.int (i:Nat),V.ref ts[i]]))=H3 at k3 g;show 2
   show 182
   have a7:=k3 _ _ ΨU aw;obtain⟨pn,us,a3,ul,b1⟩:=a5.kb ad ύJ;refine #[_,rfl,ro,_,_,_,_,rfl,kG k3 _ _ a6,ϧ,εd,cT R,γS,a2,_,rfl,aT,rfl,_,rfl,_,rfl,_,_,_,_,rfl,rfl,Gn.of a7,rfl,_,rfl,_,_,_,_,rfl,rfl,Gn.of a7,rfl,R.K,e+i,i,en.1,ss,_,pl,X,rfl,g,by omega,J.1,by omega,a3,λH4 v k4 a1=>?_]
   refine #[εJ,k3.trans (k4.more Nk),_,a1,λk h1 h2=>?_];rw[LG γ]
   exact D k γ h2
  ·rintro σ H1 ⟨⟨v2,v3,rfl⟩,k1,ss,bm,D⟩
   rw[o_,tl] at bm D;refine #[_,rfl,gl,rfl,#[_,c_.of (k1 _ _ ΓF a0)],?_];refine let I_:Nat->L2.St->Hp->Prop:=λi σ H'=>L2.A3 ((∃(v4 v5 v6 v7:ζ2),σ=[some δH,some πK,v2,v3,v4,v5,v6,v7])) οR (L2.E2 λe2 X2=>L2.A3 (d_ a H' R.K e2 ss X2) (e2<=e+es.length+8 * i) (IB R X2 ΘY));cm (xs:=ts.map ϙ) I_ #[#[none,none,none,none,rfl],k1,_,X,bm,B_ _,by simpa using hX] ?_ ?_ ?_
   ·rintro i σ H' _ ⟨_,k,_⟩
    exact c_.of Ψc
   ·rintro i u σ H2 hu ⟨⟨v4,v5,v6,v7,rfl⟩,k2,e2,X2,U,b0,an⟩
    rw[FM] at hu
    cases et:ts[i]? with
    | none=>rw[et] at hu;cases hu
    | some t =>
    rw[et] at hu
    show 417
    show 418
    have hi:i < es.length:=(Gr.mp O).1
    have ce:=k2 _ _ ΨU aw;obtain⟨pn,us,a3,ul,b1⟩:=id a5;refine #[t,_,rfl,Gn.of ce,rfl,_,_,rfl,_,_,rfl,rfl,?_];show 2
    have b2:pl∉R.ls:=λz=>pn Γd;refine #[_,rfl,pl,rfl,#[_,c_.of (k2 _ _ b2 a3)],?_];refine let I_:Nat->L2.St->Hp->Prop:=λj σ H'=>L2.A3 ((∃(v6 v7:ζ2),σ=[some δH,some πK,v2,v3,some (.int ((en.1:Nat):Int)),some (.ref pl),v6,v7])) οR (d_ a H' R.K (e2+j) ss (IZ X2 en.1 (en.2.take j)));cm (xs:=us.map ϙ) I_ #[#[v6,v7,rfl],k2,U] ?_ ?_ ?_
    ·rintro j σ H' _ ⟨_,k,_⟩
     exact c_.of (k _ _ b2 a3)
    ·rintro j x σ H3 hx ⟨⟨v6,v7,rfl⟩,k3,g⟩
     rw[FM] at hx
     cases eu:us[j]? with
     | none=>rw[eu] at hx;cases hx
     | some u =>
     rw[eu] at hx
     cases FK hx;obtain⟨pb,a4,hu⟩:=b1 j u eu
     have hj:j < en.2.length:=(Gr.mp a4).1
     have b6:=k3 _ _ (λz=>ad.tup hu Γd) hu;obtain⟨kk,ch,ck⟩:=J.2.2.is pb (Gi a4)
     have hP:pb.1 < R.K.P:=by rw[ck];exact S.I.pll ch
     refine #[u,_,rfl,Gn.of b6,rfl,_,_,rfl,_,_,rfl,rfl,?_];show 2
     show 182;refine #[_,rfl,ro,_,_,_,_,rfl,kG k3 _ _ a6,ϧ,εd,cT R,γS,a2,_,rfl,aT,rfl,_,rfl,_,rfl,_,rfl,R.K,e2+j,pb.1,en.1,ss,_,some ((pb.2:Nat):Int),rfl,g,by omega,hP,J.1,hX.1 _,λH4 k4 a1=>?_]
     refine #[εJ,k3.trans (k4.more Pw),?_];rw[L5,a4,show (some pb).toList=[pb] from rfl,BL];exact a1
    ·rintro σ H3 ⟨⟨v6,v7,rfl⟩,k3,g⟩
     rw[o_,ul,MC] at g;refine #[#[_,_,_,_,rfl],k3,e2+en.2.length,_,g,by have:=J.2.1;omega,?_]
     have b5:en.1∉(es.take i).map (·.1):=λz=>by
      rw[Qs] at z
      have e2:105e1[i]?=some en.1:=by rw[FM,O];rfl
      exact pf nd e2 z
     have b3:K1 R (135e2 en.1) en.1 en.2 (Z en.1):=by
      show 9;rw[if_neg b5];exact J.2.2
     have:=BM S.I an b3;refine cast (congrArg (IB R _) (funext λs=>?_)) this;rw[L5,O,HU]
     show (if s=en.1 then Z en.1 else if s∈(es.take i).map (·.1) then Z s else Y s)=if s∈(es.take i).map (·.1)++[en.1] then Z s else Y s
     by_cases z:s=en.1
     ·rw[if_pos z,if_pos (JH _ (by rw[z];exact .head _)),z]
     ·rw[if_neg z]
      by_cases w:s∈(es.take i).map (·.1)
      ·show 419
      ·rw[if_neg w,if_neg λy=>(Hi.mp y).elim w λy=>z (Ge.mp y)]
   ·rintro σ H2 ⟨⟨v4,v5,v6,v7,rfl⟩,k2,e2,X2,U,b0,an⟩
    rw[o_,tl] at b0 an;rw[MC] at an;refine #[_,rfl,gl,_,rfl,.inl (c_.of (k2 _ _ ΓF a0)),_,rfl,by rw[o_];omega,by rw[o_,tl];omega,?_]
    rw[o_,tl,G5];refine let I_:Nat->L2.St->Hp->Prop:=λi σ H'=>L2.A3 ((∃v2:Option V,σ=[some δH,some πK,v2,v3,v4,v5,v6,v7])) οR (L2.E1 λss=>L2.A2 (d_ a H' R.K (e2+i) ss X2) (∀k,k < R.K.L->(k < i\/es.length<=k)->ss[k]?=some .non));bQ (lo:=0) (n:=es.length) I_ #[#[v2,rfl],k2,ss,U,λk h1 h2=>D k (h2.resolve_left θh) h1] ?_ ?_
    ·rintro i σ H3 hi ⟨⟨v2,rfl⟩,k3,ss,g,D⟩
     rw[N8];show 182;refine #[_,rfl,ro,_,_,_,_,rfl,kG k3 _ _ a6,ϧ,εd,cT R,γS,a2,_,rfl,aT,rfl,_,rfl,R.K,e2+i,i,ss,X2,rfl,g,by omega,by omega,λH4 k4 a1=>?_]
     refine #[ϊ,k3.trans (k4.more Nk),_,a1,λk h1 h2=>?_]
     show 73
     ·subst z
      exact LK (by rw[g.ls];exact h1)
     ·rw[LG θj]
      exact D k h1 γ
    ·rintro σ H3 ⟨⟨v2,rfl⟩,k3,ss,g,D⟩
     have b4:ss=FL δO .non:=by
      apply JY
      intro k
      by_cases z:k < R.K.L
      ·rw[D k z γ,LN,if_pos z]
      ·rw[Hj (by rw[g.ls];omega),Hj ύw]
     rw[b4] at g
     have cc:LB a H3:=#[S.tb.o.kbl hR.lsl k3,S.tb.n.kbl hR.lsl k3,S.tb.r.kbl hR.lsl k3,S.tb.on,S.tb.or,S.tb.nr];exact q H3 _ #[S.ro,S.I,kG k3,#[X2,g,an],cc] γ ύJ
def KZ (s n:Nat):It:=#[λi _=>i < n,λi H x H'=>H'=H/\x=.int ((i * s:Nat):Int),λi _=>n<=i]
theorem BN {w:Ϣ}{tg:Expr} (it:Addr) (s n:Nat):IK P w K tg (KZ s n) [it] it (λi h=>IsRangeIter h it ϊh όO ((s:Nat):Int)) where
 mem:=by simp
 obj:=λi h st b hb=>by
  show 32
  subst e
  exact⟨_,st,λv z=>by
   show 209
   cases z'⟩
 keep:=λi h h' st k=>k it ϒ _ st
 item:=by
  show 420
  have W:=Ur (prog:=Ϡ) (w:=X.w) δ3 it 0 ((s:Nat):Int) n;refine W.item i sh _ _ hg st λv h' tk hv j kk=>?_;show 211
  have I1:Inv X g σ H { sh with heap:=h',toks:=tk }:=I.turned Φn f0 f1 f3 f4 f5
  exact⟨_,rfl,mo (s:={ sh with heap:=h',toks:=tk }) (n:="range_iterator") j rfl rfl 0e3 ⟨.int ϊh,H,I1,ιh,⟨rfl,by rw[N8,← Oa]⟩,j,λb hb=>(hf b hb).1⟩⟩
 done:=by
  show 420
  exact Sz δ3 st (by have:n<=i:=hg;omega) λh' eb=>#[rfl,I.turned (t':=sh.toks) (λb o hb e=>eb b o hb e) f0 f1 f3 f4 f5]
 self:=λ_ _ _ _ _ st h=>T8 st h
inductive yR (R:δZ) (vs:δ) (H1:Hp):Prop
 | mk:∀n s:Nat,vs=[.int 0,.int n,.int s]->1<=n/\n < 1000/\1<=s/\s<=8->R (KZ s ((n - 1) / s+1)) H1->yR R vs H1
def Fp (ta:TA):TI:=λσ H R=>ta σ H λvs H1=>yR R vs H1
theorem BO {X:Cx}{tg:Expr}{a b c:Expr}{ta:TA}{p pos:Pos} (hg:ψw) (hm:χe) (ha:PA X [a,b,c] ta) (hs:starEach [a,b,c] X.env=[(τ,eval a ρ),(τ,eval b ρ),(τ,eval c ρ)]:=by rfl) (hs2:starEach [b,c] X.env=[(τ,eval b ρ),(τ,eval c ρ)]:=by rfl) :
  PI X tg (.Call χA [a,b,c] [] pos) (Fp ta):=by
 intro g s σ H R I h;refine Call_ Δb
 obtain⟨n,st,e,⟨q1,q2,q3,q4⟩,q⟩:=q1;subst e
 cases r1 with
 | cons r rr =>
  cases rr with
  | cons r' rr =>
   cases rr with
   | cons r2 rr =>
    cases rr;obtain⟨t,rfl⟩:=r;obtain⟨t',rfl⟩:=r';obtain⟨t2,rfl⟩:=r2
    have hd:SZ ((n:Int) - 0) ((st:Nat):Int)=false:=by
     unfold SZ
     have:(decide ((if (((st:Nat):Int) == 0)=true then 0 else Nat.log2 (Int.natAbs ((st:Nat):Int)) / 30+1) > 300))=false:=by
      have:st=1\/st=2\/st=3\/st=4\/st=5\/st=6\/st=7\/st=8:=by omega
      rcases this with rfl | rfl | rfl | rfl | rfl | rfl | rfl | rfl <;> decide
     show 9;rw[this,R0]
    have hq:ρ7 / st+1<=n:=by have:=Nat.div_le_self ρ7 st;omega
    have en:((n:Int) - 0 - 1) / ((st:Nat):Int)+1=((ρ7 / st+1:Nat):Int):=by
     rw[show (n:Int) - 0 - 1=((n - 1:Nat):Int) by omega,N2,Rr]
     rfl
    generalize (n - 1) / st+1=c at hq en q
    have rs:Oz 0 n ((st:Nat):Int)=((c:Nat):Int):=by
     unfold Oz;rw[if_pos γ,if_pos γ,en]
    have fl:∀z:Int,-10000 < z->z < 10000->Qe z=true:=λz h1 h2=>by
     unfold Qe;rw[IU];exact #[decide_eq_true γ,decide_eq_true γ]
    have sm:RQ 0 n ((st:Nat):Int)=true:=by
     unfold RQ;rw[rs,fl 0 γ γ,fl n γ γ,fl ((st:Nat):Int) γ γ,fl ((c:Nat):Int) γ γ,if_pos γ,fl ((n:Int)+(((st:Nat):Int) - 1)) γ γ,RZ]
     rfl
    refine call_range_3 γ ?_ (.inl hd)
    refine SN ώk sm ?_
    have I2:Inv X g σ H1 { s1 with heap:=s1.heap.push { cls:=.type "range",data:=.fields [.int 0 t,.int n t',.int ((st:Nat):Int) t2].toArray } }:=I1.kept (t':=s1.toks) λb o e=>FZ _ e
    refine⟨(s1.heap.push { cls:=.type "range",data:=.fields [.int 0 t,.int n t',.int ((st:Nat):Int) t2].toArray }).objs.size,[(s1.heap.push { cls:=.type "range",data:=.fields [.int 0 t,.int n t',.int ((st:Nat):Int) t2].toArray }).objs.size],_,_,H1,rfl,
     I2.kept (t':=ζ3) λb o e=>FZ _ e,BN _ st c,?_,λb hb=>?_,q⟩
    ·have e1:(0:Int)+((0:Nat):Int) * ((st:Nat):Int)=0:=by simp
     have e2:((c:Nat):Int) - ((0:Nat):Int)=Oz 0 n ((st:Nat):Int):=by rw[rs];omega
     show IsRangeIter _ _ ((0:Int)+((0:Nat):Int) * ((st:Nat):Int)) (((c:Nat):Int) - ((0:Nat):Int)) ((st:Nat):Int)
     rw[e1,e2];exact G4 _ rfl
    ·have e:b=(s1.heap.push { cls:=.type "range",data:=.fields [.int 0 t,.int n t',.int ((st:Nat):Int) t2].toArray }).objs.size:=by simpa using hb
     subst e;exact I2.fpOk Θ υR
theorem zM {g:TG}{tb:TS}{D:GW}{σ:θp} (Pv:Nat->L2.St->Hp->Prop) (h0:ζy)
  (hs:∀i σ H,i < n->Pv i σ H->g (.int ((i * s:Nat):Int)) σ H λσ2 H2=>tb { D with nx:=Pv (i+1),ct:=Pv (i+1),bk:=D.nx } σ2 H2) (hd:Ωz) :
  ∃W:Nat->Nat->L2.St->Hp->Prop,ζq/\∀i m σ H,W i m σ H →
   ((KZ s n).stop i H/\D.nx σ H)\/((KZ s n).go i H/\∃N:L2.St->Hp->Prop,εP/\∀x H',(KZ s n).yld i H x H'->g x σ H' λσ2 H2=>tb { D with nx:=N,ct:=N,bk:=D.nx } σ2 H2):=by
 refine Θb
 rintro i m σ H ⟨rfl,hi,p⟩
 by_cases hlt:i < n
 ·refine .inr ΔJ
  obtain⟨e,rfl⟩:=y;subst e;exact hs i σ _ hlt p
 ·have e:i=n:=by omega
  exact .inl #[by show n<=i;omega,hd σ H ξ3]
theorem FT.up {ms:Φ}{pl:Addr} (h:ψk) (hx:οA) (n:pl≠x):FT ms ζs pl prs:=by
 show 181;refine #[h0,us,by rw[ae n];exact h1,h2,λi u e=>?_]
 show 414;exact #[pb,e1,by rw[ae (bo e2 hx (λy=>by unfold G9 at y;cases y))];exact e2]
theorem FT.same {ms:Φ}{pl:Addr} (h:ψk) (s:γN):FT ms H' pl prs:=by
 show 181;exact #[h0,us,s _ _ h1,h2,λi u e=>(h3 i u e).imp λpb z=>#[z.1,s _ _ z.2]]
def Ix (ms:Φ) (H:Hp) (PL:Addr) (es:μs):Prop:=PL∉ms/\∃ts:List Addr,H PL=some μH/\ts.length=es.length/\∀(i:Nat) t,ts[i]?=some t->∃en pl,es[i]?=some en/\H t=some μk/\FT ms H pl en.2/\pl≠PL
theorem Ix.kb {ms:Φ}{H H':Hp}{gl:Addr}{es:μs} (h:Ix ms H gl es) (t:ρc) (k:θ5):Ix ms H' gl es:=by
 show 415;obtain⟨en,pl,e1,e2,e3,e4⟩:=h3 i u e;exact #[en,pl,e1,k _ _ ωh e2,e3.kb t k,e4]
theorem Ix.snoc {ms:Φ}{PL pl:Addr}{es:μs}{en:Nat × List ρf} (h:Ix ms H PL es) (ht:H t=some μk) (hp:FT ms H pl en.2) (n:pl≠PL):∃ts:List Addr,H PL=some μH/\ts.length=es.length/\Ix ms (upd H PL (.lst (ts.map V.ref++[.ref t]))) PL (es++[en]):=by
 obtain⟨h0,ts,h1,h2,h3⟩:=h;refine #[ts,h1,h2,h0,ts++[t],by rw[ac,HU];rfl,by rw[Hr,Hr,h2];rfl,λi u e=>?_]
 have tu:∀{b:Addr}{xs:δ},H b=some ε7->b≠PL:=λ{b xs} z=>bo z h1 δ6
 show 151
 ·rw[Ky hi] at e
  obtain⟨j,g,e1,e2,e3,e4⟩:=h3 i u e;exact #[j,g,by rw[Ky γ];exact e1,by rw[ae (tu e2)];exact e2,e3.up h1 e4,e4]
 ·rw[Ld γ] at e
  cases z:i - ts.length with
  | succ m=>rw[z] at e;cases e
  | zero =>
   rw[z] at e
   cases FK e;refine #[en,pl,by rw[Ld γ,← h2,z];rfl,by rw[ae (tu ht)];exact ht,hp.up h1 n,n]
theorem PF {k L:Nat} (h:k<=γm):HD xs ψ9 (some ((k+L:Nat):Int))=(xs.drop k).take L:=by
 unfold HD;rw[HT.Ir,HT.Ir,Qx h]
 by_cases z:k+L<=xs.length
 ·rw[Qx z,MY]
 ·rw[Nat.min_eq_right γ,M8 (by rw[MX];exact B_ _),M8 (by rw[MX];omega)]
theorem BP {xs ys:η} (nd:(xs++ys).Nodup) {k:Nat} (h:k∈ys):k∉xs:=λz=>(MR.mp nd).2.2 k z k h rfl
inductive oC (a:q_) (vs:δ) (H:Hp) (Q:VK) (E_3:XK):Prop
 | mk:∀(G:Hp) (R:Rw) (ro so:Addr) (i e:Nat) (Y:Nat->List Nat) (bs:List Nat),vs=[.ref ro,.int i,.ref so]->KD a G H R ro e Y->H so=some (.lst (rowV bs))->so∉R.ms a->bs≠[]->bs.length<=48->i+bs.length<=R.N * R.K.S->((∀b∈bs,b < (2 ^ R.w) ^ R.n))->e<=6000->(∀H' e' Y' v,KD a G H' R ro e' Y'->e'<=e+1248->KB (R.ms a) H H'->Q v H')->oC a vs H Q E_3
theorem zN (T:θ) (B:η7):x_ P wo K mg base 15 a.f106 ["self", "at", "some"] (oC a):=by
 refine T.x106.F.okA (k:=14) NP ι
 ·obtain⟨G,R,ro,so,i,e,Y,bs,rfl,S,b0,eb,b1,h9,b6,b4,he,q⟩:=h
  obtain⟨dx,J⟩:=S.ro
  show 0
  exists xc (aE (ao ο ϧ T.x107.me (mX T) hr.u T.x107.b .nil aj ζc))
  exists xc (aE (aW ο ϧ T.x102.me (mh T) hr.u T.x102.b .nil aj))
  exists xc (ar (i:=3) NP.nd rfl 0e2 δW)
  show 1;refine Sn Ϙ rfl (Cg (An PySem.F.plainAttrs_dict Tq PySem.F.type_dict_items AY (ao ο ϧ T.x108.me (jP T) hr.u T.x108.b .nil aj ζc))) (c7 rfl (aN (au (i:=4) NP.nd rfl ε) (aN (au (i:=5) NP.nd rfl ε) bZ))) ?_
  exists xl (aE (cF JX JV JU bi ϐ (aa (bJ (aa γv (aa (ao ο ϧ T.x109.me (qF T B) hr.u T.x109.b .nil aj ξN) ab))) ab)))
  show 416;refine xf Ϙ rfl (BO rfl T.A06 (aa ai (aa Ψw Ωb))) (au (i:=6) NP.nd rfl ε) ?_
  exists xl (aE (ao ο ϧ T.x110.me (mi T) hr.u T.x110.b .nil aj (aa (oG qH ϐ (mq γX) (mq (ay aU γX θE))) ab)))
  show 5
  show 27
  refine #[_,rfl,ro,dx,_,rfl,S.sG _ _ J,rfl,_,rfl,_,rfl,G,R,ro,so,i,e,Y,bs,rfl,S,b0,b1,b6,b4,?_];refine #[_,rfl,ro,dx,_,rfl,S.sG _ _ J,rfl,G,R,ro,e,_,rfl,S,λH1 s1=>?_]
  have S1:=S.same s1;refine #[(show 0<=sizeLine by decide),λPL ad=>?_]
  have s2:=a_.new (o:=.lst []) ad
  have S2:=S1.same s2
  have bm:(upd H1 PL δr) PL=some 14e1:=ac
  have a8:=s1.trans s2
  have a2:PL∉R.ms a:=λz=>by
   rcases S1.mst PL z with ⟨xs,y⟩ | ⟨xs,y⟩ <;> rw[ad] at y <;> cases y
  generalize (upd H1 PL (.lst []))=H2 at s2 S2 bm a8;show 2
  refine #[_,rfl,ro,dx,_,rfl,S2.sG _ _ J,rfl,_,rfl,_,rfl,G,R,ro,so,i,e,Y,bs,rfl,S2,a8 _ _ b0,h9,b6,λD H3 es nD I3 d0=>?_]
  have S3:=S2.same I3.sm;refine #[.inr (.inr (.inl #[rfl,.inl #[_,I3.hD]])),D,_,rfl,rfl,I3.hD,λv nv=>?_]
  have sv:=a_.new (o:=.ext (jV v D)) nv
  have hv:(upd H3 v ϐw) v=some 194e4:=ac
  have I4:=I3.same sv;generalize (upd H3 v (.ext (jV v D)))=H4 at sv hv I4
  have S4:=S3.same sv;refine #[v,D,_,rfl,hv,I4.hD,λo=>?_]
  have gD:G D=none:=S2.sG.free nD
  have dl:G PL=none:=S1.sG.free ad
  have df:D≠PL:=(aq bm nD).symm
  have c2:D∉R.ms a:=λz=>by
   rcases S2.mst D z with ⟨xs,y⟩ | ⟨xs,y⟩ <;> rw[nD] at y <;> cases y
  have S5:=S4.obj (o:=.frz o Γ7) I4.hD gD
  have k5:∀b u,H2 b=some u->91e6 b=some u:=λb u z=>by
   rw[ae (aq z nD)];exact I4.sm _ _ z
  have cs:91e6 D=some (.frz o Γ7):=ac
  have aw:∀en∈es,91e6 en.2=some 136e2:=λen a0=>by
   obtain⟨a1,_,a3⟩:=I4.is en a0;rw[ae a3];exact a1
  generalize (upd H4 D (.frz o (.dK (Gq es))))=H5 at S5 k5 cs aw
  have bt:=k5 _ _ bm
  show 180
  have N0:=S.I.W.n1
  have dB:∀s k,k∈II R.N i ρs s->k < R.N/\KC R.N i bs s k < νh ^ R.n:=λs k hk=>by
   obtain⟨h1,h2,h3⟩:=GL.mp hk;refine #[h1,?_];unfold KC;show 104
   exact b4 _ (IV _)
  refine let I_:Nat->L2.St->Hp->Prop:=λj σ H'=>L2.A3 ((∃(v4 v5:ζ2),σ=[some δH,some ζB,some θc,some πL,v4,v5,none])) (KB (PL :: R.ms a) H5 H') (L2.E2 λej pe=>L2.A5 (KD a G H' R ro ej Y) (ej<=e+8 * j) (Ix δV H' PL pe) (pe.map (·.1)=(es.take j).map (·.1)) (∀x∈pe,x.2.length<=8/\K1 R (Y x.1) x.1 x.2 (Hv R (II R.N i ρs x.1) (KC R.N i bs x.1) (Y x.1))));AZ (d:=D) (o:=o) (kvs:=Gq es) I_ #[ι5,KB.refl _ _,e,[],S5,B_ _,#[a2,[],bt,rfl,λi t z=>by simp at z],rfl,λx hx=>absurd hx GH] ?_ ?_ ?_
  ·rintro j σ H' _ ⟨_,k,_⟩
   exact k _ _ (λz=>(FC.mp z).elim df c2) cs
  ·rintro j k w T' σ H6 O nT ⟨⟨v4,v5,rfl⟩,k6,ej,pe,S6,b3,an,g,a9⟩
   unfold Gq at O;rw[FM] at O
   cases een:es[j]? with
   | none=>rw[een] at O;cases O
   | some en =>
   rw[een] at O
   cases FK O;rw[show kV (Sum.inl ((en.1:Nat):Int))=V.int ((en.1:Nat):Int) from rfl]
   have hm:=Gi een
   have hj:j < es.length:=(Gr.mp een).1;show 53
   have sT:=a_.new (o:=.tup [V.int ((en.1:Nat):Int),V.ref en.2]) nT
   have S7:=S6.same sT
   have a4:=an.kb S6.mst (KB.of sT)
   have k7:=k6.same sT;generalize (upd H6 T' (.tup [V.int ((en.1:Nat):Int),V.ref en.2]))=H7 at S7 a4 k7;show 2
   have c1:H7 en.2=some 136e2:=k7 _ _ (λz=>by
    rcases FC.mp z with y | y
    ·have:=aw en hm
     rw[y,bt] at this;show 8
    ·rcases S5.mst _ y with ⟨xs,w⟩ | ⟨xs,w⟩ <;> rw[aw en hm] at w <;> cases w) (aw en hm)
   obtain⟨_,U,Z,_⟩:=id a4;refine #[_,rfl,.inl #[rfl,_,c_.of Z],_,rfl,_,rfl,ro,dx,_,rfl,S7.sG _ _ J,rfl,_,rfl,_,rfl,G,R,ro,en.2,en.1,ej,Y,_,_,rfl,S7,I4.lt en hm,by omega,c1,(qE _ _ _ _).imp λh=>F0 h,dB en.1,λH8 pl ce e8 S8 ea k8 db dr dA c8=>Φ7]
   have st:=a_.new (o:=.tup [.int ((en.1:Nat):Int),.ref pl]) nt
   have ht:(upd H8 t μk) t=some 50e6:=ac;generalize (upd H8 t (.tup [.int ((en.1:Nat):Int),.ref pl]))=H9 at st ht
   have S9:=S8.same st
   have dk:=(a4.kb S7.mst k8).kb S8.mst (KB.of st);obtain⟨dV,a5,dy,c9⟩:=dk.snoc (en:=(en.1,ce)) ht (dr.same st) (aq Z db).symm
   have b2:pe.length<=j:=by
    have:=congrArg Mx g;rw[o_,o_,Kx] at this;omega
   refine #[PL,_,_,rfl,rfl,a5,by rw[o_,dy];exact KM b2 (GU (by omega:j < 100) ζ),?_]
   refine #[εJ,λb u nb z=>?_,e8,pe++[(en.1,ce)],S9.upL a5 a2 dl,by omega,c9,?_,λx hx=>?_]
   ·rw[ae λy=>nb υs]
    exact st _ _ (k8 b u (λy=>nb (.tail _ y)) (k7 b u nb z))
   ·rw[HU,g,L5,een,HU]
    rfl
   ·rcases Hi.mp hx with hx | hx
    ·exact a9 x hx
    ·rw[Ge.mp hx]
     exact #[dA,c8]
  ·rintro σ H6 ⟨⟨v4,v5,rfl⟩,k6,ej,pe,S6,b3,an,g,a9⟩
   refine #[_,.no rfl,?_]
   have lK:(Gq es).length=es.length:=o_ _;rw[lK] at b3 g;rw[MC] at g
   have b2:pe.length=es.length:=by
    have:=congrArg Mx g
    rwa [o_,o_] at this
   have dd:(pe.map (·.1)).Nodup:=by rw[g];exact I4.n1
   have c3:∀x∈pe,x.1 < R.K.S:=λx hx=>by
    have:x.1∈es.map (·.1):=by rw[<- g];exact G6.mpr #[x,hx,rfl]
    obtain⟨y,hy,e2⟩:=G6.mp this;rw[<- e2];exact I4.lt y hy
   have p0:1<=pe.length:=by
    have d8:bs.length≠0:=λz=>b1 (SH.mp z)
    have:i / R.N∈es.map (·.1):=I4.all _ (List.ne_nil_of_mem (GL.mpr #[KP i N0,by rw[iH];exact B_ _,by rw[iH];omega]))
    rw[<- g] at this
    have:=List.length_pos_of_mem this
    rwa [o_] at this
   obtain⟨_,ec,c0,dt,_⟩:=id an;obtain⟨X6,ck,_⟩:=S6.rk;obtain⟨dF,a7⟩:=id ck.ins
   have l8:=ck.l8
   have l1:=S.I.L1;refine #[_,rfl,PL,_,rfl,.inl (c_.of c0),_,rfl,ro,_,_,_,_,rfl,S6.sG _ _ J,ϧ,εd,cT R,γS,_,_,_,_,rfl,a7,Γ,T.A62,o6 R.K,pe.length,δO,by rw[o_,dt],#[p0,by omega,l1,l8],?_]
   have hc:pe.length<=(μO / R.K.L+1) * R.K.L:=by
    have:=Nat.lt_mul_div_succ μO (show 0 < R.K.L from l1);rw[Kt] at this;omega
   have cw:∀m,m < μO / R.K.L+1->m * R.K.L < pe.length:=λm hm=>by
    have h1:m * R.K.L<=μO / R.K.L * R.K.L:=SA _ γ
    have h2:=Nat.div_mul_le_self μO δO;omega
   generalize (pe.length - 1) / R.K.L+1=c at hc cw;refine let I_:Nat->L2.St->Hp->Prop:=λm σ H'=>L2.A3 ((∃v6:Option V,σ=[some δH,some ζB,some θc,some πL,v4,v5,v6])) (KB δV H6 H') (L2.E1 λem=>L2.A2 (KD a G H' R ro em (λs=>if s∈(pe.take εr).map (·.1) then Hv R ϋM ϐx (Y s) else Y s)) (em<=e+384+18 * (pe.take εr).length));zM (s:=δO) (n:=c) I_ #[ζO,KB.refl _ _,ej,by simpa using S6,by omega] ?_ ?_
   ·rintro m σ H7 hm ⟨⟨v6,rfl⟩,k7,em,S7,cv⟩
    have dW:=cw m hm;obtain⟨_,U,Z,cc,cy⟩:=id (an.kb S6.mst k7);obtain⟨X7,dc,_⟩:=S7.rk;obtain⟨dF,a7⟩:=id dc.ins;show 2
    refine #[_,rfl,ro,dx,_,rfl,S7.sG _ _ J,rfl,?_];refine #[_,rfl,_,rfl,_,rfl,_,rfl,_,rfl,ro,_,_,_,_,rfl,S7.sG _ _ J,ϧ,εd,cT R,γS,_,_,_,_,rfl,a7,Γ,T.A62,o6 R.K,_,_,rfl,rfl,_,rfl,PL,_,rfl,c_.of Z,λgl b5=>?_];rw[show ((m * R.K.L:Nat):Int)+((R.K.L:Nat):Int)=((m * R.K.L+R.K.L:Nat):Int) by omega,PF (by rw[o_,cc];omega),← Sv,← Qs]
    have sg:=a_.new (o:=.lst (((U.drop εr).take δO).map ϙ)) b5
    have cr:(upd H7 gl Ξz) gl=some 138e9:=ac;generalize (upd H7 gl (.lst (((U.drop (m * R.K.L)).take R.K.L).map V.ref)))=H8 at sg cr
    have S8:=S7.same sg
    have ds:gl∉R.ms a:=λz=>by
     rcases S7.mst gl z with ⟨xs,y⟩ | ⟨xs,y⟩ <;> rw[b5] at y <;> cases y
    have aT:pe.take ϐy=pe.take εr++(pe.drop εr).take R.K.L:=by
     rw[Ue,List.take_add]
    have a6:((pe.take εr).map (·.1)++((pe.drop εr).take δO).map (·.1)).Nodup:=by
     rw[<- HU,← aT,Qs];exact dd.sublist πS
    have dq:HY δV H8 gl ((pe.drop εr).take δO):=⟨ds,(U.drop εr).take δO,cr,by rw[Kx,Kx,MX,MX,cc],λx t ex=>by
     rw[List.getElem?_take] at ex ⊢
     split at ex
     ·next hx =>
      rw[Rp] at ex;obtain⟨en,pl,e1,e2,e3,_⟩:=cy _ t ex;exact #[en,pl,by rw[if_pos hx,Rp];exact e1,sg _ _ e2,e3.same sg]
     ·cases ex⟩
    have l9:(pe.take ϐy).length<=48:=by rw[Kx];omega
    rw[aT,Hr] at l9;refine #[G,R,ro,gl,em,_,λs=>Hv R ϋM ϐx (Y s),(pe.drop εr).take δO,rfl,S8,dq,by rw[Kx];omega,(MR.mp a6).2.1,λen a0=>?_,by omega,λH9 e9 S9 d4 k9=>?_]
    ·have ch:en∈pe:=Uz (Rm a0)
     have hx:=a9 en ch;refine #[c3 en ch,hx.1,?_];show 6
     rw[if_neg (BP a6 (G6.mpr #[en,a0,rfl]))];exact hx.2
    ·refine #[ϊ,k7.trans (KB.trans (KB.of sg) k9),e9,cast (congrArg (KD a G H9 R ro e9) (funext λs=>?_)) S9,by rw[aT,Hr];omega]
     rw[aT,HU]
     by_cases z:s∈((pe.drop εr).take δO).map (·.1)
     ·rw[if_pos z,if_pos (JH _ z)]
     ·rw[if_neg z]
      by_cases w:s∈(pe.take εr).map (·.1)
      ·show 419
      ·rw[if_neg w,if_neg λy=>(Hi.mp y).elim w z]
   ·rintro σ H7 ⟨⟨v6,rfl⟩,k7,em,S7,cv⟩
    rw[M8 hc] at S7 cv
    have kF:KB δV H H7:=λb u nb z=>by
     have z2:=a8 _ _ z
     exact k7 b u nb (k6 b u (λy=>by
      rcases FC.mp y with w | w
      ·rw[w] at z
       rw[s1 _ _ z] at ad
       cases ad
      ·exact nb w) (k5 b u z2))
    exact #[_,rfl,q H7 em _ _ S7 γ kF]
theorem Fz.kp {c bp fp:Addr} (h:ϊs) (k:ρb):Fz a H' c bp fp r w n M N l:=by
 obtain⟨dx,Lp,qs,h1,h2,h3⟩:=h.ins;obtain⟨db,hb⟩:=h.blk.ins;obtain⟨df,hf⟩:=h.blk.fld;exact #[#[dx,Lp,qs,k _ _ εe h1,k _ _ eU h2,h3.len,λi p e=>k _ _ eU (h3.on i p e)],#[db,k _ _ (λ_ y=>by cases y) hb],df,k _ _ (λ_ y=>by cases y) hf]
theorem FY.kp {tp:Addr}{d m:Nat}{qs:Φ}{row:δC} (h:ϊg) (k:ρb):FY a H' p d n st tp qs m row :=
 #[h.sh.imp λ_ e=>k _ _ εe e,k _ _ eU h.tl,#[h.rows.len,h.rows.nd,λi p e=>k _ _ eU (h.rows.on i p e)],h.m0,h.len]
def KF (n:Nat) (sh:Int):List Nat:=(cj n sh).map OT
theorem Ea (h:εp) (sh:Int):(cj n sh).map V.int=rowV (KF n sh):=by
 unfold KF rowV;rw[GB];refine KA λx hx=>?_;obtain⟨y,_,rfl⟩:=G6.mp ((i4 h sh).mem_iff.mp hx);rfl
theorem Eb (n:Nat) (sh:Int):(KF n sh).length=n:=by unfold KF cj;rw[o_,o_,Gf]
theorem EQ (h:εp) (sh:Int):∀x∈KF n sh,x < n:=λx hx=>by
 obtain⟨z,hz,rfl⟩:=G6.mp hx;obtain⟨y,hy,rfl⟩:=G6.mp ((i4 h sh).mem_iff.mp hz);exact GG.mp hy
theorem ER (h:εp) (sh:Int):(KF n sh).Nodup:=by
 have p:=(i4 h sh).map OT
 have e:(cq n).map OT=r_ n:=by
  unfold cq;rw[GB];exact(KA λx _=>G5 x).trans (SM _)
 rw[e] at p;exact p.nodup_iff.mpr MB
inductive ga (a:q_) (vs:δ) (H:Hp) (Q:VK) (E_3:XK):Prop
 | mk:∀(c bp fp sp tp:Addr) (r w n M N m e:Nat) (l:Nat->Nat->Nat) (qs:List Addr) (row:Nat->List Nat) (R:Rk) (ss:List V) (X:Nat->Nat->Option Int),vs=[.ref c,.ref sp,.ref R.rk]->Fz a H c bp fp r w n M N l->FY a H sp N (N+M) R.S tp qs m row->d_ a H R e ss X->R.P=N+M->Q .non H->ga a vs H Q E_3
theorem mY (T:θ):x_ P wo K mg base 1 a.f100 ["code", "shape", "rack"] (ga a):=by
 refine T.x100.F.okA (k:=0) mM ι
 ·obtain⟨c,bp,fp,sp,tp,r,w,n,M,N,m,e,l,qs,row,R,ss,X,rfl,hC,hS,hR,hP,q⟩:=h
  obtain⟨dc,Lp,q1,hc,_,_⟩:=δc;obtain⟨ds,hs⟩:=hS.sh;obtain⟨dr,g⟩:=hR.ins
  have no:∀i j:Nat,i=j->¬ ΞF=true:=λi j e=>by
   show 421;decide
  show 0
  show 1;refine xi (PW.pt (aY Φb (aS Φb))) ?_
  show 4
  show 34;refine xi (PW.pt (aY Φc (aS Φc))) ?_
  show 4
  show 3;refine #[_,rfl,c,_,_,_,_,rfl,hc,ϖ,ζa,ee _ _ _ _,_,rfl,sp,_,_,_,_,rfl,hs,γs,T.A67,o9 _ _ _ _,rfl,_,rfl,?_];show 183;refine #[_,rfl,c,_,_,_,_,rfl,hc,ϖ,ηp,dZ _ _ _ _,_,rfl,sp,_,_,_,_,rfl,hs,γs,T.A64,j3 _ _ _ _,rfl,_,rfl,?_];show 183;refine #[_,rfl,R.rk,_,_,_,_,rfl,g,Γ,T.A75,tf R,_,rfl,sp,_,_,_,_,rfl,hs,γs,T.A64,j3 _ _ _ _,rfl,_,rfl,?_];refine b_ (λy=>absurd y (no _ _ hP)) ν;refine #[_,rfl,R.rk,_,_,_,_,rfl,g,Γ,T.A51,gM R,_,rfl,sp,_,_,_,_,rfl,hs,γs,T.A90,ow _ _ _ _,rfl,_,rfl,?_];exact b_ ξG εB
inductive mj (a:q_) (vs:δ) (H:Hp) (Q:VK) (E_3:XK):Prop
 | mk:∀(R:Rw) (ro dx:Addr) (e:Nat) (ss:List V) (X:Nat->Nat->Option Int),vs=[.ref ro,.ref R.c,.ref R.sp,.ref R.K.rk]->H ro=some (.ins a.C_Row dx [])->Fz a H R.c R.bp R.fp R.r R.w R.n R.M R.N R.l->FY a H R.sp R.N (R.N+R.M) R.K.S R.tp R.qs R.m R.row->d_ a H R.K e ss X->R.K.P=R.N+R.M->Q .non (upd H ro (.ins a.C_Row dx (Ka R)))->mj a vs H Q E_3
theorem wV (T:θ):x_ P wo K mg base 2 a.f101 ["self", "code", "shape", "rack"] (mj a):=by
 refine T.x101.F.okA (k:=1) wP ι
 ·obtain⟨R,ro,dx,e,ss,X,rfl,g,hC,hS,hR,hP,q⟩:=h
  show 0
  exists xc (aE (aH (mY T) hr.u rfl T.x100.m T.x100.k T.x100.b .nil aj ξp))
  show 41
  show 67
  exists xl υM
  refine #[_,rfl,_,rfl,_,rfl,R.c,R.bp,R.fp,R.sp,R.tp,R.r,R.w,R.n,R.M,R.N,R.m,e,R.l,R.qs,ιQ,R.K,ss,X,rfl,hC,hS,hR,hP,?_];refine #[_,rfl,_,rfl,ro,γn,dx,_,rfl,g,ϧ,T.A84,ζ,?_]
  refine #[_,rfl,_,rfl,ro,γn,dx,_,rfl,ac,ϧ,T.A56,ηJ,?_]
  refine #[_,rfl,_,rfl,ro,γn,dx,_,rfl,ac,ϧ,εd,ηK,?_]
  show 154;exact q
theorem Ec (R:Rw):MN R (FL δR 0):=⟨KR,λb hb=>by
 rw[Qh hb];exact Oc ώS,(vz KR).mpr λt _=>by
 rw[GF.FX (G:=λ_=>0) _ λj hj=>?_,GF.HX];rw[v_,LN,if_pos hj]
 exact GF.Pg⟩
theorem eA {dx:Addr}{o0 o1:HO} (nx:ωU) (ndx:H dx=none):a_ H (upd (upd H dx o0) x o1):=λy o e=>by
 rw[ae ηb,ae (aq e ndx)];exact e
theorem ES {k:Nat} (h:ιJ) (sh:Int):(((KF n sh).getD k 0:Nat):Int)=((k:Int)+sh) % (n:Int):=by
 unfold KF cj;rw[GB,v_,FM,Ib h];exact Oj (N7 _ γ)
theorem Fq {k:Nat} (h:ιJ) (st:Int):(((KF n (st * ((s % n:Nat):Int))).getD k 0:Nat):Int)=υP % (n:Int):=by
 rw[ES h,Qc,SF,T_,Int.emod_emod_of_dvd _ (Int.dvd_refl _),← T_,← SF]
inductive De (a:q_) (vs:δ) (H:Hp) (Q:VK) (E_3:XK):Prop
 | mk:∀(nl:Addr) (r n N M S L:Nat) (st:Int),vs=[.ref nl]->H nl=some (.lst [.int r,.int n,.int N,.int M,.int S,.int L,.int st])->GF.Gg r r.log2->1<=n->n<=16->1<=N->1<=M->M<=2->N+M<=8->1<=S->S<=32->1<=L->L<=8->st.natAbs < 1267650600228229401496703205376->LB a H->(∀H' G R ro,a_ H H'->KD a G H' R ro 0 (λ_=>FL (N+M) 0)->R.N=N->R.K.S=S->R.w=r.log2->R.n=n->R.M=M->(∀s k:Nat,k < N+M->((R.pl s k:Nat):Int)=υP % ((N+M:Nat):Int))->(∀x∈R.ms a,H x=none\/∃ps,H x=some εb)->Q δH H')->De a vs H Q E_3
theorem ET (T:θ):x_ P wo K mg base 5 a.f113 ["_law_numbers_here"] (De a):=by
 refine T.x113.F.okA (k:=4) Lh ι
 ·obtain⟨nl,r,n,N,M,S,L,st,rfl,c2,full,n1,n16,N1,M1,M2,NM,S1,a4,L1,L8,cv,tb,q⟩:=h
  show 0
  exists xc (cA ο (Dy rfl (aN (au (i:=1) ζH rfl ε) (aN (au (i:=2) ζH rfl ε) (aN (au (i:=3) ζH rfl ε) (aN (au (i:=4) ζH rfl ε) (aN (au (i:=5) ζH rfl ε) (aN (au (i:=6) ζH rfl ε) (aN (au (i:=7) ζH rfl ε) bZ)))))))))
  exists xc (ar (i:=8) ζH rfl 0e2 (cx T.Ae5 (vx T) hr.u rfl T.m_Code T.x22.b .nil aj (aa (cx T.Ae6 (q5 T) hr.u rfl T.m_Blocks T.x14.b .nil aj (aa (cx T.Ae7 (uf T) hr.u rfl T.m_Field T.x0.b .nil aj γ8) γt)) (aa (aH (o5 T) hr.u rfl T.x52.m T.x52.k T.x52.b .nil aj ϊr) ab))))
  exists xc (ar (i:=9) ζH rfl 0e2 (cx T.Ac7 (uj T) hr.u rfl T.m_Shape T.x71.b .nil aj (aa ϐ (aa υW (aa γ2 (aa (aH (uk T) hr.u rfl T.x68.m T.x68.k T.x68.b .nil aj (aa υW ηD)) ab))))))
  exists xl (aA (cx T.Af0 (wV T) hr.u rfl T.m_Row T.x101.b .nil aj (aa θC (aa μc (aa (cx T.Ac6 (vC T) hr.u rfl T.m_Rack T.x77.b .nil aj (aa υW (aa γ2 νI))) ab)))))
  refine #[_,rfl,nl,_,rfl,c_.of c2,rfl,_,_,rfl,_,_,rfl,_,_,rfl,_,_,rfl,_,_,rfl,_,_,rfl,_,_,rfl,rfl,?_];show 2
  have G:=full.toGood
  have W:IP δU M N plainL:=Bj G.top16 M1 M2 N1 NM;refine #[_,rfl,λfp df b4 c1 dB=>#[fp,df,r,δU,rfl,ac,G,rfl,?_]];rw[bb]
  have s1:=eA (o0:=.own fp) (o1:=.ins γA df ϑY) b4 c1
  have hF:FH γA (upd (upd H df (.own fp)) fp (.ins γA df ϑY)) fp r r.log2:=#[df,ac];generalize (upd (upd H df (.own fp)) fp (.ins a.C_Field df (ff r r.log2)))=H1 at s1 hF;refine #[_,rfl,λb db nb a9 dy=>#[b,db,fp,r,δU,n,rfl,ac,hF.same (eA nb a9),?_,G,n1,n16,rfl,?_]]
  ·obtain⟨d,e⟩:=hF
   exact(aq e nb).symm
  rw[bb]
  have s2:=eA (o0:=.own b) (o1:=.ins γH db ώT) nb a9
  have hB:FR a (upd (upd H1 db (.own b)) b (.ins γH db ώT)) b fp r δU n:=#[#[db,ac],hF.same s2];generalize (upd (upd H1 db (.own b)) b (.ins a.C_Blocks db (bf fp r.log2 n)))=H2 at s2 hB;refine #[_,rfl,_,rfl,N,M,rfl,M1,M2,by omega,λWL H3 ps s3 cr ch=>?_]
  refine λc dc nc b5 dt=>?_
  have s4:=eA (o0:=.own c) (o1:=.ins γb dc []) nc b5;refine #[c,dc,b,fp,WL,r,δU,n,M,N,ps,θx,rfl,ac,(hB.same s3).same s4,G,s4 _ _ cr,ch.same s4,W,λH4 k4 cc=>ηZ]
  have c0:a_ H3 H4:=λy o e=>k4 y o (aq e nc) (s4 _ _ e)
  have cs:=((s1.trans s2).trans s3).trans c0;show 2
  have a3:(N:Int)+(M:Int)=((N+M:Nat):Int):=by omega
  refine #[_,rfl,_,rfl,_,rfl,_,_,rfl,rfl,_,rfl,_,rfl,_,rfl,_,_,rfl,rfl,_,rfl,?_];show 6
  rw[a3];refine #[N+M,st,rfl,by omega,NM,cv,λTL ck H5 dq s5 b2 b6 dd dr=>?_]
  refine λsp U a1 bt c9=>?_
  have s6:=eA (o0:=.own sp) (o1:=.ins γC U []) a1 bt
  have J:0 < N+M:=by omega
  refine #[sp,U,TL,N,N+M,S,N+M,ck,λj=>cj (N+M) μR,rfl,ac,by omega,NM,N1,by omega,by omega,S1,a4,by omega,by omega,s6 _ _ b2,b6.same s6,λj _=>i4 J _,λtp qs H7 k7 cw b3 Z dA dk dl=>ηZ]
  have c3:a_ H5 H7:=λy o e=>k7 y o (aq e a1) (s6 _ _ e)
  have a5:FY a H7 sp N (N+M) S tp qs (N+M) (λj=>KF (N+M) μR):=#[#[U,cw],b3,#[Z.len,Z.nd,λj p e=>(Z.on j p e).trans (by rw[Ea J])],J,λj _=>Eb _ _]
  have a6:=s5.trans c3
  have ad:=cs.trans a6
  have a8:=cc.same a6;show 2
  refine #[_,rfl,_,rfl,_,rfl,_,rfl,_,_,rfl,rfl,_,rfl,_,rfl,?_];show 6
  rw[a3];refine λrk bm a2 b1 c8=>?_
  have s8:=eA (o0:=.own rk) (o1:=.ins ό bm []) a2 b1;refine #[rk,bm,N+M,S,L,rfl,ac,by omega,NM,S1,a4,L1,L8,λRK H8 e1 e2 e3 e4 e5 k8 a7 cy=>ηZ]
  have Y:a_ H7 H8:=λy o e=>k8 y o (aq e a2) (s8 _ _ e);subst e1 e3 e4;refine λx dx nx a0 ds=>?_
  have s9:=eA (o0:=.own x) (o1:=.ins γn dx []) nx a0
  have ce:=a7.same s9;refine #[#[c,b,fp,sp,tp,qs,r,δU,n,M,N,N+M,θx,λj=>KF (N+M) μR,RK],x,dx,0,_,_,rfl,ac,(a8.same Y).same s9,(a5.same Y).same s9,ce,e2,rfl,?_];rw[bb];generalize g:(⟨c,b,fp,sp,tp,qs,r,r.log2,n,M,N,N+M,plainL,λj=>KF (N+M) (st * (j:Nat)),RK⟩:Rw)=R
  have aT:=eA (o0:=.own x) (o1:=.ins γn dx (Ka R)) nx a0
  have hx:(upd (upd H8 dx θw) x ξV) x=some 66e7:=ac
  have O:=a7.same aT;generalize (upd (upd H8 dx (.own x)) x (.ins a.C_Row dx (Ka R)))=H10 at aT hx O
  have aw:=Y.trans aT
  have D:=ad.trans aw
  have b0:LB a H10:=#[tb.o.keep D,tb.n.keep D,tb.r.keep D,tb.on,tb.or,tb.nr]
  have an:∀y∈R.ms a,(y∈RK.lists/\H7 y=none)\/∃ps,H y=some 18e7:=λy hy=>by
   have hl:∀z∈RK.lists,(z∈RK.lists/\H7 z=none)\/∃ps,H z=some (.tbl ps):=λz hz=>.inl ⟨hz,s8.free (cy z hz)⟩;rw[<- g] at hy;unfold Rw.ms at hy;rcases FC.mp hy with rfl | hy
   ·exact hl _ δi
   rcases FC.mp hy with rfl | hy
   ·exact hl _ υ8
   rcases FC.mp hy with rfl | hy
   ·exact .inr (tb.o.imp λ_ z=>z.1)
   rcases FC.mp hy with rfl | hy
   ·exact .inr (tb.n.imp λ_ z=>z.1)
   rcases FC.mp hy with rfl | hy
   ·exact .inr (tb.r.imp λ_ z=>z.1)
   rcases FC.mp hy with rfl | hy
   ·exact hl _ νU
   ·exact hl _ (.tail _ (.tail _ (.tail _ hy)))
  have kp:Kp H7 102e6:=λy o nt z=>by
   rw[b9 λw=>?_]
   ·exact aw _ _ z
   ·rcases an y w with ⟨_,w⟩ | ⟨ps,w⟩
    ·rw[w] at z;cases z
    ·rw[ad _ _ w] at z;show 422
  have gx:bz δV H10 x=some 66e7:=by
   rw[b9 λw=>?_]
   ·exact hx
   ·rcases an x w with ⟨w,_⟩ | ⟨ps,w⟩
    ·obtain⟨xs,w⟩:=O.isLst w
     rw[w] at hx;cases hx
    ·rw[D _ _ w] at hx;cases hx
  have I:Kq a χI R:=by
   subst g;exact #[a8.kp kp,full,n16,W,a5.kp kp,λj _=>ER J _,λj _=>EQ J _,e2,L1,λy hy=>dH hy]
  refine q H10 χI R x D #[#[dx,gx],I,qD _ _,#[λ_ _=>some 0,?_,(by rw[<- g];exact e5),λs hs=>?_],b0] μS μS μS μS μS (λs k hk=>by rw[<- g];exact Fq hk st) λy hy=>?_
  ·rw[<- g];exact O
  ·have e:N+M=R.N+R.M:=by rw[<- g]
   show 9;rw[e];refine #[Ec R,λk hk=>?_];rw[v_,LN,if_pos hk];rfl
  ·rcases an y hy with ⟨_,w⟩ | w
   ·exact .inl (ad.free w)
   ·exact .inr w
variable {α:Type}
theorem zO {F:ωT}{G:Prop} (Pz:ωT) (h:όF) (key:ϐn):G:=h key
def blkN (c:Int) (k L:Nat):Nat:=(τ5 % (L:Int)).toNat
theorem Ed {k L:Nat} (h:0 < L):blkN c k L < L:=by
 unfold blkN
 have h1:=RN τ5 (show (0:Int) < (L:Int) by omega)
 generalize ((c+7919 * (k:Int)) % (L:Int) * ((2:Int) ^ (61:Int).toNat - 1)+(c+7919 * (k:Int)) % (L:Int) / 3+(k:Int)) % (L:Int)=z at h1;omega
inductive yS (vs:δ) (H:Hp) (Q:VK) (E_3:XK):Prop
 | mk:∀(c:Int) (k L:Nat),vs=[.int c,.int k,.int L]->0 < L->Q (.int ((blkN c k L:Nat):Int)) H->yS vs H Q E_3
theorem wq (T:θ):x_ P wo K mg base 1 a.f114 ["_law_cell", "_law_k", "_law_limit_here"] yS:=by
 refine T.x114.F.okA (k:=0) Q3 ι
 ·obtain⟨c,k,L,rfl,h0,q⟩:=h
  have hp:(0:Int) < (L:Int):=by omega
  show 0
  exists xc (ar (i:=3) Q3.nd rfl 0e2 (ay aV (ay aU ο ώ3) Ψ))
  exists xl (aA (ay aV (ay aU (ay aU (ay cU ϐ (ay g7 ϑZ ai)) (ay bN ϐ ai)) ω) Ψ))
  refine #[_,rfl,_,rfl,_,_,rfl,rfl,.inl δh,_,_,rfl,rfl,_,rfl,_,_,rfl,rfl,p0 hp,?_]
  refine #[_,rfl,_,_,rfl,rfl,Ψy,_,_,rfl,rfl,_,_,rfl,rfl,.inr δh,_,rfl,_,_,rfl,rfl,δh,_,_,rfl,rfl,_,rfl,_,_,rfl,rfl,_,rfl,_,_,rfl,rfl,p0 hp,?_]
  have e:=Oj (N7 τ5 (show (L:Int)≠0 by omega))
  exact(congrArg όa e).mp q
inductive yT (vs:δ) (H:Hp) (Q:VK) (E_3:XK):Prop
 | mk:∀(nl:Addr) (r w n:Nat) (xs:List V),vs=[.ref nl]->H nl=some (.lst (.int r :: .int n :: xs))->GF.Good r w->n<=16->Q (.int (((2 ^ w) ^ n:Nat):Int)) H->yT vs H Q E_3
theorem CO (T:θ):x_ P wo K mg base 1 a.f115 ["_law_numbers_here"] yT:=by
 refine T.x115.F.okA (k:=0) MK ι
 ·obtain⟨nl,r,w,n,xs,rfl,g,R,O,q⟩:=h
  have U:=R.top16
  have J:=R.top256
  show 0
  exists xc (ar (i:=1) MK.nd rfl 0e2 ai)
  show 1;refine xw Ϙ (am CY ώg (aD ax ο ai γ6) υ) ?_
  exists xl (ar (i:=1) MK.nd rfl 0e2 ώg)
  show 5
  exists xc (ar (i:=2) MK.nd rfl 0e2 ai)
  show 1;refine xf Ϙ rfl (ba rfl T.A06 ΦH) (au (i:=3) MK.nd rfl ε) ?_
  exists xl (ar (i:=2) MK.nd rfl 0e2 (ay cU Ψ ω))
  show 5
  show 51
  refine #[λm σ H'=>∃t:Nat,m=w - t/\σ=[some ωF,some ϋ9,none,none]/\H'=H/\t<=w,#[_,4,rfl,rfl,rfl,R.w4],?_];rintro m σ H' ⟨t,rfl,rfl,rfl,ht⟩
  have e2:((2 ^ t:Nat):Int) * 2=((2 ^ (t+1):Nat):Int):=by rw[J_];omega
  refine #[_,rfl,_,_,rfl,rfl,.inr δh,_,rfl,nl,_,_,_,rfl,rfl,c_.of g,aB (j:=0) rfl,_,_,rfl,rfl,_,rfl,?_]
  show 6
  rw[e2];refine b_ ξA ε1
  ·have h':=of_decide_eq_true h
   have G:t < w:=(GF.K0 R.rule ht).mp (by rw[<- J_];omega)
   refine #[_,rfl,_,_,rfl,rfl,.inr δh,?_]
   show 6
   rw[e2];exact #[w - (t+1),by omega,t+1,rfl,rfl,rfl,G]
  ·have D:t=w:=by
    refine Classical.byContradiction λz=>h (decide_eq_true ?_)
    have:=(GF.K0 R.rule ht).mpr γ
    rw[<- J_] at this;omega
   subst D;refine #[_,rfl,nl,_,_,_,rfl,rfl,c_.of g,aB (j:=1) rfl,_,rfl,by omega,by omega,?_]
   rw[G5];refine let I_:Nat->L2.St->Hp->Prop:=λi σ H2=>L2.E1 λ(v:Option V)=>L2.A2 (σ=[some ωF,some ϋ9,some (.int (((2 ^ t) ^ i:Nat):Int)),v]) (H2=H');bQ (lo:=0) (n:=n) I_ ύv ?_ ?_
   ·rintro i σ H' hi ⟨v,rfl,rfl⟩
    refine #[_,rfl,_,rfl,_,_,rfl,rfl,.inr εR,?_]
    refine #[some ύk,?_,rfl];rw[J_,Oa];rfl
   ·rintro σ H' ⟨v,rfl,rfl⟩
    exact ϑF
inductive tM (K:m_) (vs:δ) (H:Hp) (Q:VK) (E_3:XK):Prop
 | mk:∀(sa:Addr) (ns:List Int),vs=[.ref sa]->c_ K H sa (ns.map V.int)->(∀(D:Addr) (H':Hp) (r n N M S L:Nat) (st:Int),a_ H H'->H D=none->H' D=some (.lst [.int r,.int n,.int N,.int M,.int S,.int L,.int st])->GF.Gg r r.log2->1<=n->n<=16->1<=N->1<=M->M<=2->N+M<=8->1<=S->S<=32->1<=L->L<=8->st.natAbs < 1267650600228229401496703205376->Q (.ref D) H')->tM K vs H Q E_3
theorem zP (T:θ):x_ P wo K mg base 2 a.f112 ["_law_script"] (tM K):=by
 refine T.x112.F.okA (k:=1) Km ι
 ·obtain⟨sa,ns,rfl,hS,q⟩:=h
  show 0
  refine @xc _ _ _ _ _ ρW ?_
  show 5;refine @xc _ _ _ _ _ (@ar _ _ 2 _ _ _ _ ζk rfl 0e2 (@aD _ _ _ _ _ _ _ ax (@be _ _ _ _ (@xF _ _ [19,25,37,59,67,103,137,203,285,355,425,501] γc)) (ay aV ω ai) γ6) εM (by first | exact .inl rfl | exact .inr rfl)) ?_
  show 5;refine @xc _ _ _ _ _ (@ar _ _ 3 _ _ _ _ ζk rfl 0e2 τK εM (by first | exact .inl rfl | exact .inr rfl)) ?_
  show 5;refine @xc _ _ _ _ _ (@uo _ _ _ _ _ _ _ _ Φd (@gR _ _ _ (@ar _ _ 3 _ _ _ _ ζk rfl 0e2 ai εM (by first | exact .inl rfl | exact .inr rfl))) av) ?_
  show 423
  show 5;refine @xc _ _ _ _ _ (@ar _ _ 4 _ _ _ _ ζk rfl 0e2 ϊ5 εM (by first | exact .inl rfl | exact .inr rfl)) ?_
  show 5;refine @xc _ _ _ _ _ (@ar _ _ 5 _ _ _ _ ζk rfl 0e2 (ay aU ai (ay aV ρp (ay g7 ai γv))) εM (by first | exact .inl rfl | exact .inr rfl)) ?_
  show 5;refine @xc _ _ _ _ _ (@ar _ _ 6 _ _ _ _ ζk rfl 0e2 τK εM (by first | exact .inl rfl | exact .inr rfl)) ?_
  show 5;refine @xc _ _ _ _ _ (@uo _ _ _ _ _ _ _ _ Φd (@gR _ _ _ (@ar _ _ 6 _ _ _ _ ζk rfl 0e2 ai εM (by first | exact .inl rfl | exact .inr rfl))) av) ?_
  show 423
  show 5;refine @xc _ _ _ _ _ (@ar _ _ 7 _ _ _ _ ζk rfl 0e2 (ay aV ρp ϑZ) εM (by first | exact .inl rfl | exact .inr rfl)) ?_
  show 5;refine @xc _ _ _ _ _ (@uo _ _ _ _ _ _ _ _ μo (@gR _ _ _ (@ar _ _ 7 _ _ _ _ ζk rfl 0e2 (ay g7 ai εH) εM (by first | exact .inl rfl | exact .inr rfl))) av) ?_
  show 5;refine #[_,(@gR _ _ _ (aA (@be _ _ _ _ (aa Ψ (aa ϐ (aa γ2 (aa γv (aa γX (aa ϊ5 ηD))))))))),?_];refine #[_,rfl,sa,ns,0,rfl,hS,?_];generalize cell ns 0=c0;refine #[ζ,λp1 n1=>?_]
  have s1:=a_.new (o:=.lst (KS.map λn:Nat=>V.int n)) n1;obtain⟨d,hd,ed⟩:∃d:Nat,d < 12/\c0 % 12=(d:Int):=#[(c0 % 12).toNat,by omega,by omega]
  have e1:(KS.map λn:Nat=>V.int n)[d]?=some (V.int ((KS.getD d 0:Nat):Int)):=by
   rw[FM,v_,s_ (show d < KS.length from hd)];rfl
  refine #[_,rfl,_,_,rfl,rfl,p0 ζ,p1,(KS.map λn:Nat=>V.int n),c0 % 12,_,rfl,rfl,c_.of ac,(by rw[ed];exact aB e1),?_]
  have full:=Cn d hd;generalize KS.getD d 0=r at full;clear e1 ed hd
  have s1:a_ H (upd H p1 (.lst (KS.map λn:Nat=>V.int n))):=s1;show 2
  have s1:a_ H (upd H p1 (.lst [V.int 19,V.int 25,V.int 37,V.int 59,V.int 67,V.int 103,V.int 137,V.int 203,V.int 285,V.int 355,V.int 425,V.int 501])):=s1;generalize (upd H p1 (.lst [V.int 19,V.int 25,V.int 37,V.int 59,V.int 67,V.int 103,V.int 137,V.int 203,V.int 285,V.int 355,V.int 425,V.int 501]))=H1 at s1;obtain⟨y,hy,ey⟩:=Jp (c0 / 12) (n:=4) ζ
  have ey:c0 / 12 % 4=(y:Int):=ey;refine ΔB
  show 6
  rw[ey,show (1:Int)+(y:Int)=((1+y:Nat):Int) by omega]
  show 2
  refine zO (λn:Nat=>1<=n/\n<=16) (λg=>by
   refine ΔI
   show 184
   ·generalize a1:1+y=n0
    exact g n0 εR
   ·exact g 16 δh) ?_
  rintro n ⟨Y,U⟩;clear ey hy;refine #[_,rfl,sa,ns,1,rfl,s1.seq hS,?_];generalize cell ns 1=c1;show 2
  obtain⟨y1,a4,G⟩:=Jp c1 (n:=2) ζ
  have G:c1 % 2=(y1:Int):=G;refine #[_,rfl,_,_,rfl,rfl,p0 ζ,_,_,rfl,rfl,?_]
  show 6
  rw[G,show (1:Int)+(y1:Int)=((1+y1:Nat):Int) by omega]
  obtain⟨M,hM⟩:∃M,1+y1=M:=ϊ;rw[hM];show 2
  obtain⟨y2,a0,O⟩:=Jp (c1 / 2) (n:=8 - M) γ
  refine #[_,rfl,_,_,rfl,rfl,δh,_,rfl,_,_,rfl,rfl,_,_,rfl,rfl,p0 γ,_,_,rfl,rfl,?_]
  show 6
  rw[show (8:Int) - (M:Int)=((8 - M:Nat):Int) by omega,O,show (1:Int)+(y2:Int)=((1+y2:Nat):Int) by omega]
  obtain⟨N,hN⟩:∃N,1+y2=N:=ϊ;rw[hN];show 2
  obtain⟨y3,aw,j⟩:=Jp (c1 / 14) (n:=6) ζ
  have j:c1 / 14 % 6=(y3:Int):=j;refine ΔB
  show 6
  rw[j,show (1:Int)+(y3:Int)=((1+y3:Nat):Int) by omega]
  show 2
  refine zO (λn:Nat=>1<=n/\n<=32) (λg=>by
   refine ΔI
   show 184
   ·generalize a2:1+y3=S0
    exact g S0 εR
   ·exact g 32 δh) ?_
  rintro S ⟨ad,R⟩;clear G O j aw;refine #[_,rfl,sa,ns,2,rfl,s1.seq hS,?_];generalize cell ns 2=c2;show 2
  have Z:(10:Int) ^ (28:Int).toNat=10000000000000000000000000000:=by decide
  refine #[_,rfl,_,_,rfl,rfl,δh,_,_,rfl,rfl,Ψy,_,_,rfl,rfl,p0 ζ,?_]
  show 6
  rw[Z];show 2
  refine zO (λz:Int=>z.natAbs < 1267650600228229401496703205376) (λg=>by
   refine ξd
   show 184
   ·generalize aT:c2 / 8 % 10000000000000000000000000000=st0
    exact g st0 γ
   ·exact⟨_,rfl,_,_,rfl,rfl,g (0 - c2 / 8 % 10000000000000000000000000000) γ⟩) ?_
  intro st an;obtain⟨y4,a3,J⟩:=Jp c2 (n:=8) ζ
  have J:c2 % 8=(y4:Int):=J;refine #[_,rfl,_,rfl,_,rfl,_,rfl,_,rfl,_,rfl,_,_,rfl,rfl,p0 ζ,_,_,rfl,rfl,_,rfl,(show 7<=sizeLine by decide),λD nD=>?_]
  show 6
  rw[J,show (1:Int)+(y4:Int)=((1+y4:Nat):Int) by omega]
  exact q D _ r n N M S (1+y4) st (s1.trans πi) ψF ac full Y U γ γ γ γ ad R γ γ an
theorem Fy.kbn {ms:Φ}{p:Pos} (h:ζv) (hm:∀x∈ms,93e7\/∃C d f,H x=some (.ins C d f)) (k:θ5):Fy H' t p q:=by
 show 35;refine⟨ps,k _ _ (λz=>by rcases hm _ z with ⟨xs,y⟩ | ⟨_,_,_,y⟩ <;> rw[h1] at y <;> cases y) h1,?_⟩
 rcases h2 with h2 | ⟨c',e,h2⟩
 ·show 36
 ·exact .inr ⟨c',e,k _ _ (λz=>by rcases hm _ z with ⟨xs,y⟩ | ⟨_,_,_,y⟩ <;> rw[h2] at y <;> cases y) h2⟩
def Rw.on (R:Rw) (K:Rk):Rw:={ R with K:=K }
abbrev Kk (a:q_) (G H:Hp) (R:Rw) (ro:Addr) (e:Nat) (X:δ1):Prop:=Iv a G H R ro e (Eq X)
theorem Iv.at (S:χJ):d_ a H R.K e η5 X:=by
 obtain⟨X',h,rfl⟩:=S.rk;exact h
theorem Iv.step {e':Nat}{X':δ1}{K:Rk}{ms:Φ} (S:χJ) (k:θ5) (hm:∀b∈ms,G b=none/\((∃xs,H b=some γP)\/∃C d f,H b=some (.ins C d f))) (hR:d_ a H' K e' η5 X') (e1:K.rk=γS) (e2:K.S=γO) (e3:K.P=R.K.P) (e4:K.L=δO) (no:∀x∈(R.on K).ms a,G x=none):Kk a G H' (R.on K) ro e' X':=by
 have I:=S.I;refine #[?_,#[I.code,ζn,I.n16,I.W,?_,I.nd,I.lt,e3.trans I.P,?_,no],λb o z=>k b o (λy=>by rw[(hm b y).1] at z;cases z) (S.sG _ _ z),⟨X',?_,rfl⟩,?_]
 ·obtain⟨dx,z⟩:=S.ro
  refine ψS;unfold Ka at z ⊢
  show G ro=some (.ins γn dx [ώd,ύ5,("rack",.ref K.rk)])
  rw[e1];exact z
 ·show FY a G R.sp R.N δR K.S R.tp R.qs R.m ιQ
  rw[e2];exact I.sh
 ·show 1<=K.L
  rw[e4];exact I.L1
 ·show d_ a H' K e' (FL K.L .non) X'
  rw[e4];exact hR
 ·have tk:∀{t p q},Fy H t p q->Fy H' t p q:=λh=>h.kbn (λb hb=>(hm b hb).2) k
  exact #[tk S.tb.o,tk S.tb.n,tk S.tb.r,S.tb.on,S.tb.or,S.tb.nr]
def GX (a:q_) (H H':Hp) (R R':Rw):Prop:=∀b o,b∉R.ms a->H b=some o->H' b=some o/\b∉R'.ms a
theorem GX.trans {R1 R2:Rw} (h:ϑ8) (k:GX a H1 H2 R1 R2):GX a H H2 R R2:=λb o n e=>k b o (h b o n e).2 (h b o n e).1
theorem GX.refl (a:q_) (H:Hp) (R:Rw):GX a H H R R:=λ_ _ n e=>#[e,n]
theorem GX.same {R1:Rw} (h:ϑ8) (s:ωO):GX a H H2 R R1:=λb o n e=>#[s _ _ (h b o n e).1,(h b o n e).2]
def NN (R:Rw) (X:δ1):Prop:=∀st k v,st < R.K.S->k < R.N+R.M->X ρQ st=some v->0<=v
theorem Iv.put {a:q_}{G H H':Hp}{R:Rw}{ro p h:Addr}{e i:Nat}{X X':δ1}{kd:Kd} (S:χJ) (np:ρ0) (nh:ωY) (k:KB [R.K.sh] H H') (hR:d_ a H' Γl e η5 X'):Kk a G H' ξT ro e X'/\GX a H H' R ξT/\G p=none:=by
 have g:R.K.sh∈R.ms a:=by simp[Rw.ms]
 have mem:∀x∈(R.on Γl).ms a,x=h\/x∈R.ms a:=λx hx=>by
  have hx:x∈(R.K.dn :: R.K.sl :: a.t38 :: a.t47 :: a.t105 :: R.K.sh :: R.K.hs.set i h):=hx;unfold Rw.ms;simp only[FC] at hx ⊢;rcases hx with y | y | y | y | y | y | y
  ·exact .inr ρn
  ·exact .inr ρe
  ·exact .inr (.inr ρe)
  ·exact .inr (.inr (.inr ρe))
  ·exact .inr Ψn
  ·exact .inr (.inr Ψn)
  ·rcases OF y with y | y
   ·exact .inr (.inr (.inr (.inr (.inr ϐs))))
   ·exact .inl y
 refine #[S.step k οK hR rfl rfl rfl rfl (λx hx=>?_),λb o n z=>#[k b o (λy=>n (by rw[Ge.mp y];exact g)) z,λy=>?_],S.sG.free np]
 ·rw[Ge.mp hb]
  exact #[S.I.no _ g,.inl #[_,S.at.shelf]]
 ·rcases mem x hx with y | y
  ·rw[y];exact S.sG.free nh
  ·exact S.I.no _ y
 ·rcases mem b y with w | w
  ·rw[w,nh] at z;cases z
  ·exact n w
def fk (c:Int) (S:Nat):Kd:=if c % 5=1 then .lost else if c % 5=2 then .slow όb else if c % 5=3 then .spare (c / 5 % (S:Int)).toNat else .whole
def MM (kd:Kd) (st:Nat):Option Nat:=if kd.thr st=true then some kd.pr else none
theorem CP (S1:1<=S) (h:c % 5=1\/c % 5=3/\c / 5 % (S:Int)<=(s:Int)):MM Γ1 s=none:=by
 show 185
 unfold fk;rcases h with h | ⟨h,h2⟩
 ·rw[if_pos h];rfl
 ·rw[if_neg γ,if_neg γ,if_pos h]
  exact if_neg λz=>absurd θu (by rw[m0];omega)
theorem CQ (h:c % 5=2):MM Γ1 s=some 173e7:=by
 unfold fk;rw[if_neg γ,if_pos h];rfl
theorem Ee (S1:1<=S) (h1:c % 5≠1) (h2:c % 5≠2) (h3:c % 5=3->(s:Int) < c / 5 % (S:Int)):MM Γ1 s=some 1:=by
 show 185
 unfold fk;rw[if_neg h1,if_neg h2]
 by_cases h:c % 5=3
 ·rw[if_pos h]
  exact if_pos (decide_eq_true (by rw[m0];exact h3 h))
 ·rw[if_neg h];rfl
def Pt (r n N M S L:Nat) (st:Int):List V:=[.int r,.int n,.int N,.int M,.int S,.int L,.int st]
inductive tN (vs:δ) (H:Hp) (Q:VK) (E_3:XK):Prop
 | mk:∀(nl:Addr) (r n N M S L k s:Nat) (st:Int),vs=[.int k,.int s,.ref nl]->H nl=some (.lst (Pt r n N M S L st))->1<=N->s<=32->st.natAbs < 1267650600228229401496703205376->Q (.int (((k:Int)+st * (s:Int)) % ((N+M:Nat):Int))) H->tN vs H Q E_3
theorem wt (T:θ):x_ P wo K mg base 1 a.f116 ["_law_role", "_law_stripe", "_law_numbers_here"] tN:=by
 refine T.x116.F.okA (k:=0) Cj ι
 ·obtain⟨nl,r,n,N,M,S,L,k,s,st,rfl,hn,N1,s32,g,q⟩:=h
  show 0
  exists xl (aA (ay aV (ay aU ο (ay cU ξB ω)) (ay aU ξB ξB)))
  refine #[_,rfl,_,rfl,nl,_,_,_,rfl,rfl,c_.of hn,rfl,_,rfl,_,_,rfl,rfl,?_,?_]
  ·exact .inr εR
  refine όG;refine #[_,rfl,nl,_,_,_,rfl,rfl,c_.of hn,rfl,_,rfl,nl,_,_,_,rfl,rfl,c_.of hn,rfl,_,_,rfl,rfl,_,_,rfl,rfl,by omega,?_]
  exact(congrArg (λz=>Q (.int (υP % z)) H) (show ((N+M:Nat):Int)=(N:Int)+(M:Int) by omega)).mp q
inductive tO (vs:δ) (H:Hp) (Q:VK) (E_3:XK):Prop
 | mk:∀(nl:Addr) (r n N M S L p s:Nat) (c st:Int),vs=[.int p,.int c,.int s,.ref nl]->H nl=some (.lst (Pt r n N M S L st))->1<=S->Q (Gd (MM (fk c S) s)) H->tO vs H Q E_3
theorem CS (T:θ):x_ P wo K mg base 1 a.f118 ["_law_plank_here", "_law_cell", "_law_stripe", "_law_numbers_here"] tO:=by
 refine T.x118.F.okA (k:=0) Ck ι
 ·obtain⟨nl,r,n,N,M,S,L,p,s,c,st,rfl,hn,S1,q⟩:=h
  show 0
  show 1;refine xi (PW.pt (aY μo (aS (PW.pt (jl μo (gQ (am dP Ψ (ay aV ρp ΓD) υ))))))) ?_
  show 28
  show 44;refine xi μo ?_
  exists xl (aA τK)
  show 3
  show 152
  show 424
  have n5:∀{z:Int},¬ decide ο4=true->c % 5≠z:=λy e=>y (decide_eq_true (congrArg δp e))
  show 425
  have qn:(c % 5=1\/c % 5=3/\c / 5 % (S:Int)<=(s:Int))->Q .non H:=λh=>by rw[CP S1 h] at q;exact q
  have fin:c % 5≠1->(c % 5=3->(s:Int) < c / 5 % (S:Int))->(c % 5=2->Q (.int (2+c / 5 % 8)) H)/\(c % 5≠2->Q (.int 1) H):=λh1 h3=>by
   refine #[λh2=>?_,λh2=>?_]
   ·rw[CQ h2] at q
    exact(congrArg όa (show ((2+(c / 5 % 8).toNat:Nat):Int)=2+c / 5 % 8 by omega)).mp q
   ·rw[Ee S1 h1 h2 h3] at q;exact q
  clear q;refine #[_,rfl,_,_,rfl,rfl,by decide,rfl,_,rfl,b_ (λy=>HS (qn (.inl (i5 y)))) (λy1=>?_)]
  have fin:=fin (n5 y1);refine #[_,rfl,_,_,rfl,rfl,by decide,rfl,_,rfl,b_ (λy3=>?_) (λy3=>IC ?_)]
  ·refine #[_,rfl,_,rfl,_,_,rfl,rfl,δh,_,rfl,nl,_,_,_,rfl,rfl,c_.of hn,rfl,_,_,rfl,rfl,S0,_,_,rfl,rfl,_,rfl,b_ (λy=>qn (.inr #[i5 y3,of_decide_eq_true y])) ν0]
   obtain⟨f1,f2⟩:=fin λ_=>Int.not_le.mp λz=>y μK;refine ΔX
   exact Δv
  ·obtain⟨f1,f2⟩:=fin λz=>absurd z (n5 y3)
   refine ΔX
   exact Δv
inductive tP (vs:δ) (H:Hp) (Q:VK) (E_3:XK):Prop
 | mk:∀(o:Option Nat),vs=[Gd o,Gd o]->Q (.bl true) H->tP vs H Q E_3
theorem wu (T:θ):x_ P wo K mg base 1 a.f119 ["_law_found", "_law_due"] tP:=by
 refine T.x119.F.okA (k:=0) Cm ι
 ·obtain⟨o,rfl,q⟩:=h
  show 0
  show 1;refine xi (PW.pt (aY (am cV ο aL υ) (aS (am cV ω aL υ)))) ?_
  exists xl (aA (jm (bT cV ο aL υ) (gZ (bT cV ω aL υ))))
  show 3
  exists xl (aA (jm (aF oJ rfl T.A26 μ6 (aa ο (aa (qG (v:=.ty "int") rfl T.Af3 γf rfl) ab))) (jm (zU (aF oJ rfl T.A26 μ6 (aa ο (aa (qG (v:=.ty "bool") rfl T.Af2 γf rfl) ab)))) (gZ (bT bx ο ω υ)))))
  cases o with
  | none =>
   refine #[_,rfl,rfl,_,rfl,b_ ϑ9 εS];exact #[_,rfl,rfl,_,rfl,HS #[_,rfl,rfl,q]]
  | some v =>
   refine ξ7
   refine ξ7
   refine #[_,rfl,_,_,_,_,rfl,.int _,uL _ _,_,rfl,HS ?_];refine #[_,rfl,_,_,_,_,rfl,.int _,uM _,_,rfl,_,rfl,HS ?_];refine #[_,rfl,_,rfl,rfl,?_]
   show Q (.bl (decide (V.int (v:Int)=V.int (v:Int)))) H
   show 380;exact q
theorem wv {h:Addr}{kd:Kd} (hX:NN R X) (hf:∀st k v,st < R.K.S->k < R.N+R.M->R.pl st k=i->f st=some v->0<=v):NN ξT 111e9:=λst k v hs hk e=>by
 have e:Il X i f ρQ st=some v:=e;unfold Il at e
 split at e
 ·rename_i z
  exact hf st k v hs hk z e
 ·exact hX st k v hs hk e
def Fs (a:q_) (G H:Hp) (R:Rw) (ro:Addr) (e i:Nat) (kd:Kd) (Q:ζC):Prop:=∀H' K' e' X',Kk a G H' δe ro e' X'->e'<=e+32->K'.P=R.K.P->K'.S=R.K.S->K'.L=R.K.L->(∀k,K'.kd k=if k=i then kd else R.K.kd k)->GX a H H' R δe->NN δe X'->Q H'
theorem Rk.kind_kind (K:Rk) (i:Nat) (k1 k2:Kd):(K.kind i k1).kind i k2=K.kind i k2:=by
 unfold Rk.kind
 congr
 funext k
 show 9
 split <;> rfl
theorem Rk.kind_self (K:Rk) (i:Nat):K.kind i (K.kd i)=K:=by
 have:(λk=>if k=i then K.kd i else K.kd k)=K.kd:=funext λk=>by
  split
  ·rename_i z;rw[z]
  ·rfl
 unfold Rk.kind;show 19
theorem Rk.kind_at (K:Rk) (i:Nat) (k1:Kd):(K.kind i k1).kd i=k1:=if_pos rfl
inductive wx (a:q_) (vs:δ) (H:Hp) (Q:VK) (E_3:XK):Prop
 | mk:∀(G:Hp) (R:Rw) (ro nl:Addr) (e i r n N M S L lim:Nat) (c st:Int) (X:Nat->Nat->Option Int),vs=[.ref ro,.int i,.int c,.ref nl,.int lim]->Kk a G H R ro e X->e<=8000->i < R.K.P->R.K.kd i=.whole->R.K.S=S->1<=S->S<=32->0 < lim->NN R X->H nl=some (.lst (Pt r n N M S L st))->nl∉R.ms a->Fs a G H R ro e i (fk c S) (Q .non)->wx a vs H Q E_3
theorem Ef (T:θ):x_ P wo K mg base 6 a.f117 ["_law_row_here", "_law_plank_here", "_law_cell", "_law_numbers_here", "_law_limit_here"] (wx a):=by
 refine T.x117.F.okA (k:=5) PK ι
 ·obtain⟨G,R,ro,nl,e,i,r,n,N,M,S,L,J,c,st,X,rfl,W,he,hi,hw,hS,S1,bt,a4,hX,hn,nn,q⟩:=h
  obtain⟨dx,b1⟩:=W.ro
  show 424
  have t5:∀{z:Int},c % 5=z->decide ο4=true:=λy=>decide_eq_true (congrArg δp y)
  show 425
  have hR:=W.at;obtain⟨dk,U⟩:=id γl
  show 0
  exists xc (ar (i:=5) PK.nd rfl 0e2 ϟ)
  show 1;refine xi (PW.pt (aY μp (aS μp))) ?_
  exists xl (aE (ao γ2 Γ T.x78.me (vG T) hr.u T.x78.b .nil aj γ8))
  show 426
  exists xl (aE (ao γ2 Γ T.x80.me (mS T) hr.u T.x80.b .nil aj (aa ω (aa (ay aU ai (ay aV (ay bN Ψ ai) ai)) ab))))
  show 426
  exists xc (aE (ao γ2 Γ T.x79.me (mT T) hr.u T.x79.b .nil aj (aa ω (aa (bc (i_.of (cap:=[2,4]) (own:=["_law_k"]) γc) rfl (ba rfl T.A06 (aa ΓD ab)) δu γ3 (λ_ _ _ _ _=>by exact(aH (wq T) hr.u rfl T.x114.m T.x114.k T.x114.b .nil aj (aa ο (aa Ψ γ8))))) ab))))
  show 7;refine xf Ϙ rfl (ba rfl T.A06 Θo) (au (i:=6) PK.nd rfl ε) ?_
  exists xl (aE (ao γ2 Γ T.x84.me (mU T) hr.u T.x84.b .nil aj γ8))
  show 5;show 34;refine xi μp ?_
  exists xl (aE (ao γ2 Γ T.x81.me (ui T) hr.u T.x81.b .nil aj (aa ω Θo)))
  show 3;refine #[_,rfl,ro,_,_,_,_,rfl,W.sG _ _ b1,ϧ,εd,cT R,?_];show 2
  have Z:∀(Q1:ζC),(∀H1 p h,Kk a G H1 ϊ6 ro e όJ->GX a H H1 R ϊ6->Q1 H1)->Nu a H R.K e η5 X i .lost ψn Q1:=λQ1 k p h H1 np nh kb g=>by
   show 427;exact k H1 p h W1 s1
  have aT:∀p h kd,NN ξT 177e1:=λp h kd=>wv hX λ_ _ _ _ _ _ z=>by cases z
  show 185
  have b3:=RN (c / 5) S0
  have aw:∀{p h:Addr}{kd:Kd},fk c S=kd->∀k,(R.K.put i p h kd).kd k=if k=i then fk c S else R.K.kd k:=λy k=>by rw[y];rfl
  have wh:fk c S=.whole->∀k,R.K.kd k=if k=i then fk c S else R.K.kd k:=λy k=>by
   rw[y]
   split
   ·rename_i z;rw[z];exact hw
   ·rfl
  rcases(by omega:c % 5=0\/c % 5=1\/c % 5=2\/c % 5=3\/c % 5=4) with h | h | h | h | h
  ·refine γK
   show 14
   show 14
   show 14
   show 14
   exact q H R.K e X W γ rfl rfl rfl 125e4 (GX.refl _ _ _) hX
  ·refine #[_,rfl,_,_,rfl,rfl,by decide,rfl,_,rfl,b_ ϑ9 (λy=>absurd (t5 h) y)]
   refine #[_,rfl,γS,dk,_,rfl,U,rfl,_,rfl,R.K,e,i,_,X,rfl,hR,hi,hw,Z _ λH1 p l W1 s1=>?_];show 14
   show 14
   show 14
   exact q H1 _ e _ W1 γ rfl rfl rfl (aw (by unfold fk;rw[if_pos h])) s1 (aT _ _ _)
  ·refine γK
   show 14
   refine ξ8
   have e8:((2+(c / 5 % 8).toNat:Nat):Int)=2+c / 5 % 8:=by omega
   refine #[_,rfl,γS,dk,_,rfl,U,rfl,_,rfl,_,rfl,_,_,rfl,rfl,δh,_,_,rfl,rfl,by decide,_,_,rfl,rfl,R.K,e,i,2+(c / 5 % 8).toNat,_,X,by rw[e8];rfl,hR,hi,hw,by omega,by omega,λp l H1 np nh kb g=>?_]
   show 427;show 14
   show 14
   exact q H1 _ e _ W1 γ rfl rfl rfl (aw (by unfold fk;rw[if_neg ρj,if_pos h])) s1 (wv hX λst k v h1 h2 h3 h4=>hX st k v h1 h2 (by rw[h3];exact h4))
  ·refine γK
   refine ξ8
   refine #[_,rfl,γS,dk,_,rfl,U,rfl,_,rfl,R.K,e,i,_,X,rfl,hR,hi,hw,Z _ λH1 p1 l1 W1 s1=>?_];show 14
   refine ξ8
   have g:=W1.at;obtain⟨a6,a3⟩:=id ηr
   have b0:=(s1 nl _ nn hn).1;refine #[_,rfl,γS,a6,_,rfl,a3,rfl,_,rfl,_,rfl,nl,_,_,_,rfl,rfl,c_.of b0,rfl,_,rfl,by omega,by omega,λD nD=>?_]
   rw[G5];refine jg (n:=S) (f:=λj=>.int ((blkN c j J:Nat):Int)) (cs:=[some ωX,some (.int J)]) nD rfl (FG bt ζ) (λj H2 R2 hj sm a8=>?_) (λH2 sm hD=>?_)
   ·exact #[_,rfl,_,rfl,_,rfl,c,j,J,rfl,a4,a8 _ ϡ]
   have W2:=W1.same sm
   have hD:H2 D=some (.lst (aM (R.K.put i p1 l1 .lost).S λj=>some ((blkN c j J:Nat):Int))):=by
    rw[hD];unfold aM;rw[show (R.K.put i p1 l1 .lost).S=S from hS];rfl
   refine #[R.K.put i p1 l1 .lost,e,i,D,_,_,_,rfl,W2.at,hD,hi,if_pos rfl,λp h3 H3 np nh kb a7=>?_];obtain⟨W3,s3,gp⟩:=W2.put np nh kb a7
   have s3:=(s1.same sm).trans s3
   have a9:∀b o,b∉R.ms a->H b=some o->b≠p:=λb o n y z=>by
    have:=((s1.same sm) b o n y).1;rw[z,np] at this;show 8
   have ad:NN τt _:=wv (R:=R.on (R.K.put i p1 l1 .lost)) (i:=i) (p:=p) (h:=h3) (kd:=.spare 0) (f:=λj=>some ((blkN c j J:Nat):Int)) (aT p1 l1 .lost) λ_ _ v _ _ _ y=>by cases y;omega
   have eK:∀k,((R.K.put i p1 l1 .lost).put i p h3 ηB).kd k=if k=i then .spare 0 else R.K.kd k:=λk=>by
    show (if k=i then Kd.spare 0 else if k=i then Kd.lost else R.K.kd k)=_
    split <;> rfl
   have ep:((R.K.put i p1 l1 .lost).put i p h3 ηB).ps[i]?=some p:=LK (by rw[show (R.K.put i p1 l1 .lost).ps.length=R.K.P from g.lp];exact hi)
   have kP:((R.K.put i p1 l1 .lost).put i p h3 ηB).P=R.K.P:=rfl
   have kS:((R.K.put i p1 l1 .lost).put i p h3 ηB).S=S:=hS
   have kL:((R.K.put i p1 l1 .lost).put i p h3 ηB).L=R.K.L:=rfl
   have an:((R.K.put i p1 l1 .lost).put i p h3 ηB).rk=R.K.rk:=rfl
   have W3:Kk a G H3 τt ro e _:=W3
   have s3:GX a H H3 R 88e7:=s3;generalize Il (Il X i λ_=>none) i (λj=>some ((blkN c j J:Nat):Int))=X3 at W3 ad;generalize (R.K.put i p1 l1 .lost).put i p h3 (.spare 0)=K3 at W3 ad s3 eK ep kP kS kL an
   have b2:=(s3 nl _ nn hn).1
   have k0:K3.kind i ηB=K3:=by
    have:=Rk.kind_self K3 i
    rwa [eK,if_pos rfl] at this
   refine #[_,rfl,_,_,rfl,rfl,δh,_,rfl,nl,_,_,_,rfl,rfl,c_.of b2,rfl,_,_,rfl,rfl,S0,_,rfl,by omega,by omega,?_]
   refine let I_:Nat->L2.St->Hp->Prop:=λt σ H'=>L2.A3 ((∃v6:Option V,σ=[some δH,some ζB,some ωX,some ωF,some (.int J),some π1,v6])) (Kk a G H' ΩN ro (e+t) X3) (GX a H H' R ΩN);bQ I_ #[ϊ,by rw[k0];exact W3,by rw[k0];exact s3] (λt σ H' ht hI=>?_) (λσ H' hI=>?_)
   ·obtain⟨⟨v6,rfl⟩,W4,s4⟩:=hI
    have Y:=W4.at;obtain⟨a0,O⟩:=id Y.ins
    have O:H' R.K.rk=some (.ins ό a0 (rf ΓJ)):=by rw[<- an];exact O
    show 2
    refine #[_,rfl,γS,a0,_,rfl,O,rfl,_,rfl,K3.kind i ιW,e+t,i,t,p,_,X3,by rw[show (K3.kind i ιW).rk=R.K.rk from an];rfl,Y,by omega,by rw[show (K3.kind i ιW).P=R.K.P from kP];exact hi,ep,Rk.kind_at _ _ _,by rw[show (K3.kind i ιW).S=S from kS];omega,λH5 k5 a5=>?_]
    have a2:(K3.kind i ιW).dn∈(R.on ΓJ).ms a:=.head _;obtain⟨dp,l,_,bm⟩:=Y.pl i p ep
    have W5:=W4.step k5 (λb hb=>by
     rcases FC.mp hb with y | y
     ·rw[y];exact #[W4.I.no _ a2,.inl (Y.isLst δi)]
     ·rw[Ge.mp y];exact⟨gp,.inr ⟨_,_,_,bm⟩⟩) a5 rfl rfl rfl rfl W4.I.no
    have s5:GX a H H5 R 137e5:=λb o n y=>by
     obtain⟨z1,z2⟩:=s4 b o n y;refine⟨k5 b o (λw=>?_) z1,z2⟩;rcases FC.mp w with w | w
     ·exact z2 (by rw[w];exact a2)
     ·exact a9 b o n y (Ge.mp w)
    have W5:Kk a G H5 Ξl ro (e+t+1) X3:=W5;rw[Rk.kind_kind] at W5 s5;exact #[ϊ,W5,s5]
   ·obtain⟨⟨v6,rfl⟩,W4,s4⟩:=hI
    show 14
    refine q H' _ _ X3 W4 γ kP (kS.trans hS.symm) kL (λk=>?_) s4 ad
    rw[show fk c S=.spare (c / 5 % (S:Int)).toNat by unfold fk;rw[if_neg ρj,if_neg ρj,if_pos h]]
    show (if k=i then Kd.spare _ else K3.kd k)=_
    rw[eK]
    split <;> rfl
  ·refine γK
   show 14
   show 14
   show 14
   refine ξ8
   refine #[_,rfl,γS,dk,_,rfl,U,rfl,_,rfl,_,rfl,_,_,rfl,rfl,δh,_,rfl,nl,_,_,_,rfl,rfl,c_.of hn,rfl,_,_,rfl,rfl,S0,R.K,e,i,(c / 5 % (S:Int)).toNat,_,X,by rw[m0];rfl,hR,hi,by rw[hS];omega,hw,λH1 kb g=>?_]
   have a1:∀b∈R.K.hs,b∈R.ms a:=λb hb=>by simp[Rw.ms,hb]
   refine q H1 R.K e _ (W.step kb (λb hb=>#[W.I.no _ (a1 b hb),.inl (hR.isLst ΓC)]) g rfl rfl rfl rfl W.I.no) γ rfl rfl rfl 125e4 (λb o n z=>#[kb b o (λy=>n (a1 b y)) z,n]) λs k v h1 h2 h3=>?_
   have h3:HR X i _ none ρS s=some v:=h3;unfold HR at h3
   split at h3
   ·cases h3
   ·exact hX s k v h1 h2 h3
structure OA (n:Nat) (cs srow os:ϝ) (as:η):Prop where
 len:os.length=n
 val:∀k,k < n->os.getD k none=if k∈as then srow.getD k none else none
 th:∀k∈as,(cs.getD k none).isSome=true
theorem OA.tk {n k:Nat}{cs srow os:ϝ}{as:η} (h:OA n cs srow os as) (hk:ιJ):OA n cs srow (tk cs srow os as k).1 (tk cs srow os as k).2:=by
 unfold My.tk
 split
 ·rename_i z
  unfold FB at z;rw[IU] at z;refine #[by rw[JJ];exact h.len,λj hj=>?_,λj hj=>?_]
  ·rw[v_]
   show 160
   ·subst y
    rw[LK (by rw[δ5];exact hk),if_pos ϒ]
    rfl
   ·rw[LG (F5 y),← v_,h.val j hj]
    simp[y]
  ·rcases Hi.mp hj with y | y
   ·exact h.th j y
   ·rw[Ge.mp y];exact z.1
 ·exact h
theorem gY (d:Dt):(if true=true then !FU d d else FU d d)=false:=by rw[if_pos rfl,fi];rfl
theorem yU (d:Dt):(if false=true then !FU d d else FU d d)=true:=fi d
theorem cE (h:H D=some δr):h_ K H γ0 14e1:=by
 rw[h_];exact #[D,[],rfl,c_.of h,by rw[Fu]]
theorem tQ {tp:Addr}{i j:Int} (h:H D=some ώU) (ht:H tp=some (.tup [.str "look",.int i,.int j])):h_ K H γ0 (.lst [.tup [.str "look",.int i,.int j]]):=by
 rw[h_];refine #[D,_,rfl,c_.of h,?_];rw[Fu];refine #[_,_,rfl,?_,by rw[Fu]]
 rw[h_];refine #[tp,_,rfl,Gn.of ht,?_]
 simp[Fu,h_]
theorem yV (ds xs:δ):HD (ds++xs) (some (ds.length:Int)) none=xs:=by
 unfold HD;rw[HT.Ir,HT.JD]
 simp
inductive tR (a:q_) (vs:δ) (H:Hp) (Q:VK) (E_3:XK):Prop
 | mk:∀(H0:Hp) (A:FQ) (R:Rw) (ro dr:Addr) (r w n M N k:Nat) (l:Nat->Nat->Nat) (cs srow os:List (Option Nat)) (as:List Nat),vs=[.ref ro,.ref A.A,.int k,.int A.st,.int (A.tu.getD k 0:Nat),Gd (cs.getD k none)]->H0 ro=some (.ins a.C_Row dr (Ka R))->A.RK=R.K->F2 a H0 A r w n M N l cs srow->t_ a H0 H A (N+M) os as->OA (N+M) cs srow os as->k < N+M->cs.getD k none=Kl A.RK A.st (A.tu.getD k 0)->(∀H',t_ a H0 H' A (N+M) (tk cs srow os as k).1 (tk cs srow os as k).2->Q (.bl true) H')->tR a vs H Q E_3
theorem CT (T:θ):x_ P wo K mg base 7 a.f120 ["_law_row_here", "_law_asking", "_law_role", "_law_stripe", "_law_plank_here", "_law_price_here"] (tR a):=by
 refine T.x120.F.okA (k:=6) Ny ι
 ·obtain⟨H0,A,R,ro,dr,r,w,n,M,N,k,l,cs,G,os,as,rfl,ad,bm,I,J,oa,hk,Z,q⟩:=h
  obtain⟨dA,hA⟩:=ιG;obtain⟨e0,_,hR⟩:=t_.rk I J;obtain⟨ds,a2,b4⟩:=id hR.dn;obtain⟨dk,a9⟩:=id γl
  have a6:k < G.length:=by rw[I.srl];exact hk
  show 0
  exists xc (ar (i:=6) Ny.nd rfl 0e2 (aF aG rfl T.A03 G0 (aa Θ6 ab)))
  exists xc (ar (i:=7) Ny.nd rfl 0e2 (bT Al Ψ νP rfl))
  exists xc (ar (i:=8) Ny.nd rfl 0e2 (ao ω ϋ T.x33.me (jO T) hr.u T.x33.b .nil aj γt))
  exists xc (ar (i:=9) Ny.nd rfl 0e2 (oG qH Θ6 (mq γX) xo))
  show 1;refine xi (am cV γ2 aL υ) ?_
  exists xl (aA (jm (bT cV θC aL υ) (gZ (bT ϒ0 μc δW υ))))
  show 44;refine xi (PW.pt (aY (PW.pt (jl (bS (aX εH)) (gQ (am ηY μc (be (aa (bJ (aa dI ϊv)) ab)) υ)))) (aS (PW.pt (jl (aX εH) (gQ (am ηY μc δW υ))))))) ?_
  show 23
  show 3
  exists xl (aA (aH (wu T) hr.u rfl T.x119.m T.x119.k T.x119.b .nil aj (aa θC (aa (ao εN Γ T.x82.me (vH T) hr.u T.x82.b .nil aj ϊv) ab))))
  have fl:(Ka R).lookup ("rack" : Str)=some (.ref A.RK.rk):=by rw[bm];rfl
  refine #[_,rfl,ro,_,_,_,_,rfl,J.sm _ _ ad,ϧ,εd,fl,A.RK.rk,dk,_,rfl,a9,rfl,A.RK,e0,_,ds,_,rfl,hR,a2,λD nD=>?_]
  have s1:=a_.new (o:=.lst ds) nD
  have hD:(upd H D ξ4) D=some 61e4:=ac;generalize upd H D (.lst ds)=H1 at s1 hD
  have J1:=J.same s1;refine #[D,_,rfl,.inl (c_.of hD),?_];show 2
  refine #[_,rfl,_,rfl,A.A,_,_,_,_,rfl,J1.sm _ _ hA,ϋ,ηt,d5 _ _ _ _ _,A.sl,_,rfl,.inl (c_.of J1.hs),rfl,vQ as,?_];rw[vP];show 2
  refine #[_,rfl,A.A,dA,_,rfl,J1.sm _ _ hA,rfl,_,rfl,H0,A,r,w,n,M,N,k,l,cs,G,os,as,rfl,I,J1,hk,λH2 J2 t2=>?_];show 2
  have a1:=oa.tk (k:=k) hk;obtain⟨e2,_,aT⟩:=t_.rk I J2;obtain⟨g,O,b2⟩:=id aT.dn;obtain⟨b1,a4⟩:=id aT.ins;refine #[_,rfl,ro,_,_,_,_,rfl,J2.sm _ _ ad,ϧ,εd,fl,A.RK.rk,b1,_,rfl,a4,rfl,A.RK,e2,_,g,_,rfl,aT,O,λD2 a5=>?_]
  have s2:=a_.new (o:=.lst g) a5
  have a3:(upd H2 D2 (.lst g)) D2=some (.lst g):=ac;generalize upd H2 D2 (.lst g)=H3 at s2 a3
  have J3:=J2.same s2;refine #[_,rfl,_,rfl,D2,_,rfl,c_.of a3,λD3 bt=>?_]
  have s3:=a_.new (o:=.lst (HD g (some (ds.length:Int)) none)) bt
  have an:(upd H3 D3 ΦB) D3=some 145e3:=ac;generalize upd H3 D3 (.lst (HD g (some (ds.length:Int)) none))=H4 at s3 an
  have J4:=J3.same s3
  have fin:∀H',a_ H4 H'->Q (.bl true) H':=λH' s=>q H' (J4.same s)
  have a0:=s1 _ _ a2
  have nil:FB cs as k=false->H4 D3=some 14e1:=λhm=>by
   rcases t2 with ⟨z,_⟩ | ⟨_,z⟩
   ·show 428
   ·rw[z,a0] at O
    cases O
    have:=yV ds [];rw[MZ] at this;rw[an,this]
  have one:FB cs as k=true → ∃tp,H4 D3=some ώU∧H4 tp=some (.tup [.str "look",.int (A.tu.getD k 0:Nat),.int A.st]):=λhm=>by
   rcases t2 with ⟨_,b3,tp,z1,z2,_,z4⟩ | ⟨z,_⟩
   ·rw[a0] at z1
    cases z1;rw[O] at z2
    cases z2;exact #[tp,by rw[an,yV],s3 _ _ (s2 _ _ z4)]
   ·show 428
  have fv:=a1.val k hk;show 2
  generalize hv:(tk cs G os as k).1.getD k none=v at fv;generalize HD g (some (ds.length:Int)) none=cv at an
  cases hc:cs.getD k none with
  | none =>
   have hm:FB cs as k=false:=by unfold FB;rw[hc];rfl
   have e:v=none:=by
    rw[fv,if_neg];intro z
    have:=a1.th k z;rw[hc] at this;show 8
   subst e;refine #[_,rfl,rfl,_,rfl,b_ ν εS];refine #[_,rfl,rfl,_,rfl,HS ?_];refine Ξm
   have s4:=a_.new (o:=.lst []) j;refine #[.lst [],.lst [],cE (s4 _ _ (nil hm)),cE ac,rfl,rfl,ϊ,by simp[Gh,cu],?_]
   rw[yU];exact fin _ s4
  | some pr =>
   refine ξ7
   have thr:(A.RK.kd ϐz).thr A.st=true:=by
    rw[hc] at Z;unfold Kl at Z
    split at Z
    ·assumption
    ·cases Z
   have a8:k∈(tk cs G os as k).2:=by
    unfold tk FB;rw[hc]
    by_cases z:k∈as
    ·rw[if_neg ΓQ];exact z
    ·rw[if_pos ΓQ];simp
   rw[if_pos a8] at fv;obtain⟨hp,a7⟩:=I.asker.at_ k a6
   have pk:ov (A.X ϐz A.st)=Gd v:=by
    rw[fv,← a7];unfold sv;rw[if_pos thr]
   refine χ8
   cases ha:as.contains k with
   | false =>
    obtain⟨tp,h5,h6⟩:=one ΩO
    show 55;refine #[_,rfl,_,rfl,_,rfl,(show 3<=sizeLine by decide),λtq b0=>#[(show 1<=sizeLine by decide),λD4 j=>?_]]
    have s5:=(a_.new (o:=.tup [V.str (Go "look"),V.int (A.tu.getD k 0:Nat),V.int A.st]) b0).trans (a_.new (o:=.lst [V.ref tq]) j)
    have hq:=a_.new (o:=.lst [V.ref tq]) j _ _ (ac (H:=H4) (a:=tq) (o:=.tup [V.str (Go "look"),V.int (A.tu.getD k 0:Nat),V.int A.st]))
    refine #[.lst [.tup [.str "look",.int (A.tu.getD k 0:Nat),.int A.st]],.lst [.tup [.str "look",.int (A.tu.getD k 0:Nat),.int A.st]],tQ (s5 _ _ h5) (s5 _ _ h6),tQ ac hq,rfl,rfl,ϊ,by simp[Gh,cu],?_]
    rw[gY];refine ΘZ
    refine #[_,rfl,_,rfl,b_ γx (λ_=>IC ?_)]
    show 429
   | true =>
    show 29
    refine #[_,rfl,_,rfl,b_ ν εS];refine Ξm
    have s5:=a_.new (o:=.lst []) j;refine #[.lst [],.lst [],cE (s5 _ _ (nil ΩO)),cE ac,rfl,rfl,ϊ,by simp[Gh,cu],?_]
    rw[gY];refine ΘZ
    show 429
theorem wy {b:Addr} (h:c_ K H b xs) (k:∀b o,ηO->H b=some o->G b=some o):c_ K G b xs:=by
 rcases h with (h | ⟨o,h⟩) | h
 ·exact .inl (.inl (k _ _ εe h))
 ·exact .inl (.inr #[o,k _ _ εe h])
 ·exact .inr h
theorem Np (n:Nat):(FL n [γQ]).flatten=Ft 36e3:=by
 induction n with
 | zero=>rfl
 | succ n ih=>rw[JZ,LL,ih];rfl
theorem jf (h:H p=some (.lst (Ft θ1))):h_ K H γR 183e4:=by
 rw[h_];refine #[p,_,rfl,c_.of h,vw (by rw[bH,KR,KR]) λi v d h1 h2=>?_]
 have e1:v∈Ft 36e3:=Gi h1;unfold Ft at e1;obtain⟨o,ho,rfl⟩:=G6.mp e1;rw[Qh ho,Qh (Gi h2),h_];rfl
theorem wz (n:Nat):Gh ύK<=60:=by
 have:cu (FL n .non)=0:=by
  induction n with
  | zero=>simp[cu]
  | succ n ih=>rw[JZ,cu,ih];simp[Gh]
 rw[Gh,this]
 decide
theorem Ik.nw (S:ξI) (J:t_ a (bz (R.K.dn :: A.rl :: A.sl :: a.t38 :: []) H') H2 A n os as):Fy H2 γZ IJ qW:=by
 obtain⟨I,J0⟩:=S.ask [] ξW;show 408
 exact(S.tb.n.hide (λhb=>by
  rcases FC.mp hb with y | hb
  ·obtain⟨zs,w,_⟩:=J0.hz
   rw[S.z,← y,hn] at w;cases w
  rcases FC.mp hb with y | hb
  ·have w:=J0.hr
   show 430
  rcases FC.mp hb with y | hb
  ·have w:=J0.hs
   show 430
  rcases FC.mp hb with y | hb
  ·exact S.tb.on νA
  ·exact absurd hb GH) (S.isL λy hy=>absurd hy GH)).keep J.sm
def mD (R:Rw) (X:δ1) (s:Nat):List 25e1:=(r_ δR).map λk=>(sv R.K X ρS s).map OT
theorem CU (hs:s < γO) (nn:NN R X):(mD R X s).length=R.N+R.M/\∀k,k < R.N+R.M->ov ϋt=Gd ((mD R X s).getD k none):=by
 unfold mD;refine #[by rw[o_,Gf],λk hk=>?_]
 rw[v_,FM,Ib hk]
 show ov ϋt=Gd ((sv R.K X ρS s).map OT)
 cases h:sv R.K X (R.pl s k) s with
 | none=>rfl
 | some v =>
  have h0:0<=v:=by
   unfold sv at h
   split at h
   ·exact nn s k v hs hk h
   ·cases h
  show V.int v=V.int ((v.toNat:Nat):Int)
  rw[Oj h0]
inductive mm (K:m_) (ts:Φ) (vs:δ) (H:Hp) (Q:VK) (E_3:XK):Prop
 | mk:∀(s:Addr) (ns:List Int),vs=[.ref s]->c_ K H s (ns.map V.int)->ns.length<=63->((∀p∈ts,H p=some (.tbl #[])))->(∀H',Q (.bl true) H')->mm K ts vs H Q E_3
theorem EU (T:θ) (B:η7):x_ P wo K mg base 20 a.f121 ["_law_script"] (mm K [ζ8,γZ,εF]):=by
 refine T.x121.F.okA (k:=19) JI ι
 ·obtain⟨sa,ns,rfl,hS,er,hT,q⟩:=h
  have ey:=hT ζ8 δi
  have fv:=hT γZ νU
  have eT:=hT εF υ8
  show 0
  exists xc (ar (i:=1) δX rfl 0e2 (aH (zP T) hr.u rfl T.x112.m T.x112.k T.x112.b .nil aj θz))
  exists xc (ar (i:=2) δX rfl 15e3 (aH (CO T) hr.u rfl T.x115.m T.x115.k T.x115.b .nil aj γ8))
  exists xc (ar (i:=3) δX rfl 0e2 (aH (ET T) hr.u rfl T.x113.m T.x113.k T.x113.b .nil aj γ8))
  exists xc (ar (i:=4) δX rfl 0e2 (ay cU θX θX))
  exists xc (ar (i:=5) δX rfl 0e2 (ay aU θX θX))
  exists xc (aE (ao ϐ ϧ T.x106.me (zN T B) hr.u T.x106.b .nil aj (aa ai (aa (bc (i_.of (cap:=[2,0]) (own:=["_law_k"]) γc) rfl (ba rfl T.A06 (aa (aF (Af rfl) rfl T.A86 boot_min (aa γv νE)) ab)) δu γ3 (λ_ _ _ _ _=>by exact(aH (wq T) hr.u rfl T.x114.m T.x114.k T.x114.b .nil aj (aa (aH (cC T) hr.u rfl T.x111.m T.x111.k T.x111.b .nil aj (aa ω νE)) ξO)))) ab))))
  show 1;refine xf Ϙ rfl 159e1 (au (i:=6) δX rfl ε) ?_
  exists xl (aE (aH (Ef T) hr.u rfl T.x117.m T.x117.k T.x117.b .nil aj (aa ϐ (aa γX (aa Δw ζc)))))
  show 5
  exists xc (ar (i:=7) δX rfl 0e2 (ay aV Γm θX))
  exists xc (ar (i:=8) δX rfl 0e2 Θ7)
  show 1;refine xi (PW.pt (aY (am c4 (ak ιR rfl) γ2 υ) (aY (am ηY ιR Ωx υ) (aS (am ηY ιR δW υ))))) ?_
  show 23
  show 44
  refine xi (PW.pt (aY (bS (aX (aF oJ rfl T.A26 μ6 (aa ιR (aa (qG (v:=.ty "list") rfl T.A18 γf rfl) ab))))) (aS (am c4 Φq γ2 υ)))) ?_
  show 23
  show 3
  exists xc (ar (i:=9) δX rfl 0e2 δW)
  show 1;refine xf Ϙ rfl 159e1 (au (i:=10) δX rfl ε) ?_
  exists xc Δa
  exists xc (aE (cF JX JV JU bi μc (aa (aH (CS T) hr.u rfl T.x118.m T.x118.k T.x118.b .nil aj (aa γX (aa Δw (aa εH γ8)))) ab)))
  show 7;refine xi (bS (aX (aH (wu T) hr.u rfl T.x119.m T.x119.k T.x119.b .nil aj (aa (aD ax ιR (pv 10) γ6) Φm)))) ?_
  show 23
  show 401;refine xf Ϙ rfl (ba rfl T.A06 (aa (ay aU γ2 ai) ab)) (au (i:=11) δX rfl ε) ?_
  exists xc (ar (i:=10) δX rfl 0e2 (ay aV (ay aU (pv 11) Γm) γ2))
  exists xc Δa
  show 7;refine xi (bS (aX (aH (CT T) hr.u rfl T.x120.m T.x120.k T.x120.b .nil aj (aa ϐ (aa θC (aa (pv 10) (aa εH (aa γX Φm)))))))) ?_
  show 23
  show 20
  exists xc (ar (i:=12) δX rfl 0e2 Θ7)
  show 1;refine xi (PW.pt (aY (am ηY ώV Ωx υ) (aY (am ηY ώV δW υ) (aS (am c4 Φq (aF A1 rfl T.A03 G0 (aa (bu (A0 rfl) rfl T.Ae0 γf (aa ιR ab)) ab)) υ))))) ?_
  show 23
  show 3
  exists xl (aA (jm (bT cV (aW ϐ ϧ T.x102.me (mh T) hr.u T.x102.b .nil aj) aL υ) (gZ (bT ϒ0 (aW ϐ ϧ T.x104.me (je T) hr.u T.x104.b .nil aj) δW υ))))
  refine #[_,rfl,sa,ns,rfl,hS,λD H1 r n N M S L st s1 nD hD full n1 n16 N1 M1 M2 NM S1 eb L1 L8 c2=>?_];show 2
  refine #[_,rfl,D,r,δU,n,_,rfl,hD,full.toGood,n16,?_]
  have d8:LB a H1:=#[#[_,s1 _ _ ey,.inl rfl],#[_,s1 _ _ fv,.inl rfl],#[_,s1 _ _ eT,.inl rfl],B.A45,B.Ae4,B.Ac4];show 2
  refine #[_,rfl,D,r,n,N,M,S,L,st,rfl,hD,full,n1,n16,N1,M1,M2,NM,S1,eb,L1,L8,c2,d8,λH2 G R ro s2 S2 eN eS ew en eM dW eu=>?_];subst eN eS en eM;clear n1 n16 M1 M2 L1 L8 er full d8;show 2
  obtain⟨dx,f2⟩:=S2.ro
  have b4:=s2 _ _ hD;refine #[_,rfl,D,_,_,_,rfl,rfl,c_.of b4,aB (j:=2) rfl,_,rfl,D,_,_,_,rfl,rfl,c_.of b4,aB (j:=4) rfl,_,_,rfl,rfl,.inl εR,?_]
  show 6
  rw[show (R.N:Int) * (R.K.S:Int)=((R.N * R.K.S:Nat):Int) from(Oa _ _).symm];show 2
  refine #[_,rfl,D,_,_,_,rfl,rfl,c_.of b4,aB (j:=2) rfl,_,rfl,D,_,_,_,rfl,rfl,c_.of b4,aB (j:=3) rfl,_,_,rfl,rfl,?_];show 6
  rw[show (R.N:Int)+(R.M:Int)=((R.N+R.M:Nat):Int) from(N2 _ _).symm];show 2
  have el:0 < R.N * R.K.S:=Nat.mul_pos γ γ
  obtain⟨m,em,eK,ck,fa⟩:∃m:Nat,(if (48:Int) < ((R.N * R.K.S:Nat):Int) then 48 else ((R.N * R.K.S:Nat):Int))=(m:Int)/\0 < m/\m<=48/\m<=R.N * R.K.S:=by
   by_cases z:48 < R.N * R.K.S
   ·exact #[48,by rw[if_pos γ];rfl,by decide,by decide,by omega]
   ·exact #[R.N * R.K.S,by rw[if_neg γ],by omega,by omega,B_ _]
  have a8:0 < (2 ^ r.log2) ^ R.n:=Oc ώS
  refine #[_,rfl,ro,dx,_,rfl,S2.sG _ _ f2,rfl,_,rfl,_,_,rfl,?_];rw[em];refine #[_,rfl,by omega,by omega,λso dl=>?_]
  rw[G5];refine jg (n:=m) (f:=λk=>.int ((blkN ρR k 83e7:Nat):Int)) (cs:=[some ξr,some πM]) dl rfl (FG ck ζ) (λk Ha Ra hk sm hR=>?_) (λH3 s3 bm=>?_)
  ·exact #[_,rfl,sa,ns,3,rfl,((s1.trans s2).trans sm).seq hS,_,rfl,_,rfl,_,k,_,rfl,a8,hR _ ϡ]
  rw[show (r_ m).map (λk=>V.int ((blkN ρR k 83e7:Nat):Int))=rowV ((r_ m).map λk=>blkN ρR k ρF) by unfold rowV;rw[GB];rfl] at bm
  have dk:∀b∈(r_ m).map Φ3,b < νh ^ R.n:=λb hb=>by
   obtain⟨k,_,rfl⟩:=G6.mp hb;rw[ew];exact Ed a8
  have c0:((r_ m).map Φ3).length=m:=by rw[o_,Gf]
  generalize (r_ m).map (λk=>blkN (cell ns 3) k ((2 ^ r.log2) ^ R.n))=bs at bm dk c0;show 2
  refine⟨G,R,ro,so,0,0,_,bs,rfl,S2.same s3,bm,(λz=>by rcases S2.mst so z with ⟨xs,y⟩ | ⟨xs,y⟩ <;> rw[dl] at y <;> cases y),(λy=>by rw[y,Tj] at c0;omega),by omega,by omega,dk,by omega,λH4 e4 Y4 v4 S4 gk k4=>?_⟩
  have O:∀b o,ηO->H1 b=some o->b∉R.ms a/\H4 b=some o:=λb o nt z=>by
   have nb:b∉R.ms a:=λy=>by
    rcases eu b y with y | ⟨ps,y⟩
    ·rw[y] at z;cases z
    ·rw[y] at z;show 422
   exact #[nb,k4 b o nb (s3 _ _ (s2 _ _ z))]
  obtain⟨X4,f0,fl,f7⟩:=id S4.rk
  have e9:Kk a G H4 R ro e4 X4:=#[S4.ro,S4.I,S4.sG,#[X4,f0,rfl],S4.tb]
  have f6:NN R X4:=λst k v hs hk e=>by
   rw[(f7 st hs).2 k hk] at e
   cases e;exact RW _
  clear eK ck fa em c0 el dk dl bm
  have c1:∀{xs:δ} (ps:γF),HO.lst xs≠.tbl ps:=λps y=>by cases y
  refine Ψ4
  rw[G5];refine let I_:Nat->L2.St->Hp->Prop:=λi σ H'=>L2.A2 ((∃v6:Option V,σ=[some πM,some γ0,some ξr,some δH,some υ4,some υp,v6,none,none,none,none,none,none])) (L2.E3 λK' e X=>L2.A8 (Kk a G H' δe ro e X) (e<=1248+32 * i) (K'.P=R.K.P) (K'.S=γO) (K'.L=δO) ((∀k,K'.kd k=if k < i then fk (cell ns (6+k)) γO else .whole)) (GX a H4 H' R δe) (NN δe X));bQ (lo:=0) (n:=R.N+R.M) I_ #[ζO,R.K,e4,X4,e9,by omega,rfl,rfl,rfl,(λk=>by rw[if_neg θh];exact fl k),GX.refl a H4 R,f6] ?_ ?_
  ·rintro i σ H5 hi ⟨⟨v6,rfl⟩,K',e5,X5,S5,e3,eP,eS,eL,b0,ad,ch⟩
   rw[N8];show 431
   have cr:c_ K H5 sa 15e1:=wy ψV λb o nt z=>(ad b o (O b o nt z).1 (O b o nt z).2).1;refine #[_,rfl,_,rfl,_,rfl,_,rfl,_,_,rfl,rfl,sa,ns,6+i,ώW,cr,_,rfl,_,rfl,?_]
   refine #[G,R.on K',ro,D,e5,i,r,R.n,R.N,R.M,γO,L,_,_,st,X5,rfl,S5,by omega,?_,?_,eS,S1,eb,a8,ch,df,dV,λH6 K6 e6 X6 S6 gx e1 et e7 eR fy e8=>?_]
   ·show i < K'.P
    rw[eP,S2.I.P];exact hi
   ·show K'.kd i=.whole
    rw[b0,if_neg δ9]
   ·refine #[ϊ,K6,e6,X6,S6,by omega,e1.trans eP,et.trans eS,e7.trans eL,λk=>?_,ad.trans fy,e8]
    rw[eR k]
    show 73
    ·rw[if_pos z,if_pos γ,z]
    ·rw[if_neg z]
     show K'.kd k=_
     rw[b0 k]
     by_cases y:k < i
     ·show 134
     ·show 85
  ·rintro σ H5 ⟨⟨v6,rfl⟩,K',e5,X5,S5,e3,eP,eS,eL,b0,ad,ch⟩
   show 431
   have cr:c_ K H5 sa 15e1:=wy ψV λb o nt z=>(ad b o (O b o nt z).1 (O b o nt z).2).1;obtain⟨s',fr,f8⟩:=Jp (cell ns 4) (n:=γO) γ
   refine #[_,rfl,sa,ns,4,rfl,cr,_,rfl,D,_,_,_,rfl,rfl,c_.of df,aB (j:=4) rfl,_,_,rfl,rfl,p0 γ,?_]
   show 6
   rw[f8];show 2
   obtain⟨a2,J⟩:=S5.ro
   have db:s' < (R.on K').K.S:=by
    show s' < K'.S
    rw[eS];exact fr
   obtain⟨ei,c3⟩:=CU db ch;refine #[_,rfl,ro,a2,_,rfl,S5.sG _ _ J,rfl,_,rfl,G,R.on K',ro,a2,e5,s',X5,_,rfl,J,S5.I,S5.sG,S5.at,ei,c3,S5.tb,by omega,db,λA6 H6 AS=>?_]
   show 2
   obtain⟨I0,J0⟩:=AS.ask [] ξW;obtain⟨dA,hA⟩:=id I0.obj;obtain⟨dc,Lp,q1,hc,_,_⟩:=id I0.code.ins
   have no:∀i j:Nat,i=j->¬ ΞF=true:=λi j e=>by
    show 421;decide
   have lenZ:([γQ]:List V).length * δR<=sizeLine:=FG (by rw[Uj,Nat.one_mul];exact NM) ζ
   refine #[_,rfl,A6.A,_,_,_,_,rfl,J0.sm _ _ hA,ϋ,ζj,cL _ _ _ _ _,A6.c,_,_,_,_,rfl,J0.sm _ _ hc,ϖ,ηp,dZ _ _ _ _,_,rfl,rfl,_,rfl,?_];show 183;refine #[_,rfl,A6.A,_,_,_,_,rfl,J0.sm _ _ hA,ϋ,ηs,iE _ _ _ _ _,(show 1<=sizeLine by decide),λZ nZ=>?_]
   refine ΔN
   rw[G5,Np]
   show 432
   have an:(upd (upd H6 Z οQ) Z2 μr) Z2=some 51e3:=ac;generalize upd (upd H6 Z (.lst [V.non])) Z2 (.lst (Ft (FL (R.N+R.M) none)))=H7 at sZ an;refine #[.lst οw,.lst οw,jf (sZ _ _ J0.hr),jf an,rfl,rfl,ϊ,wz _,?_];show 115;refine #[_,rfl,A6.A,_,_,_,_,rfl,sZ _ _ οS,ϋ,ηt,d5 _ _ _ _ _,(show 0<=sizeLine by decide),λZ3 a7=>?_]
   show 433;refine #[.lst [],.lst [],cE (a0 _ _ (sZ _ _ J0.hs)),cE ac,rfl,rfl,ϊ,by simp[Gh,cu],?_]
   show 115
   have a3:=sZ.trans a0;generalize upd H7 Z3 (.lst [])=H8 at a3;show 434
   have f1:(Ft ρG).length=R.N+R.M:=by rw[bH];exact I0.csl
   refine #[_,rfl,A6.A,_,_,_,_,rfl,a3 _ _ οS,ϋ,ζG,dj _ _ _ _ _,_,_,_,_,rfl,.lst ϊ7,uL _ _,_,rfl,IC ?_];refine #[_,rfl,A6.A,_,_,_,_,rfl,a3 _ _ οS,ϋ,ζG,dj _ _ _ _ _,A6.cl,_,rfl,.inl (c_.of ϊ7),_,rfl,rfl,_,rfl,?_];refine b_ (λy=>absurd y (no _ _ f1)) ν;show 2
   refine #[(show 0<=sizeLine by decide),λPL ec=>?_]
   have cy:=a3.free ec
   have s8:=a3.trans (a_.new (o:=.lst []) ec)
   have eh:(upd H8 PL δr) PL=some 14e1:=ac;generalize upd H8 PL (.lst [])=H9 at s8 eh;show 2
   have dt:∀b o,ηO->H1 b=some o->bz ΞX H6 b=some o:=λb o nt z=>by
    obtain⟨z1,z2⟩:=ad b o (O b o nt z).1 (O b o nt z).2;exact AS.keep ξW z2 z1
   have dy:=dt D _ c1 hD
   have ed:=wy ψV dt
   have es:=AS.keep (ys:=[]) ξW (b:=ro) (λz=>by rw[S5.I.no ro z] at J;cases J) (S5.sG _ _ J)
   have a1:(HK δe s').length=R.N+R.M:=I0.csl
   have f3:∀k,k < R.N+R.M->R.pl s' k < R.N+R.M:=λk hk=>by
    have h1:=S2.I.lt (s' % R.m) (KP _ S2.I.sh.m0);refine h1 _ ?_;unfold Rw.pl;rw[v_,s_ ΞS]
    exact IV _
   have bt:∀k,k < R.N+R.M->(HK δe s').getD k none=MM (fk (cell ns (6+R.pl s' k)) γO) s'/\(HK δe s').getD k none=Kl K' s' (R.pl s' k):=λk hk=>by
    have e:(HK δe s').getD k none=Kl K' s' (R.pl s' k):=by
     unfold HK Rw.pl;rw[v_,FM,v_]
     show ((R.row (s' % R.m))[k]?.map (Kl K' s')).getD none=_
     rw[s_ ΞS]
     rfl
    refine πl;rw[e];unfold Kl;rw[b0,if_pos (f3 k hk)];rfl
   refine Ψ4
   rw[G5];refine let I_:Nat->L2.St->Hp->Prop:=λi σ H'=>L2.A3 ((∃v6 aT:Option V,σ=[some πM,some γ0,some ξr,some δH,some υ4,some υp,v6,some ϐA,some (.ref A6.A),some πL,aT,none,none])) (a_ H6 H') (H' PL=some (.lst (Ft ϊw)));bQ (lo:=0) (n:=R.N+R.M) I_ #[εJ,s8,eh] ?_ ?_
   ·rintro i σ b2 hi ⟨⟨v6,aT,rfl⟩,b3,g⟩
    rw[N8]
    have a9:=J0.sm.trans b3;refine #[_,rfl,_,rfl,_,rfl,D,r,R.n,R.N,R.M,γO,L,i,s',st,rfl,a9 _ _ dy,N1,by omega,c2,?_]
    rw[<- dW s' i hi];show 2
    refine #[_,rfl,.inl ύ1,_,rfl,_,rfl,_,rfl,_,_,rfl,rfl,sa,ns,6+R.pl s' i,ώW,a9.seq ed,_,rfl,_,rfl,D,r,R.n,R.N,R.M,γO,L,R.pl s' i,s',_,st,rfl,a9 _ _ dy,S1,PL,_,_,rfl,rfl,g,?_,?_]
    ·rw[bH,Kx]
     exact KM (Nat.min_le_left _ _) (GU (by omega:i < 100) ζ)
    have eN:Ft ϊw++[Gd (MM (fk (cell ns (6+R.pl s' i)) γO) s')]=Ft ((HK δe s').take (i+1)):=by
     rw[<- (bt i hi).1,L5,cX υX]
     unfold Ft;rw[HU];rfl
    rw[eN]
    have b6:a_ H6 136e8:=λb o z=>by
     rw[ae (aq z cy)];exact b3 _ _ z
    have a5:136e8 PL=some (.lst (Ft ((HK δe s').take (i+1)))):=ac;generalize upd b2 PL (.lst (Ft ((HK (R.on K') s').take (i+1))))=H11 at b6 a5;show 2
    have eq:(Ft ((HK δe s').take (i+1)))[i]?=some (Gd ((HK δe s').getD i none)):=bP (by rw[R7 γ];exact cX υX)
    refine #[_,rfl,A6.A,_,_,_,_,rfl,b6 _ _ οS,ϋ,ζG,dj _ _ _ _ _,_,rfl,A6.cl,_,_,_,rfl,rfl,c_.of (b6 _ _ (J0.sm _ _ I0.cost)),aB (bP (cX υX)),_,rfl,_,rfl,PL,_,_,_,rfl,rfl,c_.of a5,aB eq,_,rfl,_,rfl,IC ?_]
    exact #[εJ,b6,a5]
   ·rintro σ b2 ⟨⟨v6,aT,rfl⟩,b3,g⟩
    rw[M8 (by rw[a1];exact B_ _)] at g
    have cw:=J0.same b3;obtain⟨d1,d2,d3,d4⟩:=J0.away cy
    have d0:=I0.extH cw g d1 d2 d3 d4
    have dF:=cw.ext g
    have has:=cw.has g
    have ce:(upd (bz ΞX H6) PL ΩQ) PL=some 159e2:=ac;generalize upd (bz ((R.on K').K.dn :: A6.rl :: A6.sl :: a.t38 :: []) H6) PL (.lst (Ft (HK (R.on K') s')))=G8 at d0 dF has ce
    have e2:OA δR ρG όK Γb []:=#[KR,λk hk=>by rw[if_neg GH,v_,LN,if_pos hk];rfl,λk hk=>absurd hk GH]
    refine #[_,rfl,_,_,rfl,rfl,_,rfl,by omega,by omega,?_]
    rw[show (((R.N+R.M:Nat):Int)+1).toNat=R.N+R.M+1 by omega]
    refine let I_:Nat->L2.St->Hp->Prop:=λi σ H'=>L2.A2 ((∃v6 aT cv:Option V,σ=[some πM,some γ0,some ξr,some δH,some υ4,some υp,v6,some ϐA,some (.ref A6.A),some πL,aT,cv,none])) (L2.E2 λos as=>L2.A2 (t_ a G8 H' A6 δR os as) (OA δR ρG όK os as));bQ (lo:=0) (n:=R.N+R.M+1) I_ #[μM,_,_,dF,e2] ?_ ?_
    ·rintro i σ ea hi ⟨⟨v6,aT,cv,rfl⟩,os,as,U,oa⟩
     rw[N8]
     have c8:=has.trans U.sm;obtain⟨k,hk,ek⟩:=Jp ((i:Int)+cell ns 5) (n:=R.N+R.M) γ
     refine #[_,rfl,_,rfl,sa,ns,5,rfl,c8.seq ed,_,_,rfl,rfl,_,rfl,_,_,rfl,rfl,p0 γ,?_]
     show 6
     rw[ek];show 2
     refine #[_,rfl,_,rfl,_,rfl,D,r,R.n,R.N,R.M,γO,L,k,s',st,rfl,c8 _ _ dy,N1,by omega,c2,?_]
     rw[<- dW s' k hk];show 2
     refine #[_,rfl,_,rfl,_,rfl,_,rfl,_,rfl,_,rfl,_,rfl,PL,_,_,_,rfl,rfl,c_.of (U.sm _ _ ce),aB (bP (cX (by rw[a1];exact hk))),?_]
     refine #[G8,A6,R.on K',ro,a2,R.r,R.w,R.n,R.M,R.N,k,R.l,HK δe s',mD δe X5 s',os,as,?_,has _ _ es,AS.rk,d0,U,oa,hk,?_,λb5 Y=>?_]
     ·rw[AS.at_,AS.tu]
      rfl
     ·rw[AS.at_,AS.tu,AS.rk]
      exact(bt k hk).2
     exact #[_,rfl,IC #[μM,_,_,Y,oa.tk hk]]
    ·rintro σ ea ⟨⟨v6,aT,cv,rfl⟩,os,as,U,oa⟩
     have dq:∀y∈([]:List Addr),y=a.t47:=λy hy=>absurd hy GH
     have dB:=U.rebs has
     have asl:=U.asl;obtain⟨f4,f9,aw,_⟩:=Ik.back S5 rfl AS dq dB (AS.nw dB);refine #[_,rfl,ro,a2,_,rfl,aw.sG _ _ J,rfl,_,rfl,G,R.on K',ro,a2,f4,s',X5,_,rfl,J,aw.I,aw.sG,aw.at,ei,c3,aw.tb,by omega,db,λA13 b5 b1=>?_]
     show 2
     obtain⟨fD,Y⟩:=b1.ask [] dq;obtain⟨gl,dr⟩:=id fD.obj;obtain⟨gt,_,eH,_⟩:=Ik.back aw rfl b1 dq Y (b1.nw Y)
     have nr:∀{b:Addr}{o:HO},ηO->ea b=some o->b5 b=some o:=λ{b o} nt z=>b1.kp b o (λy=>by
      obtain⟨ps,w,_⟩:=aw.tb.r;rw[y,w] at z
      exact nt _ (FK z).symm) z
     have ef:=nr εe (U.sm _ _ (has _ _ hA))
     have dd:=nr εe U.hs
     refine #[_,rfl,A13.A,_,_,_,_,rfl,Y.sm _ _ dr,ϋ,ηs,iE _ _ _ _ _,(show 1<=sizeLine by decide),λZ nZ=>?_]
     refine ΔN
     rw[G5,Np]
     show 432
     have an:(upd (upd b5 Z οQ) Z2 μr) Z2=some 51e3:=ac;generalize upd (upd b5 Z (.lst [V.non])) Z2 (.lst (Ft (FL (R.N+R.M) none)))=H14 at sZ an;refine #[.lst οw,.lst οw,jf (sZ _ _ Y.hr),jf an,rfl,rfl,ϊ,wz _,?_];show 115;refine #[_,rfl,A13.A,_,_,_,_,rfl,sZ _ _ (Y.sm _ _ dr),ϋ,ηt,d5 _ _ _ _ _,(show 0<=sizeLine by decide),λZ3 a7=>?_]
     show 433;refine #[.lst [],.lst [],cE (a0 _ _ (sZ _ _ Y.hs)),cE ac,rfl,rfl,ϊ,by simp[Gh,cu],?_]
     show 115
     have a4:=sZ.trans a0;generalize upd H14 Z3 (.lst [])=H15 at a4;show 434
     have eX:(as.map λ(k:Nat)=>(k:Int)).Nodup:=ON _ (λx y (h:x≠y) (e:(x:Int)=(y:Int))=>h (Ql e)) U.nd
     have ez:rowV as=(as.map λ(k:Nat)=>(k:Int)).map V.int:=by unfold rowV;rw[GB];rfl
     have fC:(as.map λ(k:Nat)=>(k:Int)).length=as.length:=o_ _;refine #[_,rfl,A6.A,_,_,_,_,rfl,a4 _ _ ef,ϋ,ηt,d5 _ _ _ _ _,A6.sl,_,rfl,.inl (c_.of (a4 _ _ dd)),?_];refine #[_,rfl,A6.A,_,_,_,_,rfl,a4 _ _ ef,ϋ,ηt,d5 _ _ _ _ _,A6.sl,_,rfl,c_.of (by rw[<- ez];exact a4 _ _ dd),eX,by omega,λp Sp np=>?_]
     rw[fC]
     have eg:=a4.trans (a_.new (o:=.set Sp ωx) np);refine #[p,_,_,rfl,ac,rfl,_,rfl,?_];generalize upd H15 p (.set Sp as.length)=H16 at eg;refine b_ (λy=>absurd y (no _ _ (az _))) ν;show 2
     have ds:=eH.same eg;refine #[_,rfl,ro,a2,_,rfl,ds.sG _ _ J,rfl,G,_,ro,_,_,rfl,ds,λgn f5=>?_]
     have ej:=ds.same f5;refine #[rfl,_,rfl,b_ ν εS];refine #[_,rfl,ro,a2,_,rfl,ej.sG _ _ J,rfl,G,_,ro,_,_,rfl,ej,λgi gp gs ep=>#[(show 0<=sizeLine by decide),λge eo=>?_]]
     refine #[.lst [],.lst [],cE (a_.new eo _ _ ep),cE ac,rfl,rfl,ϊ,by simp[Gh,cu],?_]
     rw[yU];exact q _
theorem walk {l:SE}{q:Ϧ}{loose:ώ}{XP:υ0}{YP:χB}{d:DefRec}{K:Params->m_}{ts:Φ} (hn:l.most=some 63) (hdf:χ2)
  (hY:ΔL)
  (F:∀(w:Ϣ) (mg:Ϝ) (fa:Addr) (h:Heap),(K νG).In h->h.Ns εK mg->mg d.name=some ζK →
   ∃fd:FuncData,Θa∧ΦR∧Φs ∧ ∀base:Heap,(K νG).In base→base.Ns εK mg→ΞG→F7 l.prog w μa mg base HV 20 fa fd ["_law_script"] (mm μa ts)) :
  Ut q loose XP YP π7 d [] χk :=
 L2.KW (n:=63) (k:=20) (x:="_law_script") (CX:=λ_=>HV) (sp:=λw=>mm μa ts) hn ζ hdf #[rfl,by decide,by decide,rfl] hY F (λ_ _ a ns hl hS hT=>#[a,ns,rfl,hS,hl,hT,λ_=>rfl]) λ_ _ _ _ _ z=>z
end My
namespace My
open PySem L2 PyProof.Rows
theorem txt_ex {K:m_}{mg:Ϝ}{ts:Φ}{z0 z1 z2 z3 z4 z5 z6 z7 z8 z9 z10 z11 z12 z13 z14 z15 z16 z17 z18 z19 z20 z21 z22 z23 z24 z25 z26 z27 z28 z29 z30 z31 z32 z33 z34 z35 z36 z37 z38 z39 z40 z41 z42 z43 z44 z45 z46 z47 z48 z49 z50 z51 z52 z53 z54 z55 z56 z57 z58 z59 z60 z61 z62 z63 z64 z65 z66 z67 z68 z69 z70 z71 z72 z73 z74 z75 z76 z77 z78 z79 z80 z81 z82 z83 z84 z85 z86 z87 z88 z89 z90 z91 z92 z93 z94 z95 z96 z97 z98 z99 z100 z101 z102 z103 z104 z105 z106 z107 z108 z109 z110 z111 z112 z113 z114 z115 z116 z117 z118 z119 z120 z121 z122 z123 z124 z125 z126 z127 z128 z129 z130 z131 z132 z133 z134 z135 z136 z137 z138:Addr}{z139 z140 z141 z142 z143 z144 z145 z146 z147 z148 z149 z150 z151:Tok} (T:w_ K mg #[z0,z1,z2,z3,z4,z5,z6,z7,z8,z9,z10,z11,z12,z13,z14,z15,z16,z17,z18,z19,z20,z21,z22,z23,z24,z25,z26,z27,z28,z29,z30,z31,z32,z33,z34,z35,z36,z37,z38,z39,z40,z41,z42,z43,z44,z45,z46,z47,z48,z49,z50,z51,z52,z53,z54,z55,z56,z57,z58,z59,z60,z61,z62,z63,z64,z65,z66,z67,z68,z69,z70,z71,z72,z73,z74,z75,z76,z77,z78,z79,z80,z81,z82,z83,z84,z85,z86,z87,z88,z89,z90,z91,z92,z93,z94,z95,z96,z97,z98,z99,z100,z101,z102,z103,z104,z105,z106,z107,z108,z109,z110,z111,z112,z113,z114,z115,z116,z117,z118,z119,z120,z121,z122,z123,z124,z125,z126,z127,z128,z129,z130,z131,z132,z133,z134,z135,z136,z137,z138,z139,z140,z141,z142,z143,z144,z145,z146,z147,z148,z149,z150,z151]) (E:ts.Perm [z134,z136,z138]):∃a:q_,w_ K mg a/\ts.Perm [ζ8,γZ,εF]:=#[_,T,E]
theorem fin {P:Ϧ}{w:Ϣ}{K:m_}{mg:Str→Option Value}{fa:Addr}{h:Heap}{ts:Φ} (_:K.In h) (hmg:mg "law" = some ζK) (nd:ts.Nodup) (T:∃a:q_,w_ K mg a∧ts.Perm [ζ8,γZ,εF]) :
  ∃fd:FuncData,Θa∧(∀p∈ts,K.lookup p=none)∧(∀p∈ts,∃c,LZ K c p=true) ∧ ∀base:Heap,K.In base→base.Ns εK mg→ΞG→F7 P w K mg base HV 20 fa fd ["_law_script"] (mm K ts):=by
 obtain⟨a,T,hp⟩:=T
 cases hmg.symm.trans T.x121.m;refine #[fd K a.f121,λs v=>?_,λp z=>?_,λp z=>?_,λbase kb nb hB=>(EU T #[(hB _ (hp.mem_iff.mpr ϒ)).2,(hB _ (hp.mem_iff.mpr (by simp))).1,(hB _ (hp.mem_iff.mpr (by simp))).2,(hB _ (hp.mem_iff.mpr (by simp))).1,(hB _ (hp.mem_iff.mpr (by simp))).2,(hB _ (hp.mem_iff.mpr (by simp))).1,(by have:=hp.nodup_iff.mp nd;simp at this;simp[this]),(by have:=hp.nodup_iff.mp nd;simp at this;simp[this]),(by have:=hp.nodup_iff.mp nd;simp at this;simp[this])]).imp λvs H Q E ⟨s,n,e,y,l,t,q⟩=>#[s,n,e,y,l,λp z=>t p (hp.mem_iff.mpr z),q]]
 ·obtain⟨_,_,_,_,_,_,_,_,_,e,_⟩:=T.x121.F.ex
  rw[e];exact .of_eq rfl
 ·have z:=hp.mem_iff.mp z
  simp at z
  rcases z with z | z | z
  ·rw[z];exact T.x38.nl
  ·rw[z];exact T.x47.nl
  ·rw[z];exact T.x105.nl
 ·have z:=hp.mem_iff.mp z
  simp at z
  rcases z with z | z | z
  ·rw[z];exact #[_,T.x38.F.hd]
  ·rw[z];exact #[_,T.x47.F.hd]
  ·rw[z];exact #[_,T.x105.F.hd]
end My
open PySem PySem.W PyProof.Rows
set_option maxRecDepth 100000 in
set_option maxHeartbeats 0 in
theorem PySem.Challenge.cw_spareplank_k57_a_stripe_asked_holds : PySem.Challenge.rw_spareplank_k57_a_stripe_asked.Holds := by
 refine zH ?_
 k_fill
 refine My.walk (l := PySem.Challenge.rw_spareplank_k57_a_stripe_asked) rfl rfl (fun w h Y=>HK.fo Y) ?F
 case F =>
  intro w mg fa h KX G g;refine My.fin KX g (by decide) ?X
  refine' My.txt_ex ?T ?E
  case T =>
   constructor<;>constructor
   all_goals (try dsimp only)
   all_goals first|(refine' L2.NW KX G ?ya ?yl ?yc ?yk ?yb;(case ya=>k_is);(case yl=>k_is);(case yc=>k_is);(case yk=>k_is);(case yb=>first|(refine fun _ _ _ _ _ _ us hl=>L2.OU us hl ?_;exact fun _=>rfl)|(refine fun _ _ _ _ _ _ us hl=>L2.Pc us hl ?_;exact fun _ _=>rfl)|(refine fun _ _ _ _ _ _ us hl=>L2.Pa us hl ?_;exact fun _ _ _=>rfl)|(refine fun _ _ _ _ _ _ us hl=>L2.QC us hl ?_;exact fun _ _ _ _=>rfl)|(refine fun _ _ _ _ _ _ us hl=>L2.QH us hl ?_;exact fun _ _ _ _ _=>rfl)|(refine fun _ _ _ _ _ _ us hl=>L2.Se us hl ?_;exact fun _ _ _ _ _ _=>rfl)))|(refine' L2.NJ ?ya ?yi ?yl ?yc ?yk ?yb;(case ya=>k_is);(case yi=>k_is);(case yl=>k_is);(case yc=>k_is);(case yk=>k_is);(case yb=>first|(refine fun _ _ _ _ _ _ us hl=>L2.OU us hl ?_;exact fun _=>rfl)|(refine fun _ _ _ _ _ _ us hl=>L2.Pc us hl ?_;exact fun _ _=>rfl)|(refine fun _ _ _ _ _ _ us hl=>L2.Pa us hl ?_;exact fun _ _ _=>rfl)|(refine fun _ _ _ _ _ _ us hl=>L2.QC us hl ?_;exact fun _ _ _ _=>rfl)|(refine fun _ _ _ _ _ _ us hl=>L2.QH us hl ?_;exact fun _ _ _ _ _=>rfl)))|(refine' L2.NB KX G ?ya ?yl ?yc ?yx ?yy ?yh ?yn ?yk ?yb;(case ya=>k_is);(case yl=>k_is);(case yc=>k_is);(case yx=>k_is);(case yy=>first|rfl|k_is);(case yh=>first|rfl|k_is);(case yn=>first|rfl|k_is);(case yk=>k_is);(case yb=>first|(refine fun _ _ _ _ _ _ us hl=>L2.Pa us hl ?_;exact fun _ _ _=>rfl)))|(refine' L2.NU ?ya ?yi ?yl ?yc ?yx ?yy ?yh ?yn ?yk ?yb;(case ya=>k_is);(case yi=>k_is);(case yl=>k_is);(case yc=>k_is);(case yx=>k_is);(case yy=>first|rfl|k_is);(case yh=>first|rfl|k_is);(case yn=>first|rfl|k_is);(case yk=>k_is);(case yb=>first|(refine fun _ _ _ _ _ _ us hl=>L2.OU us hl ?_;exact fun _=>rfl)|(refine fun _ _ _ _ _ _ us hl=>L2.Pc us hl ?_;exact fun _ _=>rfl)))|(refine' L2.NG ?ya ?yi ?yl ?yt ?yc ?yk ?yb;(case ya=>k_is);(case yi=>k_is);(case yl=>k_is);(case yt=>k_is);(case yc=>k_is);(case yk=>k_is);(case yb=>exact fun _ _ _ _ _ _ _ us hl=>match us,hl with|[_,_,_],_=>⟨_,rfl,rfl⟩))|(refine' Sb KX G ?_;k_is)|(refine' PySem.W.mg_none_of KX G ?_;k_is)|(refine' (show Kh _ _ _=some none from ?_);k_is)|(refine' L2.HN.mk ?_ ?_ ?_ ?_<;>k_is)|(refine' L2.Mk.mk ?_ ?_ ?_ ?_<;>k_is)|(refine' L2.Hw.mk ?_ ?_ ?_<;>k_is)|rfl|(constructor<;>first|k_is|rfl)
  case E=>first|exact .refl _|decide
#print axioms PySem.Challenge.cw_spareplank_k57_a_stripe_asked_holds
