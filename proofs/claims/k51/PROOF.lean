import PyProof.Rows.All
import Wide.All
import OpenK.KLine
import Imp.Common
import Imp.FormA
import Imp.PinsA
import KE.BitLaws
import KE.KDictList
import KE.KFromBytes
import KE.KIsAll
import KE.KItem
import KE.KLam
import KE.KMinKey
import KE.KNest
import KE.KNestM
import KE.KRevIter
import KE.KSortAsk
import KE.KSortKey
import KE.KSortTup
import ObjForm.Claim3
import OpenK.KCall
import OpenK.KCls
import OpenK.KDescr
import OpenK.KGet
import OpenK.KMake
import OpenK.KMore
import OpenK.KOps
import OpenK.KWalk
import OpenK.Peek
import Wide.FinOn
import Lean
import PyProof.EqAt
import PyProof.EqKinds
import PyProof.TupleCall
import PyProof.NeKinds
import PySem.Challenge.RW_spareplank_k51_blocks_got_and_put
set_option Elab.async false
set_option linter.all false
set_option maxRecDepth 100000
set_option maxHeartbeats 1000000
namespace HK
open PySem PySem.W
def kp(o:Obj):Option Obj:=match o with|⟨_,_,.freed,_⟩=>none|o=>some o
theorem kg{h:Heap}{a:Addr}{o:Obj}(e:h.objs[a]?=some o):h.get? a=kp o:=by
 unfold Heap.get? kp;rw [e];split<;>rename_i z
 ·cases z;rfl
 ·split
  ·exact absurd rfl (z _ _ _)
  ·rfl
noncomputable def sl(l:List Obj):Nat->List Nat->List (Option Obj):=@List.rec Obj (fun _=>Nat->List Nat->List (Option Obj)) (fun _ _=>[]) (fun o _ ih i as=>@List.rec Nat (fun _=>List (Option Obj)) [] (fun a r _=>@Bool.rec (fun _=>List (Option Obj)) (ih (.succ i) (a::r)) (kp o::ih (.succ i) r) (Nat.beq a i)) as) l
theorem sa:∀(l:List Obj)(i:Nat)(K:List (Nat×Obj)),sl l i (K.map (·.1))=K.map (fun p=>some p.2)->∀p∈K,∃j o,p.1=i+j/\l[j]?=some o/\kp o=some p.2
 |[],i,K,h,p,m=>by
  cases K with
  |nil=>cases m
  |cons q K=>cases (h:[]=_::_)
 |o::l,i,K,h,p,m=>by
  cases K with
  |nil=>cases m
  |cons q K=>
   have h:@Bool.rec (fun _=>List (Option Obj)) (sl l (i+1) (q.1::K.map (·.1))) (kp o::sl l (i+1) (K.map (·.1))) (Nat.beq q.1 i)=some q.2::K.map (fun p=>some p.2):=h
   cases e:Nat.beq q.1 i with
   |true=>
    rw [e] at h;obtain ⟨h1,h2⟩:=List.cons.inj h
    cases m with
    |head=>exact ⟨0,o,Nat.eq_of_beq_eq_true e,rfl,h1⟩
    |tail _ m=>obtain ⟨j,o,e1,e2⟩:=sa l (i+1) K h2 p m;exact ⟨j+1,o,by omega,e2⟩
   |false=>rw [e] at h;obtain ⟨j,o,e1,e2⟩:=sa l (i+1) (q::K) h p m;exact ⟨j+1,o,by omega,e2⟩
theorem si{h:Heap}{K:Frag}{as:List Addr}(e:as=K.map (·.1))(x:sl h.objs.toList 0 as=K.map (fun p=>some p.2)):K.In h:=fun a o z=>by
 obtain ⟨j,o',e1,e2,e3⟩:=sa _ _ K (e▸x) (a,o) (mem_of_lookupK z);cases (Nat.zero_add j▸e1:a=j);exact (kg (Array.getElem?_toList.symm.trans e2)).trans e3
noncomputable def fh(K:Params->Frag)(as:List Addr)(e:∀P,as=(K P).map (·.1))(ts:List Addr):Hook where
 α:=List (Option Obj)×List (Option Obj)
 obs:=fun s=>(sl s.heap.objs.toList 0 as,ts.map s.heap.get?)
 val:=fun w=>((K w.params).map (fun p=>some p.2),ts.map fun _=>some (tabObj #[]))
 says:=fun w h=>InK K w h/\∀P∈ts,h.get? P=some (tabObj #[])
 of:=fun w s x=>⟨si (e _) (Prod.mk.inj x).1,List.map_inj_left.mp (Prod.mk.inj x).2⟩
 keeps:=fun w h h' x k=>⟨InK.keeps w h h' x.1 k,fun P hP=>k _ _ (x.2 P hP)⟩
theorem fo{K:Params->Frag}{as:List Addr}{e:∀P,as=(K P).map (·.1)}{ts:List Addr}{w:World}{h:Heap}(Y:(fh K as e ts).says w h):(K w.params).In h/\∀P∈ts,h.get? P=some (tabObj #[]):=Y
end HK
local macro_rules|`(tactic|o_head ($_ $K $A $e $t))=>`(tactic|o_head ((HK.fh $K $A $e $t):PySem.W.Hook))
-- names the tactics below would else use for second copies of large terms; nothing uses these
open Lean in
local macro_rules|`(command|#check_failure $s:str)=>do let k:=(s.getString.splitOn " ")[0]!;let b:=(s.getString.splitOn " ")[1]!.toList.toArray;let x:=(Array.range (5*b.size)).filter fun i=>(b[i/5]!.toNat-48).testBit (i%5);return mkNullNode (<-x.mapM fun i=>`(command|theorem $(mkIdent ((`PySem.W.Fast).str ("tw"++toString ((`zH).str (k++toString i)).hash))) : True:=⟨⟩))
#check_failure "o_ 000000008CJ?OMMNK?OMGGONNNNNKOOMMOMKMOG?OG?OG?OG?GOONMNOKGKO?O>OOMKOMKMOGONNNNJKKK??OMMNK?OMMMGONK?OMMGONOGGK?OMGGGONK?OMG3EGK?OMGONNNO?MGGGONK??OMGONNKKMMMGONK?OMMMGONKOOEGK?OMGONK?OOGGK?OMGONKOOMKMGONKO?MMMGON>?OMGONK?OOGNKKMM?OMGONGONK?OMGONK?OMGONK?OMGONK?OMGOOMMNNGONK?OK?OMGON;OMGONK?OMGONK?OMG7:OMGONK?OMG3"
#check_failure "tree_ 000000000400@00000000000000000@00@000020020020020008000010004000@00@0000000008000000@0000000000000000000004000000000000000210000000000040000000000000001000000000000000000@100000000000020000000000@000000004000080000000000002010000000000000000000000000000000000000000100000000000000001000000000000000004000000000002"
#check_failure "heap_ 0000000@02000000000000000000000000000000000000000000000000000000000000000000000000000000000000000000000000000000000000000000000000000000000000000000000000000000000000000000000000000000000000000000000000000000000000000000000000000000000000000000000000000000000000000000000000000000000000000000000000000000000000004"
#check_failure "view_ 0000000@"
#check_failure "sts_ 000000000@00010000000000000000010010004004004004000@0000200080000100100000000@00000001000000000000000000000000000000000000050000000000080000000000000002000000000000000000050000000000004000000000001000000080000@00000000000040200000000000000000000000000000000000000000000000000000000000000000000000000002"
#check_failure "env_ 000000002"
theorem PySem.W.Fast.tw18401362172407761115:True:=⟨⟩
theorem PySem.W.Fast.tw2208360375647011116:True:=⟨⟩
set_option maxHeartbeats 0 in
open PySem PySem.W PyProof.Rows in
open_top zH for PySem.Challenge.rw_spareplank_k51_blocks_got_and_put
open List renaming getD_eq_getElem?_getD→t_,getElem?_eq_getElem→s_,length_map→o_,getElem?_map→DO,range→p_,mem_cons→DH,getElem?_eq_some_iff→ET,mem_of_getElem?→Ez,length_range→Eo,mem_singleton→Eu,size_toArray→Ey,replicate→Ee,getElem?_eq_none→Fh,mem_cons_of_mem→Fv,length_append→Fn,mem_range→EF,mem_filter→E5,not_mem_nil→Fl,getElem?_range→F1,mem_cons_self→F0,mem_append→Fw,map_map→Fa,lookup_cons→FZ,map_append→FM,getElem?_append_left→Ht,length_cons→F6,length_filter_le→GP,mem_map→Fk,mem_append_right→G0,getElem?_append_right→HU,all_eq_true→Go,map_cons→FY,getElem_mem→GM,ext_getElem?→GZ,getElem?_replicate→IE,contains_iff_mem→Ig,replicate_succ→HV,map_congr_left→HR,length_replicate→IG,length_take→Hu,getElem?_of_mem→IV,nodup_cons→HH,length_set→HQ,getElem_of_mem→Jz,take_of_length_le→KD,flatten_cons→JN,set_append_right→K9,getElem?_set_ne→K8,length_drop→JT,mem_singleton_self→LY,getElem?_set_self→Me,getElem_inj→KC,nodup_range→Kx,take_length→Ks,getElem_map→Ku,mem_append_left→L9,mem_of_mem_take→L5,nodup_append→KU,take_add_one→K0,pairwise_lt_range→MS,drop_eq_getElem_cons→NN,range_succ→KR,lookup→Jw,getElem?_append→MC,filterMap_cons→MH,ext_getElem→L6,any_eq_true→LV,range_succ_eq_map→Of,of_mem_zip→Mc,filter_nil→L4,find?_cons→L7,map_const'→L0,append_assoc→MW,length→Kv,nodup_nil→L_,perm_ext_iff_of_nodup→P7,pairwise_iff_getElem→PP,all_cons→Mb,any_cons→LP,append_nil→ML,getElem?_drop→NL,filter_cons_of_pos→P0,filter_cons_of_neg→OV,take_sublist→Op,getElem?_set→Og,filter_cons→Ol,Pairwise→MP,mem_of_mem_drop→Pj,eq_nil_of_length_eq_zero→Qw,map_set→ME,filter_append→Pn,getElem?_zip_eq_some→QC,mem_or_eq_of_mem_set→QH,foldl_append→O9,pairwise_map→PB,map_take→NS,eq_of_mem_replicate→Rv,pairwise_singleton→RD,length_eq_zero_iff→Rf,zipWith_cons_cons→QR,foldl_cons→O5,forIn_cons→PH,length_singleton→Qr,getElem?_zipWith→Qv,zip_map'→Pt,mem_filterMap→QB,zip_cons_cons→RF,map_replicate→Sj,contains_cons→QE,ne_nil_of_mem→RG,getElem?_take→Qm,zipWith→Px,all_map→PD,toArray→O_,take→Om,drop→On,mem_reverse→Rc,drop_length→Rs,getElem_set→Q_,zip_append→QG,length_nil→Sa,foldl→OW,drop_zero→Q2,set→Oc,map_drop→Se,map_nil→RE,all_nil→Q4,any_map→RI,map_id→QM
open PySem.W renaming Frag→n_,keepIn→HG,kla_fn→HJ,fnOf→G3,findIn→HS,kia_one→IU,emptyDict→JU,codeHdIn→JS,codeIn→JD,instObj→Kq,kitOne→Kw,plainGet_of→MU,cellsFrom_some→PR,tabObj→MG,methodCall_KW→P8,plainGet→NU,isFn→MR,lookIn→N3,callWith_K→Po,methodObj→Pl,hasDictIn→PY,kla_eval→OZ,takerIn→P3,kla_callFunE→Sk,kla_codeExpr→Qq,codeHd_of_K→Rt,mg_of→OY,codeRec_of→RT,plainOver→QD,specialIn→R7,kitx_list→Sb,kitx_dict→QV,handedIn→R9,makesIn→QJ,takesIn→RJ,kitMeta→RY,OpenLaw→R8,mroIn→Qt,WalkO→Qo,nsIn→RW
open PySem.Heap renaming get?_push_of_some→D_,lt_size→DS,get?_push_size→Fm,SameBut→JQ,get?_push_ne→N8,size_push→NQ,size_update→Pf,get?_update_other→RU,get?_update_ne→Ql,ExtBut→QW
open PySem renaming wpAny_bind→q_,wpAny_pure→DY,boot_len→Fo,mem_of_lookup→HW,wpAny_holding→Gz,wpAny_mono→Gy,wpAny_truthy_bool→JF,wpAny_Call_Name_kw→K1,wpAny_pyIter_list→K6,wpAny_passesOwn→K5,wpAny_newList→KW,wpAny_tryCatch→LW,codeAny_mono→KS,codeAny_builtin→Mx,wpAny_seqItems→MN,wpAny_execs_cons→NO,wpAny_call→KZ,wpAny_standAt→MF,wpAny_letGo→LR,wpAny_newFunctionEnv→Pi,wpAny_execs_nil→NZ,wpAny_updateSeq→N2,wpAny_newFunctionEnv_cells→QS,wpAny_comprehension_free→Rm,wpAny_eqBool_int→PU,wpAny_pyIter_enum→Qx,fastTable_eq_tree→Q3,IsItemIter→P1,Within→NR,wpAny_pyNext_list_item→QT,wpAny_pyNext_range_end→Ry,wpAny_pyIter_rangeiter→QZ,codeAny_compStart_list→QL,wpAny_pyIter_zip→RQ,wpAny_specialOf→Pe,wpAny_ite_false→Pq,wpAny_isTrue_Compare1→RH,wpAny_pyNext_list_end→Ru,codeAny_call_function→Qk,wpAny_loadName_local→Qu,wpAny_listPart→P5,wpAny_pyIter_revIter→Q0,codeAny_call_builtin→Sm,wpAny_loadName_cell→Ro,wpAny_pyIter_range→RN,wpAny_Return_some→RO,wpAny_assign_Name→Qn,wpAny_newObj_type→QP,IsPair→Ph,wpAny_call_entry→QQ,wpAny_field→Pu,wpAny_Name→Pb,call→O0,IsZip→Sf
open Nat renaming le_refl→y_,le_trans→DK,ne_of_lt→Ea,lt_of_lt_of_le→Fg,zero_le→EO,lt_succ_self→Gg,lt_succ_of_lt→Gp,lt_irrefl→Gf,mod_two_eq_zero_or_one→IW,lt_of_le_of_lt→Ih,not_lt_zero→Hl,zero_xor→GN,xor_zero→GO,testBit_xor→HX,two_pow_pos→Ib,pow_succ→Hk,mul_comm→HI,add_sub_cancel_left→K7,xor_lt_two_pow→JP,xor_assoc→Ie,strongRecOn→JE,eq_of_testBit_eq→K_,testBit_succ→JR,le_of_lt→IF,le_add_right→KA,le_succ→IH,pow_le_pow_right→LU,xor_self→JG,sub_self→JO,mod_lt→IR,pos_of_ne_zero→MB,testBit_two_pow_mul_add→Pp,div_lt_of_lt_mul→NY,testBit_mod_two_pow→PV,testBit_div_two_pow→Pd,ne_of_gt→LQ,testBit_zero→N5,pow_pos→LZ,min_eq_left→Oj,div_lt_self→Od,zero_lt_succ→P6,add_zero→NX,zero_add→NT,not_lt→MQ,lt_trans→Oi,testBit_and→PX,div_add_mod→O2,mul_le_mul_right→RB,le_of_eq→Py,lt_of_succ_lt→RA,le_succ_of_le→RM,mod_eq_of_lt→Rr,div_eq_of_lt→Rl,min_le_right→RX,pow_mul→PK,mul_add_mod→Sg,mul_add_div→RP,mul_le_mul→QX,succ_mul→Sd,xor_comm→Qs,min_self→Sl,sub_zero→QK
open Option.some renaming inj→DU,injEq→LS
open Bool renaming false_ne_true→Fp,and_eq_true→Gx,false_eq_true→Kt,or_eq_true→K4,eq_iff_iff→LX,or_eq_false_iff→N6,false_or→Mz,not_eq_true'→O4,and_true→Oa,true_or→N_,false_and→Pa,or_true→O7,noConfusion→RZ,and_false→R_
open Int renaming toNat_natCast→Fu,natCast_mul→Ma,mul_le_mul_of_nonneg_right→Q6,le_refl→Md,eq_ofNat_of_zero_le→Q5,natCast_emod→P4,natCast_ediv→Pg,lt_trans→N7,zero_add→Oe,natCast_add→P2,natCast_nonneg→QY,emod_lt_of_pos→Rj,le_antisymm→QI,emod_nonneg→QF,toNat→Pr
open PySem.Str renaming ofString→EM,empty→Ob
open PySem.F renaming slot_list_append→Hs,type_list_append→Hv,plainAttrs_list→Hr,plain_min_loop→K2,slot_dict_itemiterator_iter→Re,entry_min_loop→O8,slot_dict_items→Rp,slot_list_sort→QN
open PySem.Value renaming ref→Ev,int→HY,type→ID,none→Jy,bool→MO,isInt→N9,str→MK,float→OX,isStrOf→Rq,bytes→RC
open PySem.SeqAt renaming EqAt→E_,ne_of_list_tuple→Rb,RcNeAt→PM,RcAt→O3
open Ne renaming symm→Es
open List.Pairwise renaming filter→IT,map→NW,imp_of_mem→Sh
open Option renaming map_some→HZ,isSome_iff_exists→MA,mem_toList→MI,isSome_map→PZ,getD_none→O6,map_eq_some_iff→Sc,none→Pw
open PyProof.Rows.Boot renaming sorted→KE
open PyProof.Rows renaming callWith_type1→KY
open PySem.Builtin renaming bitXor→IC,divisionGoesByPylong→Si,bitAnd→Q8
open Array renaming length_toList→Ky,perm_iff_toList_perm→N4,getElem?_eq_none→PQ,getD_eq_getD_getElem?→Rg,getD→MJ,append_assoc→RV,toList→Rn
open PySem.Heap.SameBut renaming update→Kr
open PySem.Builtin.Range renaming rangeSize→MM,rangeFitsLong→NV,small→Pc
open List.Perm renaming eq_of_pairwise→Oh,map→Qz
open PySem.Builtin.Int renaming intBits→Oo
open PySem.Builtin.List renaming listTooLong→PF,listSubscript?→Sn,listAllItems→Q9,listSameRef→Qp
open PySem.Builtin.Builtins renaming bindParams→QA
open PySem.Calls renaming Name_function_global→R0,callWith_builtin→Rh,call_len_list→QO
open PySem.W.KFB renaming if_not→PN
open List.cons renaming inj→NP
open PySem.Walks renaming list→MV,range→Q1
open PySem.SeqAt.EqAt renaming same→PJ,int_str→Ri,str_int→QU,of_refs→RR
open Array.Perm renaming refl→Ps
open Int.ofNat renaming inj→O1
open PySem.Heap.IsSliceOf renaming new→Qy
open PySem.IsL renaming isList→R5
open Nat.succ renaming inj→Q7
open Lean in
def zqN:Name->String|.str (.str (.str .anonymous "Lean") "Parser") "Term"=>"\t!"|.str (.str (.str .anonymous "Lean") "Parser") "Tactic"=>"\t?"|.str p s=>zqN p++"\t"++s|_=>""
open Lean in
def zqE:Nat->Syntax->String|n+1,.node _ k a=>a.foldl (fun s x=>s++zqE n x) ""++"n"++toString a.size++zqN k++"\n"|_,.atom _ v=>"a"++v++"\n"|_,.ident _ _ v _=>"i"++zqN v++"\n"|_,_=>"m\n"
open Lean in
def zqM(s:String):Name:=((s.splitOn "\t").drop 1).foldl (fun n c=>if c=="!" then `Lean.Parser.Term else if c=="?" then `Lean.Parser.Tactic else .mkStr n c) .anonymous
open Lean in
def zqD(i:SourceInfo)(s:String):Syntax:=((s.splitOn "\n").foldl (fun (t:List Syntax) l=>let r:=(l.drop 1).toString;match l.front with|'a'=>.atom i r::t|'i'=>.ident i r.toRawSubstring (zqM r) []::t|'n'=>let n:=((r.splitOn "\t").head!).toNat!;.node i (zqM r) (t.take n).reverse.toArray::t.drop n|_=>if l=="m" then .missing::t else t) []).head!
open Lean in
def zqF(a:Array Syntax):Array (TSyntax `str):=(Array.range (a.size/32+1)).map fun i=>Syntax.mkStrLit ("\r".intercalate ((a.extract (32*i) (32*i+32)).toList.map (zqE 999)))
local macro_rules|`(include_str #[$t,*])=>let a:=zqF (t.getElems.map (·.raw));`(#[$a,*])
local macro_rules|`(include_str by first $[|$t]*)=>let a:=zqF (t.map (·.raw));`(#[$a,*])
open Lean in
def zqG(a:Array String)(i:Nat):MacroM Syntax:=return zqD (.fromRef (<-MonadRef.getRef)) ((a[i/32]!.splitOn "\r")[i%32]!)
def zqA:=include_str #[by omega,List V,by decide,Or.inl rfl,List Nat,Value,λ_=>?_,B_ K mg a,Shared,λ_ A outer s H vs Q E hr h=>?_,pv 0,X.env,Inv X pins σ H s,⟨_,az,?_⟩,false,List θ,aq _,model ϥ X.w,y_ _,outer,pv 1,List Addr,s.heap.objs.size,s.heap,pv 2,pv 3,knO os,(by simp),Nat->Nat->Nat,List Str,T.A00,T.A02,⟨_,rfl⟩,List ζU,a.C_Rack,PassesOwn.never,V.ref,s.heap.objs.size+1,model P w,T.A01,List εN,⟨_,rfl,_,_,rfl,rfl,_,rfl,?_⟩,Nat->Nat,a_.refl _,Str->Option θ,World,Value->Shared->Prop,Around,T.A04,X.prog,Program,a.C_Asking,λ_ _=>rfl,ao ο rfl,xs.length,Scope,.ref D,λ_ _ _ _ _=>aN,pv 4,List Env,Ef r w,aa Θ ac,a.C_Row,I.hok,λy=>absurd ιd γ,model prog w,a.C_Code,pv 5,by kernel_rfl,2 ^ w,g.rule,V->Hp->Prop,T.A05,aQ I q ό,X.calm=true,scope,.ref c,A.in1,H1 D=none,a.C_Field,a.C_Shape,.ref f,(by decide +kernel),hs.length,T.A06,Array θ,a.C_Blocks,List Int,.inl rfl,.lst ys,Nat->Int,a_ H H',.ref p,k=cs.length,p.isList,aa Ω ac,a.t47,(λy=>by cases y),.ref C,s1.heap.objs.size,Er P w H h,FuncData,T.A08,ns.length,seqObj "list" #[] 0,Nat->List Nat,I.ok.hd hc,hC.ins,h.len,.lst xs,(⟨by decide,by decide⟩),X.base,λy=>absurd rfl y,Gf _,λh=>absurd (of_decide_eq_true h) γ,Or.inr rfl,cs++[none],Ff Δ,List Bool,Dw 72,be k,j_ N nk,pv 6,s.toks,.tup xs,some v,g.toGood,(Obj.mapSeq λ_=>(#[]:Array θ)),⟨_,rfl,rfl,_,rfl,?_⟩,by rw[Eo];omega,List ψZ,List πa,EP X pins σ Q,List (Key × V),Option Addr,.ref R.A,x < 2 ^ w,some u,Good r w,X.stack,ht.len,1 < w,e :: es,vs.toArray,Y st,sizeLine,Str × V,r.log2,R.ms a,λ_ _ _ _ _=>(ar (i:=2) (of_decide_eq_true γg) rfl ζ),λz=>absurd z ε,Eh P w K mg base A Δ s H,ns.map δN,It->Hp->Prop,n<=sizeLine,λh=>?_,fd K f,List α,hR.ins,HD.nd,a.C_Plank,.int st,ah st,V.int,.head _,J.osl,λy=>absurd y ε,h'.objs.size,λ_ _ _ _ _=>(ar (i:=1) (of_decide_eq_true γg) rfl ζ),.tbl ps,DY ?_,λ_ _=>False,⟨_,rfl,?_⟩,PE X e te,k_ N vs,a_ H H',.ref a,I.bare,f_ y u,Pm n p,Dw 3,I.loc,0 < n,R.K.L,m * R.K.L,V.non,bg st,R.K.rk,c4 hr,rowV δ7,List πc,Tb base mg a,its.toArray,List Expr,Option V,Dw 30,S.kind,Et r w,a.t91,z.symm,⟨_,_,rfl⟩,mainGlobals,by rfl,g.toArray,s'.heap,(∀σ' H',N σ' H'->∃m',m' < m/\W (i+1) m' σ' H'),(x == ("__debug__" : Str)),(by exact γ1),(λ_ y=>by cases y),(by simpa using hi),Bool->Hp->Prop,ax ϊ,aL Θ,Option Int,I.ok.kind,PE X a ta,.ref ro,s1.toks,String,a.t38,GF.m_,T.A14,T.A15,DS e,NameKind.cell,Option Nat,params,.lst [],eqn N l,NameKind.free,value,HL.nd,DA cs as,I.free,I.full,aC aD rfl T.A03 Fo γH,(∀H4,a_ H H4->R (f i) H4),(⟨by omega,by omega⟩),starEach es π,(∃m,W 0 m σ H),(by simp[Rw.ms]),d_ a H R e ss X,ns.getD i 0,upd H x o,λz=>?_,λ_=>q,List Stmt,Pv 0 σ H,KV kvs vs,.ref nd,b / 2,List Dt,ax aO,aR ep,ax dj,Gg n,II.nd,R.N+R.M,pv 7,X.env.qual++EM "<lambda>",.ref fa,⟨_,rfl,hR _ ϟ⟩,T.A13,.ref l,(∀i j,i < n->j < n->z i=z j->i=j),Obj.mapSeq (· ++ δt),seqObj "list" vs.toArray 0,I.hok.fresh Γ,λi=>ns.getD i 0,starEach [e] π,Nat->St->Hp->Prop,EN a G H R ro e Y,PI X tg iter wi,A.handled=none,Ea εL,DI H t p q,rv.length,pl.isList,a ^^^ b,.lst zs,.int i,h_ vs us,.int n,s_ hi,Dw 50,Ez ek,f_ v u,Gl X x,kindOf,X.K=K,GF.IL,R.K.S,aa Θ γH,.ref ol,Addr × Obj,.dK kvs,aa γ6 ac,(λz=>by cases z),ms.take j,aE aG γ1 Θ γ0,Ei ζj,b_.of hL,bv P w,EO _,⟨none,rfl⟩,.ref L,bo ac,T.A18,PW.pt (bb πd (ba (am dH Θ γ1 ψ))),((by show (1:Nat) < 1000;decide)),((by show (2:Nat) < 1000;decide)),seqObj "tuple" vs.toArray 0,λi u H2 R2 hu s2 hR=>?_,aM ο Θ rfl,Array (Option θ),Nat->Nat->Option Int,v_ a H0 H R n os as,(by simpa using e),λH2 s2 hD=>?_,a == sysModules,PA X δs t,X.N[i]?=some x,G4 r w N M L T,aa ζk ac,GU N M T hs Z,s2.trans s4,s1.trans s2,⟨hd,?_⟩,.frz o u,FC cvs H,Gv w M N l,PE X b tb,I.tok _,Array Nat,.ref so,pos.line,Hp->Prop,callerA,x / 2,Jr x,GL z,Es g,I.len,g.ins,JL.nd,T.A28,T.A26,T.A30,T.A24,L2.St,JK.nd,T.A25,(("stripes" : Str),V.int (s':Int)),(("planks" : Str),V.int (p:Int)),(("slots" : Str),V.int (l:Int)),.own x,.ref R.rk,plainL,aa ο ac,aa ϊ ac,sizeLine_eq,s₁.heap,ao γ1 rfl,.ListComp elt [⟨tg,iter,ifs,0⟩] sc pos,.frz o ζV,St->Hp->Prop,upd H a o,ps.zip us,vs++dvs,p1.isList,.ref fp,Gp hk,IH _,T.A22,(⟨λi m σ H=>m=xs.length - i/\i<=xs.length/\Pv i σ H,⟨γ2,by simp,EO _,h0⟩,?_⟩),λ_ _ _ _ _=>(ar (i:=0) (of_decide_eq_true γg) rfl ζ),⟨rfl,I.turned (t':=δ9) (λb o hb e=>eb b o hb e) f0 f1 f3 f4 f5⟩,⟨T',_,rfl,Ew.of ab,rfl,_,_,rfl,_,_,rfl,rfl,?_⟩,EI ϥ X.w X.K X.mg γX CX k f fd ps sp,(∀σ H,Pv γ2 σ H->D.nx σ H),⟨go i H hlt sm,λx H' y=>?_⟩,(∀i H,i < n->a_ H1 H->J.go i H),g_ X.N πb sc cap own,λp=>p.2 == NameKind.cell,(∀H,a_ H1 H->J.stop n H),λi H R hi sm r=>?_,of_decide_eq_true z,.Tuple elts x1 tp,xs.length<=sizeLine,⟨none,none,rfl⟩,List (Key × Value),HG K γt=true,p.getD ιg 0,KM πb x,⟨_,b_.of hL⟩,(∀k∈nk,k < N),ER X.K fd ps ds,ak N ps δM,2 ^ w - 1 - 1,(.int (k:Nat)),newV nk nb X,ns.getD j 0,(at'+i) / N,⟨t,rfl⟩,hc1 x c e,ax Ω,aL Ω,it r w n,Option Nat,X.N.Nodup,PS X st t,h_ dvs ds,gc CX X E,.dT kvs,Nat->Bool,DC k X.A,sc.names,.ref T,FQ c v,G8 a G R,.bl b,DS e1,F4 ck,Dw 54,Dw 33,k < N+M,DC k A,Hl _,W.Frag,I.kIn,slice,p < N,Km.nd,J_.nd,T.A32,J.tab,R.row,of_decide_eq_true y,.ref c',bI st,m - 1,⟨us,[]⟩,⟨_,Fm _ rfl,rfl,rfl⟩,he g s σ H _ I h,.ref it,g i j,(("shelf" : Str),V.ref D),D_ _ e,λb o hb e=>(sb.2 b hb).trans e,.Name x pos,a.C_LostPlank,K μQ,rowV row,.ref sl,p2.isList,.ref x,upd (upd (upd H0 TL (.lst (rowV ts))) RS (.lst (rowV μP))) CH (.lst (rowV π9)),k == NameKind.free && X.env.scope.kind == .function && X.env.kindOf x == some .cell,(∀p H4,H p=none->a_ H H4->H4 p=some (.lst (row i))->R γE H4),λy=>absurd ιd ζX,⟨_,rfl,_,_,rfl,rfl,p0 ε,rfl,_,rfl,?_⟩,(∀vs H Q E,sp vs H Q E->vs.length=ps.length),PassesOwn ω X.A π X.xe,(.tup [.int ((en.1:Nat):Int),.ref pl]),Value->Value->Value->Value->FuncData,aE aG Θ Ω γ0,ED P w Δ s H l I S j best s' H',((by show (3:Nat) < 1000;decide)),List (Nat × List πa),by rw[Ey,ηY];omega,.builtin "object.__class__",by simp only[Ey] <;> omega,bE r w M N l cs as ϋ,⟨h.lt hn _,h.lt hn _,?_⟩,(cs++[some μR]),λi H x H' hi sm y=>?_,λk H2 R2 hk s2 hR=>?_,λk Hx Rx hk sx hR=>?_,upd H' D (.lst (cC ms)),(∀b∈fp,Fb X pins H b),H a=some ω5,fx r w M N l ϋ,(∀b∈fp,H' b=none),aM ο Ω rfl,fx r w M N l μX,.lst ω6,(by simpa using hu),List (κ × Value),os.getD k none,pe.length - 1,(st * (j:Nat)),⟨rfl,rfl⟩,x_ H ps n row,(2 * (x:Int)),rs.getD i 0,I.full.toGood,pw r w x m,p.getD m 0,GF.Good r w,DC (k+1) A,DD w n b,λ_=>0,p_ (N+M),KB ms H H',.ref R.c,al q hn,PT X a tA,PE X l tl,PE X o ta,r'.length,a < 2 ^ w,b ^^^ c,f < 2 ^ w,Ed d d',.int pl,2 ^ R.w,.own a,Operator,Sem Bool,FX X.K C,g.length,List Key,hR.shelf,GP _ _,e0.bare,g.top16,Dw 56,Dw 68,α->Int,Nat->HO,s.gens,I.cell,Gg _,Ib w,Es j,Es z,bZ (K:=K) rfl,bD N l ts nk,w.params,(.int (i:Nat)),aa δ8 ac,st % R.m,bs.length,.lst (ps.map Ϙ),ha g s σ H _ I h,knO g,pv 8,R.K.dn :: rl :: sl :: a.t38 :: ys,some γt,EM "<lambda>",X.A.in1,kf i,I.cost,(j_ N nk).filter λk=>(cs.getD k none).isSome,.lst (aU s' λ_=>some 0),.bool true,this.1,aC aD rfl T.A03 Fo ηW,aE bX ϊ ai γ0,G0 _ (G0 _ (cY hb e)),⟨[u],[]⟩,List Nat,I.ok.glob,e ▸ p,(upd H1 p (.ins γs dx [ψU,ψT,ψS,ψR])),⟨_,rfl,R.rk,dx,_,rfl,h1,rfl,_,rfl,R,e,i,ss,X,rfl,hR,hi,?_⟩,⟨_,rfl,L,_,rfl,.inl η1,_,_,rfl,rfl,_,rfl,?_⟩,⟨_,rfl,c_ δQ ι⟩,bi ο ϐ T.x35.me (cM T) hr.u T.x35.b .nil aj,⟨_,rfl,_,_,rfl,rfl,γW,?_⟩,(∀H,a_ H1 H->H D=some (.lst ((p_ n).map f))->Q H),⟨_,rfl,c_ ι γY⟩,(∀b u,s.heap.get? b=some u->h'.get? b=some u),.Call (.Attribute o m apos) δs [] pos,((by show p∉([]++[]:List ζU);simp)),EJ R.M R.N R.l η0 (j_ R.N nk),HN P w K mg base A Δ s H l I S xs f kf,(∀b u,h.get? b=some u->h'.get? b=some u),(⟨o,e,λv z=>by rw[d] at z;cases z⟩),aY rfl T.A07 πi,aa Θ ω8,.Call (.Name x p) δs [] pos,λi σ H x H' R hi sm ho y q=>?_,aC aD rfl T.A03 Fo γ9,(λi=>((ns.getD i (0,0)).1:Int)),ForInStep.yield ((name,c) :: r),kvs.any λkv=>decide πl,λh=>⟨_,λ_ _ z=>z,?_⟩,(λ_ _ _ _ _=>by exact Θ),(λ_ _ _ _ _=>by exact Ω),aE bX δ8 ai γ0,((by show (4:Nat) < 1000;decide)),c9 γ1 Θ cp,Eg a H0 R r w n M N l cs srow,apos.endLine == cpos.line,K6 ⟨o,e1,e2,nn,e4⟩ ?_,EU X.N πb sc cap y,⟨_,_,g1,g2,ho,g4,g5,g6⟩,aa γ6 ω0,.Compare a [op] [b] pos,(((2 ^ w - 1:Nat):Int)+1),laidV r w n N l nk nb X,Hw N at' S nb H H' D es i,(by rw[δP];exact hk),.ins γa dx (G1 R),.ref Φ,Kq C Φ,V->List V->Hp->VK->Prop,FF K x qual st f fd c t,tupleKind_room_in1 hu,(Sum.inl ((s:Nat):Int)),List (Str × NameKind),seqObj "list" #[] e1,I1.hok.fresh Γ,(by rw[hb];exact Fp),λz=>absurd rfl z,Str->Option NameKind,List ψZ,upd H2 D εP,cs++[some (src i)],Fx δR fd,(∀ps,o≠.tbl ps),σ.set i δb,h g s σ H _ I hw,List ωb,λb u e=>D_ _ e,starEach [] π,(p,w) :: P.zip vs,(by simpa using h1),(by simpa using h2),ForInStep.yield r,[]++eW fp s7.heap,.builtin "sorted",Ea (Fg εL hx),X.A.units+1 < cLine,DK n8 ε,V->V->Hp->VK->Prop,H l=some γV,decide_eq_true z,H x=some γV,A.units+1 < cLine,.inr ⟨o,hd⟩,g1.symm.trans j,⟨_,_,_,_,rfl⟩,beq_self_eq_true,(∀n∈ns,n < B),by simp;omega,bY σ cap own,List δw,Nat->Option Int,Ee ε7 .non,⟨σ,H,I,h⟩,eval o π,(.int (n:Int)),λj=>L j k,i < row.length,tks.getD i 0,KB R.ls H H',(by rw[<- g]),⟨_,e,rfl⟩,sm.trans s2,eC N ps γn,h_ (cC ns) vs,jN γb eb,Dy H ps M row,eqn N l 1 o,eqn N l 0 o,X.env.locals,j b o e hx,st :: rest,Mp r ta tb,l.row.toRowW,(lo+(i:Int)),Jq ck ns B,pm.length_eq,λh1=>?_,⟨rfl,?_⟩,upd H0 D o,.tail _ hx,h.objs.size,X.mg x=none,K.In Ψ,KT H kvs xs,a_.new nD,its.toList,its.length,items.size,EF.mp hk,e_ N l i,PT X c tc,PE X o to,PG X tg g,us.length,e0.frames,Arguments,.type T,EG R ha,ps++[p],.type c,eq_of_beq,Z _ rfl,p'.isList,.ref kS,A.in1.in1,q :: qs,PE X o td,PE X i ty,b_.of g,.ref rl,IT _ Kx,.ref tl,MI.mp y,.ref lp,i / R.N,.ref gl,I.ok.bsz,.inl h,r.length,IM K a,g == k,Op _ _,hr.depth,H D=none,Ia 0 n,Iz X c P,FQ b v,H x=none,.dK [],boot_any,I.freeC,e0.funs,LR ?_,Gp ht,GM hi,trivial,n - 1,k - l,nj ry,T.x3.me,Kp H H',I.sh.m0,LT ms H,aa ai ac,EQ N l ts δ7,Nat × Nat,X.env.scope,κ × V,am bn Θ ai ψ,row.length,os.length,λt=>eqn N l t k,dk q c',aa γ1 ac,ao Θ rfl,ao ϊ rfl,kv.1=k,(("gone" : Str),V.bl υ),.ins δK dp (hf h),(("slate" : Str),V.ref sl),keywordEach [] π,(("left" : Str),ε9),by rw[aI];omega,.tbl (ps++more),(.int (x:Nat)),.tbl #[],G3 x qual ιf εa δM .none kV doc pm an cdv ct,am bn Ω ai ψ,(2 ^ r.log2) ^ n,xs.getD i .non,eval e π,Fq (ck n) n,xs.getD i d,items.toList,.ok .next,(l+r) / 2,aL γf,.ref ta,us++ds,(upd H5 rk (HO.ins ϖ dx [ηR,ηQ,ηS,ιm,πo,πq,πm])),(@au _ _ 1 _ _ _ _ εT rfl 0e3 (aH (fR T) hr.u rfl T.x98.m T.x98.k T.x98.b .nil aj (aa ο π8)) εq (by first | exact .inl rfl | exact .inr rfl)),(upd H3 rk (HO.ins ϖ dx (DE "shelf" 5e6 [ηR,ηQ,ηS]))),(∀b∈ch,(b∈X.ex\/X.s₀.heap.objs.size<=b)/\b≠X.env.locals/\(∀x c,X.env.cells.lookup x=some c->c≠b)/\∀p∈X.pn++pins,p.1≠b),(upd H rk (.ins ϖ dx [ηR,ηQ,ηS])),upd (upd (upd (upd H4 dp ηT) x (.ins δK dp [])) h ν6) x πn,(⟨.bl _,H,I.kept (t':=tk) λb o e=>kp b o (λz=>by rw[Eu.mp z] at e;exact absurd εL γZ) ιn,rfl,q⟩),((c+7919 * (k:Int)) % (L:Int) * ((2:Int) ^ (61:Int).toNat - 1)+(c+7919 * (k:Int)) % (L:Int) / 3+(k:Int)),(∀ps H,a_ H1 H->H D=some μV->x_ H ps n row->ω3->D∉ps->Q H),λr s'=>r=.ok (.ret ν7)/\OldK ηZ s'.heap/\s'.os=s₁.os/\AllBare s'.gens,aF (av ο ϛ T.x85.me (cS T) hr.u T.x85.b .nil aj ζS),k == NameKind.free && env.scope.kind == .function && env.kindOf n == some .cell,ν5++(ts.take i).map λt=>N+t,(⟨rfl,rfl,rfl,by decide +kernel,rfl,by decide +kernel,by decide +kernel⟩),aV (av ο ϐ T.x32.me (dt T) hr.u T.x32.b .nil aj γ9),⟨_,rfl,R.rk,dx,_,rfl,h1,rfl,_,rfl,_,rfl,R,e,i,j,ss,X,rfl,hR,hi,hj,?_⟩,(∀cl C s₀ H₀ ex,Ji (cP X sc cl C cap own s₀ H₀ ex) ifs tt),(∀cl C s₀ H₀ ex,PE (cP X sc cl C cap own s₀ H₀ ex) elt te),(.tup [.int (((i+j) / R.N:Nat):Int),.int (((i+j) % R.N:Nat):Int)]),(∀cl C s₀ H₀ ex,PG (cP X sc cl C cap own s₀ H₀ ex) tg g),A.deeper (envOfC qual δM Φ f γo),aF (bi ο ϛ T.x80.me (cT T) hr.u T.x80.b .nil aj),(∀i H x H',i < n->a_ H1 H->J.yld i H x H'->x=src i/\H'=H),(∀H,a_ H1 H->H D=some (.lst ((p_ γ2).map f))->Q H),bL (row:=e_ (N+M) εQ t) (i:=k) πr,⟨_,rfl,R.A,_,_,_,_,rfl,hA,ϐ,ζo,cK _ _ _ _ _,?_⟩,w_ μW λv s1 ⟨x,H1,I1,r1,q1⟩=>?_,(λy=>absurd ιd (by rw[el];omega)),A.deeper (envOfC qual δM Φ f cdv),λk H2 R2 hk hb s2 hR=>ζn,FP CX P w K mg base N qual γn f cdv A Δ s H E,br bC rfl T.A12 γu ηX,⟨_,rfl,R.rk,dx,_,rfl,h1,rfl,R,e,ss,X,rfl,hR,?_⟩,e_ N l t++(p_ j).map λj=>if j=t then 1 else 0,g_.of (cap:=[0]) (own:=["role"]) γg,(⟨_,rfl,_,rfl,by omega,by omega,λD nD=>?_⟩),if k=f then (k,v) :: r else (k,x) :: DE f v r,λi H hi sm=>⟨xs,xs[i],sm.seq hs,s_ hi⟩,λj=>GF.sc r w n (eqn N l t j) ωf,bc ωc H',upd (upd H P πs) c' πh,(if ([]:List Keyword).isEmpty then 0 else 1),envOfC qual γn Φ f cd,V->Option Int->Option Int->Hp->VK->Prop,Hj K 2 (eP δ6 (eP (be (k+1)) Ix)),backToKw pos πp,Ea (Fg εL (I.ok.cab x c D hc)),⟨.int _,H,I.tok _,ϒ,q⟩,aE aG ο Θ γ0,upd H R.sl ωd,.call ζm ⟨[.ref a],[]⟩,(∀j k,j < M->k < N->L j k < 2 ^ w),λH sm=>⟨xs,sm.seq hs,y_ _⟩,λi H x H' _ _ y=>⟨y.2,y.1⟩,aC aD rfl T.A03 Fo ηX,(.int (((2 ^ r.log2) ^ n:Nat):Int)),(λz=>n (by rw[z];exact LY _)),λA outer s H vs Q E hr h=>?_,(λw=>n (by rw[w];exact LY _)),upd H4 D (.frz o ψW),(∀p∈ts,H p=some πu),aE aG Θ ai γ0,λ_=>⟨_,λ_ _ z=>z,?_⟩,λk=>(cs.getD k none).isSome,.lst (rowV ψV),(Str->Option θ)->Heap->Prop,(DD w n p.2).map (tm r w p.1),λ_=>⟨ϒ,rfl⟩,λz=>ne.2 p (Ez ep) εn,λy=>absurd y (no _ _ rfl),λj=>tm r w (T f (N+j)) c,.call ζm ιh,fX rfl T.A33 γ9,(by rw[e];exact True.intro),(∀H4,a_ H H4->R (b i) H4),List Key × Addr × Value,I.base.keep b o e n hb hx,Ea (Fg εL I.ok.above),⟨_,_,g1,g2,g3,g4,g5,g6⟩,(cs++[some πt]),.For tg iter body [] pos,if b % 2=1 then a else 0,⟨stop H sm,hQ H sm hd⟩,seqItems? (.ref S) >>= _,aa ο γH,aa Ω ηW,aa ο γ9,dz (K:=K) rfl 1e0 rfl,λt Hx Rx ht sx hR=>?_,f (.int i t) (.int j u),⟨EF.mp ν8,this.2⟩,.lst (rowV ζY),I.base.free b o e n hx,λi _=>εo,List Value->Shared->Prop,(⟨e1,by cases e2;rfl⟩),⟨σ',H',I.unwish,q⟩,.builtin "isinstance",by rw[PQ];simp;omega,(∀i,i < n->Ok (stt i)),ho j s1 σ H1 _ I1 q1,e=x\/H e=some ηT,(∃u,h'.get? e=some u),upd H T (.tup [u,v]),(bw (g b n)).trans n,Obj.mapSeq λ_=>bs,ks.getD pl false=false,by rw[f.len];decide,rowV (e_ N ηV 0),aM ο ϊ rfl,List ωe,λ_ z=>absurd z Fl,FL X (compareOp op) r,I2.hok.fresh Γ,(by rw[aI];exact hk),.lst (qs.map Ϙ),upd H2 D3 εP,ay aW ϊ γ6,tupleKind η2,a.free c ob q n hx,.Subscript o i pos,.Attribute e f pos,d.params.defaults=[],k == NameKind.free,λb o' z=>D_ _ z,(.int ((n:Nat):Int)),Ea (Fg (DS z) nDs),Ea (Fg (DS z) nks),λk=>mk.getD k 0,v_ a H0 H R n' os as,bc (t :: R.ms a) H,hm b _ q λz=>z,s.heap.objs.size<=a,Er ϥ X.w H' h',hl g s σ H _ I h,X.mg "range" = none,hi j s σ H _ I h,G9 Ψ x dx C mA,λx=>x.1.isSome,λx1 x2=>x1++x2,λf vs=>O0 f vs,H_ K x qual st f fd,Kd γn clos cvs H,c < d\/c=d/\m < n,(by simpa using hj),DK h8 ε,⟨_,rfl,hR _ s'⟩,MR K γt=true,JD K cdv qual=true,by rw[Ey];omega,Unit->Shared->Prop,DZ T γv f,λi H hi _=>hi,H a=some ζV,(∀y∈ys,y=a.t47),List (Nat × Addr),λ_ z=>Eu.mp z,.Tuple es k pos,.Name "range" p,World->Heap->Prop,cs++[none,none],.tup (k.map kV),λe=>z e.symm,ks.getD k υ,fx r w M N l ks,bc δy H10,ay bO ζk ai,2 ^ r.log2 - 1,⟨_,Fm _ rfl⟩,.builtin "any",List (Addr × V),(bw z).trans e,Gk ηZ H,λ_ _ _ q=>q,V.int (IC _ _),.lst [V.int 0],IK r w M N l j,cs.getD k none,(by rw[y];simp),h.get? b=some o,I.freeC x c e,λH _=>y_ _,(y,C+1) :: cl,bY σ cap [y],Array DictEntry,Er P w H Ψ,⟨_,_,_,rfl⟩,boot_isinstance,⟨_,b_.of O⟩,DA cs as k=true,ks.set x true,es.map (·.1),h.objs.size<=a,λb hb=>?_,(some (k:Int)),.type "list",(some (a:Int)),(some (c:Int)),some (src i),cs++[some x],⟨?_,?_,?_⟩,tuples' true,ns.length < 64,KW ?_ η3,(.int (y:Nat)),aa μY ac,DW ms H pl prs,Int->Int->Int,rangeSize_one,PE X εS tv,evalPart_none,λx=>!x.1,l.most=some n,JS K c t=true,eqn N l 0 k,eqn N l 1 k,k < ks.length,s2.trans s3,ms.length+1,.ref εb,s6.trans s7,Gl X "range",Kh wi g tb,(k,x) :: r,Option θ,I.ok.mod.kin,its'.toArray,pw r w x n,b_ K H1 a xs,entry_sorted,call f [v],s1.free nD,GF.z_ R b0,X.length=N+M,PA X [a] ta,I7.unpinned,I.ok.frames,apos.atName,scope.names,sm.seq hs,JV K l xs,sm _ _ a0,X.A.in1.in1,ax γ6,sm _ _ hl,k < R.N+R.M,H a=some o,builtinsNs,X.wish E,E8 r w a,ev r w y,Nat × Nat,Nat->Nat,hlt b hb,nb b _ e,fin _ ?_,⟨?_,e⟩,Fx fa fd,Fm _ rfl,⟨Ps _⟩,size_push',Fi kvs k,Fd H a y o,kvs.length,KB ms H H1,H D=some o,⟨ps,y⟩,t.tup e2,Kq C dx,C b o e,.bool b,KP X es t,j.toArray,PA X es t,I.stkFree,hl.typeIs,b < 2 ^ w,a &&& b,y < 2 ^ w,c < 2 ^ w,Fv _ hx,ys++[v],t'.length,vs.length,.ref kn,b_.of O,GF.Et r w,al e nx,g b _ z,zs.length,rs.length,Ig.mp e,bc xs H,.ref TL,some 23,H b=none,LD (H x),Ml h H,.str x,I.ok.blt,some e,i == j,.inl e,.int c,FG hq',S.nocell,g.toList,lt i j,α->Prop,al z n,ns.Nodup,dd.mapOf,g i hi,T.x39.me,dy T B,EA l t,FW R X Y,.inl y,some 3,(("size" : Str),V.int ((d * st:Nat):Int)),(("stripes" : Str),V.int st),(("planks" : Str),V.int n),(("data" : Str),V.int d),R.row μT,.dK (EB es),(p_ (N+M)).map λk=>GF.DP r w 0 πg ω4,bo π8,Str × Addr,aa γf ac,Rw.ls_ms _ z,.builtin id,(∀p∈ps,H1 p=none),λt=>j.getD t 0,.ins C dx fs,ts.map Ϙ,HJ name q εO body γn clos pm ιe ctv,aa Ω ηX,⟨eq_of_beq h,rfl⟩,ay bO Θ ai,Str × Value,R.K.dn :: A.rl :: A.sl :: a.t38 :: ys,.lst (rowV (as++[k])),Int × List Nat,X.getD j 0,(λ_ _ _ _ _=>by exact(aE μO ο Θ γ0)),⟨ιi,⟨o,D_ _ e1,e2,nn,e4⟩⟩,g_.of (cap:=[4]) (own:=["role"]) γg,.builtin "type.__call__" ⟨.ref C :: us,kw⟩,(⟨xs.length - (i+1),by omega,rfl,hlt,p'⟩),bc μZ H6,aC (cQ rfl) rfl T.A19 KE γ9,aC aD rfl T.A03 Fo ω0,fx r w M N l (Gn ks ζY),V.int.inj ιd,dz (K:=K) rfl 2e0 rfl,λz=>gn ω1,(("code" : Str),V.ref c),(some ((pb.2:Nat):Int)),.Slice lo hi none p2,(("ask" : Str),.ref f),(by simpa using hb),.tail _ δO,ns.map Dt.int,.Name x pos',λt=>e t j,TL :: R.ms a,h1.trans z,(EM "key",f),(av (by exact πk) γO T.x18.me (dw T) hr.u T.x18.b .nil aj (aa (aS ωi rfl 77e5 δS γ5 ωg) μS)),⟨_,_,_,_,_,_,λi=>bs.getD i υ,rfl,MV (A:=ν2) (show X.A.in1.handled=none from I.ok.hd hc) Φ p j εr,ωh,λi v s' Q' E' hv q'=>?_,λh' tk kp=>?_⟩,(⟨I.code.same s,εW,I.n16,I.W,⟨dx,s _ _ hA⟩,s _ _ ν4,I.csl,I.asker.same s,I.row,I.srl,by rw[ae h1];exact I.nrl,by rw[ae h2];exact I.nsl,by rw[ae h3];exact I.nz,by rw[ae h4];exact I.nt,I.d1,I.d2,I.d3⟩),(∀(D C:Addr) (H':Hp) (s':ν) (m:Ϡ),Inv X pins σ H' s'->s'.heap.Ns C m->Fb X pins H' C->Q γ4 H'->compPost ω X.A X.xe use R γ4 C πD s'),λ_ _ _ _ _=>(oS (n:=2) (K:=K) rfl rfl (aK (ar (i:=1) (of_decide_eq_true γg) rfl ζ) (aK (ar (i:=2) (of_decide_eq_true γg) rfl ζ) bM))),(λv σ H'=>∃cvs,yP N δM (cellsFrom ϙ (ah st).names []) σ cvs/\((∀c v,cvs.lookup c=some v->H' c=none/\H c=none)->Q v (HM cvs H'))),(upd H1 c (.ins γe dx [(("blocks" : Str),V.ref bp),(("sums" : Str),V.int M),(("data" : Str),V.int N),(("roles" : Str),V.int ((N+M:Nat):Int))])),(⟨_,rfl,R.A,dx,_,rfl,sx _ _ hA,rfl,_,rfl,H0,R,r,w,n,M,N,k,l,cs,aT,os,as,X,rfl,I,J.same sx,by omega,mx.len,mx.lt,mx.ism,mx.ag,λH' s'=>?_⟩),⟨ok.mod,ok.kind,ok.glob,ok.blt,ok.above,ok.inj,ok.has,ok.cab,ok.hd,ok.frames,ok.stk,ok.exf,ok.bs,ok.bsz,ok.noex,ok.exfs,ok.funs,ok.frf⟩,(y.2 != .free) || ((sc.names.lookup y.1 == some .free) && ((osc.names.lookup y.1 == some .cell) || (osc.names.lookup y.1 == some .free))),PW.pt (bb (am bn ο (bx (v:=.int 2) rfl T.A69 ϒ) ψ) (ba (am bU ο (bx (v:=.int 8) rfl T.A65 ϒ) ψ))),(cx I hg hm boot_range (KY (w_ (ha pos g s σ H _ I h) λus s1 ⟨vs,H1,I1,r1,q1⟩=>?_) (by rw[hs,hs2]) (by rw[hs2];rfl))),⟨m',hm,i+1,σ9,H9,zs,I9.unpinned,T.keep _ _ _ Y λb hb o e=>(I9.pin (b,o) νb).1,λb hb=>?_,hz,w9⟩,(⟨⟨xs,xs[i],q,by simp[hlt]⟩,Pv (i+1),λσ' H' p'=>⟨xs.length - (i+1),by omega,rfl,hlt,p'⟩,λx H' y=>?_⟩),(∀i σ H x H' (R:θ3),i < n->a_ H1 H->Ok σ->J.yld i H x H'->(∀H'',a_ H H''->R (stt i) H'')->g x σ H' R),comprehension θ1 sc π ppos (newList []) υ (eval iter π) use,⟨λb o e n hb hx=>?_,λb o e n hb hx=>?_,I.base.free,λb o e hx=>?_,I.base.tups,I.base.frzs,I.base.tbls⟩,(⟨⟨q1,q2,hlt,by omega⟩,Pv (i+1),λσ' H' p'=>ωk,λx H' y=>?_⟩),(∀ps H,a_ H1 H->H D=some μV->x_ H ps γ2 row->ω3->D∉ps->Q H),av ζZ η7 T.x56.me (iN T) hr.u T.x56.b .nil aj γH,aF (av ο ϛ T.x81.me (fu T) hr.u T.x81.b .nil aj (aa (bS (aa eV ζS)) ac)),⟨I.base.keep,I.base.slot,λb o e n h=>?_,I.base.there,λb xs e=>?_,λb o u e=>?_,λb ps e=>?_⟩,iX t t' rv g λd d' v v' u u' J b1 b2 b3 b4=>vz I 60 ν2 d d' v v' u u' γ b1 b2 b3 b4 E,λ_ pm cdv ctv=>HJ ν1 ζl εO body γn [(y,cy)] pm cdv ctv,⟨_,rfl,p,_,_,_,_,rfl,j,γO,T.A31,eE fp w n,fp,_,_,_,_,rfl,C,γw,θb,eD r w,_,_,rfl,rfl,?_⟩,(upd (upd H tp (.tup [V.str (EM "look"),V.int (i:Int),V.int (j:Int)])) R.dn (.lst (ds++[V.ref tp]))),K.lookup f=some ⟨oc,od,.func πv,osl⟩,iX t t' rv j λd d' v v' u u' hd b1 b2 b3 b4=>ih γp d d' v v' u u' γ b1 b2 b3 b4 G,λ_ pm cdv ctv=>HJ ν1 ζl εO body γn [] pm cdv ctv,(w_ (h pos g s σ H _ I hq) λus s1 ⟨xs,H1,I1,r,z,q⟩=>⟨by rw[<- r.length];exact z,?_⟩),⟨.ref D,H',I'.turned (t':=s'.toks) ιo f0 f1 f3 f4 f5,rfl,q⟩,(⟨hk,⟨L,_,hf,hn,e,hd⟩,ih (λb hb=>hs b (by unfold Ff;rw[MH,hf];exact Fv _ hb)) hr⟩),w_ (ha pos g s σ H _ I h) λus s1 ⟨vs,H1,I1,r1,q1⟩=>hc g s1 σ H1 vs us Q I1 r1 q1,CR F7 Δ P w H' s' (λv H''=>∃t,v=.ref t/\H'' t=some πA/\a_ H' H'') E0,(λ_ _ _ _ _=>by exact(br (jh (K:=K) rfl) rfl T.A12 γu ηW)),⟨_,rfl,_,_,rfl,rfl,γW,_,_,rfl,rfl,p0 ε,_,_,rfl,rfl,?_⟩,(compEnvC sc cl C π).kindOf x=some .cell\/(compEnvC sc cl C π).kindOf x=some .free,.lst (rowV ψX),λb hb=>⟨(hf b hb).2.2.2.1,(hf b hb).2.1,(hf b hb).2.2.2.2.1,(hf b hb).2.2.2.2.2⟩,bindArgs ω7 ιh=pure θ5,λ_ _ _ _ _=>(cI (am dG (aE μO ο Θ γ0) ai ψ)),⟨_,rfl,_,_,rfl,rfl,γW,_,_,rfl,rfl,p0 ε,rfl,_,rfl,?_⟩,(⟨hlt,Pv (i+1),λσ' H' p'=>⟨n - (i+1),by omega,rfl,hlt,p'⟩,λx H' y=>?_⟩),aE aG (bi ϊ ϑ T.x28.me (fK T) hr.u T.x28.b .nil aj) Ω γ0,(∀(w:ϡ) (h:Heap),YP w h->(K μQ).In h/\∀p∈ts,h.get? p=some (MG #[])),(s2.heap.push { cls:=.type "list",dict:=none,data:=.seq ([]:List θ).toArray }),k == NameKind.free && env.scope.kind == .function && env.kindOf x == some .cell,λ_ _ _ _ _=>(ar (i:=3) (of_decide_eq_true γg) rfl ζ),PW.pt (bb πw (ba (am dH Ω γ1 ψ))),(upd H x (.ins ϧ dx [ωs,ωv])),Kl ha hb I h λv u s2 x y H2 I2 rx ry q=>ho g s2 σ H2 x y v u Q I2 rx ry q,⟨(f3 b hb).2.2.2.1,(f3 b hb).2.1,(f3 b hb).2.2.2.2.1,(f3 b hb).2.2.2.2.2⟩,GB ζl γn Φ fa ιe [(y,cy)],⟨_,rfl,_,rfl,D,_,rfl,GC.k (k:=Sum.inl ((N+t:Nat):Int)) (s2 _ _ g) len,?_⟩,(upd H2 D (.lst (Oc (rowV (b0 :: g)) 0 (V.int (IC (b0:Int) 1))++[V.int 0]))),KY (w_ (ha pos g s σ H _ I h) λus s1 ⟨vs,H1,I1,r1,q1⟩=>?_) hs rfl,JQ Φ (s.heap.push { cls:=.type "frame",data:=.dict #[] }) h',w_ (ha pos g s σ H _ I h) λus s1 ⟨vs,H1,I1,r,q⟩=>⟨I1.kIn,?_⟩,aF (av ο ϑ T.x24.me (fe T) hr.u T.x24.b .nil aj γH),aF (av ο ϛ T.x83.me (dY T) hr.u T.x83.b .nil aj γ9),aF (av ο ϛ T.x84.me (dO T) hr.u T.x84.b .nil aj γH),aF (av ο ϛ T.x82.me (fh T) hr.u T.x82.b .nil aj γ9),upd H4 D (.frz o (.dK (aX rs (laidV R.r R.w R.n R.N R.l nk nb δu)))),w_ ιj λu s1 ⟨x,H1,I1,rx,a,dx,fs,ex,ea,l,q⟩=>?_,(⟨_ :: fs,KatTups.cons e1 e2 e3 rfl h1,by rw[F6,F6,h2],λv hv=>?_⟩),(∀(s:ν) (u:θ),BindsTo s fd νc [("_law_script",u)]),(⟨λi m σ H=>m=n - i/\i<=n/\Pv i σ H,⟨n,by simp,EO _,h0⟩,?_⟩),GB ζl γn Φ fa ιe [],⟨_,rfl,p,dx,_,rfl,C,rfl,_,rfl,_,rfl,p,r,w,s,s,rfl,hF,γi,hs,?_⟩,⟨_,rfl,c,dx,_,rfl,h1,rfl,_,rfl,c,bp,fp,r,w,n,M,N,k,l,rfl,hC,hk,?_⟩,H fa=some (Fx fa ω7),av ο ϐ T.x37.me (cU T) hr.u T.x37.b .nil aj γH,av Θ ϐ T.x40.me (cm T) hr.u T.x40.b .nil aj γH,av ο ϐ T.x36.me (cN T) hr.u T.x36.b .nil aj ζW,(⟨_,hz,λv q=>by have q':Data.fields _=Data.cell v:=q;cases q'⟩),((∃v2 v3 v4:Option V,σ=[some θ8,some η5,v2,v3,v4])),(λy=>absurd (by rw[decide_eq_false ζX];rfl) y),((j_ N nk).filter λk=>EA l t k).map λk=>X.getD k 0 ^^^ nb k,G3 x qual ιf εa δM .none kV doc pm an γo ct,upd ωl R.K.dn (.lst ds),(∀cl C s₀ H₀ ex,Ji (dA X sc cl C cap y s₀ H₀ ex) ifs tt),(∀cl C s₀ H₀ ex,PE (dA X sc cl C cap y s₀ H₀ ex) elt te),(wpAny_newTuple ?_ (by show vs.length<=_;rw[ηY];omega)),S.nocell _ (HW (show scope.names.lookup x=some .cell from hx)),Gz (w_ (ho g s σ H _ I h) λov s1 ⟨x,H1,I1,r1,q1⟩=>?_),w_ (hi pins s σ H _ I h) λv s1 h1=>w_ h1 λc2 s2 h2=>?_,(∀cl C s₀ H₀ ex,PG (dA X sc cl C cap y s₀ H₀ ex) tg g),kat_kind (T:=.type "int") t1 γ (λv hv=>?_) rfl ?_,⟨_,rfl,.inl ⟨rfl,_,b_.of J⟩,_,rfl,D,_,_,rfl,rfl,J,R,?_⟩,(⟨D,_,_,rfl,rfl,h1,g,ϒ,s1.up nD,by rw[ab,er];rfl⟩),(∀i σ H,i<=xs.length->Pv i σ H->b_ K H l1 xs/\b_ K H l2 ys),(∀n,(n,εR)∈sc.names->(cl.lookup n).isSome=true),(∀H,a_ H1 H->H D=some (.lst (((p_ n).filter b).map f))->Q H),(⟨m,by rw[ae (λw=>by rw[w,hd] at z;cases z)];exact z⟩),⟨_,rfl,R.rk,_,_,_,_,rfl,h1,ϛ,T.A68,wn R,rfl,_,rfl,?_⟩,(⟨.int ys.length,H,I.tok _,⟨s.toks+1,by rw[Ey,g]⟩,q⟩),w_ (ho g s σ H _ I h) λv s1 ⟨x,H1,I1,r1,ty,q1⟩=>?_,SortSt.mk' general' (vs.toArray.zip δt) #[] 7 none,λh=>absurd (V.int.inj (of_decide_eq_true h)) γ,λy=>absurd ωp γ,⟨0,x,rfl,rfl,λj hj=>⟨?_,λe=>absurd e (Hl j)⟩⟩,aF (bi ο Ϥ T.x88.me (kr T) hr.u T.x88.b .nil aj),A.under ωj,G3 x q ιf εa δM .none kV doc pm an cdv ct,(.tup [.int ((i / R.N:Nat):Int),.int ((i % R.N:Nat):Int)]),w_ ιj λv s1 ⟨x,H1,I1,r1,q1⟩=>?_,(y.2 != .local) || (sc.names.lookup y.1 == some .local),((by rw[cq];exact DK (by omega:os.length<=8) ε)),⟨_,rfl,R.rk,_,_,_,_,rfl,h1,ϛ,T.A64,pi R,_,rfl,?_⟩,(p_ πf).map λi=>V.bl (os.getD i none).isSome,(GF.DP r w M (λt=>eqn N l t j) (λt=>by'.getD t 0)),(λh=>absurd (of_decide_eq_true h) (by rw[el];omega)),((d.map λk=>(((cs.getD k none).getD 0:Nat):Int)).sum),λs=>if s∈(es.take i).map (·.1) then Z s else Y s,G3 name qual εO body γn dV kV doc pm an cdv ct,(∀n c,cl.lookup n=some c->env.cells.lookup n=some c),(∀n c,cl.lookup n=some c->X.env.cells.lookup n=some c),compPost ω X.A X.xe use R γ4 C,⟨_,rfl,p,dx,_,rfl,G,rfl,_,rfl,p,r,w,d,rfl,hF,hd,?_⟩,aa ωn μS,.dK (aX (Gd R.N i μU en.1) (G6 R.N i bs en.1)),(∀b u,b∉fp->s.heap.get? b=some u->h'.get? b=some u),K.lookup c=some ⟨.type "code",cod,.fields cvs,csl⟩,g_.of (cap:=[1,0]) (own:=["symbol"]) γg,(g.getD i none).isSome || (bA N cs ts nk).contains i,(λ_ s'=>∃σ' H',Inv X pins σ' H' s'/\Q σ' H'),HT.GJ γ2 γ2 hi - HT.GJ γ2 0 lo,typeOf ω2=pure (.type "method_descriptor"),E9.mono (λp q=>⟨rfl,q⟩) _ (vK γ hz),⟨_,rfl,D,_,_,_,rfl,rfl,Ew.of hD,rfl,rfl,_,rfl,?_⟩,w_ μW λc s1 ⟨H1,I1,q1⟩=>?_,w_ (hc g s σ H _ I h) λd s1 ⟨H1,I1,q1⟩=>?_,⟨oL,es,ep,k _ oL (λz=>(hf _ z).2.1 rfl) ho,r⟩,⟨rfl,I.turnedL (t':=δ9) hf λb u hb e=>?_⟩,aF (cu Hr Hs Hv aZ γ1 γ9),g_.of (cap:=[0,1]) (own:=["role"]) γg,FC (Gs c1 c2 c3 ηU ζT δL) H,g_.of (cap:=[2,0]) (own:=["role"]) γg,g_.of (cap:=[1,0]) (own:=["role"]) γg,.tail _ (.tail _ (.tail _ (.tail _ (.tail _ hb)))),.lst (((J.drop ε8).take ε7).map Ϙ),attributeBase e f π πz=eval e π,.ListComp elt [⟨target,iter,ifs,0⟩] γn pos,F.apart (d:=.none) hz g h1 h2 θ7 ιu,⟨⟨q1,q2,.inl γ⟩,hd σ H νf⟩,⟨_,rfl,_,rfl,Hd,_,rfl,.inl (b_.of hH),_,rfl,?_⟩,(∀p∈ts,mainGlobals≠p∧base.BuiltinsAt mg p),⟨n,rfl,EO _,(a_.refl _).up hD,rfl,ab,none,rfl⟩,(∀p∈ts,mainGlobals≠p/\base.BuiltinsAt mg p),⟨some "key",.Lambda εO body γn lpos,kp⟩,(Fq ((ps.getD i (0,0)).1:Int) (ps.getD i (0,0)).2),⟨Tt,_,rfl,Ew.of ab,rfl,_,_,rfl,_,_,rfl,rfl,?_⟩,g_.of (cap:=[2]) (own:=["role"]) γg,g_.of (cap:=[]) (own:=["block"]) γg,(λ_ _ _ _ _=>by exact(d7 bV ο aO ψ)),ax ζZ,(p_ M).filter λt=>(cs.getD (N+t) none).isSome,jb cs (L.filter λk=>!fx r w M N l ϋ k),kvs.map λkv=>if kv.1=k then (kv.1,y) else kv,(⟨dx,by rw[ae (λz=>ne.1 εn)];exact h1⟩),λj=>L.all ωo,(∀b xs,H b=some δa->H' b=some δa),(∀b u,b≠e->h.get? b=some u->h'.get? b=some u),if around.isSome=true then "dict" else "frame",(collect_list hl ?_ (by rw[ηY];omega)),cx I hg hm boot_min ?_ 0e2 ε,(by rw[νe];exact I.mod.glob.keeps I.bk),(∀i σ H,i<=xs.length->Pv i σ H->b_ K H a xs),(λw hw=>lX rx fx r fs w (by simpa using hw)),GB q γn Φ fa ιe clos,(⟨(show 2<=sizeLine by decide),λt nt=>?_⟩),λb o _ _ hc e _=>⟨o.slots,k b o hc e⟩,upd H l (.lst ((aU R.S (X i)).set j (ov o))),aL ωm,am dG γ1 πj ψ,am dG (ao Ω rfl) πj ψ,am bT (ay bd ωa ai) ai ψ,some (.builtin "getset_descriptor.__get__"),⟨hL j k hj hk,t.lt h (N+j) hh γ⟩,⟨[],KatTups.nil,rfl,λ_ h=>absurd h Fl⟩,tryCatch (holding [u] (call _ [u])) _ >>= _,LW (Gz (vS g m1 hy ry λt2 s2 H2 m2=>?_)),(a_.new (o:=.tup [V.int (f:Nat),V.ref p]) hT),aE (vA (K:=K) rfl) ο ai γ0,(∀j,j < N+M->(srow.getD j none).isSome=true),λb o hb e=>kk b o ωw e,(⟨o1,e1,λv q=>by rw[d1] at q;cases q⟩),if (k == εM)=true then _ else _,aa (aE aG δ8 μY γ0) ac,(∀x,foldedSetIterable iter π x=pure x),(∀p∈ts,∃c,JS ιr c p=true),aa ν9 ac,⟨.int ιl,H,I.tok _,ϒ,q⟩,by simp only[Ey,bne_iff_ne,ne_eq];omega,(e_ (N+M) (GF.Dz r w t f pl c) f).drop N,Obj.mapSeq λ_=>(arrOf st).map (·.2),(⟨q1,by rw[ae (nn _ q2)];exact q2,q3⟩),.Subscript o ωu pos,(.lst (Ee (l:Int).toNat [ε9]).flatten),⟨D,_,_,_,rfl,rfl,Ew.of hD,rfl,rfl,?_⟩,iw εc ο Ω γ0,⟨v,H',J.os,J.bare,J.base,J.hok,rv,q⟩,λh' c' kp e=>fin g r' hz h' c' kp e,(Jn K l1 l2 xs ys).stop i H/\D.nx σ H,GB q γn Φ fa cd clos,aa (aE aG ο ai γ0) ac,tks.map λk=>(os.getD k none).getD 0,aa νa ac,aa (aE bX Ω ai γ0) ac,(λj hj=>wG (by rw[mk.len];exact hj)),(R.pl st k,(FA R nk nb δu).getD k 0),⟨h0,ts,k _ _ h0 h1,h2,λi u e=>?_⟩,w_ (ha g s σ H Q I h) λc s1 e=>?_,backTo pos (starEach δs π),.Call (.Attribute o m apos) [] [] pos,RW K εp x=some ν0,(∀k,k < n->a k < 2 ^ w/\x k < 2 ^ w),⟨u,ru,.inr ⟨.inr hf,c,hc,ik z⟩⟩,(∀p∈ts,(K μQ).lookup p=none),bx (v:=.int 32) rfl T.Aa5 ϒ,(λe=>x (by have:=V.int.inj e;omega)),ay aW ai (ay bd ωa ai),some (.builtin "object.__setattr__"),kas_item (ks.toArray.zip δt),kas_item (vs.toArray.zip δt),λz=>absurd (decide_eq_true rfl) z,aa (ay gf ψY ο) ac,(∀b o,b≠t->H b=some o->H' b=some o),aa ο (aa Θ μS),aa Ω (aa ϊ γ9),(Ga X pb.1 st ωt),ho g s2 σ H2 x y v u _ I2 r1 r2 q2,Ev ϙ :: πH,setItem ζp ιt (.ref b),(⟨ps++[p],by rw[FM];rfl,?_,?_,?_⟩),(by exact ωq),⟨λD j hd nD hD=>?_,λa7=>?_⟩,fY λk hk=>W.lt j k (EF.mp hj) hk,HS K γK x=some ν0,(∀s,s < hs.length->hs.getD s 0≠p),(⟨[],rfl,x_.none,by simp,by simp⟩),((∃q,f=.ref q)\/∃b,f=.builtin b),tryCatch (pyNext (.ref I)) _ >>= _,((ps.set h p1).set f p2).map Ϙ,aE aG ζk ϊ γ0,(∀j,j < m->(row j).Perm (b7 n)),λt=>(cs.getD (N+t) none).isSome,k _ _ ωr O,λk=>blkN c k πx,.BoolOp .And (a :: b :: rest) pos,λi H hi sm=>⟨sm.seq h1,hi⟩,u i (j - 1) γ γ,(KW ?_ (by rw[ηY];omega)),λs3 H3 i x v hx sm e0 un C=>?_,am bT (ay bd γf ai) ai ψ,am bT (ay bd Θ ai) ai ψ,ay aW θ0 ai,(by rw[ap];exact DK Z ε),(by rw[ap];exact DK C ε),aC aD rfl T.A03 Fo ζW,(0<=i/\i < ((γh ^ n:Nat):Int)),(⟨by decide,by decide,by decide⟩),⟨⟨dx,O⟩,g.I,g.sG,g.rk,g.tb⟩,(by unfold Ff;rw[MH,hf];exact F0),.BoolOp .Or (a :: b :: rest) pos,FN R n λk hk=>(h k θ9).1,(∀i,hs.length<=i->i < M->T i p=0),(cs++[some μR,some u]),m9 ϥ X.w X.K X.mg γX k sp,λz=>some (seqObj "list" z c2),.ins γs dx (JW d n st tp),fx r w M N l (Gn ks (ms.take i)),ar (i:=2) JI.nd rfl ζ,Value × List Value->Shared->Prop,λv H2=>v=.non/\Q ιv H2,⟨⟨o,e,ex.1⟩,λa e2=>?_⟩,⟨m,hn,λi x v e1 e2 e3=>?_⟩,⟨_,hn,λi x v h1 h2 h3=>?_⟩,(⟨h,by omega,by omega,q.2.2.1⟩),Fx fa (mk doc pm ιe ctv),(V.int (GF.it r w n:Nat)=V.int 1),λf=>some (HO.lst (aU R.S f)),am bV γ1 aO ψ,upd H2 R.sl (.lst (ss.set i v)),λz=>a1.tup an ω1,r_ ϥ X.w θ4 h' a o,letOwnedTupleGo tg ιk u,⟨cl,?_,h2,λm hm=>h3 m ?_⟩,λb o _ _ hc e _=>k b o hc e,upd H l (.lst (ns'.map δN)),λH sm=>⟨sm.seq h1,y_ _⟩,List ψZ->Shared->Prop,closureFor γn X.env=pure clos,λu s' ⟨v,H',J,rv,q⟩=>?_,(if_neg hb).trans (if_neg hb2),Obj.mapSeq (·.push πG),⟨_,rfl,_,rfl,_,_,rfl,rfl,?_⟩,((DK (by omega:M<=8) ε)),λk=>(os.getD k none).isSome,λk=>(os.getD k none).getD 0,aa θ0 ac,((DK (by omega:N<=8) ε)),⟨εo,fin H2 s2,ab⟩,(∀f,Ft (fs.lookup f) (mA f)),⟨⟨xs,q,y_ _⟩,hd σ H p⟩,(by rw[hk];exact⟨_,I',q⟩),s.heap.IsSliceOf sl vl vu .none,(∀b∈fp,b < s.heap.objs.size),λx hx=>S.par x.1 (Mc hx).1,(.int ((row.getD i 0:Nat):Int)),⟨D,_,rfl,b_.of hD,_,rfl,?_⟩,Ej (os.set k (g.getD k none)),λk=>ts.any λt=>EA l t k,(p_ N).filter λk=>EA l t k,.lst (Gu R λ_=>Ee (N+M) 0),(x == ("__classdict__" : Str)),.BoolOp .And (b :: rest) pos,if g=f then some u else mA g,call ω2 (v :: us),ps[i]?=some x/\vs[i]?=some v,.call ζm ⟨[x],[]⟩,⟨_,rfl,_,rfl,rfl,_,rfl,?_⟩,(p_ (N+M)).filter εU,(.int ((eqn N l t k:Nat):Int)),(.int ((R.N * R.K.S:Nat):Int)),.BoolOp .Or (b :: rest) pos,(∀σ H,Pv n σ H->D.nx σ H),Fg (DS (I.ok.bs b o e).1) z,⟨EO _,[],_,.nil,Fm _ rfl⟩,λa b _ _ h1 h2=>QI h1 h2,Bi ps vs γn clos cvs N σ0,⟨rfl,λi x v e1 e2=>?_⟩,(("many" : Str),.int (n:Int)),λk H2 R2 hk hb s2 hR=>?_,.lst (rowV (e_ N ηV 1)),aY rfl T.A07 ηW,bj z hx γJ,λj hj=>hk j (.tail _ hj),cs++[some πy],rowV (e_ (N+M) εQ t),.tail _ ωx,⟨z.1,ht _ _ z.2.1,z.2.2⟩,⟨.bl b,H,I.tok tk,rfl,q⟩,sc.names.lookup x=some .free,(∀H4,a_ H H4->R (f x) H4),seqObj "list" ks.toArray e,yV ps vs γn clos cv N σ0,upd H d θ2,(.int ((2 ^ w - 1:Nat):Int)),(.tup [.int (i:Nat),.ref p]),(decide_eq_true (by rw[e])),λi u H4 R4 hu s4 hR=>?_,.inl ω9,.inr ω9,by show 1<=δv;decide,ay aW ai (ay bd Θ ai),H' TL=some (.lst (Gu R Y)),(by rw[hj];simpa using ew),DP r w M ωA y,⟨?_,out.toList,e,hv,?_⟩,λc v e=>(cell c v e).1,Lb Δ P w H' s' ν3,(((x:Int)+k) - ((y:Int)+k)),aa (bo γ9) ac,Eb a H p d n st tp qs m row,(∃xs,H x=some γV),(0+(i:Nat) * ((s:Nat):Int)),(⟨m1++m2,by rw[e2,RV]⟩),λc v hc q=>k c v ?_ q,eval ιp π,(∀b∈fp,Fb X pins H b),if x % 2=1 then 1 else 0,λz=>h t (Gg t) εn,λm hm=>hf m (Fv _ hm),(ID "int") != ID "tuple",λu s' ce=>I2.after ce,aa ϊ ζW,DB a H c bp fp r w n M N l,aa Ω ζW,λi H1 R1 hi sm hR=>?_,(by rw[e0];exact .head _),[v1,v2].getD i .non=.non,(λz=>hc (by simp[z])),⟨q,PR _ _ _ (.inl q)⟩,cx I hg hm hv ?_ hn hdb,⟨s h k hh hk,hx k hk⟩,(by rw[z,hD];exact Gf _),by simp only[Ey];omega,(by rw[<- z];exact Ez e),CR F7 Δ P w H s Q E,Lv γn clos cv H Ψ,(by rw[l];exact j.val k),(V.int (GF.E8 r w d:Nat)),(("field" : Str),.ref fp),GF.D0 t hs pl γv,(∀b∈X,b < γh ^ n),ts.map V.ref++[.ref pt],.lst [V.ref ro,V.ref x],⟨m',hm,σ3,H3,I3,w3⟩,behindInMarks op b=false,slot_list_getitem.lookup,.Attribute o name apos,⟨oc,od,.func fd,osl⟩,h'.Ns Φ m,Option (Value->Sem Unit),⟨m,hn,λh' sb=>?_⟩,am bU γf ai ψ,(.int ((2 ^ w:Nat):Int)),am bT Θ ai ψ,am bn ϊ ai ψ,⟨η4,rfl⟩,.lst (rowV (e_ N l t)),λz=>hm _ z _ _ _ h1,(by rw[hR.ls];exact hi),(by rw[I.csl];exact hk),λH sm h=>hQ H sm ?_,λz=>some (HO.lst z),DA cs as (ls.getD i 0),λi=>f πB,sA.trans (sS.trans sC),am io ϊ aO ψ,(.int ((2 ^ t:Nat):Int)),Value->Value->Sem θ,hb g s1 σ H1 _ I1 q1,hl g s1 σ H1 _ I1 q1,hu g s2 σ H2 _ I2 q2,(∀x∈row,x < 2 ^ w),⟨x,rfl,eq_of_beq q⟩,(.tup [.int (i:Nat),u]),λi=>f (l.getD i d),PySem.Fin->Shared->Prop,λi j C hi hj q=>?_,λz=>e ωC,⟨[],[ωD]⟩,⟨rfl,λi p e=>?_⟩,aM ο η6 rfl,(Sum.inl ((k:Nat):Int)),pm.mem_iff.mp (L5 hk),sh _ _ (aw _ _ uz h1),aa πk ac,(R.pl st k,Y'.getD k 0),EJ M N l cs δ7,.ins γa C (G1 R),Pl γt (.ref y),.While c body [] pos,HT.GJ γ2 0 lo,⟨.bl _,H,I,rfl,?_⟩,sc.kind == .function,its.toArray[i]?=some v,by rw[DO,s_ hi];rfl,⟨j.keeps hk,Qq ?_⟩,ht [] _ σ0 _ _ I hq,p.getD πE 0,starEach [e,f] π,nn _ (I.freeC y c e),o.data=Data.dict es ep,cvs[11]?=some (.ref t),of_decide_eq_true h1,e_ (N+M) εQ i,.lst ωy,(.lst [V.int (k:Nat)]),GV a H H' R e st X Y A,Gd R.N i μU s,bc ωB H7,storeName π x u,bootBuiltins x=some u,.UnaryOp .Not a pos,some ωz,.int ιl δ9,intBits_le_64 h1 h2,.ref x :: θ6,(∀v,(x,v)∉binds),by rw[Ey,Ey];omega,.Pass ⟨0,0,0,0⟩,⟨v,o,k c o ho,hd⟩,cs++[some u,some v],λv _=>v=.bl true,λp hp=>if_pos hp,l7 T hcl I1 (sQ q1),(V.int ((g:Int) / 2)),.lst (rowV (row i)),(by rw[he];exact F0),Gm r w n M N l X=true,(fP rg 1 ((N:Int)+1)),.lst (aU R.S (X i)),by rw[I.csl];omega,EN a G2 H' R ro e Y,(by rw[z];exact hb),List V->Hp->VK->Prop,Result->Shared->Prop,I.hok.fresh θa,x.above y c (HW h),Option Int->Hp->Prop,some ω2,ys.length≤sizeLine,if a then 1 else 0,if b then 1 else 0,DR w row * 2 ^ w+x,λt p=>t ^^^ F p,λi=>N.getD i Ob,⟨_,_,_,Fm _ rfl⟩,⟨o,hk _ _ e1,e2⟩,.done (.ret .none),kvs.length<=sizeLine,m2.put g.nS g.IS _,λi=>ts.getD i 0,.ref ιq,⟨_,rfl,_,rfl,?_⟩,⟨rfl,_,b_.of hD⟩,(by rw[aI];exact O),.lst (C.map Ϙ),GF.Dz r w t h pl c,JJ r w N l o k≠0,(IK r w M N l by' j),λz=>n (Eu.mp z),aV γ1,aL γ1,(∀z,Pz z->F z)->G,(s3.trans C) _ _ U,(∀xs,o≠.lst xs),.lst (g.map Ϙ),.tup (p.1.map kV),(by simpa using rv),OO X pins σ tg R,((n:Int) - (i:Nat)),λb u q=>D_ _ q,oN I hg hm ?_ hdb,λ_ _ q=>D_ _ q,h.Ns εp mg,(by simpa using hl),⟨o,k _ o ho,hd⟩,I1.hok.fresh this,xs.length=ys.length,On i πC,cvs.lookup b=some v,H c'=some πh,s.heap.objs.size<=S,(e_ N l t).zip bs,b_ K H1 l (rowV rs),b_.of (s4 _ _ h3),by rw[wC a7];rfl,Ee ζj none,Un fs ex H H1 h h1,pyNext ιk,compareOp .NotEq,by rw[F6];omega,λfl s' hs=>?_,H p=some γV,ns.map WData.int,HF γi g.w1 n,DP r w N (T h) x,tm r w (T f p) c=1,S.frees _ hn rfl,⟨o,k b o hc e⟩,Jn K l1 l2 xs ys,(.int (0+(i:Nat))),λh' hn hs=>?_,λ_ _ _=>False,Bool->Shared->Prop,A.units+64 < cLine,Un fs ex H H' h h',pl.mem_iff.mp hi,(EM "key",.ref fa),.tup (ks.map kV),.dK (FH kvs k v),⟨none,rfl,rfl⟩,by rw[IG];omega,(⟨by omega,y.2⟩),⟨_,rfl,rfl,?_⟩,aM ο dj rfl,(b7 n).map δN,srow.getD k none,(by rw[cj,δP]),λ_ _ _ _=>rfl,DK cV γ,H t=some δT,by rw[o_];omega,(∀k∈L',k < N+M),H D=some ζV,by rw[hl];omega,k3.more Rw.ls_ms,by rw[ga];omega,I.ok.noex b o e,⟨_,j,h,hL,r'⟩,setItem ov iv v,s3.heap.objs.size,slot_list_setitem,⟨_,rP h h',g⟩,λk=>Z k\/k=p,(by rw[s_ hj,e]),⟨t,u,v,k _ e⟩,cvs.lookup b=none,λx c z=>RZ z,Er P w H' εs,⟨p',a2,a3,a4⟩,h1.symm.trans e,q_ (LR δU),λe=>by omega,X.mg "min" = none,ns.map Prod.fst,ay cH ai Θ,ay bO γf ai,.lst ιs,λb o z e=>?_,.lst [V.ref p2],J.sm _ _ ν4,λH2 s2 g=>?_,λH2 s2 U=>?_,.lst (rowV [k]),(p_ R).filter f,.lst (rowV way),Option νd,(∀k∈L,k < N+M),k3 _ _ (nl g) g,k.more Rw.ls_ms,ay cH Θ ai,List V->Hp->Prop,TP X pins σ Q,α->Shared->Prop,IsRange.new ..,binaryOp .Mult,.builtin "min",NU K C name=true,.type "object",.cons rfl .nil,pl.isList.typeIs,.builtin "len",⟨o,e,ex.2.1⟩,t.lt h k hh hk,λx=>z_ R hf,.lst (ys++[y]),Js z TI TO i1 i2,λ_ _ _ z=>z,decide_eq_decide,Ea (Gp (DS q)),λb o' z=>?_,.Name "min" p0,by rw[Q3];rfl,.ref δK,⟨dx,s _ _ e⟩,row.length - i,os.getD i none,GF.tm r w y0 v,.lst [V.int 1],ds.length < 9000,hk k δO,λi=>F (N+i),⟨k,rest,rfl⟩,(∀t∈ts,t < M),λ_=>V.int 1,((at'+i) / N,nd),((i+j) / R.N,nd),dv R.N nk nb Y,LZ ε,bf fp δx n,.lst (rowV bs),fs.map (·.1),AllBare s'.gens,⟨v,H,I,r,h⟩,.If c a b pos,Nat->Heap->Prop,binaryOp .Add,hb _ _ _ _ ?_,⟨z,H,I,C,q⟩,F.slot_int_rmul,wpAny_rule ?_,⟨t,h.nox,q⟩,λb u e=>?_,.type "range",.cons ru .nil,λb u z=>?_,kas_rev p 0 m,StateT.run_pure,entry_list_sort,List Key × V,Fh γ,K.lookup t=none,.int ν3 t,.tup [kV k,v],⟨_,b_.of j⟩,bo (aa aO ac),ks.set k true,(∀z,Pz z->F z),Int × List Nat,.lst (rowV d),⟨_,b_.of g⟩,bA N cs ts nk,es.map (·.2),GF.Good R.r R.w,S.I.full.toGood,.ext (i0 v D),G6 R.N i bs s,(m+1) * R.K.L,r_ P w H h a o,λ_ hb=>hb,Array GenState,eval a π,eval b π,⟨H1,I1,q1⟩,St->Hp->Prop,Int->Int->Prop,.ins C dx [],Slot T name id,Obj.mapSeq f,true == true,DP r w n a x,step x H7 y7,.lst (row j),⟨hr,h1,h2⟩,h.objs.size<=x,p_ γP,slot_list_sort,MN hS rfl ?_,(.int (f:Nat)),k < row.length,cf bp M N Lp,Fv _ (Ez el),.lst [ε9],.lst (Ej cs),.lst (Ej os),(bJ g).mp hk,es++[(s,nd)],C.map (·.1),dv N nk nb X,⟨_,rfl,r⟩,I.cne x c e,SP X pins D,X.mg x=some u,PC X op a b t,⟨H1,I1,q⟩,b_ X.K H a xs,Ew X.K H a xs,PA X [a,b] ta,.int (lo+i),λ_=>none,ak N ps γn,hr.deeper _,getItem o i,⟨rfl,fin⟩,x < 2 ^ (w+1),Ir δc,s h k hh hk,T.obj _ _ Y,eval_ListComp,j < ds.length,I.blt T.blt,IntsAre vs ns,λb z=>?_,S.keys.length,nn _ εV,⟨_,h,rfl⟩,xs[i]?=some x,((g:Int) % 2),⟨_,rfl,q⟩,ht.on i p e,λk y=>?_,1 * (N+M)<=30,s3.trans s4,ks.length=N+M,j < os.length,h.hd i l el,yJ hr.units,Mf c1 c2 c3,k < os.length,J.sm _ _ hA,s1.trans sx,xs.getD j d,G6 R.N i bs,(i+j) / R.N,ks.getD i 0,GG X st prs,ff r δx,ay xZ ai ai,R.N * R.K.S,i+bs.length]
def zqB:=include_str by first|exists xx|refine xq ?_|refine τ;intro u_|exists xl aJ|try dsimp only[L2.k_,List.set,List.map,List.append,List.replicate,HAppend.hAppend,Append.append,List.length,Nat.reduceAdd,Nat.reduceSub]|intro u_|try dsimp only|refine x1 ?_|cases this|exact this|obtain⟨dx,hA⟩:=I.obj|dsimp only|subst h';simp only[Ed]|cases rx|subst this|intro g s σ H Q I h|refine ϝ;refine c_ δ0 ι|refine τ;intro u_;intro u_|have n8:=I.W.n8|refine c_ ι γY|exact DS e|rw[this]|refine δW|exists xl εz|refine ϝ;refine c_ γc ι|rw[if_pos rfl]|exists xl ζe|refine τ;intro u_;refine x1 ?_|exists xl ζg|intro g s σ H D I h|have e:b=it:=by simpa using hb|obtain⟨dx,h1⟩:=id δI|refine c_ δQ ι|obtain⟨t,rfl⟩:=rx|simp[this]|exact y_ _|simp only[Ed]|rw[FZ] at e|exists xc ηd|unfold rowV|unfold rowV;rw[Fa];rfl|obtain⟨ps,h1,h2⟩:=h|exact .inl h2|have hA:=J.sm _ _ hA|simp only[Gx,K4] at q|rw[e] at z;exact absurd z ε|simp only[DH,Fl,or_false] at hb|exists xl θH|refine δe|refine θf|exact hR _ ϟ|refine c_ δA ι|unfold eqn|have n8:=W.n8|refine τ;intro u_;refine ϝ;refine c_ γc ι|have e:b=s1.heap.objs.size:=by simpa using hb|rw[this];rfl|rw[if_neg γ]|by_cases h:b=0|obtain⟨u,rfl,rx⟩:=cg r|dsimp only;rw[if_pos rfl]|exists xc ιX|refine x1 ?_;refine xi η8 ?_|exact c_ γc ζ7|rw[hz] at q|unfold newV|exact .inl q|intro j s σ H Q I h|intro wh g s σ H Q I h|subst e;obtain⟨o,e,c,d⟩:=st;exact νu|obtain⟨f0,f1,f2,f3,f4,f5⟩:=hf it ό|intro g s σ H R I h|subst ex;obtain rfl:u=Ev a:=rx|by_cases e:i=h|rw[t_,s_ h];rfl|have e:(compEnvC sc cl C π).kindOf x=(sc.names.lookup x).map λk=>if ιx=true then NameKind.cell else k:=cz θS x|rw[DF] at h|rw[l_] at h;subst h|rw[l_] at h';obtain⟨a',xs',z,q',t'⟩:=h'|simp only[l_] at h;subst h|subst h';cases r';simp only[Ed]|subst h';obtain⟨t',rfl⟩:=r';simp only[Ed]|simp only[l_] at h';obtain⟨a',D,rfl,q',t'⟩:=h'|have k1:=t.length|have e:(0:Int)+(i:Nat)=(i:Nat):=by omega|cases rx;obtain⟨g,rv,⟨o,nn,e1,e2,e3,e4⟩,hz⟩:=I.list hq|have:=ζC;rw[o_] at this|rw[hs.2 b ζA];exact D_ _ e|have j:s.heap.get? d=some o:=(I.hok d _ hd).1|have eo:o'=o:=DU ξw;subst eo;rw[ho] at g3|refine c_ δF δF|exact .inr z|refine c_ ι ξ5|have el:(ps.map Ϙ).length=M:=by rw[o_,δq]|rw[t_,s_ γ]|rw[eg] at hR|rw[ev] at gi|intro i;rw[DO,DO,DO]|dsimp only[Option.map];rw[eg]|obtain⟨dx,Lp,qs,h1,h2,h3⟩:=id γT|obtain⟨dp,hp⟩:=id hS.sh|have hC:=I.code.same J.sm;obtain⟨dc,Lp,qs,hc,_,_⟩:=id γT|by_cases m:k∈nk|intro u_;refine xq ?_|exact n1 _ (DU z).symm|exact .head _|have n8:=S.I.W.n8|refine Iq ι ι|exact nomatch e|intro g s σ H Q I hw|obtain⟨c,rfl,q1⟩:=q1|rw[if_neg Fp]|obtain⟨C,rv,p,hz⟩:=I.list hq|obtain⟨u,hu,ru⟩:=rv.get hx;obtain⟨f0,f1,f2,f3,f4,f5⟩:=hf it ό|subst e;exact I1.fpOk Γ ξ3|rw[show DE f v χj=ρi from rfl]|by_cases hk:k=f|cases rx;obtain⟨t,rfl⟩:=ry|have hl:=r.length|subst h;simp[m_]|by_cases hy:y=0|subst hy;exact m_ 0|rw[DM,gg,ihy (y / 2) γ];simp|unfold DZ at this|by_cases e:i=hs.length|rw[if_neg y,if_neg γ]|simp only[DH,Fl,or_false,not_or] at hb|simp only[l_] at h';obtain⟨a,xs,rfl,q,t⟩:=h';cases r';obtain⟨g,rv,p,_⟩:=I.list q;simp only[Ed]|simp only[l_] at h';obtain⟨a,xs,rfl,q,t⟩:=h';cases r';obtain⟨g,rv,p,_⟩:=I.tuple q;simp only[Ed]|rw[hk,K9 _ _ Γ,JO];rfl|exact h.on j q e|rw[t_,s_ hi]|exact False.elim q|dsimp only;rw[if_neg ε]|rw[if_neg ε]|rw[e] at q;exact q|intro i;rw[DO]|by_cases e:p.1=k|unfold KV at r|rw[ae (λw=>by rw[w,hd] at z;cases z)];exact z|obtain⟨c,hS⟩:=m.hS|by_cases hi:i < ts.length|have hp:(0:Int) < (n:Int):=by omega|dsimp only;rw[aP,aP]|have el:νQ=((2 ^ w:Nat):Int):=by omega|obtain⟨p,ep,hp⟩:=ht.get hi|have er:∀i,(rowV οg).length=N:=λi=>by rw[ap,aI]|rw[Eo] at this;omega|refine τ;intro u_;refine xq ?_|by_cases z:b=rk|rw[z,ab] at e;cases e|rw[ae z] at e;exact e|have nd:=HH.mp h.nd|obtain⟨dx,h1⟩:=hR.ins|obtain⟨dx,h1⟩:=id δI;obtain⟨p,dp,l,ep,el,hp,hl⟩:=hR.at hi|refine c_ δ0 ι|rw[ae z] at e|refine c_ γc ι|obtain⟨k,ek,rfl⟩:=bh hx|have sS:=a_.new (o:=.lst εd) nsl|have m0:=IR st π6|exact n2 _ (DU z).symm|exact I.no _ ζ2|rw[<- y,hr] at w;cases w|have S1:=S.same s1|obtain⟨h0,us,h1,h2,h3⟩:=h|obtain⟨aT,a0⟩:=id ηH|intro e;subst e;rw[h] at h'|subst hb;rw[ab] at e;cases e;exact new|obtain⟨o',e1⟩:=a.there c ob q hx|rw[e] at this;cases this|intro hs hl;obtain⟨hk,⟨L,o,hf,hn,ho,hd⟩,hr⟩:=hl|obtain⟨o',j,h,g,r'⟩:=hm;rw[ho] at g;cases g|obtain⟨d,rfl,q⟩:=q1|cases r1;exact JF ώp|cases r1;refine JF ?_|have e:=οJ;simp only[Ky] at e;omega|rw[e] at e';cases e';rw[d] at d'|have:j=g:=by simpa using congrArg Rn d1|subst this;exact r.inj r'|obtain⟨σ',H',I',q⟩:=q|intro g s σ H x y v u Q I r1 r2 h;obtain⟨i,j,e1,e2,q⟩:=h;subst e1;subst e2;obtain⟨t,rfl⟩:=r1;obtain⟨t',rfl⟩:=r2|obtain⟨σ3,H3,I3,n3⟩:=q3;obtain⟨m',hm,w3⟩:=hN σ3 H3 n3;exact Ω4|intro X hP hw hK hc i g s σ H E I hf st hg;subst hP hw hK;obtain⟨xs,x,hq,hx⟩:=hg|have I1:Inv X g σ H { s with heap:=h' }:=I.turned (t':=s.toks) ιo f0 f1 f3 f4 f5|intro X hP hw hK hc i g s σ H E I hf st hg;subst hP hw hK;obtain⟨xs,hq,hx⟩:=hg|obtain⟨j,rv,p,hz⟩:=I.tuple hq|have z':Data.fields _=Data.cell v:=z|intro X hP hw hK hc i g s σ H E I hf st hg;subst hP hw hK;obtain⟨f0,f1,f2,f3,f4,f5⟩:=hf it ό|obtain⟨t,rfl⟩:=hv|intro g s σ H R I h;refine w_ τS λv s1 ⟨x,H1,I1,r1,q1⟩=>?_;obtain⟨a,e,⟨xs,hq⟩,q⟩:=q1;subst e|obtain⟨t,rfl⟩:=r|intro g s σ H x y v u Q I rx ry h;obtain⟨hs,q⟩:=h|intro g s σ H x y v u Q I rx ry h;obtain⟨rfl,q⟩:=h|intro g s σ H xs us Q I r h;obtain⟨i,j,rfl,q⟩:=h|exact congrArg some e|subst ex;obtain rfl:ov=Ev a:=rx|intro g s σ H Q I hq|have hf:H1 s1.heap.objs.size=none:=I1.hok.fresh Γ|simp at h1 h2;subst h1;subst h2|rw[if_neg h1] at h;cases h|obtain⟨p,xs,i,z,rfl,rfl,hq,he,q⟩:=h|obtain⟨j,h1,h2,h3,h4,h5⟩:=vk he;obtain⟨w,ew,C⟩:=r.get h2|have fin:EP X g σ Q w s:=ύl|rw[Ey,← hl];exact DU h1|simp only[sliceBounds,HT.GJ,O6,show (1:Int) > 0 by decide,if_true]|simp only[h,if_true] <;> omega|simp only[h,if_false] <;> omega|obtain⟨t',rfl⟩:=ry|rw[show g.toArray.any ηD=g.any ηD by simp,oP r fs]|intro C s σ H xs us Q I r h;obtain⟨p,ys,rfl,hq,q⟩:=h;obtain⟨u,rfl,rx⟩:=cg r|obtain⟨z,g,n,r,hl,e⟩:=I.lstM hH|have h2:2 * x < 2 ^ (w+1):=by rw[Hk];omega|have hl:FD.length=48:=rfl|have h1:(c % 48).toNat < FD.length:=by rw[hl];omega|rw[t_,s_ h1];exact GM h1|simp only[Ie,JG,GO,GN] at this;exact this|have hx:x < 2 ^ w:=h x F0|rw[if_pos e,if_pos e]|unfold D0;rw[if_neg ΨE]|obtain⟨y,_,rfl⟩:=Fk.mp hx|rw[if_neg γZ,if_pos μK,GN]|rw[if_pos y,if_pos γ]|intro j s σ H xs us Q I r h;obtain⟨x,c,t,b,rfl,ty,e,q⟩:=h;obtain⟨u,w',rfl,ru,g⟩:=fM r|exact pF I ru ty e λtk=>Ψa|intro X hP hw hK hc i j s σ H E I hf st hg;subst hP hw hK|intro j s σ H R I h|simp only[FZ,q];exact ih|simp only[Gx] at h;obtain⟨⟨⟨⟨h1,h2⟩,h3⟩,h4⟩,h5⟩:=h|exact z.2.imp οr οr|simp only[HZ,LS] at h|rw[e,h];simp only[HZ,LS]|exact congrArg some g|rw[hD];exact I2.laid (t':=s2.toks) ξf Γ ΦW|exact absurd (DS ho) ΨS|exact(f3 b hb).2.1 q|exact(f3 b hb).2.2.1 q|intro X hP hw hK hc i O s σ H E I hf st hg;subst hP hw hK;obtain⟨hz,j,⟨a,b,g⟩,h1,h2⟩:=st|obtain⟨Q,C,p1,_⟩:=I.list q1;obtain⟨J,D,p2,_⟩:=I.list q2|have hx:xs[i]?=some xs[i]:=s_ b1|obtain⟨o1,e1,_⟩:=id h1|rw[ae this];exact(hf b hb).1|rw[l_] at h;obtain⟨a,xs,rfl,q,t⟩:=h|subst this;rw[fb I t t']|intro A d d' v v' u u' hn h h' r r' hu|simp only[Fc] at hn;simp only[l_] at h;obtain⟨a,xs,rfl,q,t⟩:=h|cases r';obtain⟨C,j,p',_⟩:=I.tuple q'|cases r';obtain⟨C,j,p',_⟩:=I.list q'|have:=fb I t t';subst this;rw[gj];exact PJ _|have k2:=ψg;simp only[Ed]|by_cases hl:l.length=l'.length|have hs:E.toArray.size=l.length:=by simp only[Ey];omega|simp only[Fc] at hd;simp only[l_] at h1;obtain⟨a,xs,rfl,q1,t⟩:=h1|simp only[l_] at h2;obtain⟨a',T,z,q',t'⟩:=h2|intro X hP hw hK hc i C s σ H E I hf st hg;subst hP hw hK;obtain⟨⟨old,hz⟩,h1⟩:=st|obtain⟨D,g,p1,_⟩:=I.list q1|obtain⟨i,hi,rfl⟩:=Jz hx|rw[t_,s_ hi];exact h _ οZ|have h':its[i]?=some v:=by simpa using h|have:=ζC;rw[o_] at this;rw[this];exact(ET.mp h').1|have j:p≠s.heap.objs.size:=Ea θX;refine call_any_walk νL|intro C s σ H xs us Q I r h;obtain⟨p,bs,rfl,hq,q⟩:=h;obtain⟨u,rfl,rx⟩:=cg r|rw[Ol,if_neg ξ4] at hf|show wpAny M A ΘF _ E s|by_cases c:Kz z p m < Kz z p ιg|have:=h.ne hn hz (show m < n by omega) (show m - 1 < n by omega) γ|by_cases him:i=j - 1|obtain rfl:l=r:=by omega|by_cases q:i=(l+r) / 2|obtain⟨_,its,rv,ot,e1,e2,n1,e3⟩:=hok t _ z;obtain⟨x,y,rfl,⟨t1,rfl⟩,⟨t2,rfl⟩⟩:=fM rv|rw[Int.add_mul] at this;omega|show ((arrOf st).map (·.2)).size<=_|by_cases hi:i < ns.length|unfold kas_ask;rw[e1,e3]|refine D_ _ (D_ _ ?_);rw[s1.2 b όS];exact keep b o q|rw[gm e,b];exact h2|rw[gp e,b];exact ih|have nn:∀b,H b=none->b≠d:=λb e z=>by rw[z,hd] at e;cases e|rw[ae (nn b z)];exact z|rw[ae ώJ];exact I.free|rw[ae ΩY];exact I.freeC y c e|obtain⟨k',u'⟩:=q|have:p=(k,v):=by simpa using e|intro X hP hw hK hc i D s σ H E I hf st hg;subst hP hw hK;obtain⟨hd,hi⟩:=hg;obtain⟨z,G,vs,g,o',Q,O,g1,g2,g3,g4,g5,g6⟩:=dm γb ξv|have hl:=μy;rw[hl] at st;obtain⟨f0,f1,f2,f3,f4,f5⟩:=hf it ό|have I2:=I1.freeze ea g1|subst e;exact I2.fpOk Γ τx|rw[o_,o_] at this;exact this|intro X hP hw hK hc i J s σ H E I hf st hg;subst hP hw hK;obtain⟨ok,ov,st⟩:=st;obtain⟨hd,hi⟩:=hg;obtain⟨z,G,vs,g,o',T,R,g1,g2,g3,g4,g5,g6⟩:=dm γb ξv|refine xq ?_;refine xw ϗ Ωc ?_;refine xq ?_;refine xi ΞK ?_|refine ϝ;refine c_ νD δF|have:=of_decide_eq_true h;omega|have:=V.int.inj ϊ1;omega|obtain⟨dx,G⟩:=id hF;refine Δy;refine νl|obtain⟨dx,j⟩:=id hF|rw[o_] at this;omega|obtain⟨dB,j⟩:=hB.ins;obtain⟨dF,C⟩:=hB.fld|refine Γ2;dsimp only;rw[el]|obtain⟨dB,g⟩:=hB.ins|rw[mo h,t_,s_ h];rfl|obtain⟨k,hk,rfl⟩:=Fk.mp hx|refine ΓK;refine νl|rw[<- j,GF.HE g hs]|refine xq ?_;refine xi Ωe ?_|have:=DU ei;subst this|rw[aR ep] at hu;exact(DU hu).symm|obtain⟨j,hj⟩:=IV hq|refine ΦP;refine c_ ζ6 ζ6|rw[if_pos z,if_pos εn]|rw[if_neg z,if_neg υk]|refine ΔZ;try dsimp only|have J:=GF.F8 g (MB h3) t3|rw[<- h0 i h1 h2,bu γ]|unfold GF.Dz;rw[if_pos rfl]|refine νi;refine c_ ρ9 ι|have hi:i < M:=by rw[<- el];exact(ET.mp hv).1|obtain⟨p,ep,hp⟩:=ht.get hi;rw[aR ep] at hv|refine τ;intro u_;intro u_;refine x1 ?_|exact s3 _ _ (k2 b o z e)|have el:(qs.map Ϙ).length=M:=by rw[o_,h3.len]|show 1 * (N+M)<=sizeLine|exact DK (by omega:ώQ) ε|obtain⟨dB,hB⟩:=O.blk.ins|rw[e];exact hR _ ϟ|have eg:tks.getD i 0=k:=by rw[t_,ek];rfl|exact absurd hk.2 ε|by_cases hi:i < tks.length|have eg:tks.getD i 0=tks[i]:=by rw[t_,s_ hi];rfl|cases DU hu;refine ϋO|by_cases hi:i < os.length|have eg:os.getD i none=os[i]:=by rw[t_,s_ hi];rfl|have ho:=i6 (R:=N+M) (ks:=ks) (pl:=pl) (k:=o) ϊp|unfold knO;rw[DO,s_ hj];rw[t_,s_ hj] at h|refine xq ?_;refine xi ωO ?_|refine congrArg Φb ?_|refine Δa;refine c_ δA ι|refine νi;refine c_ Δr ι|refine xq ?_;refine xi η8 ?_|refine xq ?_;refine xi Γq ?_|rw[decide_eq_true rfl]|obtain⟨xs,y2⟩:=hR.isLst hb|by_cases z:b=R.RK.dn|rw[kD];exact hR _ ϟ|by_cases hi:i < rs.length|dsimp only[Option.map];rw[eg];rfl|have kg:(knO os).getD k false=false:=by rw[t_,kz];rfl|obtain⟨ps,hp,_⟩:=ιb|have:=GP εU μg;rw[Eo] at this|obtain⟨dx,hA⟩:=I.obj;exact ωG|refine δe;refine c_ ιz (λ_=>?_)|rw[e0] at h2 ⊢;omega|rw[decide_eq_false Ξc,decide_eq_true x];rfl|have sL:=a_.new (o:=.lst εd) nL|obtain⟨dc,Lp,qs,hc,_,_⟩:=id γT|exact((sL.trans s2).trans s3).free np|obtain⟨j,z,h1,h2,_⟩:=hZ (f:=f) (d:=y) (xs:=y :: ys) (P6 _);rw[h] at h2|rw[h2] at y;cases y|obtain⟨ts,h1,h2,h3⟩:=h|have h2:v2=.non:=h2;subst h2|obtain⟨D2,rfl,a2⟩:=h2|have hi:i < (w0 :: ws0).length:=by rw[<- G];exact(ET.mp et).1|have hC:=I.code.same J.sm;obtain⟨dc,Lp,qs,hc,_,_⟩:=id γT;obtain⟨dB,hB⟩:=hC.blk.ins|have sD:=a_.new (o:=.dK []) nD|generalize (upd H D (.dK []))=H1 at sD hD|have h2:=cV (N:=N) (nk:=nk)|refine Γv;rw[<- ev,ib G,ed];exact Φw|obtain⟨ps,y,_⟩:=tb.r|obtain⟨dx,j⟩:=S.ro;obtain⟨X,hR,_⟩:=S.rk;obtain⟨dr,g⟩:=id δI|obtain⟨dx,g⟩:=S.ro|refine xq ?_;refine xi Ωq ?_|rw[<- y,hn] at w;cases w|have asl:=J4.asl;refine δe;refine c_ ιz (λ_=>?_)|obtain⟨j,hj,e1⟩:=Jz hm;obtain⟨j',g,e2⟩:=Jz he|subst this;rw[e1] at e2|unfold cE dv e_;rw[GF.EY]|obtain⟨X,hR,hX⟩:=S.rk|obtain⟨pb,e1,e2⟩:=h3 i u e|obtain⟨h0,ts,h1,h2,h3⟩:=h;refine Ξ3|cases DU hu;obtain⟨en,pl,J,an,a5⟩:=a9 i _ et|have D:=a6 en (Ez J)|rw[if_pos w,if_pos (L9 _ w)]|intro X hP hw hK hc i g sh σ H E I hf st hg;subst hP hw hK;obtain⟨f0,f1,f2,f3,f4,f5⟩:=hf it ό|intro u_;refine @xc _ _ _ _ _ πJ ?_|obtain⟨rx,d,b4,aT⟩:=b6 y hy|rw[a8];try dsimp only[L2.k_,List.set,List.map,List.append,List.replicate,HAppend.hAppend,Append.append,List.length,Nat.reduceAdd,Nat.reduceSub]
local macro_rules|`($n:scientific)=>do let (m,_,e):=n.raw.isScientificLit?.get!;zqG zqA (10*m+e)
def zqH:Option Nat->Nat->Option Nat->Nat|some i,1,_=>i|some i,2,some j=>52+62*i+j|_,_,_=>9999
local macro_rules|`($n:ident)=>let s:=n.getId.toString.toList;let i:=zqH ("γδεζηθιμνξοπρτυχψωΓΔΘΞΦΨΩϊϋόύώϐϑϒϕϖϗϘϙϚϛϜϝϞϟϠϡϢϣϤϥϦϧ".toList.idxOf? s.head!) s.length ("0123456789abcdefghijklmnopqrstuvwxyzABCDEFGHIJKLMNOPQRSTUVWXYZ".toList.idxOf? (s.getD 1 default));if i<1921&&s.length<3 then zqG zqA i else Lean.Macro.throwUnsupported
local macro_rules|`(tactic|show $n:num)=>do `(tactic|($(⟨<-zqG zqB n.getNat⟩)))
open Lean in
local macro_rules (kind:=Lean.Parser.Command.declaration)|d=>if (d[1].isOfKind ``Lean.Parser.Command.definition||d[1].isOfKind ``Lean.Parser.Command.abbrev)&&d[0][4].getNumArgs==0 then return d.setArg 0 (d[0].setArg 4 (mkNullNode #[mkNode ``Lean.Parser.Command.noncomputable #[mkAtom "noncomputable"]])) else Macro.throwUnsupported
local macro_rules|`(#[$a,*])=>if a.getElems.isEmpty then Lean.Macro.throwUnsupported else `(⟨$a,*⟩)
namespace L2
open PySem PySem.Spec PyProof.Rows
abbrev Key:=Sum Int Str
def fL:Key->Value->Bool
 | .inl k,v=>N9 k v
 | .inr x,v=>Rq x v
def Nl (w:ϡ):Key->Int
 | .inl k=>hashInt k
 | .inr x=>hashStr w x
theorem bB:∀{k:Key}{v:θ},fL k v=true->(∃i t,k=Sum.inl i/\v=HY i t)\/(∃x t,k=Sum.inr x/\v=MK x t)
 | .inl i,v,h=>by
  obtain⟨t,e⟩:=Value.isInt_shape (k:=i) (v:=v) h;exact .inl #[i,t,rfl,e]
 | .inr x,v,h=>by
  obtain⟨t,e⟩:=Value.isStrOf_shape (x:=x) (v:=v) h;exact .inr #[x,t,rfl,e]
theorem xN (i:Int) (t:Tok):fL (.inl i) (.int i t)=true:=by simp[fL,N9]
theorem xO (x:Str) (t:Tok):fL (.inr x) (.str x t)=true:=by simp[fL,Rq]
theorem Co (a b:Int):decide ((Sum.inl a:Key)=Sum.inl b)=(a == b):=by
 by_cases e:a=b
 ·subst e;simp
 ·have h:¬ (Sum.inl a:Key)=Sum.inl b:=λq=>e (Sum.inl.inj q)
  rw[decide_eq_false h];exact(beq_eq_false_iff_ne.mpr e).symm
theorem Cq (a b:Str):decide ((Sum.inr a:Key)=Sum.inr b)=decide (a=b):=by
 by_cases e:a=b
 ·subst e;simp
 ·have h:¬ (Sum.inr a:Key)=Sum.inr b:=λq=>e (Sum.inr.inj q)
  rw[decide_eq_false h,decide_eq_false e]
theorem Cr (a:Int) (b:Str):decide ((Sum.inl a:Key)=Sum.inr b)=false:=decide_eq_false (λq=>nomatch q)
theorem Cs (a:Str) (b:Int):decide ((Sum.inr a:Key)=Sum.inl b)=false:=decide_eq_false (λq=>nomatch q)
def bv (prog:Ϧ) (w:ϡ):PySem.KeyKind prog w Key where
 is:=fL
 hash:=Nl w
 inj:=λv a b ha hb=>by
  rcases bB ha with ⟨i,t,rfl,rfl⟩ | ⟨x,t,rfl,rfl⟩
  ·rcases bB hb with ⟨j,u,rfl,e⟩ | ⟨y,u,rfl,e⟩
   ·injection e with e1 _;rw[e1]
   ·show 108
  ·rcases bB hb with ⟨j,u,rfl,e⟩ | ⟨y,u,rfl,e⟩
   ·show 108
   ·injection e with e1 _;rw[e1]
 byValue:=λk v h=>by
  rcases bB h with ⟨i,t,rfl,rfl⟩ | ⟨x,t,rfl,rfl⟩ <;> rfl
 pyHash:=λhv h=>by
  rcases bB hv with ⟨i,t,rfl,rfl⟩ | ⟨x,t,rfl,rfl⟩
  ·exact wpAny_pyHash_int h
  ·exact wpAny_pyHash_str h
 eqBool:=λhu hv h=>by
  rcases bB hu with ⟨i,t,rfl,rfl⟩ | ⟨x,t,rfl,rfl⟩
  ·rcases bB hv with ⟨j,u,rfl,rfl⟩ | ⟨y,u,rfl,rfl⟩
   ·rw[Co] at h;exact PU h
   ·rw[Cr] at h;exact Ri i t y u _ _ _ _ h
  ·rcases bB hv with ⟨j,u,rfl,rfl⟩ | ⟨y,u,rfl,rfl⟩
   ·rw[Cs] at h;exact QU x t j u _ _ _ _ h
   ·rw[Cq] at h;exact wpAny_eqBool_str h
 «strs»:=λk x t v h=>by
  rcases bB h with ⟨i,u,rfl,e⟩ | ⟨y,u,rfl,e⟩
  ·show 108
  ·injection e with e1 _
   subst e1
   cases v <;> rfl
theorem wP (prog:Ϧ) (w:ϡ) (k:Key) (v:θ):(bv prog w).is k v=fL k v:=rfl
theorem uH (prog:Ϧ) (w:ϡ) (i:Int) (t:Tok):(bv prog w).is (.inl i) (.int i t)=true:=xN i t
theorem uI (prog:Ϧ) (w:ϡ) (x:Str) (t:Tok):(bv prog w).is (.inr x) (.str x t)=true:=xO x t
inductive V where
 | non | bl (b:Bool) | int (i:Int) | str (x:Str) | byt (b:Array UInt8) | flt (b:UInt64) | ref (a:Addr) | ty (n:String)
 deriving DecidableEq
def f_:V->Value->Prop
 | .non,u=>u=Jy
 | .bl b,u=>u=MO b
 | .int i,u=>∃t,u=HY i t
 | .str x,u=>∃t,u=MK x t
 | .byt b,u=>∃t,u=RC b t
 | .flt b,u=>∃t,u=OX b t
 | .ref a,u=>u=Ev a
 | .ty n,u=>u=ID n
abbrev h_:List V->List Value->Prop:=Paired f_
theorem h_.length {xs:δ}{us:χ} (r:h_ xs us):xs.length=us.length:=Paired.length r
theorem h_.get:∀{xs:δ}{us:χ}{i:Nat}{x:V},h_ xs us->xs[i]?=some x->∃u,us[i]?=some u/\f_ x u
 | _,_,_,_,.nil,e=>by simp at e
 | _,_,0,_,.cons r _,e=>by simp at e;subst e;exact ώk
 | _,_,i+1,x,.cons _ t,e=>by
  obtain⟨u,h1,h2⟩:=h_.get (i:=i) (x:=x) t ηh
  exact #[u,by simpa using h1,h2]
theorem h_.set {x:V}{u:θ} (r:f_ x u):∀{xs:δ}{us:χ} (i:Nat),h_ xs us->h_ (xs.set i x) (us.set i u)
 | _,_,_,.nil=>.nil
 | _,_,0,.cons _ t=>.cons r t
 | _,_,i+1,.cons q t=>.cons q (h_.set r i t)
theorem h_.append:∀{xs ys:δ}{us ws:χ},h_ xs us->h_ ys ws->h_ (xs++ys) (us++ws)
 | _,_,_,_,.nil,s=>s
 | _,_,_,_,.cons r t,s=>.cons r (h_.append t s)
theorem h_.take:∀{xs:δ}{us:χ} (n:Nat),h_ xs us->h_ (xs.take n) (us.take n)
 | _,_,0,_=>.nil
 | _,_,_+1,.nil=>.nil
 | _,_,n+1,.cons r t=>.cons r (h_.take n t)
theorem h_.drop:∀{xs:δ}{us:χ} (n:Nat),h_ xs us->h_ (xs.drop n) (us.drop n)
 | _,_,0,r=>r
 | _,_,_+1,.nil=>.nil
 | _,_,n+1,.cons _ t=>h_.drop n t
def Ft:Option V->Option Value->Prop
 | some v,some u=>f_ v u
 | none,none=>True
 | _,_=>False
def KV {κ:Type}:List πc->List (κ × Value)->Prop:=Paired λ(p:κ × V) (q:κ × Value)=>p.1=q.1/\f_ p.2 q.2
def kV:Key->V
 | .inl i=>.int i
 | .inr x=>.str x
inductive HO where
 | lst (xs:List V)
 | tup (xs:List V)
 | dK (kvs:List (Key × V)) | dT (kvs:List (List Key × V))
 | set (S:Int->Bool) (n:Nat)
 | ins (C dx:Addr) (fs:List (Str × V))
 | own (x:Addr)
 | xd (fs:List (Str × V))
 | met (f x:Addr)
 | rng (lo hi:Int)
 | frz (o:Obj) (u:HO)
 | tbl (ps:Array Value)
 | ext (φ:Heap->Prop)
abbrev Hp:=Addr->Option HO
def upd (H:Hp) (a:Addr) (o:HO):Hp:=λb=>if b=a then some o else H b
variable {H:Hp}{a:Addr}{o:HO}
theorem ab:upd H a o a=some o:=by unfold upd;rw[if_pos rfl]
variable {b:Addr}
theorem ae (h:b≠a):upd H a o b=H b:=by unfold upd;rw[if_neg h]
theorem aP {u:HO}:upd θ4 a u=upd H a u:=by
 funext b;unfold upd;split <;> rfl
theorem bj {u:HO} (h:χG) (h':H b=some u) (d:o≠u):a≠b:=by
 show 167;exact d (DU h')
theorem al (h:χG) (h':ψt):a≠b:=by
 show 167;cases h'
section
variable (P:Program) (w:World)
def r_ (H:Hp) (h:Heap) (a:Addr):HO->Prop
 | .lst xs=>xs.length≤sizeLine ∧ ∃(its:χ) (n:Nat),h_ xs its∧h.get? a=some { cls:=.type "list",data:=.seq εg n }
 | .tup xs=>xs.length<=sizeLine/\∃its:List Value,h_ xs its/\IsTup h a εg
 | .dK kvs=>kvs.length<=sizeLine/\ηj=false/\∃vs,KV kvs vs/\h.DictOf η2 a vs
 | .dT kvs=>kvs.length<=sizeLine/\ηj=false/\∃xs:List ρV,
   Paired (λ(p:List Key × V) (q:List Key × Addr × Value)=>p.1=q.1/\H q.2.1=some ϋ3/\f_ p.2 q.2.2) kvs xs ∧
   ∃o es ep,h.get? a=some o/\o.ExactDict/\o.data=.dict es ep/\es.toList=xs.map (entryOfKey τC)/\(xs.map (·.1)).Nodup
 | .set S n=>h.SetOf (intKind P w) a S n
 | .ins C dx fs=>H dx=some μu/\fs.length<=1000/\dx≠a/\h.get? a=some ψ2 ∧
   ∃mA,h.Ns1 dx mA/\Φx/\NR mA ύe
 | .own _=>∃o,h.get? a=some o
 | .xd fs=>∃mA,h.Ns1 a mA/\∀f,Ft (fs.lookup f) (mA f)
 | .rng lo hi=>∃t u v,h.get? a=some { cls:=.type "range",data:=.fields [.int lo t,.int hi u,.int 1 v].toArray }
 | .frz o u=>h.get? a=some o/\r_ H h a u
 | .tbl ps=>h.get? a=some { cls:=.none,data:=.fields ps }
 | .met f x=>h.get? a=some (Pl γt ιv)
 | .ext φ=>φ h/\(∃o,h.get? a=some o)/\∀h1 h2:Heap,φ h1->(∀o,h1.get? a=some o->h2.get? a=some o)->φ h2
def Er (H:Hp) (h:Heap):Prop:=∀a o,H a=some o->r_ P w H h a o
end
section
variable {P:Program}{w:World}{H H':Hp}{h h':Heap}{a:Addr}{o:HO}
theorem r_.lt (x:ύP):a < h.objs.size:=by
 cases o with
 | lst xs=>obtain⟨_,_,_,_,e⟩:=x;show 20
 | tup xs=>obtain⟨_,_,_,p⟩:=x;exact p.lt
 | dK kvs=>obtain⟨_,_,_,_,o,_,_,e,_⟩:=x;show 20
 | dT kvs=>obtain⟨_,_,_,_,o,_,_,e,_⟩:=x;show 20
 | set S n=>obtain⟨o,_,_,_,e,_⟩:=x;show 20
 | ins C dx fs=>obtain⟨_,_,_,e,_⟩:=x;show 20
 | own y=>obtain⟨_,e⟩:=x;show 20
 | xd fs=>obtain⟨_,⟨_,_,_,e,_⟩,_⟩:=x;show 20
 | rng lo hi=>obtain⟨_,_,_,e⟩:=x;show 20
 | frz ob u=>obtain⟨e,_⟩:=x;show 20
 | tbl ps=>exact DS (show h.get? a=some _ from x)
 | met f y=>exact DS (show h.get? a=some _ from x)
 | ext φ=>obtain⟨_,⟨_,e⟩,_⟩:=x;show 20
theorem Paired.mapP {α β:Type}{F G:α->β->Prop}:∀{l₁:δH}{l₂:List β},Paired F l₁ l₂->(∀a b,F a b->G a b)->Paired G l₁ l₂
 | _,_,.nil,_=>.nil
 | _,_,.cons r t,f=>.cons (f _ _ r) (Paired.mapP t f)
theorem r_.stay (x:ύP) (k:∀b u,(b=a\/H b=some μu)->h.get? b=some u->h'.get? b=some u)
  (ho:∀b,H b=some μu->H' b=some μu) (ht:Θf):r_ P w H' h' a o:=by
 induction o with
 | lst xs=>obtain⟨z,g,n,r,e⟩:=x;exact⟨z,g,n,r,k _ _ γA e⟩
 | tup xs=>obtain⟨z,g,r,ob,e,c⟩:=x;exact⟨z,g,r,ob,k _ _ γA e,c⟩
 | dK kvs=>obtain⟨z,y,vs,r,ob,es,ep,e,c⟩:=x;exact⟨z,y,vs,r,ob,es,ep,k _ _ γA e,c⟩
 | dT kvs =>
  obtain⟨z,y,xs,r,ob,es,ep,e,c⟩:=x;exact #[z,y,xs,Paired.mapP r λp q z=>Ψ9,ob,es,ep,k _ _ γA e,c]
 | set S n=>obtain⟨ob,es,ep,t,e,c⟩:=x;exact⟨ob,es,ep,t,k _ _ γA e,c⟩
 | ins C dx fs =>
  obtain⟨d,z,ne,e,mA,⟨od,es,ep,e2,c⟩,r⟩:=x;exact #[ho _ d,z,ne,k _ _ γA e,mA,#[od,es,ep,k _ _ (.inr d) e2,c],r]
 | own y=>obtain⟨ob,e⟩:=x;exact⟨ob,k _ _ γA e⟩
 | xd fs=>obtain⟨mA,⟨od,es,ep,e,c⟩,r⟩:=x;exact⟨mA,⟨od,es,ep,k _ _ γA e,c⟩,r⟩
 | rng lo hi=>obtain⟨t,u,v,e⟩:=x;exact⟨t,u,v,k _ _ γA e⟩
 | frz ob u ih=>obtain⟨e,q⟩:=x;exact⟨k _ _ γA e,ih q⟩
 | tbl ps =>
  have e:h.get? a=some { cls:=.none,data:=.fields ps }:=x
  show h'.get? a=some { cls:=.none,data:=.fields ps }
  exact k a _ γA e
 | met f y =>
  have e:h.get? a=some 158e9:=x
  show h'.get? a=some ΩN
  exact k a _ γA e
 | ext φ=>obtain⟨p,⟨o,e⟩,st⟩:=x;exact⟨st _ _ p λo q=>k _ _ γA q,⟨o,k _ _ γA e⟩,st⟩
theorem Er.lt (x:γM) (e:χG):a < h.objs.size:=(x a o e).lt
theorem Er.fresh (x:γM) (e:υO):H a=none:=by
 cases q:H a with
 | none=>rfl
 | some u=>exact absurd (Fg (x.lt q) e) γZ
theorem Er.kept (x:γM) (k:νt):Er P w H h':=λa o e =>
 (x a o e).stay (λb u _ q=>k b u q) (λ_ q=>q) λ_ _ q=>q
theorem Er.laid (x:γM) (k:νt) (hp:υO) (new:r_ P w θ4 h' a o):Er P w θ4 h':=λb u e=>by
 have hn:=x.fresh hp
 by_cases hb:b=a
 ·show 168
 ·rw[ae hb] at e
  exact(x b u e).stay (λc v _ q=>k c v q) (λc q=>by rw[ae μj];exact q) λc xs q=>by rw[ae μj];exact q
end
def Rd (H:Hp) (a:Addr) (u:HO):Prop:=H a=some u\/∃o,H a=some ηs
variable {P:Program}{w:World}{h:Heap}
theorem Rd.ok {u:HO} (r:Rd H a u) (x:γM):r_ P w H h a u:=by
 rcases r with r | ⟨o,r⟩
 ·exact x a u r
 ·obtain⟨_,q⟩:=x a _ r
  exact q
def LD:Option HO->Prop
 | some (.lst _)=>True
 | some (.dK _)=>True
 | some (.dT _)=>True
 | some (.set _ _)=>True
 | some (.ins _ _ _)=>True
 | some (.ext _)=>True
 | _=>False
section
variable {P:Program}{w:World}{H:Hp}{h h':Heap}{x e:Addr}{o':HO}
theorem Er.write (ok:γM) (mu:ψu) (he:τl) (k:Θg) (heo:τm)
  (new:r_ P w (upd H x o') h' x o'):Er P w (upd H x o') h':=λb u q=>by
 have nown:∀c y,H c=some (.own y)->c≠x:=λc y r z=>by subst z;rw[r] at mu;exact mu
 have ntup:∀c xs,H c=some δa->c≠x:=λc xs r z=>by subst z;rw[r] at mu;exact mu
 by_cases hb:b=x
 ·subst hb;rw[ab] at q;cases q;exact new
 ·rw[ae hb] at q
  by_cases hbe:b=e
  ·have q':H b=some 35e5:=by
    rcases he with z | z
    ·exact absurd (hbe.trans z) hb
    ·rw[hbe];exact z
   rw[q] at q';cases q';obtain⟨v,hv⟩:=heo;exact #[v,by rw[hbe];exact hv]
  ·refine(ok b u q).stay (λc v hc r=>k c v ?_ r) (λc r=>by rw[ae (nown c b r)];exact r) λc xs r=>by rw[ae (ntup c xs r)];exact r
   rcases hc with rfl | hc
   ·exact hbe
   ·rintro rfl
    rcases he with z | z
    ·exact nown c b hc z
    ·rw[hc] at z;cases z;exact hb rfl
end
structure Un (fs ex:Ξ) (H H':Hp) (h h':Heap):Prop where
 keep:∀b o,h.get? b=some o->H b=none->b∉fs->b∉ex->h'.get? b=some o
 slot:∀b o,h.get? b=some o->H b=none->b∈fs->b∉ex->∃sl,h'.get? b=some { o with slots:=sl }
 free:∀b o,h.get? b=some o->H b=none->b∉ex->H' b=none
 there:∀b o,h.get? b=some o->b∉ex->∃o',h'.get? b=some o'
 tups:∀b xs,H b=some δa->H' b=some δa
 frzs:∀b o u,H b=some ηs->H' b=some ηs
 tbls:∀b ps,H b=some δT->∃more,H' b=some πs
section
variable {fs fs' ex ex':List Addr}{H H1 H2:Hp}{h h1 h2 h':Heap}{a x e:Addr}{o:HO}
theorem Un.any (u:ϋo) {b:Addr}{ob:Obj} (q:h.get? b=some ob) (n:ψt) (hx:b∉ex):∃sl,h1.get? b=some { ob with slots:=sl }:=by
 by_cases hb:b∈fs
 ·exact u.slot b ob q n hb hx
 ·exact #[ob.slots,u.keep b ob q n hb hx]
theorem Un.trans (a:ϋo) (b:Un fs ex H1 H2 h1 h2):Un fs ex H H2 h h2 where
 keep:=λc ob q n hc hx=>b.keep c ob (a.keep c ob q n hc hx) τD hc hx
 slot:=λc ob q n hc hx=>by
  obtain⟨sl,e1⟩:=a.slot c ob q n hc hx;obtain⟨sl',e2⟩:=b.slot c _ e1 τD hc hx;exact #[sl',e2]
 free:=λc ob q n hx=>by
  show 169;exact b.free c o' e1 τD hx
 there:=λc ob q hx=>by
  show 169;exact b.there c o' e1 hx
 tups:=λc xs q=>b.tups c xs (a.tups c xs q)
 frzs:=λc ob xs q=>b.frzs c ob xs (a.frzs c ob xs q)
 tbls:=λc ps q=>by
  obtain⟨m1,e1⟩:=a.tbls c ps q;obtain⟨m2,e2⟩:=b.tbls c _ e1;exact Ψz
theorem Un.kept (k:νt):Un fs ex H H h h' :=
 #[λb ob q _ _ _=>k b ob q,λb ob q _ _ _=>#[ob.slots,k b ob q],λ_ _ _ n _=>n,λb ob q _=>#[ob,k b ob q],λ_ _ q=>q,λ_ _ _ q=>q,λ_ ps q=>#[#[],by rw[q];simp]]
theorem Un.refl:Un fs ex H H h h:=Un.kept λ_ _ q=>q
theorem Un.laid (k:νt) (hp:υO) (hn:H a=none):Un fs ex H θ4 h h' where
 keep:=λb u q _ _ _=>k b u q
 slot:=λb u q _ _ _=>#[u.slots,k b u q]
 free:=λb u q n _=>by rw[ae (Ea (Fg (DS q) hp))];exact n
 there:=λb u q _=>#[u,k b u q]
 tups:=λb xs q=>by rw[ae μj];exact q
 frzs:=λb u xs q=>by rw[ae μj];exact q
 tbls:=λb ps q=>#[#[],by rw[ae μj,q];simp]
theorem Un.write (mu:ψu) (he:τl) (k:Θg) (heo:τm):Un fs ex H ζ5 h h':=by
 have hx:∀b,H b=none->b≠x:=λb n z=>by subst z;rw[n] at mu;exact mu
 have hb:∀b,H b=none->b≠e:=λb n z=>by
  subst z;rcases he with r | r
  ·exact hx b n r
  ·rw[n] at r;cases r
 have hm:∀b u,H b=some u->¬ LD δn->b≠x:=λb u q nm z=>by subst z;rw[q] at mu;exact nm mu
 refine⟨λb u q n _ _=>k b u (hb b n) q,λb u q n _ _=>⟨u.slots,k b u (hb b n) q⟩,λb u q n _=>by rw[ae (hx b n)];exact n,λb u q _=>?_,
  λb xs q=>by rw[ae τP];exact q,λb u xs q=>by rw[ae τP];exact q,λb ps q=>⟨#[],by rw[ae τP,q];simp⟩⟩
 by_cases hbe:b=e
 ·subst hbe;exact heo
 ·exact #[u,k b u hbe q]
end
def Ml (h:Heap) (H:Hp):List Addr:=(p_ ο7).filter λa=>(H a).isSome
def Gk (h:Heap) (H:Hp):Heap:=PySem.W.hideAll h ψv
theorem xP (h:Heap) (H:Hp):(Gk h H).objs.size=h.objs.size:=PySem.W.hideAll_size _ _
theorem Ac {o:Obj} (e:υB) (n:ψt):(Gk h H).get? b=some o :=
 PySem.W.hideAll_get _ e λhm=>by
  have q:(H b).isSome=true:=(E5.mp hm).2;rw[n] at q;simp at q
theorem Bx {o:Obj} (e:(Gk h H).get? b=some o):h.get? b=some o/\H b=none:=by
 have e':h.get? b=some o:=PySem.W.of_hideAll ψv e;refine #[e',?_]
 cases q:H b with
 | none=>rfl
 | some x =>
  have hm:b∈Ml h H:=E5.mpr #[EF.mpr (DS e'),by simp[q]]
  have z:(Gk h H).get? b=none:=PySem.W.hideAll_none ψv hm;rw[z] at e;cases e
def By (g h:Heap) (L:Addr):List 29e4:=(p_ ο7).filterMap λa=>if a=L\/(g.get? a).isSome=true then none else (h.get? a).map λo=>(a,o)
def rest (g h:Heap) (L d:Addr):List 29e4:=(By g h L).filter λp=>decide (p.1≠d)
structure Mg (K:n_) (mg:Ϡ) (base:Heap):Prop where
 kin:K.In base
 glob:base.Ns εp mg
 blt:∃mb,base.Ns χH mb ∧ ∀x:Str,x ≠ "__name__" → mb x=bootBuiltins x
 nolimit:base.NoLimit
structure Cx where
 prog:Program
 w:World
 K:n_
 mg:Str->Option θ
 base:Heap
 A:Around
 N:List Str
 s₀:Shared
 H₀:Hp
 env:Env
 outer:List Env
 stack:List Env
 ex:List Addr
 fn:Str->Bool
 calm:Bool
 pn:List ζU
 xe:Value->Shared->Prop
def Ff (l:γ7):List Addr:=l.filterMap (·.frame)
abbrev Cx.fs (X:Cx):List Addr:=Ff X.outer
def Mm (sc:γ3) (x:Str):Prop:=sc.names.lookup x=some .local\/sc.names.lookup x=some .cell\/sc.names.lookup x=some .free
def KM (sc:γ3) (x:Str):Prop:=sc.names.lookup x=some .local\/sc.names.lookup x=some .cell
def Np (env:Env) (h:Heap) (m:Ϡ) (x:Str) (u:θ):Prop :=
 (env.kindOf x=some .local/\m x=some u)\/((env.kindOf x=some .cell\/env.kindOf x=some .free)/\∃c,env.cells.lookup x=some c/\h.IsCell c δn)
structure Cx.Ok (X:Cx):Prop where
 mod:Mg X.K X.mg γX
 kind:X.env.scope.kind=.function
 glob:X.env.globals=mainGlobals
 blt:X.env.builtins=builtinsNs
 above:X.s₀.heap.objs.size<=X.env.locals
 inj:∀x y c,X.env.cells.lookup x=some c->X.env.cells.lookup y=some c->x=y
 has:∀x,(X.env.kindOf x=some .cell\/X.env.kindOf x=some .free)->∃c,X.env.cells.lookup x=some c
 cab:∀x c,X.fn x=true->X.env.cells.lookup x=some c->X.s₀.heap.objs.size<=c
 hd:X.calm=true->X.A.handled=none
 frames:X.A.frames=some δp
 stk:X.stack=X.outer\/(δp=X.env :: X.outer/\X.env.frame=some ξV)
 exf:∀b∈X.ex,b≠X.env.locals/\∀x c,X.env.cells.lookup x=some c->c≠b
 bs:∀b o,X.base.get? b=some o->X.s₀.heap.get? b=some o/\X.H₀ b=none
 bsz:X.base.objs.size<=X.s₀.heap.objs.size
 noex:∀b o,X.base.get? b=some o->b∉X.ex
 exfs:∀b∈X.ex,b∉X.fs
 funs:X.s₀.heap.FunFrames γX X.outer
 frf:∀b∈X.fs,X.H₀ b=none
structure Inv (X:Cx) (pins:ϕ) (σ:List (Option V)) (H:Hp) (s:ν):Prop where
 ok:X.Ok
 os:s.os=X.s₀.os
 bare:AllBare μI
 base:Un X.fs X.ex X.H₀ H X.s₀.heap Ψ
 loc:∃m,s.heap.Ns ξV m/\∀(i:Nat) (x:Str) (v:V),X.N[i]?=some x->σ[i]?=some δb->Mm πb x->∃u,f_ v u/\Np π Ψ m x u
 cell:∀x c,X.env.cells.lookup x=some c->∃v,s.heap.IsCell c v
 free:H X.env.locals=none
 freeC:∀x c,X.env.cells.lookup x=some c->H c=none
 pin:∀p∈X.pn++pins,s.heap.get? p.1=some p.2/\H p.1=none/\p.1≠X.env.locals/\p.1∉X.fs/\∀v,p.2.data≠.cell v
 hok:Er ϥ X.w H Ψ
 len:σ.length=X.N.length
variable {t' i:Nat}{ch:List Addr}{N:List Str}{M:Model}{A:Around}{E:Value->Shared->Prop}{x:Str}{v:V}{Q:Unit->Shared->Prop}
section
variable {X:Cx}{pins:List (Addr × Obj)}{σ:List (Option V)}{H H':Hp}{s:Shared}{h':Heap}
theorem Cx.Ok.nofr (ok:X.Ok) {b:Addr}{o:Obj} (e:X.base.get? b=some o):b∉X.fs:=λhb=>by
 have:=(ok.funs.mem hb).1;show 170
theorem Inv.bs (I:ρ):∀b o,X.base.get? b=some o->s.heap.get? b=some o/\H b=none:=λb o e =>
 #[I.base.keep b o (I.ok.bs b o e).1 (I.ok.bs b o e).2 (I.ok.nofr e) ό2,I.base.free b o (I.ok.bs b o e).1 (I.ok.bs b o e).2 ό2]
theorem Inv.bk (I:ρ):∀b o,X.base.get? b=some o->s.heap.get? b=some o:=λb o e=>(I.bs b o e).1
theorem Inv.mod (I:ρ):Mg X.K X.mg X.base:=I.ok.mod
theorem Inv.kIn (I:ρ):X.K.In s.heap:=I.ok.mod.kin.keeps I.bk
theorem Inv.lt (I:ρ):X.env.locals < s.heap.objs.size:=let ⟨_,hn,_⟩:=ε5;hn.lt
theorem Inv.sz (I:ρ):X.s₀.heap.objs.size<=s.heap.objs.size:=DK I.ok.above (IF I.lt)
theorem Inv.nofs (I:ρ) {a:Addr} (h:τQ):a∉X.fs:=λhb=>by
 obtain⟨_,o,ho,_⟩:=I.ok.funs.mem hb;exact absurd (Fg (DS ho) (DK I.sz h)) γZ
theorem Inv.cne (I:ρ):∀x c,X.env.cells.lookup x=some c->c≠X.env.locals:=λx c e z=>by
 obtain⟨v,o,ho,hd⟩:=I.cell x c e;obtain⟨m,⟨o',es,ep,ho',hd',_⟩,_⟩:=ε5;rw[z,ho'] at ho;cases ho;rw[hd'] at hd;cases hd
theorem Inv.funs (I:ρ):s.heap.FunFrames γX X.outer:=by
 have all:∀(l:γ7),(∀b∈Ff l,b∈X.fs)->X.s₀.heap.FunFrames γX l->s.heap.FunFrames γX l:=by
  intro l
  induction l with
  | nil=>intro _ _;trivial
  | cons env r ih =>
   show 171
   have hL:L∈X.fs:=hs L ΞT
   obtain⟨sl,e⟩:=I.base.slot L o ho (I.ok.frf L hL) hL λz=>I.ok.exfs L z hL;exact Γ9
 exact all X.outer ύQ I.ok.funs
theorem Inv.stack (I:ρ):s.heap.FunFrames γX X.stack:=by
 rcases I.ok.stk with e | ⟨e,hf⟩
 ·rw[e];exact I.funs
 ·rw[e]
  obtain⟨m,hn,_⟩:=ε5;refine .cons (by rw[εC];decide) hf hn ?_ I.funs
  exact Heap.get?_none_of_le (DK οH I.ok.above)
theorem Inv.stkSub (I:ρ):∀b∈Ff X.stack,b∈X.env.locals :: X.fs:=λb hb=>by
 rcases I.ok.stk with e | ⟨e,hf⟩
 ·rw[e] at hb;exact Fv _ hb
 ·rw[e] at hb
  unfold Ff at hb;rw[MH,hf] at hb;exact hb
theorem Inv.stkFree (I:ρ):∀b∈Ff X.stack,H b=none:=λb hb=>by
 rcases DH.mp (I.stkSub b hb) with e | hb
 ·rw[e];exact I.free
 ·obtain⟨_,o,ho,_⟩:=I.ok.funs.mem hb
  exact I.base.free b o ho (I.ok.frf b hb) λz=>I.ok.exfs b z hb
theorem Inv.step {g':ύR}{d':Drawn} (I:ρ)
  (hch:πL)
  (keep:∀b o,b≠X.env.locals->b∉X.fs->b∉ch->s.heap.get? b=some o->H b=none->h'.get? b=some o)
  (slot:∀b o,b≠X.env.locals->b∈X.fs->b∉ch->s.heap.get? b=some o->H b=none->∃sl,h'.get? b=some { o with slots:=sl }) (free:∀b o,b∉ch->s.heap.get? b=some o->H b=none->H' b=none)
  (there:∀b o,b∉ch->s.heap.get? b=some o->∃o',h'.get? b=some o')
  (tups:Θf) (frzs:∀b o u,H b=some ηs->H' b=some ηs) (tbls:∀b ps,H b=some δT->∃more,H' b=some πs)
  (ns:∀m,s.heap.Ns ξV m->h'.Ns ξV m) (hok:τR) (hg:AllBare g') :
  Inv X pins σ H' { s with heap:=h',gens:=g',drawn:=d',toks:=t' }:=by
 have C:∀b o,X.s₀.heap.get? b=some o->b≠X.env.locals:=λb o e=>Ea (Fg εL I.ok.above)
 have j:∀b o,X.s₀.heap.get? b=some o->b∉X.ex->b∉ch:=λb o e hx hb=>by
  rcases(hch b hb).1 with z | z
  ·exact hx z
  ·exact absurd (Fg εL z) γZ
 have h:∀x c,X.env.cells.lookup x=some c->∀v,s.heap.IsCell c v->h'.IsCell c v:=λx c e v ⟨o,ho,hd⟩=>by
  have g:c∉ch:=λz=>(hch c z).2.2.1 x c e rfl
  by_cases hc:c∈X.fs
  ·obtain⟨sl,q⟩:=slot c o ώl hc g ho υC
   exact #[_,q,hd]
  ·exact #[o,keep c o ώl hc g ho υC,hd]
 refine #[I.ok,I.os,hg,#[λb o e n hb hx=>?_,λb o e n hb hx=>?_,λb o e n hx=>?_,λb o e hx=>?_,λb xs e=>tups b xs (I.base.tups b xs e),λb o xs e=>frzs b o xs (I.base.frzs b o xs e),λb ps e=>?_],?_,λx c e=>?_,?_,λx c e=>?_,λp hp=>?_,hok,ηG]
 ·exact keep b o ψ3 hb ξW ρW τc
 ·obtain⟨sl,e1⟩:=I.base.slot b o e n hb hx
  obtain⟨D,e2⟩:=slot b _ ψ3 hb ξW e1 τc;exact #[D,e2]
 ·obtain⟨o',e1⟩:=I.base.there b o e hx
  exact free b o' ξW e1 τc
 ·obtain⟨o',e1⟩:=I.base.there b o e hx
  exact there b o' ξW e1
 ·obtain⟨m1,e1⟩:=I.base.tbls b ps e
  obtain⟨m2,e2⟩:=tbls b _ e1;exact Ψz
 ·obtain⟨m,hn,hl⟩:=I.loc
  refine⟨m,ns m hn,λi x v e1 e2 e3=>?_⟩;obtain⟨u,r,l⟩:=hl i x v e1 e2 e3;refine⟨u,r,?_⟩;rcases l with l | ⟨k,c,e,z⟩
  ·exact .inl l
  ·exact .inr #[k,c,e,h x c e _ z]
 ·obtain⟨v,z⟩:=I.cell x c e
  exact #[v,h x c e v z]
 ·obtain⟨m,⟨o,_,_,ho,_⟩,_⟩:=I.loc
  exact free _ o (λz=>(hch _ z).2.1 rfl) ho εV
 ·obtain⟨v,o,ho,hd⟩:=I.cell x c e
  exact free c o (λz=>(hch c z).2.2.1 x c e rfl) ho υC
 ·obtain⟨e,n,ne,nf,d⟩:=I.pin p hp
  have g:p.1∉ch:=λz=>(hch p.1 z).2.2.2 p hp rfl;exact #[keep p.1 p.2 ne nf g e n,free p.1 p.2 g e n,ne,nf,d]
theorem Inv.un (I:ρ) (u:Un X.fs [] H H' Ψ h') (hok:τR):Inv X pins σ H' { s with heap:=h',toks:=t' }:=by
 obtain⟨m,⟨o,es,ep,ho,r⟩,_⟩:=id ε5;obtain⟨sl,hL⟩:=u.any ho εV ό
 exact I.step (g':=s.gens) (d':=s.drawn) (ch:=[]) (λ_ z=>nomatch z) (λb o _ hb _ e n=>u.keep b o e n hb (by simp)) (λb o _ hb _ e n=>u.slot b o e n hb (by simp)) (λb o _ e n=>u.free b o e n (by simp)) (λb o _ e=>u.there b o e (by simp)) u.tups u.frzs u.tbls (λm' hm=>by
  show 172
  exact ό3) hok ε1
theorem Inv.call {g':ύR}{d':Drawn} (I:ρ) (u:Un (Ff δp) ch H H' Ψ h') (hok:τR) (hg:AllBare g')
  (hch:πL) :
  Inv X pins σ H' { s with heap:=h',gens:=g',drawn:=d',toks:=t' }:=by
 obtain⟨m,⟨o,es,ep,ho,r⟩,_⟩:=id ε5;obtain⟨sl,hL⟩:=u.any ho εV λz=>(hch _ z).2.1 rfl
 exact I.step (ch:=ch) hch (λb o hL hb hc e n=>u.keep b o e n (λz=>(DH.mp (I.stkSub b z)).elim hL hb) hc) (λb o _ _ hc e n=>u.any e n hc) (λb o hc e n=>u.free b o e n hc) (λb o hc e=>u.there b o e hc) u.tups u.frzs u.tbls (λm' hm=>by
  show 172
  exact ό3) hok hg
theorem Inv.turned {it:Addr} (I:ρ) (k:∀b o,b≠it->s.heap.get? b=some o->h'.get? b=some o) (hn:H it=none) (hL:it≠X.env.locals)
  (h1:it∈X.ex\/X.s₀.heap.objs.size<=it) (h2:∀x c,X.env.cells.lookup x=some c->c≠it) (h3:∀p∈X.pn++pins,p.1≠it):Inv X pins σ H { s with heap:=h',toks:=t' }:=by
 have g:∀b u,H b=some u->b≠it:=λb u e z=>by rw[z,hn] at e;cases e
 refine I.step (g':=μI) (d':=s.drawn) (ch:=[it]) υP (λb o _ _ hc e _=>k b o ΨO e) (λb o _ _ hc e _=>#[o.slots,k b o (λz=>hc (by simp[z])) e]) (λ_ _ _ _ n=>n)
  (λb o hc e=>#[o,k b o ΨO e]) (λ_ _ e=>e) (λ_ _ _ e=>e) (λb ps e=>#[#[],by rw[e];simp]) (λm hm=>?_) (λb u e=>?_) I.bare
 ·have e:b=it:=by simpa using hb
  subst e;exact #[h1,hL,h2,h3]
 ·obtain⟨o,es,ep,ho,r⟩:=hm
  exact #[o,es,ep,k _ o (Es hL) ho,r]
 ·refine(I.hok b u e).stay ΨA (λ_ q=>q) λ_ _ q=>q
  rcases hc with z | z
  ·rw[z];exact g b u e
  ·exact g c _ z
theorem Inv.tok (I:ρ) (t:Nat):Inv X pins σ H { s with toks:=t }:=I.un (h':=s.heap) (t':=t) Un.refl I.hok
theorem Inv.kept {t':Nat} (I:ρ) (k:νo):Inv X pins σ H { s with heap:=h',toks:=t' }:=I.un (Un.kept k) (I.hok.kept k)
theorem Inv.laid {a:Addr}{o:HO}{t':Nat} (I:ρ) (k:νo) (hp:τQ) (new:Φf) :
  Inv X pins σ θ4 { s with heap:=h',toks:=t' }:=I.un (Un.laid k hp (I.hok.fresh hp)) (I.hok.laid k hp new)
theorem Inv.write {x e:Addr}{o:HO}{t':Nat} (I:ρ) (mu:ψu) (he:τl) (k:∀b u,b≠e->s.heap.get? b=some u->h'.get? b=some u) (heo:τm)
  (new:r_ ϥ X.w ζ5 h' x o):Inv X pins σ ζ5 { s with heap:=h',toks:=t' }:=I.un (Un.write mu he k heo) (I.hok.write mu he k heo new)
theorem Inv.pins_of {pins':ϕ} (I:ρ) (h:∀p∈pins',s.heap.get? p.1=some p.2/\H p.1=none/\p.1≠X.env.locals/\p.1∉X.fs/\∀v,p.2.data≠.cell v):Inv X pins' σ H s :=
 #[I.ok,I.os,ε1,I.base,ε5,μJ,εV,οV,λp hp=>(Fw.mp hp).elim (λz=>I.pin p (L9 _ z)) (h p),γb,ηG]
theorem lU (hN:N.Nodup) {i j:Nat}{x:Str} (a:N[i]?=some x) (b:N[j]?=some x):i=j:=by
 obtain⟨h1,e1⟩:=ET.mp a;obtain⟨h2,e2⟩:=ET.mp b;exact(KC hN).mp (e1.trans e2.symm)
theorem pB {u:θ} (I:ρ) (hN:θL) (hi:ηl) (hx:θv) (r:ζM)
  (h:∀s',Inv X pins ξc H s'->(∃a,JQ a Ψ s'.heap/\(a=X.env.locals\/X.env.cells.lookup x=some a))->Q () s') (hf:X.fn x=true\/X.env.scope.names.lookup x=some .local:=by first | exact .inl rfl | exact .inr rfl | assumption):wpAny M A ϊ8 Q E s:=by
 obtain⟨m,hn,hl⟩:=id ε5
 have R:(X.env.scope.kind == .class || (X.env.scope.kind == .module && X.env.locals != X.env.globals))=false:=by rw[εC];rfl
 have O:i < σ.length:=by rw[ηG];exact(ET.mp hi).1
 have cne:=I.cne
 have g:∀{a:Addr}{h':Heap},(∃o,s.heap.get? a=some o/\H a=none)->JQ a Ψ h'->Er ϥ X.w H h':=λ{a h'} ha hs b ob e=>by
  obtain⟨_,_,C⟩:=ha;refine(I.hok b ob e).stay (λc w' hc q=>(hs.2 c ?_).trans q) (λ_ q=>q) λ_ _ q=>q;rintro rfl;rcases hc with rfl | hc
  ·rw[C] at e;cases e
  ·rw[C] at hc;cases hc
 rcases hx with hk | hk
 ·refine wpAny_storeName_local hk hn (λh' Y hs=>?_) R
  obtain⟨oL,_,_,U,_⟩:=id hn;refine h _ #[I.ok,I.os,ε1,ωU,#[_,Y,λj y v' e1 e2 e3=>?_],λy c e=>?_,εV,οV,λp hp=>?_,g #[oL,U,εV] hs,by simpa using I.len] #[_,hs,.inl rfl]
  ·exact(hs.2 b ρX).trans ρW
  ·obtain⟨sl,e1⟩:=I.base.slot b o e n hb hx
   exact #[sl,(hs.2 b ρX).trans e1]
  ·obtain⟨o',e1⟩:=I.base.there b o e hx
   exact #[o',(hs.2 b ρX).trans e1]
  ·by_cases hj:j=i
   ·subst hj
    rw[hi] at e1;cases e1;rw[Me O] at e2
    cases e2;exact #[u,r,.inl #[hk,by simp]]
   ·rw[K8 (Es hj)] at e2
    obtain⟨u',r',q⟩:=hl j y v' e1 e2 e3;refine⟨u',r',?_⟩;rcases q with ⟨k,e⟩ | ⟨k,c,e,z⟩
    ·refine .inl #[k,?_]
     have:y≠x:=λe=>hj (lU hN e1 (e ▸ hi))
     simp[this,e]
    ·exact .inr #[k,c,e,z.sameBut hs (cne y c e)]
  ·obtain⟨w',z⟩:=I.cell y c e
   exact #[w',z.sameBut hs (cne y c e)]
  ·obtain⟨e,n,ne,nf,d⟩:=I.pin p hp
   exact #[(hs.2 p.1 ne).trans e,n,ne,nf,d]
 ·have D:X.fn x=true:=by
   rcases hf with z | z
   ·exact z
   ·rw[z] at hk;cases hk
  obtain⟨c,hc⟩:=I.ok.has x (.inl hk);obtain⟨w',z⟩:=I.cell x c hc;refine wpAny_storeName_cell εC hk hc z (λh' J hs=>?_);obtain⟨oc,G,T⟩:=id z;refine h { s with heap:=h' } ⟨I.ok,I.os,I.bare,ωU,⟨m,hn.sameBut hs (Es (cne x c hc)),λj y v' e1 e2 e3=>?_⟩,λy c' e=>?_,I.free,I.freeC,λp hp=>?_,g ⟨oc,G,I.freeC x c hc⟩ hs,by simpa using I.len⟩ ⟨c,hs,.inr hc⟩
  ·exact(hs.2 b ρs).trans ρW
  ·obtain⟨sl,e1⟩:=I.base.slot b o e n hb hx
   exact #[sl,(hs.2 b ρs).trans e1]
  ·obtain⟨o',e1⟩:=I.base.there b o e hx
   exact #[o',(hs.2 b ρs).trans e1]
  ·by_cases hj:j=i
   ·subst hj
    rw[hi] at e1;cases e1;rw[Me O] at e2
    cases e2;exact #[u,r,.inr #[.inl hk,c,hc,J]]
   ·rw[K8 (Es hj)] at e2
    obtain⟨u',r',q⟩:=hl j y v' e1 e2 e3;refine⟨u',r',?_⟩;rcases q with q | ⟨k,c',e,z'⟩
    ·show 66
    ·refine .inr #[k,c',e,z'.sameBut hs ?_]
     rintro rfl;exact hj (lU hN e1 (I.ok.inj _ _ _ e hc ▸ hi))
  ·by_cases hcc:c'=c
   ·subst hcc;exact #[_,J]
   ·obtain⟨w2,z2⟩:=I.cell y c' e
    exact #[w2,z2.sameBut hs hcc]
  ·obtain⟨e,n,ne,nf,d⟩:=I.pin p hp
   refine #[(hs.2 p.1 ?_).trans e,n,ne,nf,d];intro q;rw[q,G] at e
   have q':oc=p.2:=DU e;exact d w' (by rw[<- q'];exact T)
theorem lV {u:θ} (I:ρ) (hN:θL) (hi:ηl) (hx:θv) (r:ζM)
  (h:∀s',Inv X pins ξc H s'->Q () s') (hf:X.fn x=true\/X.env.scope.names.lookup x=some .local:=by first | exact .inl rfl | exact .inr rfl | assumption):wpAny M A ϊ8 Q E s :=
 pB I hN hi hx r (λs' I' _=>h s' I') hf
theorem Inv.call' {s':ν} (I:ρ) (ho:s'.os=s.os) (u:Un (Ff δp) ch H H' Ψ εs) (hok:Er ϥ X.w H' εs) (hg:ύf)
  (hch:πL):Inv X pins σ H' s':=by
 obtain⟨h',g',d',t',o'⟩:=s'
 have e:o'=s.os:=ho;subst e;exact I.call (g':=g') (t':=t') (d':=d') u hok hg hch
end
abbrev XK:=Value->Option Addr->Hp->Prop
abbrev St:=List (Option V)
abbrev VK:=V->Hp->Prop
abbrev TE:=St->Hp->VK->Prop
abbrev TT:=St->Hp->(Bool->Hp->Prop)->Prop
abbrev TA:=St->Hp->(List V->Hp->Prop)->Prop
structure Fe where
 nx:St->Hp->Prop
 rt:VK
 bk:St->Hp->Prop:=λ_ _=>False
 ct:St->Hp->Prop:=λ_ _=>False
abbrev TS:=Fe->St->Hp->Prop
def EP (X:Cx) (pins:ϕ) (σ:St) (Q:VK) (u:θ) (s':ν):Prop:=∃v H',Inv X pins σ H' s'/\f_ v u/\Q v H'
def TP (X:Cx) (pins:ϕ) (σ:St) (Q:εy) (b:Bool) (s':ν):Prop:=∃H',Inv X pins σ H' s'/\Q b H'
def AP (X:Cx) (pins:ϕ) (σ:St) (Q:όA) (us:χ) (s':ν):Prop:=∃vs H',Inv X pins σ H' s'/\h_ vs us/\Q vs H'
def SP (X:Cx) (pins:ϕ) (D:Fe) (f:Flow) (s':ν):Prop :=
 match f with
 | .next=>∃σ' H',Inv X pins σ' H' s'/\D.nx σ' H'
 | .brk=>∃σ' H',Inv X pins σ' H' s'/\D.bk σ' H'
 | .cont=>∃σ' H',Inv X pins σ' H' s'/\D.ct σ' H'
 | .ret u=>∃v σ' H',Inv X pins σ' H' s'/\f_ v u/\D.rt v H'
def PE (X:Cx) (e:Expr) (t:TE):Prop :=
 ∀(pins:ϕ) (s:ν) (σ:St) (H:Hp) (Q:VK),Inv X pins σ H s->t σ H Q->wpAny ω X.A πz δi X.xe s
def PT (X:Cx) (e:Expr) (t:TT):Prop :=
 ∀(pins:ϕ) (s:ν) (σ:St) (H:Hp) (Q:εy),Inv X pins σ H s->t σ H Q->wpAny ω X.A (isTrue e π πz) όB X.xe s
def PW (X:Cx) (e:Expr) (t:TT):Prop :=
 ∀(whole:Sem Value) (pins:ϕ) (s:ν) (σ:St) (H:Hp) (Q:εy),Inv X pins σ H s->t σ H Q->wpAny ω X.A (isTrue e π whole) όB X.xe s
variable {X:Cx}{e:Expr}
theorem PW.pt {t:TT} (h:PW X e t):PT X e t:=h _
def PA (X:Cx) (es:εh) (t:TA):Prop :=
 ∀(pos:Pos) (pins:ϕ) (s:ν) (σ:St) (H:Hp) (Q:όA),Inv X pins σ H s->t σ H Q->wpAny ω X.A (spliced (backTo pos ζ0)) (AP X pins σ Q) X.xe s
def PS (X:Cx) (st:Stmt) (t:TS):Prop :=
 ∀(pins:ϕ) (s:ν) (σ:St) (H:Hp) (D:Fe),Inv X pins σ H s->t D σ H->wpAny ω X.A (exec st π) ώm X.xe s
def FK (X:Cx) (st:ζ8) (t:TS):Prop :=
 ∀(pins:ϕ) (s:ν) (σ:St) (H:Hp) (D:Fe),Inv X pins σ H s->t D σ H->wpAny ω X.A (execs st π) ώm X.xe s
variable {s:Shared}
theorem w_ {α:Type}{t:Sem α}{Q Q':όC} (h:wpAny M A t Q E s) (hQ:∀a s,Q a s->Q' a s):wpAny M A t Q' E s:=Gy h hQ λ_ _ x=>x
variable {pos:Pos}{pins:List (Addr × Obj)}{σ:St}{op:CmpOp}{t:TE}
section
variable {X:Cx}
inductive JY (i:Nat) (σ:St) (H:Hp) (Q:VK):Prop
 | mk:∀v,σ[i]?=some (some v)->Q v H->JY i σ H Q
def tC (v:V):TE:=λ_ H Q=>Q v H
theorem Ct (hN:ηl) (hv:Mm πb x) (hd:εu=false:=by decide) (hcd:ΦJ=false:=by decide):PE X ιp (JY i):=by
 show 67;obtain⟨v,e,h⟩:=h;obtain⟨m,hn,hl⟩:=ε5;obtain⟨u,r,l⟩:=hl i x v hN e hv
 have fin:EP X j σ Q u s:=⟨v,H,I,r,h⟩;rcases l with ⟨hk,hm⟩ | ⟨hk,c,hc,g⟩
 ·exact Pb (Qu εC hk hn hm fin) hd
 ·rcases hk with hk | hk
  ·exact Pb (Ro εC hk hc g fin) hd
  ·exact Pb (wpAny_loadName_free εC hk hc g fin hcd) hd
theorem ai {i j pos}:PE X (.Constant ζG j pos) (tC ζG):=λ_ _ _ H _ I h=>wpAny_Constant_int #[.int i,H,I.tok _,ϒ,h]
theorem dj {b j pos}:PE X (.Constant ψ4 j pos) (tC θW):=λ_ _ _ H _ I h=>Constant_bool #[.bl b,H,I,rfl,h]
theorem aO {j pos}:PE X (.Constant .none j pos) (tC .non):=λ_ _ _ H _ I h=>Constant_none #[.non,H,I,rfl,h]
theorem eV {x j pos}:PE X (.Constant ψw j pos) (tC ψw):=λ_ _ _ H _ I h=>Calls.Constant_str #[.str x,H,I.tok _,ϒ,h]
def Gl (X:Cx) (x:Str):Prop:=X.env.kindOf x=some .globalImplicit
theorem oN {u:θ}{Q:Ϣ} (I:ρ) (hg:ζN) (hm:ώn) (h:Q u s)
  (hd:εu=false:=by decide):wpAny ω X.A ΨB Q E s :=
 R0 εC hg (Calls.loadGlobal_global Θk hm h) hd
theorem cx {u:θ}{Q:Ϣ} (I:ρ) (hg:ζN) (hm:ο8) (hv:ϊ9) (h:Q u s)
  (hn:x ≠ "__name__":=by decide) (hd:εu=false:=by decide):wpAny ω X.A ΨB Q E s:=by
 obtain⟨mb,h1,h2⟩:=I.mod.blt;exact R0 εC hg (Calls.loadGlobal_builtin Θk hm (by rw[ψx];exact h1.keeps I.bk) ((h2 x hn).trans hv) h) hd
theorem bx {u:θ} (hg:ζN) (hm:ώn) (r:ζM) (hd:εu=false:=by decide):PE X ιp (tC v) :=
 λ_ _ _ H _ I h=>oN I hg hm ύg hd
theorem u5 {u:θ} (hg:ζN) (hm:ο8) (hv:ϊ9) (r:ζM) (hn:x ≠ "__name__":=by decide) (hd:εu=false:=by decide):PE X ιp (tC v) :=
 λ_ _ _ H _ I h=>cx I hg hm hv ύg hn hd
variable {a b:Expr}{ta tb:TE}{pos:Pos}
def PC (X:Cx) (op:CmpOp) (a b:Expr) (t:TE):Prop :=
 ∀(pins:ϕ) (s:ν) (σ:St) (H:Hp) (Q:VK),Inv X pins σ H s->t σ H Q →
  wpAny ω X.A ύS (λv s₁=>wpAny ω X.A ύT (λu s₂=>wpAny ω X.A (compareOp op v u) δi X.xe s₂) X.xe s₁) X.xe s
inductive Ld (Q:εy) (x:V) (H1:Hp):Prop
 | mk:∀c,x=.bl c->Q c H1->Ld Q x H1
def tB (t:TE):TT:=λσ H Q=>t σ H λx H1=>Ld Q x H1
theorem Cu (h:ώo) (h1:behindInMarks op b=false:=by first | exact nobehind _ ε ε | rfl):PE X νP t:=λg s σ H Q I hw=>wpAny_Compare1 (h g s σ H Q I hw) h1
theorem rN (h:ώo) (h1:behindInMarks op b=false:=by first | exact nobehind _ ε ε | rfl):PT X νP (tB t):=by
 show 109;refine RH (w_ ξd λv s1 h1=>w_ h1 λu s2 h2=>w_ h2 λc s3 ⟨x,H1,I1,r1,q1⟩=>?_) h1;show 173
 show 174
theorem aV (h:PE X e t) (he:∀whole,isTrue e π whole=(do let v ← whole;standAt e.pos;holding [v] (truthy v)):=by intro _;rfl):PT X e (tB t):=by
 show 109;refine isTrue_plain (w_ ξd λv s1 ⟨x,H1,I1,r1,q1⟩=>?_) (he _);show 173
 show 174
variable {tA tB':TT}{rest:List Expr}
def NC (t u:TT):TT:=λσ H Q=>t σ H λc H1=>if c=true then u σ H1 Q else Q υ H1
def Qd (t u:TT):TT:=λσ H Q=>t σ H λc H1=>if c=true then Q true H1 else u σ H1 Q
def M8 (t:TT):TT:=λσ H Q=>t σ H λc H1=>Q (!c) H1
theorem ky (ha:μk):PW X (.BoolOp .And [a] pos) tA:=by
 show 68;refine isTrue_and Ξ4
 cases c with
 | true=>exact isTrue_and_nil e
 | false=>exact e
theorem ba (ha:μk):PW X (.BoolOp .Or [a] pos) tA:=by
 show 68;refine isTrue_or Ξ4
 cases c with
 | false=>exact isTrue_or_nil e
 | true=>exact e
theorem mL (ha:μk) (hb:PW X ΦK tB'):PW X ΞF (NC tA tB'):=by
 show 68;refine isTrue_and ΔK
 cases c with
 | true=>exact hb wh g s1 σ H1 Q I1 q1
 | false=>exact ύU
theorem bb (ha:μk) (hb:PW X ΦT tB'):PW X ΞU (Qd tA tB'):=by
 show 68;refine isTrue_or ΔK
 cases c with
 | true=>exact ύU
 | false=>exact hb wh g s1 σ H1 Q I1 q1
theorem bW (ha:μk):PT X ϊa (M8 tA):=by
 show 15;exact isTrue_not (ha g s σ H (λc H1=>Q (!c) H1) I h)
inductive u7 (tb:TE) (σ:St) (Q:VK) (x:V) (H1:Hp):Prop
 | mk:∀c,x=.bl c->(if c=true then tb σ H1 Q else Q (.bl false) H1)->u7 tb σ Q x H1
def C7 (ta tb:TE):TE:=λσ H Q=>ta σ H λx H1=>u7 tb σ Q x H1
inductive xQ (tb:TE) (σ:St) (Q:VK) (x:V) (H1:Hp):Prop
 | mk:∀c,x=.bl c->(if c=true then Q (.bl true) H1 else tb σ H1 Q)->xQ tb σ Q x H1
def Nj (ta tb:TE):TE:=λσ H Q=>ta σ H λx H1=>xQ tb σ Q x H1
inductive u8 (Q:VK) (x:V) (H1:Hp):Prop
 | mk:∀c,x=.bl c->Q (.bl (!c)) H1->u8 Q x H1
def C8 (ta:TE):TE:=λσ H Q=>ta σ H λx H1=>u8 Q x H1
theorem mM {op}{t:TE} (h:PE X a t):PE X (.BoolOp op [a] pos) t:=λpins s σ H Q I hw=>BoolOp_one (h pins s σ H Q I hw)
theorem rO (ha:εD) (hb:PE X ΦK tb):PE X ΞF (C7 ta tb):=by
 show 15;refine BoolOp_and ρ8;show 110
 show 175
 cases c with
 | true=>exact hb g s1 σ H1 Q I1 q1
 | false=>exact⟨.bl υ,H1,I1,rfl,q1⟩
theorem Bb (ha:εD) (hb:PE X ΦT tb):PE X ΞU (Nj ta tb):=by
 show 15;refine BoolOp_or ρ8;show 110
 show 175
 cases c with
 | false=>exact hb g s1 σ H1 Q I1 q1
 | true=>exact⟨.bl true,H1,I1,rfl,q1⟩
theorem xR (ha:εD):PE X ϊa (C8 ta):=by
 show 15;refine UnaryOp_ ρ8;show 110
 cases r1;exact not_of (JF #[.bl (!c),H1,I1,rfl,q1])
def Qc (t:TT) (ta tb:TE):TE:=λσ H Q=>t σ H λc H1=>if c=true then ta σ H1 Q else tb σ H1 Q
theorem iT {c:Expr} (hc:PT X c tA) (ha:εD) (hb:ηv):PE X (.IfExp c a b pos) (Qc tA ta tb):=by
 show 15;refine wpAny_IfExp ΔL
 cases d with
 | true=>exact ha g s1 σ H1 Q I1 q1
 | false=>exact hb g s1 σ H1 Q I1 q1
end
def b_ (K:n_) (H:Hp) (a:Addr) (xs:δ):Prop :=
 Rd H a γV ∨
  ∃(o:Obj) (its:γx) (n:Nat),K.lookup a=some o∧o.cls=.type "list" ∧ o.dict=none∧o.data=.seq its n∧its.size≤sizeLine∧h_ xs οc
def Ew (K:n_) (H:Hp) (a:Addr) (xs:δ):Prop :=
 Rd H a δa ∨
  ∃(o:Obj) (its:γx) (n:Nat),K.lookup a=some o∧o.cls=.type "tuple" ∧ o.data=.seq its n∧its.size≤sizeLine∧h_ xs οc
def Nm:Value->Option V
 | .none=>some .non
 | .bool b=>some θW
 | .int i _=>some ζG
 | .str x _=>some ψw
 | .bytes b _=>some (.byt b)
 | .float b _=>some (.flt b)
 | .ref a=>some ε0
 | .type n=>some (.ty n)
 | _=>none
theorem f_.abs {x:V}{u:θ} (r:f_ x u):Nm u=some x:=by
 cases x with
 | non=>cases r;rfl
 | bl _=>cases r;rfl
 | int _=>obtain⟨t,rfl⟩:=r;rfl
 | str _=>obtain⟨t,rfl⟩:=r;rfl
 | byt _=>obtain⟨t,rfl⟩:=r;rfl
 | flt _=>obtain⟨t,rfl⟩:=r;rfl
 | ref _=>cases r;rfl
 | ty _=>cases r;rfl
theorem f_.inj {x y:V}{u:θ} (r:f_ x u) (q:ε2):x=y:=DU (r.abs.symm.trans q.abs)
theorem h_.inj:∀{xs ys:δ}{us:χ},h_ xs us->h_ ys us->xs=ys
 | _,_,_,.nil,.nil=>rfl
 | _,_,_,.cons r t,.cons r' t'=>by rw[r.inj r',h_.inj t t']
variable {K:n_}
section
variable {X:Cx}{pins:List (Addr × Obj)}{σ:St}{H:Hp}{s:Shared}{a:Addr}{xs ys:List V}
theorem b_.of (h:H a=some γV):b_ K H a xs:=.inl οI
theorem Ew.of (h:H a=some δa):Ew K H a xs:=.inl οI
theorem Inv.list (I:ρ) (h:ώq):∃its:List Value,h_ xs its/\PlainL Ψ a its.toArray/\xs.length<=sizeLine:=by
 rcases h with h | ⟨o,its,n,hk,hc,hd,hs,hz,r⟩
 ·obtain⟨z,its,n,r,e⟩:=h.ok γb
  exact #[its,r,#[_,n,e,rfl,rfl,rfl],z]
 ·refine #[οc,r,#[o,n,I.kIn a o hk,hc,hd,by simpa using hs],?_]
  show 176
theorem Inv.tuple (I:ρ) (h:ώr):∃its:List Value,h_ xs its/\IsTup Ψ a its.toArray/\xs.length<=sizeLine:=by
 rcases h with h | ⟨o,its,n,hk,hc,hs,hz,r⟩
 ·obtain⟨z,its,r,p⟩:=h.ok γb
  exact #[its,r,p,z]
 ·refine #[οc,r,#[o,I.kIn a o hk,hc,n,by simpa using hs],?_]
  show 176
theorem Inv.list_inj (I:ρ) (h:ώq) (h':b_ X.K H a ys):xs=ys:=by
 obtain⟨j,r,⟨o,n,e,_,_,d⟩,_⟩:=I.list h;obtain⟨g,r',⟨o',n',e',_,_,d'⟩,_⟩:=I.list h';show 177
 injection d' with d1 _
 show 178
 show 179
theorem Inv.tuple_inj (I:ρ) (h:ώr) (h':Ew X.K H a ys):xs=ys:=by
 obtain⟨j,r,⟨o,e,_,n,d⟩,_⟩:=I.tuple h;obtain⟨g,r',⟨o',e',_,n',d'⟩,_⟩:=I.tuple h';show 177
 injection d' with d1 _
 show 178
 show 179
end
abbrev Cx.wish (X:Cx) (E:Ϣ):Cx:={ X with xe:=E }
abbrev Cx.nox (X:Cx):Cx:=X.wish λ_ _=>False
theorem Cx.Ok.wish {X:Cx} (ok:X.Ok) (E:Ϣ):(X.wish E).Ok :=
 ωM
theorem Cx.Ok.unwish (ok:(X.wish E).Ok):X.Ok :=
 ωM
section
variable {X:Cx}{pins:List (Addr × Obj)}{σ:St}{H:Hp}{s:Shared}{E:Value->Shared->Prop}
theorem Inv.wish (I:ρ) (E:Ϣ):Inv χI pins σ H s:=#[I.ok.wish E,I.os,ε1,I.base,ε5,μJ,εV,οV,I.pin,γb,ηG]
theorem Inv.unwish (I:Inv χI pins σ H s):Inv X pins σ H s:=#[I.ok.unwish,I.os,ε1,I.base,ε5,μJ,εV,οV,I.pin,γb,ηG]
theorem SP.unwish {D:Fe}{f:Flow}{s':ν} (h:SP χI pins D f s'):SP X pins D f s':=by
 cases f with
 | next=>obtain⟨σ',H',I,q⟩:=h;exact τg
 | brk=>obtain⟨σ',H',I,q⟩:=h;exact τg
 | cont=>obtain⟨σ',H',I,q⟩:=h;exact τg
 | ret u=>obtain⟨v,σ',H',I,r,q⟩:=h;exact⟨v,σ',H',I.unwish,r,q⟩
theorem FK.nox {st:ζ8}{t:TS} (h:FK X.nox st t):FK X st t:=λpins s σ H D I hw =>
 Gy (h pins s σ H D (I.wish _) hw) (λ_ _ q=>q.unwish) λ_ _ z=>False.elim z
end
section
variable {X:Cx}{st:Stmt}{rest:List Stmt}{t u:TS}{e:Expr}{te:TE}{pos:Pos}
def Bc:TS:=λD σ H=>D.nx σ H
def Kc (t u:TS):TS:=λD σ H=>t { D with nx:=u D } σ H
theorem az:FK X [] Bc:=λ_ _ σ H _ I h=>NZ ξF
theorem rP (h1:θM) (h2:FK X rest u):FK X ξX (Kc t u):=by
 show 29;refine NO (w_ (h1 g s σ H { D with nx:=u D } I h) λf s1 q=>?_)
 cases f with
 | next =>
  show 180;exact h2 g s1 σ' H' D I' q
 | ret v=>exact q
 | brk=>exact q
 | cont=>exact q
theorem fW (h1:θM):FK X [st] t:=by
 show 29;refine NO (w_ (h1 g s σ H D I h) λf s1 q=>?_)
 cases f with
 | next=>exact NZ q
 | ret v=>exact q
 | brk=>exact q
 | cont=>exact q
def Cv:TS:=λD σ H=>D.bk σ H
def C9:TS:=λD σ H=>D.ct σ H
theorem Ad:PS X (.Break pos) Cv:=λ_ _ σ H _ I h=>wpAny_Break ξF
theorem uJ:PS X (.Continue pos) C9:=λ_ _ σ H _ I h=>wpAny_Continue ξF
theorem Inv.quiet (I:ρ):interactive X.env=false:=by simp[interactive,I.ok.kind]
def Da (te:TE):TS:=λD σ H=>te σ H λ_ H1=>D.nx σ H1
theorem aF (he:δX) (hs:swapsWith e none ηz X.env=pure false:=by rfl):PS X (.Expr e pos) (Da te):=by
 show 29;exact wpAny_Expr_any (w_ ιj λv s1 ⟨x,H1,I1,r1,q1⟩=>#[σ,H1,I1,q1]) I.quiet hs
def Nf (te:TE):TS:=λD σ H=>te σ H D.rt
theorem ax (he:δX):PS X (.Return ψy pos) (Nf te):=by
 show 29;exact RO (w_ ιj λv s1 ⟨x,H1,I1,r1,q1⟩=>#[x,σ,H1,I1,r1,q1])
def LL (c:TT) (t u:TS):TS:=λD σ H=>c σ H λb H1=>if b=true then t D σ H1 else u D σ H1
theorem rG {c:Expr}{a b:ζ8}{tc:TT} (hc:οh) (ha:FK X a t) (hb:FK X b u):PS X ύh (LL tc t u):=by
 show 29;refine wpAny_If ΔL
 cases d with
 | true=>exact ha g s1 σ H1 D I1 q1
 | false=>exact hb g s1 σ H1 D I1 q1
def Cw:TS:=λ_ _ _=>False
theorem aJ:PS X st Cw:=λ_ _ _ _ _ _ h=>h.elim
end
abbrev TG:=V->St->Hp->ύV->Prop
abbrev Jp:=List V->St->Hp->ύV->Prop
def PG (X:Cx) (target:Expr) (t:TG):Prop :=
 ∀(pins:ϕ) (s:ν) (σ:St) (H:Hp) (v:V) (u:θ) (Q:θ3),Inv X pins σ H s->f_ v u->t v σ H Q →
  wpAny ω X.A (assign target π u) ΔF X.xe s
def KP (X:Cx) (ts:εh) (t:Jp):Prop :=
 ∀(pins:ϕ) (s:ν) (σ:St) (H:Hp) (vs:δ) (us:χ) (Q:θ3),Inv X pins σ H s->h_ vs us->t vs σ H Q →
  wpAny ω X.A (assignInOrder ((assignEach ts π).map (·.2)) us) ΔF X.xe s
abbrev Kf:=V->V->V->Hp->(Hp->Prop)->Prop
def LI (X:Cx) (t:Kf):Prop :=
 ∀(pins:ϕ) (s:ν) (σ:St) (H:Hp) (o i v:V) (ov iv u:θ) (Q:ηA),Inv X pins σ H s->f_ o ov->f_ i iv->f_ v u->t o i v H Q →
  wpAny ω X.A (setItem ov iv u) (λ_ s'=>∃H',Inv X pins σ H' s'/\Q H') X.xe s
abbrev No:=V->V->Hp->VK->Prop
def NE (X:Cx) (op:μv) (t:No):Prop :=
 ∀(pins:ϕ) (s:ν) (σ:St) (H:Hp) (x y:V) (v u:θ) (Q:VK),Inv X pins σ H s->f_ x v->f_ y u->t x y H Q →
  wpAny ω X.A (inplaceOp op v u) δi X.xe s
variable {n:Nat}{tg:Expr}{g:TG}
section
variable {X:Cx}{pos:Pos}
def be (i:Nat):TG:=λv σ H Q=>Q ξc H
theorem ar (hN:θL) (hi:ηl) (hx:θv) (hf:X.fn x=true\/X.env.scope.names.lookup x=some .local:=by first | exact .inl rfl | exact .inr rfl | assumption):PG X ιp (be i):=by
 intro g s σ H v u Q I r h;exact Qn (lV I hN hi hx r (λs' I'=>#[_,H,I',h]) hf)
def Ix:Jp:=λvs σ H Q=>vs=[]/\Q σ H
inductive eP (t:TG) (u:Jp) (vs:δ) (σ:St) (H:Hp) (Q:θ3):Prop
 | mk:∀v r,vs=v :: r->(t v σ H λσ' H'=>u r σ' H' Q)->eP t u vs σ H Q
theorem bM:KP X [] Ix:=by
 intro g s σ H vs us Q I r h;obtain⟨e,h⟩:=h;subst e
 cases r;exact assignInOrder_nil ξF
theorem aK {es:εh}{t:TG}{u:Jp} (h1:PG X e t) (h2:KP X es u)
  (hs:(assignEach δs π).map (·.2)=assign e X.env :: (assignEach es π).map (·.2):=by rfl):KP X δs (eP t u):=by
 intro g s σ H vs us Q I r h;obtain⟨v,vr,e1,h⟩:=h;subst e1
 cases r with
 | cons r rr =>
  rw[hs];refine assignInOrder_cons (w_ (h1 g s σ H _ _ _ I r h) λ_ s1 ⟨σ1,H1,I1,q1⟩=>?_);exact h2 g s1 σ1 H1 _ _ Q I1 rr q1
inductive Hj (K:n_) (n:Nat) (t:Jp) (v:V) (σ:St) (H:Hp) (Q:θ3):Prop
 | mk:∀a xs,v=.ref a->Ew K H a xs->xs.length=n->t xs σ H Q->Hj K n t v σ H Q
theorem cO {es:εh}{k:Nat}{t:Jp} (hc:γm) (h:ψ5)
  (hn:(assignEach es π).length=n:=by rfl) (hst:(assignEach es π).findIdx? (·.1)=none:=by rfl):PG X υf (Hj X.K n t):=by
 intro g s σ H v u Q I r hw;obtain⟨a,xs,e1,hq,hl,hw⟩:=hw;subst e1
 cases r;obtain⟨j,rv,ht,hz⟩:=I.tuple hq;refine assign_Tuple_tuple γS ht (by simp[hn,← hl,rv.length]) hst λh' hx=>?_
 have I1:Inv X g σ H { s with heap:=h' }:=I.kept (t':=s.toks) λb o e=>hx b o ζA e;exact h g _ σ H xs _ Q I1 ϋ4 hw
def Ny (to ti:TE) (t:Kf):TG:=λv σ H Q=>to σ H λo H1=>ti σ H1 λi H2=>t o i v H2 λH3=>Q σ H3
theorem c9 {o i:Expr}{to ti:TE}{t:Kf} (ho:οi) (hi:PE X i ti) (hs:LI X t)
  (ha:∀v,assign τE π v=(do
   let ov ← holding [v] (eval o X.env)
   let iv ← holding [v,ov] (eval i X.env)
   standAt pos
   holding [v,ov,iv] ό4
   release [v,ov,iv] []):=by intro _;rfl):PG X τE (Ny to ti t):=by
 intro g s σ H v u Q I r h;rw[ha];refine q_ Δ0;refine q_ (Gz (w_ (hi g s1 σ H1 _ I1 q1) λiv s2 ⟨y,H2,I2,r2,q2⟩=>?_));refine q_ (MF (q_ (Gz (w_ (hs g s2 σ H2 x y v ov iv u _ I2 r1 r2 r q2) λ_ s3 ⟨H3,I3,q3⟩=>?_))));exact wpAny_release #[σ,H3,I3,q3]
def Kb (te:TE) (g:TG):TS:=λD σ H=>te σ H λx H1=>g x σ H1 D.nx
theorem cG {te:TE} (he:δX) (hg:οj) (hs:swapsWithSole [tg] e ηz X.env=pure false:=by rfl) (hw:swappedStores [tg] e X.env=pure none:=by rfl)
  (h1:(assignEach [tg] π).map (·.2)=[assign tg π]:=by rfl):PS X (.Assign [tg] e pos) (Kb te g):=by
 intro j s σ H D I h;refine wpAny_Assign_stores (w_ (he j s σ H _ I h) λv s1 ⟨x,H1,I1,r1,q1⟩=>?_) hs hw;rw[h1];exact w_ (hg j s1 σ H1 x v _ I1 r1 q1) λ_ s2 q=>q
theorem au {i:Nat}{x:Str}{e:Expr}{te:TE}{pos':Pos} (hN:θL) (hi:ηl) (hx:θv) (he:δX) (hs:swapsWith e ϊb ηz X.env=pure false:=by rfl) (hf:X.fn x=true\/X.env.scope.names.lookup x=some .local:=by first | exact .inl rfl | exact .inr rfl | assumption) :
  PS X (.Assign [.Name x pos'] e pos) (Kb te (be i)):=by
 intro g s σ H D I h;refine wpAny_Assign_Name (w_ ιj λv s1 ⟨y,H1,I1,r1,q1⟩=>?_) hs;exact lV I1 hN hi hx r1 (λs2 I2=>#[_,H1,I2,q1]) hf
inductive Le (i:Nat) (te:TE) (ti:No) (D:Fe) (σ:St) (H:Hp):Prop
 | mk:∀x,σ[i]?=some (some x)->(te σ H λy H1=>ti x y H1 λz H2=>D.nx (σ.set i (some z)) H2)->Le i te ti D σ H
theorem Cy {te:TE}{op:μv}{ti:No}{pos':Pos} (hN:θL) (hi:ηl) (hx:θv) (he:δX) (ho:NE X op ti) (hf:X.fn x=true\/X.env.scope.names.lookup x=some .local:=by first | exact .inl rfl | exact .inr rfl | assumption) :
  PS X (.AugAssign ωz op e pos) (Le i te ti):=by
 intro g s σ H D I h;obtain⟨v,e1,h⟩:=h;obtain⟨m,hn,hl⟩:=I.loc
 have C:Mm X.env.scope x:=by rcases hx with k | k;exact .inl k;exact .inr (.inl k)
 obtain⟨u,r,l⟩:=hl i x v hi e1 C;refine wpAny_AugAssign_Name ?_
 have go:wpAny ω X.A πz (λw s₂=>wpAny ω X.A (inplaceOp op u w) (λr s₃=>wpAny ω X.A (storeName π x r) (λ_=>SP X g D .next) X.xe s₃) X.xe s₂) X.xe s:=by
  refine w_ ιj λw s1 ⟨y,H1,I1,r1,q1⟩=>?_;refine w_ (ho g s1 σ H1 v y u w _ I1 r r1 q1) λz s2 ⟨zv,H2,I2,r2,q2⟩=>?_;exact lV I2 hN hi hx r2 (λs3 I3=>#[_,H2,I3,q2]) hf
 rcases l with ⟨hk,hm⟩ | ⟨hk,c,hc,j⟩
 ·exact Qu εC hk hn hm go
 ·rcases hk with hk | hk
  ·exact Ro εC hk hc j go
  ·rcases hx with k | k
   ·have:X.env.scope.names.lookup x=some .free:=hk
    rw[k] at this;cases this
   ·have:X.env.scope.names.lookup x=some .free:=hk
    rw[k] at this;cases this
inductive MY (f:χ3) (x y:V) (H:Hp) (Q:VK):Prop
 | mk:∀i j,x=.int i->y=.int j->Q (.int (f i j)) H->MY f x y H Q
theorem Cz:NE X .Add (MY λi j=>i+j):=by
 show 181;exact iadd_int ρt
theorem CA:NE X .Sub (MY λi j=>i - j):=by
 show 181;exact isub_int ρt
end
variable {body:List Stmt}{tb:TS}
section
variable {X:Cx}{pos:Pos}
def xS (c:TT) (tb:TS):TS:=λD σ H=>∃W:Nat->St->Hp->Prop,(∃m,W m σ H)/\∀m σ H,W m σ H →
 c σ H λb H1=>if b=true then ∃N:St->Hp->Prop,(∀σ' H',N σ' H'->∃m',m' < m/\W m' σ' H')/\tb { D with nx:=N,ct:=N,bk:=D.nx } σ H1 else D.nx σ H1
theorem Ae {c:Expr}{tc:TT} (hp:ιC) (hc:οh) (hb:FK X body tb):PS X ΩO (xS tc tb):=by
 show 29;obtain⟨W,⟨m0,w0⟩,turn⟩:=h;refine wpAny_While (codeAny_whileLoop (λn s'=>∃σ' H',Inv X g σ' H' s'/\W n σ' H') ?_ m0 #[σ,H,I,w0]);rintro n s1 ⟨σ1,H1,I1,w1⟩;refine K5 hp (w_ (hc g s1 σ1 H1 _ I1 (turn n σ1 H1 w1)) λb s2 ⟨H2,I2,q2⟩=>?_)
 cases b with
 | true =>
  obtain⟨N,hN,q2⟩:=q2;show 25;refine K5 hp (w_ (hb g s2 σ1 H2 _ I2 q2) λf s3 q3=>?_)
  cases f with
  | next =>
   show 182
  | cont =>
   show 182
  | brk=>exact q3
  | ret v=>exact q3
 | false =>
  show 111;exact NZ #[σ1,H2,I2,q2]
end
structure It where
 go:Nat->Hp->Prop
 yld:Nat->Hp->V->Hp->Prop
 stop:Nat->Hp->Prop
def Fb (X:Cx) (pins:ϕ) (H:Hp) (b:Addr):Prop :=
 H b=none/\b≠X.env.locals/\b∉X.fs/\(b∈X.ex\/X.s₀.heap.objs.size<=b)/\(∀x c,X.env.cells.lookup x=some c->c≠b)/\∀p∈X.pn++pins,p.1≠b
theorem Inv.fpOk {H':Hp} (I:ρ) (hb:s.heap.objs.size<=b) (hn:H' b=none):Fb X pins H' b:=by
 refine #[hn,LQ (Fg I.lt hb),I.nofs hb,.inr (DK I.sz hb),λx c e z=>?_,λp hp z=>?_]
 ·obtain⟨v,q⟩:=I.cell x c e
  exact absurd (Fg q.lt ϊv) γZ
 ·exact absurd (Fg (DS (I.pin p hp).1) ϊv) γZ
structure Gi (P:Ϧ) (w:ϡ) (K:n_) (tg:Expr) (J:It) (fp:Ξ) (it:Addr) (tn:ύi):Prop where
 mem:it∈fp
 obj:∀i h,tn i h->∀b∈fp,∃o,h.get? b=some o/\∀v,o.data≠.cell v
 keep:∀i h h',tn i h->(∀b∈fp,∀o,h.get? b=some o->h'.get? b=some o)->tn i h'
 item:∀(X:Cx),ϥ=P->X.w=w->X.K=K->X.calm=true->∀(i:Nat) (pins:ϕ) (s:ν) (σ:St) (H:Hp) (E:Ϣ),Inv X pins σ H s->ΨC->tn i s.heap->J.go i H →
  wpAny Ϛ X.A ϋp (λr s1=>∃u,r=some u ∧
   wpAny Ϛ X.A Φg (λ_ s2=>∃x H',Inv X pins σ H' s2/\f_ x u/\J.yld i H x H'/\tn (i+1) s2.heap/\∀b∈fp,H' b=none) E s1) E s
 done:∀(X:Cx),ϥ=P->X.w=w->X.K=K->X.calm=true->∀(i:Nat) (pins:ϕ) (s:ν) (σ:St) (H:Hp) (E:Ϣ),Inv X pins σ H s->ΨC->tn i s.heap->J.stop i H →
  wpAny Ϛ X.A ϋp (λr s1=>r=none/\Inv X pins σ H s1) E s
 self:∀(A:ϣ) (i:Nat) (s:ν) (Q:Ϣ) (E:Ϣ),tn i s.heap->Q ιk s->wpAny Ϛ A (pyIter ιk) Q E s
abbrev TI:=St->Hp->(It->Hp->Prop)->Prop
def OO (X:Cx) (pins:ϕ) (σ:St) (tg:Expr) (R:δD) (itv:θ) (s2:ν):Prop :=
 ∃(it:Addr) (fp:Ξ) (tn:ύi) (J:It) (H':Hp),itv=.ref it/\Inv X pins σ H' s2/\Gi ϥ X.w X.K tg J fp it tn/\tn 0 s2.heap/\(∀b∈fp,Fb X pins H' b)/\R J H'
def PI (X:Cx) (tg iter:Expr) (wi:TI):Prop :=
 ∀(pins:ϕ) (s:ν) (σ:St) (H:Hp) (R:δD),Inv X pins σ H s->wi σ H R →
  wpAny ω X.A (eval iter π) (λv s1=>wpAny ω X.A (pyIter v) ϋ5 X.xe s1) X.xe s
theorem kA {it:Addr}{u:θ}{o:Obj}{n:εG}{vs:γx} (ho:s.heap.get? it=some o) (hc:o.cls=.type n) (hd:o.data=.fields vs)
  (hn:["enumerate", "zip", "dict_itemiterator", "dict_reverseitemiterator", "odict_iterator", "itertools.zip_longest", "itertools.pairwise"].contains n=υ) (hQ:Q () s):wpAny M A Φg Q E s:=by
 unfold letOwnedTupleGo
 cases tg <;> first
  | exact DY hQ
  | (cases u <;> first
    | exact DY hQ
    | (refine q_ (wpAny_load ho ?_)
       rw[hc,hd]
       show wpAny M A (if (["enumerate", "zip", "dict_itemiterator", "dict_reverseitemiterator", "odict_iterator", "itertools.zip_longest", "itertools.pairwise"].contains n && vs[0]? == some (rawInt _))=true then _ else _) Q E s
       rw[if_neg (by intro h;rw[hn,Pa] at h;cases h)]
       exact DY hQ))
def IM (K:n_) (a:Addr):It :=
 #[λi H=>∃xs x,b_ K H a xs/\xs[i]?=some x,λi H x H'=>H'=H/\∀xs,b_ K H a xs->xs[i]?=some x,λi H=>∃xs,b_ K H a xs/\xs.length<=i]
def KQ (K:n_) (a:Addr):It :=
 #[λi H=>∃xs x,Ew K H a xs/\xs[i]?=some x,λi H x H'=>H'=H/\∀xs,Ew K H a xs->xs[i]?=some x,λi H=>∃xs,Ew K H a xs/\xs.length<=i]
def Ia (lo:Int) (n:Nat):It:=#[λi _=>i < n,λi H x H'=>H'=H/\x=.int (lo+i),λi _=>n<=i]
theorem xT (a it:Addr):Gi P w K tg οK [it] it (λi h=>h.IsListIter it a i) where
 mem:=by simp
 obj:=λi h st b hb=>by
  show 30
  show 69
 keep:=λi h h' st k=>st.at λo e=>k it ό o e
 item:=by
  show 183;show 112;show 113
  refine QT st γG (x:=u) μ0 λh' j sb=>?_
  show 184;obtain⟨o,e,c,d⟩:=id j;exact⟨u,rfl,kA (s:={ s with heap:=h' }) e c d ε ⟨x,H,I1,ru,⟨rfl,λys hy=>by rw[I.list_inj hy hq];exact hx⟩,j,λb hb=>(hf b hb).1⟩⟩
 done:=by
  show 185;show 112;show 70
  have hl:=ζC;exact Ru γS st γG ξA λh' eb=>θe
 self:=λ_ _ _ _ _ st h=>wpAny_pyIter_listiter st h
theorem wQ (a it:Addr):Gi P w K tg (KQ K a) [it] it (λi h=>h.IsTupleIter it a i) where
 mem:=by simp
 obj:=λi h st b hb=>by
  show 30
  show 69
 keep:=λi h h' st k=>st.at λo e=>k it ό o e
 item:=by
  show 183;show 186;show 113
  refine wpAny_pyNext_tuple_item st (show s.heap.IsTuple a ψ6 from p) (x:=u) μ0 λh' C sb=>?_
  show 184;obtain⟨o,e,c,d⟩:=id C;exact⟨u,rfl,kA (s:={ s with heap:=h' }) e c d ε ⟨x,H,I1,ru,⟨rfl,λys hy=>by rw[I.tuple_inj hy hq];exact hx⟩,C,λb hb=>(hf b hb).1⟩⟩
 done:=by
  show 185;show 186;show 70
  have hl:=ζC;exact wpAny_pyNext_tuple_end γS st (show s.heap.IsTuple a ψ6 from p) ξA λh' eb=>θe
 self:=λ_ _ _ _ _ st h=>wpAny_pyIter_tupleiter st h
theorem wR (it:Addr) (lo:Int) (n:Nat):Gi P w K tg (Ia lo n) [it] it (λi h=>IsRangeIter h it (lo+(i:Nat) * 1) ϋ6 1) where
 mem:=by simp
 obj:=λi h st b hb=>by
  show 30
  subst e
  exact⟨_,st,λv z=>by
   show 187
   cases z'⟩
 keep:=λi h h' st k=>k it ό _ st
 item:=by
  show 188
  have W:=Q1 (prog:=ϥ) (w:=X.w) γS it lo 1 n;refine W.item i s _ _ hg st λv h' tk hv j kk=>?_;show 189
  have I1:Inv X g σ H { s with heap:=h',toks:=tk }:=I.turned ΘD f0 f1 f3 f4 f5
  refine⟨_,rfl,kA (s:={ s with heap:=h',toks:=tk }) (n:="range_iterator") j rfl rfl 0e2 ⟨.int (lo+i),H,I1,⟨t,?_⟩,μ5,j,λb hb=>(hf b hb).1⟩⟩
  rw[Int.mul_one]
 done:=by
  show 188
  exact Ry γS st (by have:n<=i:=hg;omega) λh' eb=>θe
 self:=λ_ _ _ _ _ st h=>QZ st h
variable {fp:List Addr}
section
variable {X:Cx}{tg:Expr}
inductive u9 (K:n_) (R:δD) (x:V) (H1:Hp):Prop
 | mk:∀a,x=.ref a->((∃xs,b_ K H1 a xs))->R (IM K a) H1->u9 K R x H1
def Bd (K:n_) (tl:TE):TI:=λσ H R=>tl σ H λx H1=>u9 K R x H1
inductive xU (K:n_) (R:δD) (x:V) (H1:Hp):Prop
 | mk:∀a,x=.ref a->((∃xs,Ew K H1 a xs))->R (KQ K a) H1->xU K R x H1
def M9 (K:n_) (tl:TE):TI:=λσ H R=>tl σ H λx H1=>xU K R x H1
theorem aL {l:Expr}{tl:TE} (hl:μl):PI X tg l (Bd X.K tl):=by
 show 190
 cases r1;obtain⟨j,rv,p,hz⟩:=I1.list hq;refine K6 γG ?_;refine #[γL,[γL],_,_,H1,rfl,I1.kept (t':=εF) λb o e=>D_ _ e,xT a _,ιi,λb hb=>?_,q]
 show 55
 show 114
theorem xV {l:Expr}{tl:TE} (hl:μl):PI X tg l (M9 X.K tl):=by
 show 190
 cases r1;obtain⟨j,rv,p,hz⟩:=I1.tuple hq;refine wpAny_pyIter_tuple (show s1.heap.IsTuple a ψ6 from p) ?_;refine #[γL,[γL],_,_,H1,rfl,I1.kept (t':=εF) λb o e=>D_ _ e,wQ a _,ιi,λb hb=>?_,q]
 show 55
 show 114
theorem rQ {R:δD}{lo hi:Int}{t u v:Tok}{tk:Nat} (I:ρ) (h1:-(2 ^ 62)<=lo) (h2:lo < 2 ^ 62) (h3:-(2 ^ 62)<=hi) (h4:hi < 2 ^ 62)
  (q:R (Ia lo (hi - lo).toNat) H):wpAny ω X.A (pyIter νV) ϋ5 E { s with heap:=s.heap.push { cls:=.type "range",data:=.fields [.int lo t,.int hi u,.int 1 v].toArray },toks:=tk }:=by
 refine RN όD (small_one h1 h2 h3 h4) ?_
 have I1:Inv X pins σ H { s with heap:=s.heap.push { cls:=.type "range",data:=.fields [.int lo t,.int hi u,.int 1 v].toArray },toks:=tk }:=I.kept λb o e=>D_ _ e
 refine⟨(s.heap.push { cls:=.type "range",data:=.fields [.int lo t,.int hi u,.int 1 v].toArray }).objs.size,[(s.heap.push { cls:=.type "range",data:=.fields [.int lo t,.int hi u,.int 1 v].toArray }).objs.size],_,_,H,rfl,
  I1.kept (t':=tk) λb o e=>D_ _ e,wR _ lo (hi - lo).toNat,?_,λb hb=>?_,q⟩
 ·have e1:lo+((0:Nat):Int) * 1=lo:=by simp
  have e2:(((hi - lo).toNat:Nat):Int) - ((0:Nat):Int)=MM lo hi 1:=by rw[χ4];split <;> omega
  show IsRangeIter _ _ (lo+((0:Nat):Int) * 1) ((((hi - lo).toNat:Nat):Int) - ((0:Nat):Int)) 1
  rw[e1,e2];exact Fm _ rfl
 ·have e:b=(s.heap.push { cls:=.type "range",data:=.fields [.int lo t,.int hi u,.int 1 v].toArray }).objs.size:=by simpa using hb
  subst e;exact I1.fpOk Γ ξ3
inductive va (R:δD) (vs:δ) (H1:Hp):Prop
 | mk:∀j:Int,vs=[.int j]->-(2 ^ 62)<=j->j < 2 ^ 62->R (Ia 0 j.toNat) H1->va R vs H1
def Db (ta:TA):TI:=λσ H R=>ta σ H λvs H1=>va R vs H1
inductive vb (R:δD) (vs:δ) (H1:Hp):Prop
 | mk:∀i j:Int,vs=[.int i,.int j]->-(2 ^ 62)<=i/\i < 2 ^ 62/\-(2 ^ 62)<=j/\j < 2 ^ 62->R (Ia i (j - i).toNat) H1->vb R vs H1
def Dc (ta:TA):TI:=λσ H R=>ta σ H λvs H1=>vb R vs H1
theorem aY {a:Expr}{ta:TA}{p:Pos} (hg:χh) (hm:τT) (ha:χu) (hs:starEach [a] X.env=[(υ,eval a π)]:=by rfl):PI X tg (.Call υg [a] [] pos) (Db ta):=by
 show 71;refine Call_ (cx I hg hm boot_range Γx);obtain⟨j,e,q1,q2,q⟩:=q1;subst e
 cases r1 with
 | cons r rr =>
  cases rr;show 191;exact call_range_1 (rQ I1 γ γ q1 q2 (by simpa using q))
theorem xW {a b:Expr}{ta:TA}{p:Pos} (hg:χh) (hm:τT) (ha:ώs) (hs:starEach [a,b] X.env=[(υ,eval a π),(υ,eval b π)]:=by rfl) (hs2:starEach [b] X.env=[(υ,eval b π)]:=by rfl) :
  PI X tg (.Call υg [a,b] [] pos) (Dc ta):=by
 intro g s σ H R I h;refine Call_ ωP
 obtain⟨i,j,e,⟨q1,q2,q3,q4⟩,q⟩:=q1;subst e
 cases r1 with
 | cons r rr =>
  cases rr with
  | cons r' rr =>
   cases rr;obtain⟨t,rfl⟩:=r;obtain⟨t',rfl⟩:=r';exact call_range_2 (rQ I1 q1 q2 q3 q4 q)
def Kh (wi:TI) (g:TG) (tb:TS):TS:=λD σ H=>wi σ H λJ H1=>∃W:Nat->Nat->St->Hp->Prop,(∃m,W 0 m σ H1)/\∀i m σ H,W i m σ H →
 (J.stop i H/\D.nx σ H)\/(J.go i H/\∃N:St->Hp->Prop,εt/\∀x H',J.yld i H x H'->g x σ H' λσ2 H2=>tb { D with nx:=N,ct:=N,bk:=D.nx } σ2 H2)
def eW (fp:Ξ) (h:Heap):List 29e4:=fp.filterMap λb=>(h.get? b).map λo=>(b,o)
theorem cY {o:Obj} (hb:b∈fp) (e:υB):(b,o)∈eW fp h:=QB.mpr #[b,hb,by rw[e];rfl]
theorem xX {p:Addr × Obj} (hp:p∈eW fp h):p.1∈fp/\h.get? p.1=some p.2:=by
 obtain⟨b,hb,e⟩:=QB.mp hp
 cases q:h.get? b with
 | none=>rw[q] at e;cases e
 | some o =>
  rw[q] at e
  have e':(b,o)=p:=DU e;subst e';exact #[hb,q]
theorem Inv.pinned (I:ρ) (hf:ιT) (ho:∀b∈fp,∃o,s.heap.get? b=some o/\∀v,o.data≠.cell v):Inv X (pins++eW fp Ψ) σ H s :=
 I.pins_of λp hp=>(Fw.mp hp).elim (λz=>I.pin p (G0 _ z)) λz=>by
  obtain⟨hb,e⟩:=xX z;obtain⟨f0,f1,f2,_⟩:=hf p.1 hb;obtain⟨o,e',d⟩:=ho p.1 hb;rw[e] at e';cases e';exact #[e,f0,f1,f2,d]
theorem Inv.unpinned {pl:ϕ} (I:Inv X (pins++pl) σ H s):Inv X pins σ H s:=I.pins_of λp hp=>I.pin p (G0 _ (L9 _ hp))
theorem xY {iter:Expr}{wi:TI} (hp:ιC) (hc:γm) (hi:ζy) (hg:οj) (hb:FK X body tb)
  (hs:∀x,foldedSetIterable iter π x=pure x:=by intro _;rfl):PS X τ0 100e0:=by
 intro j s σ H D I h;refine wpAny_For (w_ τU λv s1 h1=>w_ h1 λY s2 h2=>?_) hs;obtain⟨it,fp,tn,J,H2,e,I2,T,U,f2,W,⟨m0,w0⟩,turn⟩:=h2;subst e
 have C:∀{H':Hp},(∀b∈fp,H' b=none)->∀b∈fp,Fb X j H' b:=λhn b hb=>⟨hn b hb,(f2 b hb).2⟩;refine codeAny_forLoop_any (λn s'=>∃i σ' H',Inv X j σ' H' s'/\tn i s'.heap/\(∀b∈fp,H' b=none)/\W i n σ' H') ?_ m0 ⟨0,σ,H2,I2,U,λb hb=>(f2 b hb).1,w0⟩;rintro n s3 ⟨i,σ3,H3,I3,G,O,w3⟩;rcases turn i n σ3 H3 w3 with ⟨stop,qn⟩ | ⟨go,N,hN,step⟩
 ·refine K5 hp (w_ (T.done X rfl rfl rfl hc i j s3 σ3 H3 X.xe I3 (C O) G stop) λr s4 ⟨hr,I4⟩=>?_)
  subst hr;exact NZ #[σ3,H3,I4,qn]
 ·refine K5 hp (w_ (T.item X rfl rfl rfl hc i j s3 σ3 H3 X.xe I3 (C O) G go) λr s4 ⟨u,hr,h4⟩=>?_)
  subst hr;refine K5 hp (w_ h4 λ_ s5 ⟨x,H5,I5,r5,y5,E,Q⟩=>?_)
  have R:=I5.pinned (C Q) (T.obj _ _ E);refine K5 hp (w_ (hg _ s5 σ3 H5 x u _ R r5 (step x H5 y5)) λ_ s6 ⟨σ6,H6,I6,q6⟩=>?_);refine K5 hp (w_ (hb _ s6 σ6 H6 _ I6 q6) λf s7 q7=>?_)
  have again:∀{σ7:St}{H7:Hp},Inv X (j++eW fp s5.heap) σ7 H7 s7->N σ7 H7->∃m,m < n/\∃i σ' H',Inv X j σ' H' s7/\tn i s7.heap/\ιW/\W i m σ' H':=λ{σ7 H7} I7 n7=>by
   obtain⟨m',hm,w7⟩:=hN σ7 H7 n7;refine #[m',hm,i+1,σ7,H7,χv,T.keep _ _ _ E λb hb o e=>(I7.pin (b,o) νb).1,λb hb=>?_,w7];obtain⟨o,e,d⟩:=T.obj _ _ E b hb;exact(I7.pin (b,o) νb).2.1
  cases f with
  | next=>obtain⟨σ7,H7,I7,n7⟩:=q7;exact again I7 n7
  | cont=>obtain⟨σ7,H7,I7,n7⟩:=q7;exact again I7 n7
  | brk=>obtain⟨σ7,H7,I7,q7⟩:=q7;exact⟨σ7,H7,χv,q7⟩
  | ret v=>obtain⟨x7,σ7,H7,I7,r7,q7⟩:=q7;exact⟨x7,σ7,H7,χv,r7,q7⟩
end
variable {D:Fe}
theorem bR {xs:δ} (Pv:ζw) (h0:ζ9) (hl:Θl)
  (hs:∀i x σ H,xs[i]?=some x->Pv i σ H->g x σ H λσ2 H2=>tb { D with nx:=Pv (i+1),ct:=Pv (i+1),bk:=D.nx } σ2 H2) (hd:θh) :
  ∃W:Nat->Nat->St->Hp->Prop,ζ1/\∀i m σ H,W i m σ H →
   ((IM K a).stop i H/\D.nx σ H)\/((IM K a).go i H/\∃N:St->Hp->Prop,εt/\∀x H',(IM K a).yld i H x H'->g x σ H' λσ2 H2=>tb { D with nx:=N,ct:=N,bk:=D.nx } σ2 H2):=by
 refine θc
 rintro i m σ H ⟨rfl,hi,p⟩
 have q:=hl i σ H hi p
 by_cases hlt:i < xs.length
 ·refine .inr ωR
  obtain⟨e,y⟩:=y;subst e;exact hs i x σ _ (y xs q) p
 ·have e:i=xs.length:=by omega
  subst e;exact .inl Φy
theorem Bz {xs:δ} (Pv:ζw) (h0:ζ9) (hl:∀i σ H,i<=xs.length->Pv i σ H->Ew K H a xs)
  (hs:∀i x σ H,xs[i]?=some x->Pv i σ H->g x σ H λσ2 H2=>tb { D with nx:=Pv (i+1),ct:=Pv (i+1),bk:=D.nx } σ2 H2) (hd:θh) :
  ∃W:Nat->Nat->St->Hp->Prop,ζ1/\∀i m σ H,W i m σ H →
   ((KQ K a).stop i H/\D.nx σ H)\/((KQ K a).go i H/\∃N:St->Hp->Prop,εt/\∀x H',(KQ K a).yld i H x H'->g x σ H' λσ2 H2=>tb { D with nx:=N,ct:=N,bk:=D.nx } σ2 H2):=by
 refine θc
 rintro i m σ H ⟨rfl,hi,p⟩
 have q:=hl i σ H hi p
 by_cases hlt:i < xs.length
 ·refine .inr ωR
  obtain⟨e,y⟩:=y;subst e;exact hs i x σ _ (y xs q) p
 ·have e:i=xs.length:=by omega
  subst e;exact .inl Φy
theorem cb {lo:Int} (Pv:ζw) (h0:ζ9)
  (hs:∀i σ H,i < n->Pv i σ H->g ώt σ H λσ2 H2=>tb { D with nx:=Pv (i+1),ct:=Pv (i+1),bk:=D.nx } σ2 H2) (hd:ΦU) :
  ∃W:Nat->Nat->St->Hp->Prop,ζ1/\∀i m σ H,W i m σ H →
   ((Ia lo n).stop i H/\D.nx σ H)\/((Ia lo n).go i H/\∃N:St->Hp->Prop,εt/\∀x H',(Ia lo n).yld i H x H'->g x σ H' λσ2 H2=>tb { D with nx:=N,ct:=N,bk:=D.nx } σ2 H2):=by
 refine ΓI
 rintro i m σ H ⟨rfl,hi,p⟩
 by_cases hlt:i < n
 ·refine .inr Γk
  obtain⟨e,y⟩:=y;subst e y;exact hs i σ _ hlt p
 ·have e:i=n:=by omega
  subst e;exact .inl #[y_ _,hd σ H p]
abbrev R2:=V->V->Hp->VK->Prop
def FL (X:Cx) (f:Ωs) (r:R2):Prop :=
 ∀(pins:ϕ) (s:ν) (σ:St) (H:Hp) (x y:V) (v u:θ) (Q:VK),Inv X pins σ H s->f_ x v->f_ y u->r x y H Q →
  wpAny ω X.A (f v u) δi X.xe s
def bN (X:Cx) (f:θ) (r:ϊw):Prop :=
 ∀(pins:ϕ) (s:ν) (σ:St) (H:Hp) (xs:δ) (us:χ) (Q:VK),Inv X pins σ H s->h_ xs us->r xs H Q →
  wpAny ω X.A (call f us) δi X.xe s
def Mp (r:R2) (ta tb:TE):TE:=λσ H Q=>ta σ H λx H1=>tb σ H1 λy H2=>r x y H2 Q
inductive rI (C:ύW) (g:Int->Int->V) (x y:V) (H:Hp) (Q:VK):Prop
 | mk:∀i j,x=.int i->y=.int j->C i j->Q (g i j) H->rI C g x y H Q
inductive IP (g:Int->Int->V) (x y:V) (H:Hp) (Q:VK):Prop
 | mk:∀i j,x=.int i->y=.int j->Q (g i j) H->IP g x y H Q
variable {r:R2}{f:Value->Value->Sem Value}
section
variable {X:Cx}{a b c:Expr}{ta tb tc:TE}{pos:Pos}
theorem Kl (ha:εD) (hb:ηv) {pins:ϕ}{s:ν}{σ:St}{H:Hp}{R:V->V->Hp->Prop} (I:ρ)
  (h:ta σ H λx H1=>tb σ H1 λy H2=>R x y H2) {Q:Ϣ}{f:Ωs}
  (hf:∀v u s2 x y H2,Inv X pins σ H2 s2->f_ x v->f_ y u->R x y H2->wpAny ω X.A (f v u) Q X.xe s2) :
  wpAny ω X.A ύS (λv s₁=>wpAny ω X.A ύT (λu s₂=>wpAny ω X.A (f v u) Q X.xe s₂) X.xe s₁) X.xe s:=by
 refine w_ (ha pins s σ H _ I h) λv s1 ⟨x,H1,I1,r1,q1⟩=>?_;refine w_ (hb pins s1 σ H1 _ I1 q1) λu s2 ⟨y,H2,I2,r2,q2⟩=>?_;exact hf v u s2 x y H2 I2 r1 r2 q2
theorem ay {op:μv} (ho:FL X (binaryOp op) r) (ha:εD) (hb:ηv):PE X (.BinOp a op b pos) 67e0:=by
 show 15;exact wpAny_BinOp Γs
theorem Ln {C:ύW}{g:χ3}
  (rule:∀(i j:Int) (t u:Tok) (s:ν) (Q:Ϣ) (E:Ϣ),C i j->Q ϊc { s with toks:=s.toks+1 }->wpAny ω X.A τ9 Q E s) :
  FL X f (rI C λi j=>.int ιl):=by
 intro D s σ H x y v u Q I rx ry h;obtain⟨i,j,rfl,rfl,hc,q⟩:=h;obtain⟨t,rfl⟩:=rx;obtain⟨t',rfl⟩:=ry;exact rule i j t t' s _ _ hc ΘK
theorem Ki {g:χ3}
  (rule:∀(i j:Int) (t u:Tok) (s:ν) (Q:Ϣ) (E:Ϣ),Q ϊc { s with toks:=s.toks+1 }->wpAny ω X.A τ9 Q E s) :
  FL X f (IP λi j=>.int ιl):=by
 intro C s σ H x y v u Q I rx ry h;obtain⟨i,j,rfl,rfl,q⟩:=h;obtain⟨t,rfl⟩:=rx;obtain⟨t',rfl⟩:=ry;exact rule i j t t' s _ _ ΘK
theorem Jk {g:Int->Int->Bool}
  (rule:∀(i j:Int) (t u:Tok) (s:ν) (Q:Ϣ) (E:Ϣ),Q (.bool ιl) s->wpAny ω X.A τ9 Q E s) :
  FL X f (IP λi j=>.bl ιl):=by
 intro C s σ H x y v u Q I rx ry h;obtain⟨i,j,rfl,rfl,q⟩:=h;obtain⟨t,rfl⟩:=rx;obtain⟨t',rfl⟩:=ry;exact rule i j t t' s _ _ #[.bl ιl,H,I,rfl,q]
def Nx (i j:Int):Prop:=0 < j/\j < 1073741824
def LN (i j:Int):Prop:=0<=j/\j<=1000000/\i.natAbs < 2 ^ 64
def Kn (i j:Int):Prop:=(-(2 ^ 64) < i/\i < 2 ^ 64)\/(-(2 ^ 64) < j/\j < 2 ^ 64)
theorem Kn.ok {i j:Int} (h:Kn i j):IntMulOk i j:=by
 rcases h with ⟨h1,h2⟩ | ⟨h1,h2⟩
 ·exact .of_left ϊd
 ·exact .of_right ϊd
theorem aW:FL X ύj (IP λi j=>.int (i+j)):=Ki λ_ _ _ _ _ _ _ q=>add_int q
theorem eY:FL X (binaryOp .Sub) (IP λi j=>.int (i - j)):=Ki λ_ _ _ _ _ _ _ q=>sub_int q
theorem cH:FL X όE (rI Kn λi j=>.int (i * j)):=Ln λ_ _ _ _ _ _ _ hc q=>mul_int q hc.ok
theorem bO:FL X (binaryOp .FloorDiv) (rI Nx λi j=>.int (i / j)):=Ln λi j _ _ _ _ _ hc q=>by
 have h1:(0:Int) < j:=hc.1
 have h2:j < 1073741824:=hc.2;exact floordiv_int γ (by rw[Int.fdiv_eq_ediv_of_nonneg i γ];exact q) (.inl (PyProof.noPylong_small γ))
theorem bd:FL X (binaryOp .Mod) (rI (λ_ j=>0 < j) λi j=>.int (i % j)):=Ln λi j _ _ _ _ _ hc q=>by
 have h1:(0:Int) < j:=hc;exact mod_int' γ (by rw[Int.fmod_eq_emod_of_nonneg i γ];exact q)
theorem xZ:FL X (binaryOp .Pow) (rI LN λi j=>.int (i ^ j.toNat)):=Ln λ_ _ _ _ _ _ _ hc q=>pow_int_small hc.1 hc.2.1 hc.2.2 q
theorem CB:FL X (binaryOp .LShift) (rI LN λi j=>.int (i * 2 ^ j.toNat)):=Ln λ_ _ _ _ _ _ _ hc q=>lshift_int_small hc.1 hc.2.1 hc.2.2 q
theorem gb:FL X (binaryOp .BitXor) (IP λi j=>.int (IC i j)):=Ki λ_ _ _ _ _ _ _ q=>xor_int q
end
def Lj:V->V->Bool
 | .non,.non=>true | .non,.int _=>true | .int _,.non=>true | .non,.bl _=>true | .bl _,.non=>true | .non,.str _=>true | .str _,.non=>true
 | .int _,.int _=>true | .bl _,.bl _=>true | .str _,.str _=>true | .byt _,.byt _=>true
 | .int _,.str _=>true | .str _,.int _=>true | .bl _,.str _=>true | .str _,.bl _=>true
 | _,_=>false
def Qi:R2:=λx y H Q=>Lj x y=true/\Q (.bl (decide (x=y))) H
def P9:R2:=λx y H Q=>Lj x y=true/\Q (.bl (!decide (x=y))) H
theorem vc {i j:Int}:decide (V.int i=V.int j)=107e9:=by
 rw[LX]
 simp
theorem yd {i j:Bool}:decide (V.bl i=V.bl j)=107e9:=by
 rw[LX]
 simp
theorem vd {i j:Str}:decide (V.str i=V.str j)=107e9:=by
 rw[LX]
 simp
theorem ve {i j:Array UInt8}:decide (V.byt i=V.byt j)=(i.toList == j.toList):=by
 rw[LX]
 cases i
 cases j
 simp
variable {us:List Value}
section
variable {X:Cx}{a b c:Expr}{ta tb tc:TE}{pos:Pos}
theorem aQ {Q:VK}{k k':Bool} (I:ρ) (q:Q (.bl k) H) (e:k=k'):EP X pins σ Q (.bool k') s:=by
 subst e;exact #[.bl k,H,I,rfl,q]
theorem bT:FL X (compareOp .Eq) Qi:=by
 show 192
 cases x with
 | non =>
  show 13
  cases y with
  | non=>cases ry;exact PySem.EqNone.eq_none_none γl
  | bl j=>cases ry;exact PySem.EqNone.eq_none_bool γl
  | int j=>obtain⟨t',rfl⟩:=ry;exact PySem.EqNone.eq_none_int γl
  | str j=>obtain⟨t',rfl⟩:=ry;exact PySem.EqNone.eq_none_str γl
  | _=>exact absurd (show false=true from hs) Fp
 | bl i =>
  show 13
  cases y with
  | non=>cases ry;exact PySem.EqNone.eq_bool_none γl
  | bl j=>cases ry;exact eq_bool (aQ I q yd)
  | str j=>obtain⟨t',rfl⟩:=ry;exact PySem.EqMixed.eq_bool_str γl
  | _=>exact absurd (show false=true from hs) Fp
 | int i =>
  show 33
  cases y with
  | non=>cases ry;exact PySem.EqNone.eq_int_none γl
  | int j=>obtain⟨t',rfl⟩:=ry;exact eq_int (aQ I q vc)
  | str j=>obtain⟨t',rfl⟩:=ry;exact PySem.EqMixed.eq_int_str γl
  | _=>exact absurd (show false=true from hs) Fp
 | str i =>
  show 33
  cases y with
  | non=>cases ry;exact PySem.EqNone.eq_str_none γl
  | bl j=>cases ry;exact PySem.EqMixed.eq_str_bool γl
  | int j=>obtain⟨t',rfl⟩:=ry;exact PySem.EqMixed.eq_str_int γl
  | str j=>obtain⟨t',rfl⟩:=ry;exact eq_str (aQ I q vd)
  | _=>exact absurd (show false=true from hs) Fp
 | byt i =>
  show 33
  cases y with
  | byt j=>obtain⟨t',rfl⟩:=ry;exact PySem.W.eq_bytes (aQ I q ve)
  | _=>exact absurd (show false=true from hs) Fp
 | _=>cases y <;> exact absurd (show false=true from hs) Fp
theorem dG:FL X ϋq P9:=by
 show 192
 cases x with
 | non =>
  show 13
  cases y with
  | non=>cases ry;exact PySem.EqNone.ne_none_none γl
  | bl j=>cases ry;exact PySem.EqNone.ne_none_bool γl
  | int j=>obtain⟨t',rfl⟩:=ry;exact PySem.EqNone.ne_none_int γl
  | str j=>obtain⟨t',rfl⟩:=ry;exact PySem.EqNone.ne_none_str γl
  | _=>exact absurd (show false=true from hs) Fp
 | bl i =>
  show 13
  cases y with
  | non=>cases ry;exact PySem.EqNone.ne_bool_none γl
  | bl j=>cases ry;exact ne_bool (aQ I q (congrArg not yd))
  | str j=>obtain⟨t',rfl⟩:=ry;exact PySem.EqMixed.ne_bool_str γl
  | _=>exact absurd (show false=true from hs) Fp
 | int i =>
  show 33
  cases y with
  | non=>cases ry;exact PySem.EqNone.ne_int_none γl
  | int j=>obtain⟨t',rfl⟩:=ry;exact ne_int (aQ I q (congrArg not vc))
  | str j=>obtain⟨t',rfl⟩:=ry;exact PySem.EqMixed.ne_int_str γl
  | _=>exact absurd (show false=true from hs) Fp
 | str i =>
  show 33
  cases y with
  | non=>cases ry;exact PySem.EqNone.ne_str_none γl
  | bl j=>cases ry;exact PySem.EqMixed.ne_str_bool γl
  | int j=>obtain⟨t',rfl⟩:=ry;exact PySem.EqMixed.ne_str_int γl
  | str j=>obtain⟨t',rfl⟩:=ry;exact ne_str (aQ I q (congrArg not vd))
  | _=>exact absurd (show false=true from hs) Fp
 | byt i =>
  show 33
  cases y with
  | byt j=>obtain⟨t',rfl⟩:=ry;exact PySem.W.ne_bytes (aQ I q (congrArg not ve))
  | _=>exact absurd (show false=true from hs) Fp
 | _=>cases y <;> exact absurd (show false=true from hs) Fp
theorem bn:FL X (compareOp .Lt) (IP λi j=>.bl (decide (i < j))):=Jk λ_ _ _ _ _ _ _ q=>lt_int q
theorem rH:FL X (compareOp .LtE) (IP λi j=>.bl (decide (i<=j))):=Jk λ_ _ _ _ _ _ _ q=>le_int q
theorem bU:FL X (compareOp .Gt) (IP λi j=>.bl (decide (j < i))):=Jk λ_ _ _ _ _ _ _ q=>gt_int q
theorem dH:FL X (compareOp .GtE) (IP λi j=>.bl (decide (j<=i))):=Jk λ_ _ _ _ _ _ _ q=>ge_int q
inductive rR (x y:V) (H:Hp) (Q:VK):Prop
 | mk:y=.non->Q (.bl (decide (x=.non))) H->rR x y H Q
theorem io:FL X (compareOp .Is) (rR):=by
 show 193
 cases ry;refine is_none_gen (aQ I q ?_)
 cases x <;> first
  | (cases rx;rfl)
  | (obtain⟨t,rfl⟩:=rx;rfl)
inductive pC (x y:V) (H:Hp) (Q:VK):Prop
 | mk:y=.non->Q (.bl (!decide (x=.non))) H->pC x y H Q
theorem bV:FL X (compareOp .IsNot) (pC):=by
 show 193
 cases ry;refine isnot_none_gen (aQ I q ?_)
 cases x <;> first
  | (cases rx;rfl)
  | (obtain⟨t,rfl⟩:=rx;rfl)
theorem aq (b:Expr) {op:CmpOp} (h:op≠.In:=by decide) (h2:op≠.NotIn:=by decide):behindInMarks op b=false:=by
 have e1:(op == CmpOp.In)=false:=by cases op <;> first | rfl | exact absurd rfl h
 have e2:(op == CmpOp.NotIn)=false:=by cases op <;> first | rfl | exact absurd rfl h2
 cases b <;> simp[behindInMarks,e1,e2]
theorem d7 (ho:τw) (ha:εD) (hb:ηv) (hm:Ω5):PE X νP 67e0:=by
 show 15;exact wpAny_Compare1 Γs hm
inductive vg (Q:εy) (x:V) (H':Hp):Prop
 | mk:∀k,x=.bl k->Q k H'->vg Q x H'
def Dd (t:TE):TT:=λσ H Q=>t σ H λx H'=>vg Q x H'
theorem am (ho:τw) (ha:εD) (hb:ηv) (hm:Ω5):PT X νP (Dd ξY):=by
 show 15
 refine RH (w_ μW λv s1 ⟨x,H1,I1,r1,q1⟩=>w_ Ωt λu s2 ⟨y,H2,I2,r2,q2⟩ =>
  w_ Ξn λc s3 ⟨z,H3,I3,r3,k,e,q3⟩=>?_) hm
 subst e
 cases r3;exact JF #[H3,I3,q3]
inductive rS (r':R2) (tc:TE) (σ:St) (Q:VK) (y z:V) (H3:Hp):Prop
 | mk:∀k,z=.bl k->((if k=true then tc σ H3 λw' H4=>r' y w' H4 Q else Q (.bl υ) H3))->rS r' tc σ Q y z H3
def CC (r r':R2) (ta tb tc:TE):TE:=λσ H Q=>ta σ H λx H1=>tb σ H1 λy H2=>r x y H2 λz H3=>rS r' tc σ Q y z H3
theorem Af {op':CmpOp}{r':R2} (ho:τw) (ho':FL X (compareOp op') r') (ha:εD) (hb:ηv) (hc:PE X c tc)
  (hm:lastMarks [op,op'] [b,c]=false:=by with_unfolding_all rfl):PE X (.Compare a [op,op'] [b,c] pos) (CC r r' ta tb tc):=by
 intro g s σ H Q I h
 refine Compare_chain (w_ μW λv s1 ⟨x,H1,I1,r1,q1⟩=>chain_link (w_ Ωt λu s2 ⟨y,H2,I2,r2,q2⟩ =>
  w_ Ξn λd s3 ⟨z,H3,I3,r3,k,e,q3⟩=>?_)) hm
 subst e
 cases r3;refine JF ?_
 cases k with
 | false=>exact ite_ff ⟨.bl υ,H3,I3,rfl,q3⟩
 | true=>exact ite_tt (chain_last (w_ (hc g s3 σ H3 _ I3 q3) λw' s4 ⟨z',H4,I4,r4,q4⟩=>ho' g s4 σ H4 y z' u w' Q I4 r2 r4 q4))
theorem jH:(sizeLine:Nat) < 2 ^ 63:=by rw[ηY];decide
theorem cg {x:V} (r:h_ [x] us):∃u,us=[u]/\f_ x u:=by
 cases r with
 | cons r1 r2=>cases r2;exact⟨_,rfl,r1⟩
theorem fM {x y:V} (r:h_ [x,y] us):∃u w',us=[u,w']/\f_ x u/\f_ y w':=by
 cases r with
 | cons r1 r2 =>
  cases r2 with
  | cons r3 r4=>cases r4;exact⟨_,_,rfl,r1,r3⟩
inductive kU (xs:δ) (H:Hp) (Q:VK):Prop
 | mk:∀i j,xs=[.int i,.int j]->(Q (.int (if j < i then j else i)) H)->kU xs H Q
theorem pD (hc:γm):bN X όF (kU):=by
 show 194;obtain⟨u,w',rfl,⟨t,rfl⟩,⟨t',rfl⟩⟩:=fM r;refine min_two_ints γS λh' tk k=>#[_,H,I.kept k,?_,q]
 by_cases hj:j < i
 ·rw[if_pos hj,if_pos hj];exact ϒ
 ·rw[if_neg hj,if_neg hj];exact ϒ
end
structure G9 (h:Heap) (x dx C:Addr) (mA:Ϡ):Prop where
 obj:h.get? x=some ψ2
 ns:h.Ns1 dx mA
 ne:dx≠x
theorem ye {dx:Addr}{mA:Ϡ} (n:h.Ns1 dx mA):∃od,h.get? dx=some od/\∀name,N3 name od=some (mA name):=by
 obtain⟨o,es,ep,ho,hd,hk,_,hm⟩:=n;refine #[o,ho,λname=>?_]
 have e:=hm name;unfold nsFind findBy at e;rw[<- Array.find?_toList] at e;unfold N3;rw[hd];show 11
 split
 ·rename_i y q
  rw[q] at e;show 195
 ·rename_i q
  rw[q] at e
  have a:es.toList.any (·.refKey)=false:=by
   rw[List.any_eq_false];intro y hy;obtain⟨z,t,g⟩:=hk y (Array.mem_toList_iff.mp hy)
   simp[DictEntry.refKey,g]
  have a':¬ es.toList.any (·.refKey)=true:=by rw[a];exact Fp
  rw[if_neg a'];show 195
variable {C:Addr}
theorem G9.look {x dx:Addr}{mA:Ϡ} (I:G9 h x dx C mA):∃od,PySem.W.InstAt h x ψ2 C (some od)/\∀name,N3 name od=some (mA name) :=
 let ⟨od,ho,hl⟩:=ye I.ns
 #[od,#[I.obj,rfl,rfl,ho],hl]
variable {kw:List (Str × Value)}
section
variable {prog:Program}{w:World}{A:Around}{E:Value->Shared->Prop}{s:Shared}{K:n_}{x dx C f:Addr}{mA:Str->Option Value}{name:Str}{v:Value}
theorem BA {expr:Bool}{Q:Ϣ} (X:ο9) (I:τV) (hg:όG) (hh:PY K C=true)
  (ha:HS K γK name=some none) (hv:mA name=some v) (hv':R9 v=true) (h:Q v { s with toks:=s.toks+1 }) :
  wpAny γd A (getAttr ιv name expr) Q E s:=by
 obtain⟨od,J,hl⟩:=I.look;exact PySem.W.get_value X J (MU hg).1 (PySem.W.findObj_own hh ha rfl (by rw[hl,hv])) hv' h
theorem Ag {pl:μw}{Q:Φ3} (X:ο9) (I:τV) (hg:όG)
  (hf:HS K γK name=some ν0) (ht:υ5) (hv:mA name=none) (h:Q (.ref f,[.ref x]) s) :
  wpAny γd A (getMethod ιv name pl) Q E s:=by
 obtain⟨od,J,hl⟩:=I.look;exact PySem.W.method_fn X J (MU hg).1 (MU hg).2 hf (beq_iff_eq.mp ht) (by show (N3 name od).map (·.isSome)=some υ;rw[hl,hv];rfl) h
theorem BB {ns:ώ} (X:ο9) (I:τV)
  (hs:HS K γK "__setattr__" = some Ξe) (hp:QD K C=true) (ht:P3 K C name=some none) (hh:PY K C=true)
  (hw:NR mA ns) (hsz:ns.length<=δv)
  (h:∀h',G9 h' x dx C (λy=>if y=name then some v else mA y)->JQ dx Ψ h'->Q () { s with heap:=h',toks:=s.toks+2 }) :
  wpAny γd A (setAttr ιv name v) Q E s:=by
 obtain⟨od,J,hl⟩:=I.look;refine PySem.W.set_plain X J hs (PySem.W.osa_open (s:={ s with toks:=s.toks+1 }) (r:=none) X J hp ht λb=>?_);obtain⟨cd,hc,D⟩:=PySem.W.any_some hh
 have hx:s.heap.get? x=some ⟨.ref C,some dx,.plain,#[]⟩:=I.obj;refine q_ (DY (q_ (q_ (wpAny_loadPart hx (q_ (PySem.W.Looks.here (s:={ s with toks:=s.toks+1 }) (PySem.W.looks_clsIn X hc) ?_))))));rw[D];refine DY (a:=some dx) (q_ (DY (q_ ?_)));refine wpAny_nsSet1 (s:={ s with toks:=s.toks+1 }) I.ns λh' j g=>?_;obtain⟨oD,T,R,G,H,O⟩:=j.count (NR.cons name v hw);refine q_ (wpAny_lookBehind G (by rw[H];exact pastItsLine_dict (DK O ϋr)) ?_)
 exact DY (h _ #[(g.2 _ (Es I.ne)).trans I.obj,j,I.ne] g)
theorem Ah {R:ϊx}{vs:χ} (X:ο9) (hm:QJ K C=true)
  (hi:HS K γK "__init__" = some ν0) (hf:PySem.W.typeIn K γt=some (.type "function"))
  (h:codeAny γd (A.under (.builtin "type.__call__" ⟨.ref C :: vs,kw⟩)) (.call γt ⟨.ref ϙ :: vs,kw⟩) (PySem.W.InitBack ϙ R)
   { s with heap:=(s.heap.push JU).push νW }) :
  codeAny γd A (.call γK #[vs,kw]) R s:=by
 obtain⟨hh,g,d,t,os⟩:=s;exact PySem.W.make_core (PySem.W.makes_of X hm) (PySem.W.looks_findIn X hi) (λself=>PySem.W.bind_fn X self hf) γA h
end
def DE (f:Str) (v:V):List δw->List δw
 | []=>[(f,v)]
 | (g,x) :: r=>if g=f then (g,v) :: r else (g,x) :: DE f v r
theorem kW (f g:Str) (v:V):∀fs:List δw,(DE f v fs).lookup g=if g=f then some v else fs.lookup g
 | []=>by
  show Jw g [(f,v)]=_
  by_cases h:g=f
  ·have hb:(g == f)=true:=beq_iff_eq.mpr h
   simp only[Jw,hb,if_pos h]
  ·have hb:(g == f)=false:=beq_eq_false_iff_ne.mpr h
   simp only[Jw,hb,if_neg h]
 | (k,x) :: r=>by
  have ih:=kW f g v r;show 115
  show 116
  ·rw[if_pos hk]
   by_cases h:g=k
   ·have hb:οL=true:=beq_iff_eq.mpr h
    simp only[Jw,hb,if_pos (h.trans hk)]
   ·have hb:οL=false:=beq_eq_false_iff_ne.mpr h
    simp only[Jw,hb,if_neg (λe:g=f=>h (e.trans hk.symm))]
  ·rw[if_neg hk]
   by_cases h:g=k
   ·have hb:οL=true:=beq_iff_eq.mpr h
    simp only[Jw,hb,if_neg (λe:g=f=>hk (h.symm.trans e))]
   ·have hb:οL=false:=beq_eq_false_iff_ne.mpr h
    simp only[Jw,hb];exact ih
theorem jI (f:Str) (v:V):∀fs:List δw,f∈(DE f v fs).map (·.1)/\∀g,g∈fs.map (·.1)->g∈(DE f v fs).map (·.1)
 | []=>⟨by simp[DE],λg h=>by simp at h⟩
 | (k,x) :: r=>by
  obtain⟨i1,i2⟩:=jI f v r;show 115
  show 116
  ·rw[if_pos hk]
   subst hk;exact #[by simp,λg h=>by simpa using h]
  ·rw[if_neg hk]
   refine #[?_,λg h=>?_]
   ·rw[FY]
    exact Fv _ i1
   ·rw[FY] at h ⊢
    rcases DH.mp h with e | e
    ·exact DH.mpr ψA
    ·exact Fv _ (i2 g e)
theorem kX (f:Str) (v:V):∀fs:List δw,(DE f v fs).length<=fs.length+1
 | []=>by simp[DE]
 | (k,x) :: r=>by
  have ih:=kX f v r;show 115
  show 116
  ·rw[if_pos hk,F6,F6];omega
  ·rw[if_neg hk,F6,F6];omega
theorem Ft.some_of {o:χk} (r:Ft δb o):∃u,o=some u/\f_ v u:=by
 cases o with
 | none=>exact(show False from r).elim
 | some u=>exact⟨u,rfl,r⟩
theorem Ft.none_of {o:χk} (r:Ft none o):o=none:=by
 cases o with
 | none=>rfl
 | some u=>exact(show False from r).elim
theorem yf {u:θ} (r:ζM):R9 u=true:=by
 cases v with
 | non=>cases (show u=Jy from r);rfl
 | bl b=>cases (show u=MO b from r);rfl
 | int i=>obtain⟨t,e⟩:=(show ∃t,u=HY i t from r);cases e;rfl
 | str x=>obtain⟨t,e⟩:=(show ∃t,u=MK x t from r);cases e;rfl
 | byt b=>obtain⟨t,e⟩:=(show ∃t,u=RC b t from r);cases e;rfl
 | flt b=>obtain⟨t,e⟩:=(show ∃t,u=OX b t from r);cases e;rfl
 | ref a=>cases (show u=Ev a from r);rfl
 | ty n=>cases (show u=ID n from r);rfl
section
variable {P:Program}{w:World}{H H':Hp}{h h':Heap}{a C dx:Addr}{fs fs':List (Str × V)}
theorem ip (hok:γM) (e:ιU):∃mA,G9 h a dx C mA/\Φx/\NR mA ύe/\fs.length<=1000/\H dx=some 51e6:=by
 obtain⟨d,z,ne,ob,mA,n,r,q⟩:=(show r_ P w H h a ω5 from hok a _ e);exact #[mA,#[ob,n,ne],r,q,z,d]
end
structure FX (K:n_) (C:Addr):Prop where
 pg:NU K C Ob=true
 hd:PY K C=true
 po:QD K C=true
 sa:HS K γK "__setattr__" = some Ξe
theorem FX.get (c:FX K C) (f:Str):NU K C f=true:=c.pg
def i_ (K:n_) (C:Addr) (f:Str):Prop:=HS K γK f=some none
theorem i_.taker {f:Str} (n:i_ K C f):P3 K C f=some none:=by
 unfold P3;rw[show HS K γK f=some none from n];rfl
structure IB (K:n_) (C:Addr) (m:Str) (f:Addr):Prop where
 at_:HS K γK m=some ν0
 fn:MR K γt=true
 kp:HG K γt=true
section
variable {X:Cx}{pins:List (Addr × Obj)}{σ:St}{H:Hp}{s:Shared}{a C dx:Addr}{fs:List (Str × V)}{f:Str}{v:V}{A:Around}{E:Value->Shared->Prop}
theorem iU {b:Bool}{Q:Ϣ} (I:ρ) (e:ιU) (c:μx) (n:i_ X.K C f) (l:fs.lookup f=some v)
  (h:∀u s',Inv X pins σ H s'->f_ v u->Q u s'):wpAny ω A (getAttr ε0 f b) Q E s:=by
 obtain⟨mA,O,r,_,_,_⟩:=ip γb e;obtain⟨u,hu,ru⟩:=Ft.some_of (v:=v) (o:=mA f) (by rw[<- l];exact r f)
 exact BA ι5 O (c.get f) c.hd n hu (yf ru) (h u _ ηw ru)
theorem mN {m:Str}{g:Addr}{pl:μw}{Q:Φ3} (I:ρ) (e:ιU) (c:μx) (k:IB X.K C m g) (l:fs.lookup m=none)
  (h:Q (.ref g,[.ref a]) s):wpAny ω A (getMethod ε0 m pl) Q E s:=by
 obtain⟨mA,O,r,_,_,_⟩:=ip γb e
 have hn:mA m=none:=Ft.none_of (by rw[<- l];exact r m)
 exact Ag ι5 O (c.get m) k.at_ k.fn hn h
theorem mO {y:V}{u:θ} (I:ρ) (e:ιU) (c:μx) (n:i_ X.K C f) (hl:fs.length < 1000) (ry:ε2)
  (h:∀s',Inv X pins σ (upd H a (.ins C dx (DE f y fs))) s'->Q () s'):wpAny ω A (setAttr ε0 f u) Q E s:=by
 obtain⟨mA,O,r,wi,_,ho⟩:=ip γb e
 have hz:(fs.map (·.1)).length<=sizeLine:=by rw[o_,ηY];omega
 refine BB ι5 O c.sa c.po n.taker c.hd wi hz λh' O' sb=>h _ ?_
 have hd:∃o,h'.get? dx=some o:=let ⟨o,_,_,e',_⟩:=O'.ns;#[o,e'];refine I.write (x:=a) (e:=dx) ρT (.inr ho) (λb q hb z=>(sb.2 b hb).trans z) hd ?_
 refine #[by rw[ae O.ne];exact ho,?_,O.ne,O'.obj,_,O'.ns,λg=>?_,λg hg=>?_]
 ·have:=kX f y fs;omega
 ·show Ft ((DE f y fs).lookup g) ΦL
  rw[kW]
  by_cases q:g=f
  ·rw[if_pos q,if_pos q];exact ry
  ·rw[if_neg q,if_neg q];exact r g
 ·by_cases q:g=f
  ·rw[q];exact(jI f y fs).1
  ·refine(jI f y fs).2 g (wi g λz=>hg ?_)
   show ΦL=none
   rw[if_neg q];exact z
theorem Inv.made (I:ρ):Inv X pins σ (upd (upd H Φ (.own ϙ)) ϙ (.ins C Φ []))
  { s with heap:=(s.heap.push JU).push νW }:=by
 have e1:(s.heap.push JU).get? s.heap.objs.size=some JU:=Fm Ψ rfl
 have e2:((s.heap.push JU).push νW).get? ϙ=some 60e6:=by
  have:=Fm (s.heap.push JU) (o:=Kq C Φ) rfl
  rwa [NQ] at this
 have e3:(s.heap.push JU).Ns Φ 188e0:=#[JU,#[],_,e1,rfl,(λe he=>absurd he ό),λ_=>rfl]
 have I1:=I.laid (a:=Φ) (o:=.own ϙ) (h':=s.heap.push JU) (t':=δ9) ϋ7 Γ #[_,e1];refine I1.laid (a:=s.heap.objs.size+1) (o:=.ins C Φ []) (t':=δ9) ϋ7 (Py (NQ _ _)) ?_
 have ne:s.heap.objs.size≠s.heap.objs.size+1:=Ea μK;refine #[by rw[ae ne,ab],EO _,ne,e2,λ_=>none,(Heap.Ns1.of_empty e3).at λo q=>D_ _ q,λ_=>True.intro,λy hy=>absurd rfl hy]
theorem BC {prog:Ϧ}{env:Env}{Q:Ϣ} (hb:attributeBase e f env (eval e env)=eval e env)
  (h:wpAny γd A (eval e env) (λo s₁=>wpAny γd A (getAttr o f true) Q E s₁) E s):wpAny γd A (eval τF env) Q E s :=
 Attribute_any_ h (by rw[arm_eval_Attribute,hb])
end
inductive yg (K:n_) (f:Str) (Q:VK) (x:V) (H1:Hp):Prop
 | mk:∀a C dx fs v,x=.ref a->H1 a=some (.ins C dx fs)->FX K C->i_ K C f->fs.lookup f=some v->Q v H1->yg K f Q x H1
def Lx (K:n_) (ta:TE) (f:Str):TE:=λσ H Q=>ta σ H λx H1=>yg K f Q x H1
inductive yj (K:n_) (f:Str) (D:Fe) (σ:St) (y x:V) (H2:Hp):Prop
 | mk:∀a C dx fs,x=.ref a->H2 a=some (.ins C dx fs)->FX K C->i_ K C f->fs.length < 1000->D.nx σ (upd H2 a (.ins C dx (DE f y fs)))->yj K f D σ y x H2
def M_ (K:n_) (ta tv:TE) (f:Str):TS:=λD σ H=>tv σ H λy H1=>ta σ H1 λx H2=>yj K f D σ y x H2
def M5 (X:Cx) (op:μv) (rd:ξq):Prop :=
 ∀(pins:ϕ) (s:ν) (σ:St) (H:Hp) (x y:V) (u v:θ) (Q:VK),Inv X pins σ H s->f_ x u->f_ y v->rd x y H Q->wpAny ω X.A (inplaceOp op u v) δi X.xe s
inductive pE (K:n_) (tv:TE) (rd:ξq) (f:Str) (D:Fe) (σ:St) (x:V) (H1:Hp):Prop
 | mk:∀a C dx fs v,x=.ref a->H1 a=some (.ins C dx fs)->FX K C->i_ K C f->fs.lookup f=some v->(tv σ H1 λy H2=>rd v y H2 λz H3=>∃dx' fs',H3 a=some (.ins C dx' fs')/\fs'.length < 1000/\D.nx σ (upd H3 a (.ins C dx' (DE f z fs'))))->pE K tv rd f D σ x H1
def BD (K:n_) (ta tv:TE) (rd:ξq) (f:Str):TS:=λD σ H=>ta σ H λx H1=>pE K tv rd f D σ x H1
section
variable {X:Cx}{o e value:Expr}{f:Str}{pos pos' tpos:Pos}{ta tv:TE}
theorem ao (he:PE X e ta) (hb:ΔV):PE X τF (Lx X.K ta f):=by
 show 15;refine BC hb (w_ ιj λu s1 ⟨x,H1,I1,rx,a,C,dx,fs,v,ex,ea,c,n,l,q⟩=>?_);show 72;exact iU I1 ea c n l λu' s2 I2 ru=>#[v,H1,I2,ru,q]
theorem aM (ha:μm) (hv:χ5) (hs:swapsWith εS (some (.Attribute o f pos')) ηz X.env=pure υ):PS X (.Assign [.Attribute o f pos'] εS pos) (M_ X.K ta tv f):=by
 show 29;refine plainObj_wpAny_Assign_Attribute (w_ (hv g s σ H _ I h) λu s1 ⟨y,H1,I1,ry,q⟩=>w_ (ha g s1 σ H1 _ I1 q) λov s2 ⟨x,H2,I2,rx,a,C,dx,fs,ex,ea,c,n,l,q2⟩=>?_) hs;show 196;exact mO I2 ea c n l ry λs3 I3=>#[σ,_,I3,q2]
theorem ym {op:μv}{rd:ξq} (ha:μm) (hv:χ5) (hop:M5 X op rd):PS X (.AugAssign (.Attribute o f tpos) op εS pos) (BD X.K ta tv rd f):=by
 show 29;refine wpAny_AugAssign_AttributeAny (w_ μW λov s1 ⟨x,H1,I1,rx,a,C,dx,fs,v,ex,ea,c,n,l,q⟩=>?_);show 196;refine iU I1 ea c n l λu s2 I2 ru=>w_ (hv g s2 σ H1 _ I2 q) λw3 s3 ⟨y,H2,I3,ry,q3⟩=>w_ (hop g s3 σ H2 v y u w3 _ I3 ru ry q3) λw4 s4 ⟨z,H3,I4,rz,G,E,j,l',q4⟩=>?_;exact mO I4 j c n l' rz λs5 I5=>#[σ,_,I5,q4]
end
section
variable {X:Cx}{pins:List (Addr × Obj)}{σ:St}{H:Hp}{s:Shared}{A:Around}{E:Value->Shared->Prop}{Q:Value->Shared->Prop}{c:Value}{b:Bool}
inductive Fz (K:n_) (H:Hp):V->Value->Prop where
 | non:Fz K H .non (.type "NoneType")
 | bl (x:Bool):Fz K H (.bl x) (.type "bool")
 | int (i:Int):Fz K H (.int i) (.type "int")
 | str (x:Str):Fz K H (.str x) (.type "str")
 | flt (x:UInt64):Fz K H (.flt x) (.type "float")
 | lst {a:Addr}{xs:List V} (e:H a=some (.lst xs)):Fz K H (.ref a) (.type "list")
 | frz {a:Addr}{o:Obj}{xs:List V} (e:H a=some (.frz o (.lst xs))):Fz K H (.ref a) (.type "list")
 | tup {a:Addr}{xs:List V} (e:H a=some (.tup xs)):Fz K H (.ref a) (.type "tuple")
 | dK {a:Addr}{kvs:List (Key × V)} (e:H a=some (.dK kvs)):Fz K H (.ref a) (.type "dict")
 | dT {a:Addr}{kvs:List (List Key × V)} (e:H a=some (.dT kvs)):Fz K H (.ref a) (.type "dict")
 | ins {a C dx:Addr}{fs:List (Str × V)} (e:H a=some (.ins C dx fs)) (cl:FX K C) (ha:HS K (.ref C) "__class__" = some (some (.builtin "object.__class__")))
   (hn:R7 K ιK "__get__" = some Θv) (htk:RJ K ιK=some true)
   (hm:Qt K C όH=some true):Fz K H ε0 γK
theorem pF {x:V}{u t:θ} (I:ρ) (rx:f_ x u) (ty:Fz X.K H x t) (e:Kw X.K t c=some b) (h:∀tk,Q ψ4 { s with toks:=tk }) :
  wpAny ω A (call τh [u,c]) Q E s:=by
 cases ty with
 | non=>cases (show u=Jy from rx);exact IU PySem.W.kitx_none I.kIn True.intro e (λz=>nomatch z) h
 | bl y=>cases (show u=MO y from rx);exact IU PySem.W.kitx_bool I.kIn True.intro e (λz=>nomatch z) h
 | int i=>obtain⟨t,q⟩:=(show ∃t,u=HY i t from rx);cases q;exact IU PySem.W.kitx_int I.kIn True.intro e (λz=>nomatch z) h
 | str y=>obtain⟨t,q⟩:=(show ∃t,u=MK y t from rx);cases q;exact IU PySem.W.kitx_str I.kIn True.intro e (λz=>nomatch z) h
 | flt y=>obtain⟨t,q⟩:=(show ∃t,u=OX y t from rx);cases q;exact IU PySem.W.kitx_float I.kIn True.intro e (λz=>nomatch z) h
 | @lst a xs ea =>
  cases (show u=Ev a from rx);obtain⟨_,_,n,_,h1⟩:=(show r_ X.prog X.w H s.heap a (.lst xs) from I.hok a _ ea);exact IU Sb I.kIn ⟨_,h1,rfl⟩ e (λz=>nomatch z) h
 | @frz a ob xs ea =>
  cases (show u=Ev a from rx);obtain⟨_,_,_,n,_,h1⟩:=(show r_ X.prog X.w H s.heap a (.frz ob (.lst xs)) from I.hok a _ ea);exact IU Sb I.kIn ⟨_,h1,rfl⟩ e (λz=>nomatch z) h
 | @tup a xs ea =>
  cases (show u=Ev a from rx);obtain⟨_,_,_,p⟩:=(show r_ X.prog X.w H s.heap a (.tup xs) from I.hok a _ ea);obtain⟨o,h1,h2,_⟩:=p;exact IU PySem.W.kitx_tuple I.kIn ⟨o,h1,h2⟩ e (λz=>nomatch z) h
 | @dK a kvs ea =>
  cases (show u=Ev a from rx);obtain⟨_,_,vs,_,p⟩:=(show r_ X.prog X.w H s.heap a (.dK kvs) from I.hok a _ ea);obtain⟨o,es,ep,h1,h2,_⟩:=p;exact IU QV I.kIn ⟨o,h1,h2.1⟩ e (λz=>nomatch z) h
 | @dT a kvs ea =>
  cases (show u=Ev a from rx);obtain⟨_,_,xs,_,o,es,ep,h1,h2,_⟩:=(show r_ X.prog X.w H s.heap a (.dT kvs) from I.hok a _ ea);exact IU QV I.kIn ⟨o,h1,h2.1⟩ e (λz=>nomatch z) h
 | @ins a C dx fs ea cl ha hn htk hm =>
  cases (show u=Ev a from rx);obtain⟨mA,O,_⟩:=ip I.hok ea;obtain⟨od,J,_⟩:=O.look;exact IU (PySem.W.kitx_own (cl.get _) cl.hd ha hn htk hm) I.kIn J e (λz=>nomatch z) h
end
structure DC (k:Nat) (A:ϣ):Prop where
 hd:A.handled=none
 dp:A.depth+3 * k+5 < recursionLimit
 un:A.units+16 * k+200 < cLine
 gd:A.guards=some []:=by rfl
theorem DC.mono {j k:Nat} (r:ι2) (h:j<=k):DC j A:=#[r.hd,by have:=r.dp;omega,by have:=r.un;omega,r.gd]
theorem DC.deeper {k:Nat}{A:ϣ} (r:μd) (env:Env):DC k (A.deeper env) :=
 #[r.hd,by have:=r.dp;show A.depth+1+3 * k+5 < _;omega,by have:=r.un;show A.units+3+16 * k+200 < _;omega,r.gd]
theorem DC.in1 {k:Nat}{A:ϣ} (r:μd):DC k γp :=
 #[r.hd,by have:=r.dp;show A.depth+3 * k+5 < _;omega,by have:=r.un;show A.units+1+16 * k+200 < _;omega,r.gd]
theorem wS:(A.under ωj).depth=A.depth+1:=by
 first | rfl | simp[Around.under,Code.weight,Code.isCreation,Code.isGuard,Code.isCaller,Code.frames,Code.isFrame,guardIds]
theorem wT:(A.under ωj).units=A.units+1:=by
 first | rfl | simp[Around.under,Code.cUnits,Code.frames,Code.isFrame]
theorem DC.make {k:Nat} (r:μd) (C:Addr) (us:χ) (kw:ξe):DC k Δi :=
 ⟨r.hd,by have:=r.dp;rw[wS];omega,by have:=r.un;rw[wT];omega,by have:=r.gd;first | exact this | simp[Around.under,Code.weight,Code.isCreation,Code.isGuard,Code.isCaller,Code.frames,Code.isFrame,guardIds,this]⟩
theorem DC.depth {k:Nat}{A:ϣ} (r:ι2):A.depth < recursionLimit:=by have:=r.dp;omega
theorem DC.units {k:Nat}{A:ϣ} (r:ι2):A.units+64 < cLine:=by have:=r.un;omega
def Lz:TA:=λ_ H Q=>Q [] H
def De (ta:TE) (tr:TA):TA:=λσ H Q=>ta σ H λx H1=>tr σ H1 λxs H2=>Q (x :: xs) H2
section
variable {X:Cx}{e:Expr}{es:List Expr}{te:TE}{t:TA}{pos:Pos}
theorem ac:PA X [] Lz:=λ_ _ _ _ H Q I h=>Calls.spliced_nil #[[],H,I,.nil,h]
theorem aa (ha:δX) (hr:ψ7) (hs:starEach δs X.env=(υ,eval e π) :: starEach es X.env:=by rfl):PA X δs (De te t):=by
 intro j g s σ H Q I h;rw[hs]
 show wpAny _ _ (spliced ((υ,eval e π) :: backTo j ζ0)) _ _ s
 refine Calls.spliced_cons (w_ μW λu s1 ⟨x,H1,I1,r1,q1⟩=>?_);exact w_ (hr j g s1 σ H1 _ I1 q1) λus s2 ⟨xs,H2,I2,r2,q2⟩=>#[x :: xs,H2,I2,.cons r1 r2,q2]
def M3 (t:TA):TE:=λσ H Q=>t σ H λxs H1=>xs.length<=sizeLine/\∀p,H1 p=none->Q γE (upd H1 p δa)
def NB (t:TA):TE:=λσ H Q=>t σ H λxs H1=>xs.length<=sizeLine/\∀p,H1 p=none->Q γE (upd H1 p γV)
theorem bS {x1} (h:ψ7):PE X (.Tuple es x1 pos) (M3 t):=by
 show 197;refine wpAny_Tuple_spliced Γ7
 show 198;refine #[.ref γL,upd H1 γL δa,I1.laid (t':=εF) ξf Γ ?_,rfl,q _ hf];exact #[z,us,r,#[_,Fm _ rfl,rfl,_,rfl]]
theorem bo (h:ψ7):PE X (.List es pos) (NB t):=by
 show 197;refine wpAny_List_spliced Γ7
 show 198;refine #[.ref γL,upd H1 γL γV,I1.laid (t':=εF) ξf Γ ?_,rfl,q _ hf];exact #[z,us,0,r,Fm _ rfl]
end
abbrev Sp:=List V->Hp->VK->XK->Prop
abbrev Iw:=List Env->Hp->Shared->XK->Value->Shared->Prop
structure Eh (P:Ϧ) (w:ϡ) (K:n_) (mg:Ϡ) (base:Heap) (A:ϣ) (outer:γ7) (s:ν) (H:Hp):Prop where
 frames:A.frames=some Δ
 mod:Mg K mg base
 bs:∀b o,base.get? b=some o->s.heap.get? b=some o/\H b=none
 bsz:base.objs.size<=s.heap.objs.size
 funs:s.heap.FunFrames base Δ
 frf:∀b∈Ff outer,H b=none
 hok:Er P w H Ψ
 bare:AllBare μI
def CE (outer:γ7) (P:Ϧ) (w:ϡ) (H:Hp) (s:ν) (Q:VK) (u:θ) (s':ν):Prop :=
 ∃v H',s'.os=s.os/\AllBare s'.gens/\Un δ3 [] H H' Ψ s'.heap/\Er P w H' s'.heap/\f_ v u/\Q v H'
def CR (CX:Iw) (outer:γ7) (P:Ϧ) (w:ϡ) (H:Hp) (s:ν) (Q:VK) (E:XK) (r:Result) (s':ν):Prop :=
 match r with
 | .ok (.ret u)=>CE Δ P w H s Q u s'
 | .ok _=>False
 | .error e=>CX Δ H s E e s'
structure EI (P:Ϧ) (w:ϡ) (K:n_) (mg:Ϡ) (base:Heap) (CX:Iw) (k:Nat) (f:Addr) (fd:γN) (ps:ώ) (sp:Sp):Prop where
 len:∀vs H Q E,sp vs H Q E->vs.length=ps.length
 run:∀(A:ϣ) (outer:γ7) (s:ν) (H:Hp) (args:Args) (us:χ) (vs:δ) (Q:VK) (E:XK),DC k A->Eh P w K mg base A Δ s H->BindsTo s fd args θ5->h_ vs us->sp vs H Q E →
  codeAny Ϛ A (.call γt args) (CR CX Δ P w H s Q E) s
variable {mg:Str->Option Value}{base:Heap}{CX:Iw}{ps:List Str}
theorem EI.imp {k:Nat}{f:Addr}{fd:γN}{sp sp':Sp} (F:EI P w K mg base CX k f fd ps sp)
  (h:∀vs H Q E,sp' vs H Q E->sp vs H Q E):EI P w K mg base CX k f fd ps sp' :=
 #[λvs H Q E q=>F.len vs H Q E (h _ _ _ _ q),λA outer s H args us vs Q E hr he hb hv hs=>F.run A Δ s H args us vs Q E hr he hb hv (h _ _ _ _ hs)]
theorem Eh.make {outer:γ7} (e:δB) (C:Addr) (us:χ) (kw:ξe) :
  Eh P w K mg base Δi Δ s H:=⟨by first | exact e.frames | (simpa[Around.under,Code.envs,Code.isFrame,pushEnvs] using e.frames),e.mod,e.bs,e.bsz,e.funs,e.frf,e.hok,e.bare⟩
section
variable {X:Cx}{pins:List (Addr × Obj)}{σ:St}{H:Hp}{s s':Shared}
theorem Inv.env0 (I:ρ):Eh ϥ X.w X.K X.mg γX X.A δp s H :=
 #[χw,I.ok.mod,I.bs,DK οH I.sz,I.stack,ψ8,γb,ε1]
theorem Inv.after {Q:VK}{u:θ} (I:ρ) (h:CE δp ϥ X.w H s Q u s'):EP X pins σ Q u s':=by
 obtain⟨v,H',os,bare,un,hok,r,q⟩:=h;obtain⟨hh,g,d,t,j⟩:=s';obtain rfl:j=s.os:=os;exact #[v,H',I.call (h':=hh) (g':=g) (d':=d) (t':=t) (ch:=[]) un hok bare (λb z=>absurd z ό),r,q]
end
def Df (sp:Sp) (dvs:δ) (E:XK) (t:TA):TE:=λσ H Q=>t σ H λvs H1=>sp θ6 H1 Q E
inductive vh (C:Addr) (m:Str) (sp:Sp) (dvs:δ) (E:XK) (t:TA) (σ:St) (Q:VK) (x:V) (H1:Hp):Prop
 | mk:∀a dx fs,x=.ref a->H1 a=some (.ins C dx fs)->fs.lookup m=none->(t σ H1 λvs H2=>sp (x :: θ6) H2 Q E)->vh C m sp dvs E t σ Q x H1
def Be (C:Addr) (m:Str) (sp:Sp) (dvs:δ) (E:XK) (ta:TE) (t:TA):TE:=λσ H Q=>ta σ H λx H1=>vh C m sp dvs E t σ Q x H1
def Dg (C:Addr) (sp:Sp) (dvs:δ) (E:XK) (t:TA):TE:=λσ H Q=>t σ H λvs H1=>∀x dx,H1 x=none->H1 dx=none->dx≠x →
 sp ϊe (upd (upd H1 dx ηT) x ύX) Φ4 E
def ER (K:n_) (fd:γN) (ps:ώ) (ds:χ):Prop :=
 ∀(s:ν) (us:χ),K.In s.heap->(us++ds).length=ps.length->BindsTo s fd ιh (ps.zip πH)
theorem ER.all {fd:γN} (h:∀us:List Value,οk=ps.length->bindArgs fd ιh=pure θ5):ER K fd ps []:=λs us _ hl=>by
 rw[ML] at hl ⊢;exact .of_eq (h us hl)
def gc (CX:Iw) (X:Cx) (E:XK):Prop:=∀(pins:ϕ) (σ:St) (H:Hp) (s:ν) (e:θ) (s':ν),Inv X pins σ H s->CX δp H s E e s'->X.xe e s'
variable {vs:List V}
section
variable {X:Cx}{CX:Iw}{k:Nat}{f C:Addr}{fd:FuncData}{ps:List Str}{sp:Sp}{dvs:List V}{ds:List Value}{E:XK}{x m:Str}{p pos apos:Pos}{e o:Expr}{es:List Expr}{ta:TE}{t:TA}
theorem rT {Q:VK} (F:θg) (hr:θR) (hb:θy) (hd:θN) (hx:θO)
  (I:ρ) (r:ζH) (h:sp θ6 H Q E):wpAny ω X.A (call γt us) δi X.xe s:=by
 have r2:h_ θ6 77e7:=r.append hd
 have hl:(us++ds).length=ps.length:=by rw[<- r2.length];exact F.len _ _ _ _ h
 refine KZ (KS (F.run X.A δp s H ιh πH θ6 Q E hr I.env0 (hb s us ι5 hl) r2 h) λr s' hq=>?_)
 cases r with
 | error e=>exact hx pins σ H s e s' I hq
 | ok fl =>
  cases fl with
  | ret u=>exact I.after hq
  | next=>exact False.elim hq
  | brk=>exact False.elim hq
  | cont=>exact False.elim hq
theorem aH (F:θg) (hr:θR) (hg:ζN) (hm:X.mg x=some γt) (hk:HG X.K γt=true) (hb:θy) (hd:θN) (hx:θO)
  (ha:ηk) (hdb:εu=false:=by decide) (he:starEach δs X.env=(υ,eval e π) :: starEach es X.env:=by rfl) (hpl:(backTo pos ζ0).any (·.1)=false:=by rfl) :
  PE X νx (Df sp dvs E t):=by
 intro g s σ H Q I h;refine K1 ϋ8;refine Po (h₀:=γX) χl hk Γz he hpl;exact rT F hr hb hd hx I1 r q
theorem av {pl:μw} (he:μm) (c:μx) (hm:IB X.K C m f) (F:θg) (hr:θR) (hb:θy) (hd:θN) (hx:θO) (ha:ηk)
  (hst:starEach δs X.env=(υ,eval e π) :: starEach es X.env:=by rfl) (hpl:(backTo pos ζ0).any (·.1)=false:=by rfl)
  (ht:eval νp X.env=(do
   let ov ← eval o X.env
   standAt χx
   let (f,first) ← holding [ov] (getMethod ov m pl)
   callWith pos f first 135e9 ρr):=by rfl) :
  PE X νp (Be C m sp dvs E ta t):=by
 intro g s σ H Q I h;refine P8 (pl:=pl) ΓF ht;subst ex;obtain rfl:u=Ev a:=rx;refine mN I1 ea c hm l ?_;refine Po (first:=[.ref a]) (h₀:=γX) χl hm.kp (w_ (ha pos g s1 σ H1 _ I1 q) λus s2 ⟨vs,H2,I2,r,q2⟩=>#[I2.kIn,?_]) hst hpl;exact rT (us:=.ref a :: us) (vs:=.ref a :: vs) F hr hb hd hx I2 (.cons rfl r) q2
theorem bi {pl:μw} (he:μm) (c:μx) (hm:IB X.K C m f) (F:θg) (hr:θR) (hb:θy) (hd:θN) (hx:θO)
  (ht:eval Ξ6 X.env=(do
   let ov ← eval o X.env
   standAt χx
   let (f,first) ← holding [ov] (getMethod ov m pl)
   callWith pos f first (backTo pos ξg) ρr):=by rfl) :
  PE X Ξ6 (Be C m sp dvs E ta Lz):=by
 intro g s σ H Q I h;refine P8 (pl:=pl) ΓF ht;subst ex;obtain rfl:u=Ev a:=rx;refine mN I1 ea c hm l ?_;exact PySem.W.callWith_K0 (first:=[.ref a]) I1.kIn hm.kp (rT (us:=[.ref a]) (vs:=[.ref a]) F hr hb hd hx I1 όI q)
structure Mk (K:n_) (C f:Addr):Prop where
 makes:QJ K C=true
 init:HS K γK "__init__" = some ν0
 fn:MR K γt=true
 kp:HG K γK=true
theorem Ai {Q:VK} (M:Mk X.K C f) (F:θg) (hr:DC (k+1) X.A) (hb:θy) (hd:θN)
  (hx:θO) (I:ρ) (r:ζH)
  (h:∀x dx,H x=none->H dx=none->dx≠x->sp ϊe (upd (upd H dx ηT) x ύX) Φ4 E) :
  wpAny ω X.A (call γK us) δi X.xe s:=by
 have hq:=h ϙ Φ ϊy ζt (Ea μK)
 have I2:=Inv.made (C:=C) I
 have r2:h_ (V.ref ϙ :: θ6) 137e8:=.cons rfl (r.append hd)
 have hl:(Ev ϙ :: us++ds).length=ps.length:=by
  have e:=r2.length;rw[F.len _ _ _ _ hq] at e;exact e.symm
 refine KZ (Ah (f:=f) ι5 M.makes M.init (beq_iff_eq.mp M.fn) (KS (F.run _ δp _ _ ⟨Ev ϙ :: us,[]⟩ Ξo _ _ E (hr.make C us [])
  (I2.env0.make C us []) (hb _ (Ev ϙ :: us) I2.kIn hl) r2 hq) λr s' g=>?_))
 cases r with
 | error e=>exact hx pins σ _ _ e s' I2 g
 | ok fl =>
  cases fl with
  | ret u =>
   obtain⟨v,H',I3,rv,ev,q3⟩:=I2.after g;subst ev;exact #[rv,#[V.ref ϙ,H',I3,rfl,q3]]
  | next=>exact False.elim g
  | brk=>exact False.elim g
  | cont=>exact False.elim g
theorem cZ (M:Mk X.K C f) (F:θg) (hr:DC (k+1) X.A) (hg:ζN) (hm:X.mg x=some γK) (hb:θy) (hd:θN) (hx:θO)
  (ha:ηk) (hdb:εu=false:=by decide) (he:starEach δs X.env=(υ,eval e π) :: starEach es X.env:=by rfl) (hpl:(backTo pos ζ0).any (·.1)=false:=by rfl) :
  PE X νx (Dg C sp dvs E t):=by
 intro g s σ H Q I h;refine K1 ϋ8;refine Po (h₀:=γX) χl M.kp Γz he hpl;exact Ai M F hr hb hd hx I1 r q
end
section
variable {X:Cx}{CX:Iw}{k:Nat}{f C:Addr}{fd:FuncData}{ps ks:List Str}{sp:Sp}{E:XK}{x m:Str}{p pos apos kpos:Pos}{e o:Expr}{es:List Expr}{kws:List Keyword}{te ta:TE}{t tk:TA}{nm:Option Str}
variable {g:List Value->List Value->List Value}{gV:List V->List V->List V}
end
structure ak (N P:ώ) (sc:γ3):Prop where
 kind:sc.kind=.function
 co:sc.isCoroutine=false
 gen:sc.isGenerator=false
 nd:N.Nodup
 pre:N.take P.length=P
 par:∀x∈P,sc.names.lookup x=some .local\/sc.names.lookup x=some .cell
 nofree:∀y∈sc.names,y.2≠.free
theorem pG {kindOf:ξ6}{x:Str}:∀{binds:ξe}{m:Ϡ},ϊf->bindL ζO binds m x=m x
 | [],_,_=>rfl
 | (n,v) :: r,m,h=>by
  unfold bindL;rw[pG λw hw=>h w (Fv _ hw)]
  split
  ·have:x≠n:=by rintro rfl;exact h v F0
   show 34
  ·rfl
theorem pH {kindOf:ξ6}{x:Str}:∀{binds:ξe}{m:Ϡ},ϊf->bindC ζO binds m x=m x
 | [],_,_=>rfl
 | (n,v) :: r,m,h=>by
  unfold bindC;rw[pH λw hw=>h w (Fv _ hw)]
  split
  ·rfl
  ·have:x≠n:=by rintro rfl;exact h v F0
   show 34
theorem pI {kindOf:ξ6}{x:Str}{v:θ}:∀{P:ώ}{vs:χ}{i:Nat}{m:Ϡ},P.Nodup->P[i]?=some x->vs[i]?=some v->kindOf x=some .local →
  bindL ζO (P.zip vs) m x=some v
 | [],_,_,_,_,h,_,_=>by simp at h
 | _ :: _,[],_,_,_,_,h,_=>by simp at h
 | p :: P,w :: vs,0,m,nd,h1,h2,hk=>by
  show 199
  show bindL ζO ξh m p=_
  unfold bindL;rw[pG λv hv=>(HH.mp nd).1 (Mc hv).1,if_pos hk]
  simp
 | p :: P,w :: vs,i+1,m,nd,h1,h2,hk=>by
  show bindL ζO ξh m x=_
  unfold bindL;exact pI (i:=i) (HH.mp nd).2 ξi ξj hk
theorem pJ {kindOf:ξ6}{x:Str}{v:θ}:∀{P:ώ}{vs:χ}{i:Nat}{m:Ϡ},P.Nodup->P[i]?=some x->vs[i]?=some v->kindOf x≠some .local →
  bindC ζO (P.zip vs) m x=some v
 | [],_,_,_,_,h,_,_=>by simp at h
 | _ :: _,[],_,_,_,_,h,_=>by simp at h
 | p :: P,w :: vs,0,m,nd,h1,h2,hk=>by
  show 199
  show bindC ζO ξh m p=_
  unfold bindC;rw[pH λv hv=>(HH.mp nd).1 (Mc hv).1,if_neg hk]
  simp
 | p :: P,w :: vs,i+1,m,nd,h1,h2,hk=>by
  show bindC ζO ξh m x=_
  unfold bindC;exact pJ (i:=i) (HH.mp nd).2 ξi ξj hk
def k_ (N:ώ) (vs:δ):St:=vs.map some++Ee (N.length - vs.length) none
def FP (CX:Iw) (P:Ϧ) (w:ϡ) (K:n_) (mg:Ϡ) (base:Heap) (N:ώ) (qual:Str) (scope:γ3) (f:Addr) (cd:θ) (A:ϣ) (outer:γ7) (s:ν) (H:Hp) (E:XK):Cx where
 prog:=P
 w:=w
 K:=K
 mg:=mg
 base:=base
 A:=A.deeper ρo
 N:=N
 s₀:=s
 H₀:=H
 env:=envOfC qual γn Φ f cd
 outer:=outer
 stack:=envOfC qual γn s.heap.objs.size f cd :: outer
 ex:=[]
 calm:=true
 fn:=λ_=>true
 pn:=[]
 xe:=λe s'=>wpAny Ϛ (A.deeper ρo) (leaving ρo e) (λ_ s''=>CX Δ H s E e s'') (λe' s''=>CX Δ H s E e' s'') s'
theorem rU {sc:γ3} (h:sc.names.lookup x=some .cell):∃c,(cellsFrom n θS []).lookup x=some c:=by
 have q:=PR θS n [] οI;exact MA.mp q
theorem pK {qual:Str}{scope:γ3}{f:Addr}{cd:θ}{outer:γ7}{s1:ν}{E:XK}
  (S:ώv) (hd:ζz) (e0:δB) (hl:vs.length=ps.length) (r:ζH)
  (x:InCallC s Φ (bindL (envOfC qual γn Φ f cd).kindOf θ5 λ_=>none) (cellsFrom ϙ χy []) (bindC (envOfC qual γn Φ f cd).kindOf θ5 λ_=>none) s1) :
  Inv (FP CX P w K mg base N qual γn f cd A Δ s H E) [] δY H s1:=by
 have C:ps.length<=N.length:=by have:=congrArg Kv S.pre;rw[Hu] at this;omega
 obtain⟨h1,tk,rfl,hk⟩:=x.done
 have g:∀b:Addr,b∉(FP CX P w K mg base N qual γn f cd A Δ s H E).ex:=λb z=>absurd (show b∈([]:List Addr) from z) ό
 refine⟨⟨e0.mod,εk,rfl,rfl,y_ _,λy z c h1 h2=>?_,λy hy=>?_,λy c _ h=>?_,λ_=>hd,Around.frames_deeper οl,.inr μ5,λb z=>absurd z (g b),e0.bs,e0.bsz,λb _ _=>g b,λb z=>absurd z (g b),οW,e0.frf⟩,
  rfl,μC,Un.kept hk,⟨_,x.toInCall.ns,λi y v h1 h2 h3=>?_⟩,λy c h=>⟨_,x.cell y c h⟩,e0.hok.fresh Γ,λy c h=>?_,λp hp=>absurd (show p∈([]:List ζU) from hp) ό,e0.hok.kept hk,?_⟩
 ·exact name_of_addr x.apart (HW h1) (HW h2)
 ·have hy:scope.names.lookup y=some .cell\/scope.names.lookup y=some .free:=hy
  rcases hy with hy | hy
  ·exact rU hy
  ·exact absurd rfl (S.nofree _ (HW hy))
 ·exact IF ϊz
 ·have hi:i < vs.length:=by
   unfold k_ at h2
   by_cases hi:i < vs.length
   ·exact hi
   ·rw[HU εx] at h2
    rw[IE] at h2
    split at h2 <;> cases h2
  have ha:vs[i]?=some v:=by
   unfold k_ at h2;rw[Ht εx,DO] at h2
   cases e:vs[i]? with
   | none=>rw[e] at h2;cases h2
   | some a=>rw[e] at h2;cases h2;rfl
  obtain⟨u,hu,rv⟩:=r.get ha
  have hp:ps[i]?=some y:=by
   rw[<- S.pre,List.getElem?_take_of_lt γ];exact h1
  have j:ps.Nodup:=by rw[<- S.pre];exact S.nd.sublist οM
  refine⟨u,rv,?_⟩;rcases S.par y (Ez hp) with k | k
  ·exact .inl #[k,pI j hp hu k]
  ·obtain⟨c,e⟩:=rU (n:=s.heap.objs.size+1) k
   refine .inr #[.inl k,c,e,?_]
   have q:=x.cell y c e;rw[pJ j hp hu (by show scope.names.lookup y≠_;rw[k];decide)] at q
   exact q
 ·exact e0.hok.fresh (IF ϊz)
 ·unfold k_
  show _=N.length
  rw[Fn,o_,IG];omega
theorem Bf {k:Nat}{f:Addr}{name qual:Str}{params:οm}{scope:γ3}{dV kV doc pm cdv ct oc:θ}{an od:δk}{osl:ηe}{sp:Sp} (lk:K.lookup f=some #[oc,od,.func Δu,osl]) (hcd:υ6) (S:ώv)
  (len:ιB)
  (hbody:∀(A:ϣ) (outer:γ7) (s:ν) (H:Hp) (vs:δ) (Q:VK) (E:XK),DC k (A.deeper (envOfC qual γn Φ f cdv))->sp vs H Q E →
   ∃t,FK ρc body t/\t { nx:=λ_ H'=>Q .non H',rt:=Q } 17e4 H) :
  EI P w K mg base CX (k+1) f Δu ps sp:=by
 refine #[len,λA outer s H C us vs Q E hr e0 hb r h=>?_]
 have hl:=len _ _ _ _ h
 have KX:K.In s.heap:=e0.mod.kin.keeps λb o e=>(e0.bs b o e).1
 have j:s.heap.NoLimit:=e0.mod.nolimit.keeps λb o e=>(e0.bs b o e).1
 have g:∀y∈ps.zip us,scope.names.lookup y.1=some .local\/(scope.names.lookup y.1=some .cell/\((cellsFrom ϙ χy []).lookup y.1).isSome=true):=λ⟨n,v⟩ hy=>by
  rcases S.par n (Mc hy).1 with q | q
  ·show 66
  ·exact .inr ΨP
 refine Qk οN (KX _ _ lk) rfl S.co S.gen rfl (RT KX hcd) ύk;refine QS εk g λenv he s1 x=>?_;subst he;refine #[j.keeps x.toInCall.keep,codeAny_func ?_];obtain⟨t,ht,hq⟩:=hbody A Δ s H vs Q E ώw h
 have I:Inv ρc [] δY H s1:=pK S hr.hd e0 hl r x;refine Gy (ht [] s1 δY H _ I hq) ϋs λe s' hs=>hs
 have fin:∀{σ':St}{H':Hp}{v:V}{u:θ},Inv ρc [] σ' H' s'->f_ v u->Q v H'->CE Δ P w H s Q u s' :=
  λ{σ' H' v u} J rv q=>ΘT
 cases fl with
 | ret u =>
  obtain⟨v,σ',H',J,rv,q⟩:=hs;exact fin J rv q
 | next =>
  obtain⟨σ',H',J,q⟩:=hs;exact fin (v:=ε9) (u:=Jy) J rfl q
 | brk =>
  obtain⟨_,_,_,q⟩:=hs;exact False.elim q
 | cont =>
  obtain⟨_,_,_,q⟩:=hs;exact False.elim q
section
variable {X:Cx}{x:Str}{p pos:Pos}{e:Expr}{es:List Expr}{t:TA}{id T:String}{r:List V->Hp->VK->Prop}
def Ot (r:ϊw) (t:TA):TE:=λσ H Q=>t σ H λvs H1=>r vs H1 Q
theorem aC (hc:bN X ω2 r) (hg:ζN) (hm:ο8) (hv:bootBuiltins x=some ω2) (ha:ηk) (hn:x ≠ "__name__":=by decide) (hdb:εu=false:=by decide)
  (he:starEach δs X.env=(υ,eval e π) :: starEach es X.env:=by rfl) (hpl:(backTo pos ζ0).any (·.1)=false:=by rfl):PE X νx (Ot r t):=by
 intro g s σ H Q I h;refine K1 ΨQ;exact PyProof.Rows.callWith_builtin1 Γa he hpl
theorem br (hc:bN X οn r) (hg:ζN) (hm:ο8) (hv:bootBuiltins x=some οn) (ha:ηk) (hn:x ≠ "__name__":=by decide) (hdb:εu=false:=by decide)
  (he:starEach δs X.env=(υ,eval e π) :: starEach es X.env:=by rfl) (hpl:(backTo pos ζ0).any (·.1)=false:=by rfl):PE X νx (Ot r t):=by
 intro g s σ H Q I h;refine K1 ΨQ;exact KY Γa he hpl
end
end L2
namespace HT
open PySem PyProof.Rows
section
open PySem.SeqAt
open PySem.AutoSeq1 (wpAny_loadPart')
open PySem.MeetsSeq PySem.MeetsSeq2 PySem.MeetsSeq3
end
section
variable {prog:Program}{w:World}{A:Around}{E:Value->Shared->Prop}{s:Shared}
def GJ (n d:Nat):Option Int->Nat
 | none=>d
 | some v=>if v < 0 then (v+(n:Int)).toNat else min v.toNat n
theorem Im (n d:Nat):GJ n d none=d:=rfl
theorem FJ (n d k:Nat):GJ n d υQ=min k n:=by
 show (if (k:Int) < 0 then ((k:Int)+(n:Int)).toNat else min (k:Int).toNat n)=min k n
 rw[if_neg γ,Fu]
end
end HT
namespace L2
open PySem PySem.Spec PyProof.Rows
abbrev TO:=St->Hp->(Option Int->Hp->Prop)->Prop
def PO (X:Cx) (e:Option Expr) (t:TO):Prop :=
 ∀(pins:ϕ) (s:ν) (σ:St) (H:Hp) (Q:ϊA),Inv X pins σ H s->t σ H Q →
  wpAny ω X.A (evalPart e π) (λu s'=>∃o H',Inv X pins σ H' s'/\IsPart u o/\Q o H') X.xe s
def BE:TO:=λ_ H Q=>Q none H
inductive vi (Q:ϊA) (x:V) (H1:Hp):Prop
 | mk:∀i,x=.int i->Q (some i) H1->vi Q x H1
def Dh (t:TE):TO:=λσ H Q=>t σ H λx H1=>vi Q x H1
section
variable {X:Cx}{e:Expr}{te:TE}{lo hi:Option Expr}{tl th:TO}{pos p2:Pos}
theorem BF:PO X none BE:=by
 show 15;rw[χ6];exact DY #[none,H,I,.none,h]
theorem d9 (h:δX):PO X ψy (Dh te):=by
 show 109;rw[evalPart_some];refine w_ ξd λu s1 ⟨x,H1,I1,r1,q1⟩=>?_;obtain⟨i,rfl,q⟩:=q1;obtain⟨t,rfl⟩:=r1;exact #[some i,H1,I1,.int i t,q]
def OP (X:Cx) (r:ρp):Prop :=
 ∀(pins:ϕ) (s:ν) (σ:St) (H:Hp) (x:V) (v vl vu:θ) (lo hi:εB) (sl:Addr) (Q:VK),Inv X pins σ H s->f_ x v->s.heap.IsSliceOf sl vl vu .none->IsPart vl lo->IsPart vu hi->r x lo hi H Q →
  ∃T id,typeLookup οn "__getitem__" = pure ϊB∧s.TypeIs v T∧wpAny ω X.A (getItem v ιt) δi X.xe s
def Qb (r:ρp) (te:TE) (tl th:TO):TE:=λσ H Q=>te σ H λx H1=>tl σ H1 λl H2=>th σ H2 λu H3=>r x l u H3 Q
theorem lW {r:ρp} (hr:OP X r) (he:δX) (hl:PO X lo tl) (hu:PO X hi th):PE X (.Subscript e ωu pos) (Qb r te tl th):=by
 show 15;refine Subscript_ Δl;refine wpAny_Slice (w_ Ωu λvl s2 ⟨l,H2,I2,pl,q2⟩=>w_ Ωv λvu s3 ⟨u,H3,I3,pu,q3⟩=>?_);rw[χ6];refine DY ?_
 have I4:Inv X g σ H3 { s3 with heap:=s3.heap.push { cls:=.type "slice",data:=.fields [vl,vu,.none].toArray } }:=I3.kept (t':=s3.toks) λb ob q=>D_ _ q
 obtain⟨T,id,hT,ht,hg⟩:=hr g { s3 with heap:=s3.heap.push { cls:=.type "slice",data:=.fields [vl,vu,.none].toArray } } σ H3 x v vl vu l u s3.heap.objs.size Q I4 r1 (Qy ..) pl pu q3
 show wpAny ω X.A (subscriptTail e ωu v (.ref ό5)) (EP X g σ Q) X.xe { s3 with heap:=s3.heap.push { cls:=.type "slice",data:=.fields [vl,vu,.none].toArray } }
 exact tail_any (ops:=[.ref ό5,v]) ht hT hg (by with_unfolding_all rfl)
def F2 (xs:δ) (lo hi:εB):List V:=(xs.drop ΩP).take ΔG
theorem uK (xs:δ) (lo hi:εB):(F2 xs lo hi).length<=xs.length:=by
 unfold F2;rw[Hu,JT];omega
end
def IZ (n:Nat) (i:Int):Option Nat:=if 0<=i then (if i < n then some i.toNat else none) else if -(n:Int)<=i then some (i+n).toNat else none
def JH {α:Type} (xs:δH) (i:Int):Option α:=(IZ γ2 i).bind λj=>xs[j]?
variable {n:Nat}
theorem vj {i:Int}{j:Nat} (h:IZ n i=some j):seqIndex? i n=some j/\j < n/\-(n:Int)<=i/\i < n:=by
 unfold IZ at h
 by_cases h0:0<=i
 ·rw[if_pos h0] at h
  by_cases h1:i < n
  ·rw[if_pos h1] at h
   have e:i.toNat=j:=DU h;exact #[by rw[seqIndex_of h0 h1,e],by omega,by omega,h1]
  ·show 200
 ·rw[if_neg h0] at h
  by_cases h1:-(n:Int)<=i
  ·rw[if_pos h1] at h
   have e:(i+n).toNat=j:=DU h;exact #[by rw[seqIndex_neg γ h1,e],by omega,h1,by omega]
  ·show 200
theorem vk {α:Type}{xs:δH}{i:Int}{v:α} (h:JH xs i=some v):∃j,seqIndex? i xs.length=some j/\xs[j]?=some v/\j < xs.length/\-(xs.length:Int)<=i/\i < xs.length:=by
 unfold JH at h
 cases e:IZ xs.length i with
 | none=>rw[e] at h;cases h
 | some j =>
  rw[e] at h;obtain⟨h1,h2,h3,h4⟩:=vj e;exact #[j,h1,h,h2,h3,h4]
theorem aB {α:Type}{xs:δH}{j:Nat}{v:α} (h:xs[j]?=some v):JH xs (j:Int)=some v:=by
 have hj:j < xs.length:=(ET.mp h).1
 have e:IZ γ2 (j:Int)=some j:=by
  unfold IZ;rw[if_pos γ,if_pos γ];simp
 unfold JH;rw[e];exact h
def BG (b:Expr):Prop:=∀o i,subscripted b υ o i=operate [o,i] ώx
def LB (X:Cx) (r:R2):Prop :=
 ∀(value slice:Expr) (pins:ϕ) (s:ν) (σ:St) (H:Hp) (x y:V) (v u:θ) (Q:VK),Inv X pins σ H s->f_ x v->f_ y u->r x y H Q →
  subscripted ι6 υ v u=operate [v,u] (getItem v u)->wpAny ω X.A (subscriptTail εS ι6 v u) δi X.xe s
def Mu (X:Cx) (id:εG) (r:νX):Prop :=
 ∀(pins:ϕ) (s:ν) (σ:St) (H:Hp) (x:V) (xs:δ) (v:θ) (us:χ) (Q:VK),Inv X pins σ H s->f_ x v->h_ xs us->r x xs H Q →
  wpAny ω X.A ΦM δi X.xe s
variable {pins:List (Addr × Obj)}{σ:St}{H:Hp}{s:Shared}{its:List Value}{x:V}
section
variable {X:Cx}{a b:Expr}{ta tb:TE}{pos:Pos}
theorem aE {r:R2} (hr:LB X r) (ha:εD) (hb:ηv) (hs:BG b):PE X (.Subscript a b pos) 67e0:=by
 show 15;exact Subscript_ (Kl ha hb I h λv u s2 x y H2 I2 rx ry q=>hr a b g s2 σ H2 x y v u Q I2 rx ry q (hs _ _))
inductive Ko (K:n_) (x y:V) (H:Hp) (Q:VK):Prop
 | mk:∀p xs i v,x=.ref p->y=.int i->b_ K H p xs->JH xs i=some v->Q v H->Ko K x y H Q
inductive Ke (K:n_) (x y:V) (H:Hp) (Q:VK):Prop
 | mk:∀p xs i v,x=.ref p->y=.int i->Ew K H p xs->JH xs i=some v->Q v H->Ke K x y H Q
theorem aG:LB X (Ko X.K):=by
 intro E G g s σ H x y v u Q I rx ry h hs;show 201
 show 117;obtain⟨D,r,pl,hz⟩:=I.list hq;show 202
 show 118
 have hn:=jH
 show 203
 by_cases h0:0<=i
 ·have hj:i.toNat=j:=by
   rw[seqIndex_of h0 h5] at h1;exact DU h1
  exact item_listR ζD h0 γ Ψp fin hs
 ·have hj:(i+(D.toArray.size:Int)).toNat=j:=by
   rw[seqIndex_neg γ h4] at h1
   show 204
  exact subscriptTail_builtinR (x:=w) όJ Ω6
   (wpAny_getItem_list_neg (Q:=λr s'=>r=w/\EP X g σ Q r s') ζD γ (by rw[Ey] <;> omega) γ Ψp ώy) hs
theorem bX:LB X (Ke X.K):=by
 intro D E g s σ H x y v u Q I rx ry h hs;show 201
 show 117;obtain⟨G,r,pl,hz⟩:=I.tuple hq;show 202
 show 118
 have hn:=jH
 show 203
 exact subscriptTail_builtinR (x:=w) pl.typeIs slot_tuple_getitem.lookup
  (getItem_tuple (j:=j) (Q:=λr s'=>r=w/\EP X g σ Q r s') pl γ γ (by rw[Ey,← hl];exact h1) (by simpa using ew) ώy) hs
theorem wU (its:χ) (n j:Nat) (u:θ):Obj.mapSeq (·.setIfInBounds j u) { cls:=.type "list",data:=.seq εg n } = { cls:=.type "list",data:=.seq (its.set j u).toArray n }:=by
 simp[Obj.mapSeq]
theorem Inv.lst {pins:ϕ}{σ:St}{H:Hp}{s:ν}{p:Addr}{xs:δ} (I:ρ) (h:ϋt) :
  ∃(its:χ) (n:Nat),h_ xs its∧s.heap.get? p=some { cls:=.type "list",data:=.seq εg n } ∧ xs.length≤sizeLine:=by
 obtain⟨z,its,n,r,e⟩:=I.hok p _ h;exact #[its,n,r,e,z]
theorem Inv.lstUpd {p:Addr}{xs ys:δ}{its':χ}{n':Nat}{f:Obj->Obj} (I:ρ) (h:ϋt)
  (ho:s.heap.get? p=some { cls:=.type "list",data:=.seq εg n }) (hf:f { cls:=.type "list",data:=.seq εg n } = { cls:=.type "list",data:=.seq χm n' }) (r:h_ ys its') (hz:ϊC) (t:Nat) :
  Inv X pins σ (upd H p γB) { s with heap:=s.heap.update p f,toks:=t }:=by
 have e:(s.heap.update p f).get? p=some { cls:=.type "list",data:=.seq χm n' }:=by
  rw[Heap.get?_update_self f ho (by rw[hf] <;> rfl),hf]
 refine I.write (x:=p) (e:=p) (by rw[h];trivial) γA (λb u hb q=>(RU _ _ (Es hb)).trans q) #[_,e] ?_
 exact #[hz,its',n',r,e]
inductive Bg (o i v:V) (H:Hp) (Q:ηA):Prop
 | mk:∀p xs k j,o=.ref p->i=.int k->H p=some (.lst xs)->IZ xs.length k=some j->Q (upd H p (.lst (xs.set j v)))->Bg o i v H Q
theorem cp:LI X Bg:=by
 intro C s σ H o i v ov iv u Q I ro ri rv h;obtain⟨p,xs,k,j,rfl,rfl,hp,hj,q⟩:=h
 cases ro;obtain⟨t,rfl⟩:=ri;obtain⟨g,n,r,ho,hz⟩:=I.lst hp;obtain⟨h1,h2,h3,h4⟩:=vj hj
 show 118
 have hn:=jH
 have I':Inv X C σ (upd H p (.lst (xs.set j v))) { s with heap:=s.heap.update p (Obj.mapSeq (·.setIfInBounds j u)) } :=
  I.lstUpd hp ho (wU g n j u) (r.set rv j) (by rw[HQ];exact hz) δ9
 by_cases h0:0<=k
 ·have hk:k.toNat=j:=by
   rw[seqIndex_of h0 h4] at h1;exact DU h1
  exact PySem.W.ki_setAt ho h0 γ (by rw[Ey,← hl];exact h4) Φz
 ·have hk:(k+(g.toArray.size:Int)).toNat=j:=by
   rw[seqIndex_neg γ h3] at h1
   show 204
  exact PySem.W.ki_setBack ho γ (by rw[Ey,← hl];exact h3) γ Φz
theorem rV (lo hi:εB) (n:Nat):(sliceBounds lo hi none n).1=((HT.GJ n 0 lo:Nat):Int)/\(sliceBounds lo hi none n).2.1=((HT.GJ n n hi:Nat):Int)/\(sliceBounds lo hi none n).2.2=1:=by
 refine #[?_,?_,rfl]
 ·cases lo with
  | none=>simp[sliceBounds,HT.GJ]
  | some i =>
   show 205
   by_cases h:i < 0
   ·show 206
   ·show 207
 ·cases hi with
  | none=>simp[sliceBounds,HT.GJ]
  | some i =>
   show 205
   by_cases h:i < 0
   ·show 206
   ·show 207
theorem qT (its:χ) (lo hi:εB):slicePick εg lo hi none=((its.drop (HT.GJ οd 0 lo)).take (HT.GJ οd οd hi - HT.GJ οd 0 lo)).toArray:=by
 obtain⟨h1,h2,h3⟩:=rV lo hi its.toArray.size;unfold slicePick;rw[h1,h2,h3];simp only[sliceRange_one,pick_run,Ey] <;> rfl
inductive Lm (K:n_) (x:V) (lo hi:εB) (H:Hp) (Q:VK):Prop
 | mk:∀a xs,x=.ref a->b_ K H a xs->(∀p,H p=none->Q (.ref p) (upd H p (.lst (F2 xs lo hi))))->Lm K x lo hi H Q
theorem oO:OP X (Lm X.K):=by
 intro j s σ H x v vl vu lo hi sl Q I rx hs pl pu h;obtain⟨a,xs,rfl,hx,q⟩:=h
 show 13;obtain⟨C,r,ht,hz⟩:=I.list hx
 have g:=r.length
 refine #["list",_,Ω6,ht.isList.typeIs,?_]
 refine wpAny_getItem_list_slice ht.isList hs pl pu .none ό ?_ (by rw[Ey] <;> omega)
 rw[qT,← g];refine #[.ref Φ,_,I.laid (t':=δ9) (o:=.lst (F2 xs lo hi)) (λb ob q=>D_ _ q) Γ ?_,rfl,q _ ζt];exact #[DK (uK xs lo hi) hz,_,0,(r.drop ΩP).take ΔG,Fm _ rfl]
def fN:V->Bool
 | .non=>true
 | .bl _=>true
 | .int _=>true
 | .str _=>true
 | _=>false
def IY:V->V->Bool
 | .non,.non=>true
 | .bl a,.bl b=>a == b
 | .bl a,.int b=>ϊD == b
 | .int a,.bl b=>a == ϊE
 | .int a,.int b=>a == b
 | .str a,.str b=>a == b
 | _,_=>false
theorem bK {A:ϣ}{y:V}{u v:θ} (ry:ε2) (rx:f_ x v) (fy:fN y=true) (fx:fN x=true):E_ A s u v (IY y x):=by
 cases y with
 | non =>
  cases ry
  cases x with
  | non=>cases rx;exact PJ _
  | bl b=>cases rx;exact E_.none_bool b
  | int b=>obtain⟨t,rfl⟩:=rx;exact E_.none_int b t
  | str b=>obtain⟨t,rfl⟩:=rx;exact E_.none_str b t
  | _=>exact absurd (show false=true from fx) Fp
 | bl a =>
  cases ry
  cases x with
  | non=>cases rx;exact E_.bool_none a
  | bl b=>cases rx;exact E_.bool_bool a b
  | int b=>obtain⟨t,rfl⟩:=rx;exact E_.bool_int a b t
  | str b=>obtain⟨t,rfl⟩:=rx;exact E_.bool_str a b t
  | _=>exact absurd (show false=true from fx) Fp
 | int a =>
  show 208
  cases x with
  | non=>cases rx;exact E_.int_none a t'
  | bl b=>cases rx;exact E_.int_bool a t' b
  | int b=>obtain⟨t,rfl⟩:=rx;exact E_.int_int a t' b t
  | str b=>obtain⟨t,rfl⟩:=rx;exact Ri a t' b t
  | _=>exact absurd (show false=true from fx) Fp
 | str a =>
  show 208
  cases x with
  | non=>cases rx;exact E_.str_none a t'
  | bl b=>cases rx;exact E_.str_bool a t' b
  | int b=>obtain⟨t,rfl⟩:=rx;exact QU a t' b t
  | str b=>obtain⟨t,rfl⟩:=rx;exact E_.str_str a t' b t
  | _=>exact absurd (show false=true from fx) Fp
 | _=>exact absurd (show false=true from fy) Fp
def Jr (x:V) (u:Value):Bool:=match u with
 | .none=>IY .non x
 | .bool b=>IY θW x
 | .int i _=>IY ζG x
 | .str z _=>IY (.str z) x
 | _=>false
theorem yo {y:V}{u:θ} (r:ε2) (f:fN y=true):Jr x u=IY y x:=by
 cases y with
 | non=>cases r;rfl
 | bl b=>cases r;rfl
 | int i=>obtain⟨t,rfl⟩:=r;rfl
 | str z=>obtain⟨t,rfl⟩:=r;rfl
 | _=>exact absurd (show false=true from f) Fp
theorem oP {x:V}:∀{xs:δ}{us:χ},h_ xs us->xs.all fN=true->us.any ηD=xs.any λy=>IY y x
 | _,_,.nil,_=>rfl
 | y :: xs,u :: us,.cons r t,f=>by
  rw[Mb,Gx] at f;rw[LP,LP,yo r f.1,oP t f.2]
theorem lX {A:ϣ}{s:ν}{x:V}{v:θ} (rx:f_ x v) (fx:fN x=true):∀{xs:δ}{us:χ},h_ xs us->xs.all fN=true->∀u∈us,E_ A s u v (Jr x u)
 | _,_,.nil,_=>λu hu=>by cases hu
 | y :: xs,u :: us,.cons r t,f=>λu' hu=>by
  rw[Mb,Gx] at f;rcases DH.mp hu with rfl | hu
  ·rw[yo r f.1];exact bK r rx f.1 fx
  ·exact lX rx fx t f.2 u' hu
def Mi (x:V) (xs:δ):Bool:=xs.any λy=>IY y x
inductive Ou (K:n_) (neg:Bool) (x y:V) (H:Hp) (Q:VK):Prop
 | mk:∀p xs,y=.ref p->b_ K H p xs\/Ew K H p xs->fN x=true->xs.all fN=true->(Q (.bl (if neg then !Mi x xs else Mi x xs)) H)->Ou K neg x y H Q
theorem rW:FL X (compareOp .NotIn) (Ou X.K true):=by
 intro j s σ H x y v u Q I rx ry h;obtain⟨p,xs,rfl,hq,fx,fs,q⟩:=h
 cases ry;rcases hq with hq | hq
 ·obtain⟨g,r,pl,hz⟩:=I.list hq
  refine SeqAt.notIn_listAt ηD ζD Θm ΩQ
  show 209
  exact q
 ·obtain⟨g,r,pl,hz⟩:=I.tuple hq
  refine SeqAt.notIn_tupleAt ηD pl Θm ΩQ
  show 209
  exact q
inductive ee (K:n_) (xs:δ) (H:Hp) (Q:VK):Prop
 | mk:∀p ys,xs=[.ref p]->b_ K H p ys\/Ew K H p ys->Q (.int ys.length) H->ee K xs H Q
theorem aD:bN X όK (ee X.K):=by
 show 210
 show 13
 have hn:=jH;rcases hq with hq | hq
 ·obtain⟨j,r',pl,hz⟩:=I.list hq
  have g:=μn;exact QO ζD ιL Δb
 ·obtain⟨j,r',pl,hz⟩:=I.tuple hq
  have g:=μn;exact len_tuple pl ιL Δb
inductive eA (K:n_) (xs:δ) (H:Hp) (Q:VK):Prop
 | mk:∀p ys,xs=[.ref p]->b_ K H p ys\/Ew K H p ys->(∀l,H l=none->Q (.ref l) (upd H l (.lst ys)))->eA K xs H Q
theorem bC:bN X υR (eA X.K):=by
 show 210
 show 13
 have fin:∀(g:χ),h_ ys g->ys.length<=sizeLine->∀(h':Heap) (c':Nat),(∀b o',s.heap.get? b=some o'->h'.get? b=some o') →
   h'.get? s.heap.objs.size=some { cls:=.type "list",dict:=none,data:=.seq εr c',slots:=#[] } → EP X C σ Q νV { s with heap:=h' }:=λg r' hz h' c' kp e =>
  #[.ref Φ,_,I.laid (t':=δ9) kp Γ (show r_ ϥ X.w _ h' _ γB from #[hz,g,c',r',e]),rfl,q _ ζt]
 rcases hq with hq | hq
 ·obtain⟨g,r',pl,hz⟩:=I.list hq
  have j:=μn;obtain⟨o,ho,hc,n,hd⟩:=ζD;exact call_list_seq p γA ho hc hd ΘU ιL
 ·obtain⟨g,r',pl,hz⟩:=I.tuple hq
  have j:=μn;obtain⟨o,ho,hc,n,hd⟩:=pl;exact call_list_seq p (.inr rfl) ho hc hd ΘU ιL
def M6 (K:n_) (T:String) (x:V) (H:Hp):Prop:=match x with
 | .str _=>T = "str"
 | .int _=>T = "int"
 | .ref p=>(T = "list" ∧ ∃xs,b_ K H p xs) ∨ (T = "tuple" ∧ ∃o,K.lookup p=some o∧o.cls=.type "tuple" ∧ o.dict=none) ∨
   (T = "dict" ∧ ((∃kvs,H p=some ζV) ∨ ∃kvs,H p=some θP)) ∨ (T = "set" ∧ ∃S n,H p=some (.set S n))
 | _=>False
theorem yp {T:εG}{v:θ} (I:ρ) (r:f_ x v) (ty:M6 X.K T x H) :
  s.TypeIs v T/\∀a,v=.ref a->∃ob,s.heap.get? a=some ob/\ob.dict=none:=by
 cases x with
 | str z =>
  obtain⟨t,rfl⟩:=r
  cases (show T = "str" from ty)
  exact⟨typeIs_str s z t,λ_ e=>nomatch e⟩
 | int i =>
  obtain⟨t,rfl⟩:=r
  cases (show T = "int" from ty)
  exact⟨typeIs_int s i t,λ_ e=>nomatch e⟩
 | ref p =>
  cases r;rcases ty with ⟨rfl,xs,hq⟩ | ⟨rfl,o,hk,hc,hd⟩ | ⟨rfl,hk⟩ | ⟨rfl,S,n,hk⟩
  ·obtain⟨h,_,pl,_⟩:=I.list hq
   refine #[όJ,λa e=>?_]
   cases e;obtain⟨o,n,e,c,hd,_⟩:=pl;exact #[o,e,hd]
  ·refine #[#[o,I.kIn p o hk,hc],λa e=>?_]
   cases e;exact #[o,I.kIn _ o hk,hd]
  ·have z:∃o,s.heap.get? p=some o/\o.ExactDict:=by
    rcases hk with ⟨g,hk⟩ | ⟨g,hk⟩
    ·obtain⟨_,_,_,_,o,_,_,e,ex,_⟩:=I.hok p _ hk
     exact #[o,e,ex]
    ·obtain⟨_,_,_,_,o,_,_,e,ex,_⟩:=I.hok p _ hk
     exact #[o,e,ex]
   obtain⟨o,e,ex⟩:=z;refine Φ5
   cases e2;exact όL
  ·obtain⟨o,_,_,_,e,ex,_⟩:=I.hok p _ hk
   refine Φ5
   cases e2;exact όL
 | _=>exact False.elim ty
def Na (K:n_) (T:εG) (r:νX) (to:TE):TE:=λσ H Q=>to σ H λx H1=>M6 K T x H1/\r x [] H1 Q
def Qf (K:n_) (T:εG) (r:νX) (to:TE) (t:TA):TE:=λσ H Q=>to σ H λx H1=>M6 K T x H1/\t σ H1 λxs H2=>r x xs H2 Q
variable {o e:Expr}{es:List Expr}{to:TE}{t:TA}{name:Str}{apos cpos:Pos}{T id:String}{r:V->List V->Hp->VK->Prop}
theorem yq (pa:PlainAttrs T) (slot:ύY) (hty:ΔH) (hm:Mu X id r) (ho:οi)
  (hbase:attributeBase o name π ξG=eval o X.env:=by rfl) (hline:νK=true:=by rfl):PE X (.Call Ω7 [] [] cpos) (Na X.K T r to):=by
 intro g s σ H Q I h;refine wpAny_Call_method0_late hbase hline Δc;obtain⟨h1,h2⟩:=yp I1 r1 ty;exact #[T,id,pa,slot,hty,h1,h2,Rh rfl (PySem.evalArgs_none (hm g s1 σ H1 x [] v [] Q I1 r1 .nil q1))]
theorem cu (pa:PlainAttrs T) (slot:ύY) (hty:ΔH) (hm:Mu X id r) (ho:οi) (ha:ηk)
  (hbase:attributeBase o name π ξG=eval o X.env:=by rfl)
  (hfew:((backTo cpos (starEach δs π)).all χ7 && (backToKw cpos πp).all τW
   && decide ((e :: es).length+([]:List Keyword).length+ρn < 30))=true:=by rfl)
  (hline:νK=true:=by rfl) (hs:starEach δs X.env=(υ,eval e π) :: starEach es X.env:=by rfl) (hplain:(backTo cpos ζ0).any (·.1)=false:=by rfl) :
  PE X (.Call Ω7 δs [] cpos) (Qf X.K T r to t):=by
 intro g s σ H Q I h;refine wpAny_Call_method_late hbase hfew hline rfl Δc;obtain⟨h1,h2⟩:=yp I1 r1 ty;refine #[T,id,pa,slot,hty,h1,h2,?_]
 have hA:=ha cpos g s1 σ H1 _ I1 q1;rw[hs] at hA ⊢;refine Rh (by show (false || (backTo cpos ζ0).any (·.1))=υ;rw[hplain] <;> rfl) (Calls.evalArgs_plain ?_)
 exact w_ hA λus s2 ⟨vs,H2,I2,r2,q2⟩=>hm g s2 σ H2 x vs v us Q I2 r1 r2 q2
end
def Qa (X:Cx) (id:εG) (r:νX):Prop :=
 ∀(pins:ϕ) (s:ν) (σ:St) (H:Hp) (x:V) (xs:δ) (v:θ) (us:χ) (Q:VK),Inv X pins σ H s->f_ x v->h_ xs us->r x xs H Q →
  wpAny ω X.A ΦM δi X.xe s
theorem h_.one:∀{x:V}{us:χ},h_ [x] us->∃u,us=[u]/\f_ x u
 | _,_,.cons r .nil=>ώk
theorem h_.rep {xs:δ}{us:χ} (h:h_ xs us):∀k:Nat,h_ (Ee k xs).flatten (Ee k us).flatten
 | 0=>.nil
 | k+1=>by
  rw[HV,HV,JN,JN];exact h_.append h (h_.rep h k)
theorem pM (its:χ):∀(k:Nat) (acc:χ),
  OW τX acc.toArray (Ee k εg)=(acc++(Ee k its).flatten).toArray
 | 0,acc=>by simp
 | k+1,acc=>by
  have e:acc.toArray++εg=(acc++its).toArray:=by simp
  have e2:(acc++its)++(Ee k its).flatten=acc++(Ee (k+1) its).flatten:=by
   rw[HV,JN,MW]
  rw[<- e2,← pM its k (acc++its),← e,HV,O5]
section
variable {X:Cx}{pins:List (Addr × Obj)}{σ:St}{H:Hp}{s:Shared}{l b:Addr}{xs ys zs:List V}
theorem Inv.lset {its':χ}{f:Array Value->Array Value}{t':Nat} (I:ρ) (hH:ξr)
  (e:s.heap.get? l=some { cls:=.type "list",data:=.seq εg n }) (hf:f its.toArray=χm) (hv:h_ ys its') (hz:ϊC) :
  Inv X pins σ (upd H l γB) { s with heap:=s.heap.update l ύZ,toks:=t' }:=by
 have q:=PySem.IsL.update e f;rw[hf] at q;refine I.write (x:=l) (e:=l) (by rw[hH];exact trivial) γA (λb' u hb hu=>(RU Ψ ύZ (Es hb)).trans hu) #[_,q] ?_
 exact #[hz,its',_,hv,q]
theorem Inv.lnew {t':Nat} (I:ρ) (hv:h_ ys its) (hz:ys.length<=δv) :
  Inv X pins σ (upd H Φ γB) { s with heap:=s.heap.push { cls:=.type "list",data:=.seq its.toArray },toks:=t' } :=
 I.laid ϋ9 Γ #[hz,its,0,hv,Fm _ rfl]
theorem Inv.fresh (I:ρ):H s.heap.objs.size=none:=I.hok.fresh Γ
theorem Inv.lstM (I:ρ) (hH:ξr):xs.length≤sizeLine ∧ ∃(its:χ) (n:Nat),h_ xs its∧xs.length=its.length∧s.heap.get? l=some { cls:=.type "list",data:=.seq εg n }:=by
 obtain⟨z,its,n,r,e⟩:=I.hok l _ hH;exact #[z,its,n,r,οJ,e]
theorem lY (h:δE):PF n=false:=by
 unfold PF;exact decide_eq_false γ
end
variable {α:Type}
section
variable {X:Cx}
inductive vm (x:V) (vs:δ) (H:Hp) (Q:VK):Prop
 | mk:∀l xs y,x=.ref l->vs=[y]->H l=some (.lst xs)->xs.length < sizeLine->Q .non (upd H l (.lst (xs++[y])))->vm x vs H Q
theorem aZ:Qa X "list.append" vm:=by
 intro j s σ H x vs v us Q I rx rv h;obtain⟨l,xs,y,rfl,rfl,hH,hz,q⟩:=h
 show 13;obtain⟨u,rfl,ru⟩:=rv.one;show 211;refine call_meets F.slot_list_append ξN F.entry_list_append (F.args_list_append_2 _ _) (PySem.list_append l εr n u υ7) #[e,?_]
 refine #[.non,_,I.lset (its':=g++[u]) hH e ό (r.append (.cons ru .nil)) ?_,rfl,q]
 rw[Fn,Qr];omega
inductive LH (x y:V) (H:Hp) (Q:VK):Prop
 | mk:∀l b xs zs,x=.ref l->y=.ref b->H l=some (.lst xs)->H b=some (.lst zs)->xs.length+zs.length<=sizeLine->(∀p,H p=none->Q (.ref p) (upd H p (.lst (xs++zs))))->LH x y H Q
theorem yr:FL X ύj LH:=by
 intro C s σ H x y v u Q I rx ry h;obtain⟨l,b,xs,zs,rfl,rfl,hH,hB,hz,q⟩:=h
 show 13
 cases ry;obtain⟨z,j,n,r,hl,e⟩:=I.lstM hH;obtain⟨z2,g,n2,r2,D,e2⟩:=I.lstM hB;refine PySem.P.add_list e e2 ?_ ϊg
 have ea:j.toArray++εr=(j++g).toArray:=by simp
 rw[ea];exact #[.ref _,_,I.lnew (t':=δ9) (r.append r2) (by rw[Fn];omega),rfl,q _ I.fresh]
inductive Lf (x y:V) (H:Hp) (Q:VK):Prop
 | mk:∀l k xs,x=.ref l->y=.int k->H l=some (.lst xs)->-(2 ^ 63)<=k->k < 2 ^ 63->xs.length * k.toNat<=sizeLine->(∀p,H p=none->Q (.ref p) (upd H p (.lst (Ee k.toNat xs).flatten)))->Lf x y H Q
theorem BH (xs:δH) (k:Nat):(Ee k xs).flatten.length=k * xs.length:=by
 induction k with
 | zero=>simp
 | succ k ih=>rw[HV,JN,Fn,ih,Sd,Nat.add_comm]
theorem gf:FL X όE Lf:=by
 intro J s σ H x y v u Q I rx ry h;obtain⟨l,k,xs,rfl,rfl,hH,h1,h2,hz,q⟩:=h
 show 117;show 211
 have E:g.toArray.size * k.toNat<=sizeLine:=by rw[Ey,← hl];exact hz
 have G:¬ g.toArray.size * k.toNat > (2 ^ 63 - 1) / 8:=by
  have:(sizeLine:Nat)<=(2 ^ 63 - 1) / 8:=by decide
  omega
 have D:¬ (!Builtin.List.listFitsIndex k)=true:=by
  rw[fitsIndex_both h1 h2];exact Fp
 have j:¬ PF (g.toArray.size * k.toNat)=true:=by
  rw[lY E];exact Fp
 have C:OW τX #[] (Ee (if g.toArray.isEmpty=true then 0 else k.toNat) εr)=(Ee k.toNat g).flatten.toArray:=by
  have f0:∀m:Nat,OW τX #[] (Ee m εr)=(Ee m g).flatten.toArray:=λm=>by
   have:=pM g m [];rw[List.nil_append] at this;show 9
  rw[f0]
  cases g with
  | nil=>simp
  | cons a r'=>rw[if_neg ό]
 refine wpAny_binaryOp_repeat_ref (T:="list") (U:="int") ε ξN (λs'=>typeIs_int s' k t) noFill_list_mul F.fills_int_mul ύm repeat_list F.slot_int_index.lookup
  (call_meets ύm (typeIs_int s k t) F.entry_int_rmul (F.args_int_rmul_2 _ _) (int___rmul___int_list k t l εr n)
   ⟨e,rfl,ξN,call_meets F.slot_list_mul ξN F.entry_list_mul (F.args_list_mul_2 _ _) (AutoListH.list___mul___list_int_3 l εr n k t D G j) ⟨e,?_⟩⟩)
 rw[C];exact #[.ref _,_,I.lnew (t':=δ9) (r.rep k.toNat) (by rw[BH,HI];exact hz),rfl,q _ I.fresh]
end
section
variable {prog:Program}{w:World}{A:Around}{E:Value->Shared->Prop}{s:Shared}
theorem yt (its its2:χ) (a c:Nat):its.toArray.extract 0 a++its2.toArray++its.toArray.extract c its.toArray.size=(its.take a++its2++its.drop c).toArray:=by
 apply Array.toList_inj.mp
 first
  | (simp
     exact KD ό)
  | simp[KD]
  | simp
theorem wV {a c:Nat} (hac:a<=c) (hc:c<=n):sliceBounds υS υT none n=((a:Int),(c:Int),1):=by
 simp only[sliceBounds,O6]
 have h1:¬ ((a:Int) < 0):=by omega
 have h2:¬ ((c:Int) < 0):=by omega
 simp only[h1,h2,if_false,show (1:Int) > 0 by decide,if_true]
 congr 1
 ·omega
 ·congr 1;omega
set_option maxRecDepth 100000 in
theorem qU {l b sl:Addr}{items new:γx}{n2:Nat}{vl vu:θ}{a c:Nat}{Q:υ8}
  (e:s.heap.get? l=some { cls:=.type "list",data:=.seq items n }) (e2:s.heap.get? b=some { cls:=.type "list",data:=.seq new n2 }) (hne:l≠b)
  (hs:ΦA) (pl:IsPart vl υS) (pu:IsPart vu υT) (hac:a<=c) (hc:c<=οe)
  (hsz:items.size+new.size<=δv) (h:Q () { s with heap:=s.heap.update l (Obj.mapSeq λxs=>xs.extract 0 a++new++xs.extract c xs.size) }) :
  wpAny γd A Ξp Q E s:=by
 have hl:s.heap.IsList l items:=R5 e
 have hb:s.heap.IsList b new:=R5 e2;obtain⟨os,j,J,C⟩:=id hs
 have G:s.TypeIs ιt "slice":=#[os,j,J]
 have D:¬ ((rawPart none == rawInt 0)=true):=Fp
 have g:Qp ζp (.ref b)=false:=by
  unfold Qp;exact beq_eq_false_iff_ne.mpr hne
 have H:(max (a:Int) (c:Int)).toNat=c:=by omega
 have O:((λxs:Array Value=>xs.extract 0 a++new++xs.extract c xs.size) items).size<=sizeLine+1:=by
  simp only[Array.size_append,Array.size_extract];omega
 unfold setItem
 try with_reducible refine Gz ?_
 first | refine q_ δU | skip
 refine q_ (wpAny_sequenceKey ψ9 ε ?_)
 refine q_ (wpAny_callSpecial?_slot (name:=EM "__setitem__") ψ9 ό6
  (QQ ό6 ψ9 entry_list_setitem ?_ (args_list_setitem _ _ _)))
 show wpAny _ _ (Sn ιt >>= _) _ _ s
 refine q_ ?_;unfold Sn;refine q_ (Pe G slice_no_index ?_);simp only[Option.isNone_none,if_true];refine DY ?_
 show wpAny _ _ (typeOf ιt >>= _) _ _ s
 refine q_ (wpAny_typeOf G ?_)
 first
  | rw[if_neg (by decide)]
  | refine PN (by decide) ?_
 rw[listSliceParts_eq];refine q_ (q_ (Pu j C (x:=.none) rfl (q_ (P5 .none ?_))));rw[if_neg D];refine q_ (Pu j C (x:=vl) rfl (q_ (P5 pl ?_)));refine q_ (Pu j C (x:=vu) rfl (q_ (P5 pu δU)))
 first
  | simp only[g,Kt,if_false]
  | refine PN g ?_
  | (dsimp only
     rw[if_neg (by rw[g];exact Fp)])
 refine q_ (m:=Q9 (.ref b) "must assign iterable to extended slice") ?_
 unfold Q9;refine q_ (wpAny_typeOf hb.typeIs ?_)
 first
  | refine PySem.W.KFB.if_so (by decide) ?_
  | rw[if_pos (by decide)]
  | simp only[beq_self_eq_true,N_,if_true]
 unfold Builtin.List.listItems;refine q_ (MN e2 rfl δU);refine q_ (q_ (MN e rfl δU));refine q_ (wpAny_of_eq ((sliceIndices_raw υS υT none οe ό).trans (congrArg (pure:Int × Int × Int->Sem (Int × Int × Int)) (wV hac hc))) ?_)
 show wpAny _ _ (if ((1:Int) == 1)=true then _ else _) _ _ s
 rw[if_pos ε]
 refine q_ ύn
 first
  | simp only[lY hsz,Kt,if_false]
  | refine PN (lY hsz) ?_
 first | refine q_ δU | skip
 show wpAny _ _ (updateSeq l (λxs=>xs.extract 0 ((a:Int)).toNat++new++xs.extract (max (a:Int) (c:Int)).toNat xs.size) >>= _) _ _ s
 rw[H,Fu];refine q_ (N2 (hz:=DK (KA _ _) hsz) (_hz':=O) e rfl ?_);refine q_ οX
 first
  | exact q_ (DY (DY ⟨.none,rfl,DY h⟩))
  | exact DY ⟨.none,rfl,DY h⟩
end
section
variable {X:Cx}
theorem yu {l b sl:Addr}{xs ys:δ}{a c:Int}{vl vu:θ}{Q:υ8} (I:ρ)
  (hH:ξr) (hB:H b=some γB) (hne:l≠b) (hs:ΦA) (ra:f_ (.int a) vl) (rc:f_ ψB vu) (h0:0<=a) (hac:a<=c) (hc:c<=γ2)
  (hz:xs.length+ys.length<=δv) (h:∀s',Inv X pins σ (upd H l (.lst (xs.take a.toNat++ys++xs.drop c.toNat))) s'->Q () s') :
  wpAny ω X.A Ξp Q X.xe s:=by
 obtain⟨ta,rfl⟩:=ra;obtain⟨tc,rfl⟩:=rc;obtain⟨z,j,n,r,hl,e⟩:=I.lstM hH;obtain⟨z2,g,n2,r2,C,e2⟩:=I.lstM hB;obtain⟨a',rfl⟩:=Q5 h0;obtain⟨c',rfl⟩:=Q5 (Int.le_trans h0 hac);simp only[Fu] at h;refine qU (a:=a') (c:=c') e e2 hne hs (.int _ _) (.int _ _) γ υ7 ϊg (h _ ?_)
 refine I.lset (its':=j.take a'++g++j.drop c') (t':=δ9) hH e ?_ (h_.append (h_.append (r.take _) r2) (r.drop _)) ?_
 ·exact yt j g a' c'
 ·rw[Fn,Fn,Hu,JT]
  omega
end
end L2
namespace Att
open PySem PySem.W PySem.Calls PyProof.Rows
theorem mP {P:Params}{h:Heap}:∀(ns:γz) (vs:χ),WellAll P h vs ϋu->IntsAre vs ns:=by
 intro ns
 induction ns with
 | nil =>
  intro vs w;rw[RE] at w
  cases w;exact .nil
 | cons n ns ih =>
  intro vs w;rw[FY] at w
  cases w with
  | cons a b =>
   cases a;exact .cons _ _ (ih _ b)
theorem yv {l:OpenLaw}{n:Nat} (hn:χ8) {P:Params}{h:Heap}{args:List WData}{vals:χ}
  (hpre:l.row.toRowW.claim.pre args=true) (hwl:WellAll P h vals args) :
  ∃a vs ns,vals=[Ev a]∧args=[WData.list ϋu]∧h.get? a=some { cls:=.type "list",data:=.seq δt } ∧ IntsAre vs ns∧ns.length≤n:=by
 have j:WShape.hasAll [] args [.list .int]=true:=(pre_splitW hpre).1
 have hc:l.pre.holds [] { args:=args } = true:=(pre_splitW hpre).2;obtain⟨d,r,rfl,h1,h2⟩:=hasAllW_cons j;obtain rfl:=hasAllW_nil h2;obtain⟨xs,rfl,h3⟩:=hasW_list h1;obtain⟨ns,rfl⟩:=items_int h3
 have g:ns.length<=n:=by
  unfold OpenLaw.pre at hc
  have h4:(WTm.not (.lt (.lit ξH) (.len (.arg 0)))).holds [] { args:=[.list (ns.map .int)] } = true:=by
   have h4:=(holds_andW hc).1;rw[hn] at h4;exact h4
  have h5:=condW_of h4 (w_not (w_lt w_lit (w_len_list (w_arg rfl))));rw[o_] at h5;refine Nat.le_of_not_lt λq=>?_
  have q':(n:Int) < ((ns.length:Nat):Int):=by omega
  first
   | (rw[decide_eq_true q'] at h5;exact absurd h5 (by decide))
   | (simp at h5;omega)
 cases hwl with
 | cons w1 w2 =>
  cases w2
  cases w1 with
  | list ho hall=>exact⟨_,_,ns,rfl,rfl,ho,mP ns _ hall,g⟩
theorem yw (l:OpenLaw) (args:List WData):l.row.toRowW.claim.post args ν7 args=true :=
 postW_of (r:=ξZ) (X:=ώ0)
  (show WShape.has [] ν7 .bool=true by first | rfl | decide | simp[WShape.has,WShape.arms,WShape.armsAll])
  (show (WTm.eq .res (.lit ν7)).value [] { args:=args,res:=some ν7,after:=args } = some (.bool ώ0) from w_eq_bool (w_res rfl) w_lit) rfl
theorem GY {l:OpenLaw}{n:Nat}{q:Ϧ}{loose:ώ}{XP:ρL}{YP:υh}{d:DefRec}
  (hn:χ8) (hdf:τG)
  (call:∀(w:ϡ) (s₀ s₁:ν) (mg mb:Ϡ) (fa:Addr) (o:Obj) (pm cd doc:θ) (a:Addr) (vs:χ) (ns:γz),
   Ground q loose [] XP w s₀ mg mb s₁.heap->YP w ηZ →
   s₁.heap.get? fa=some o->o.data=.func (docDef d.name d.params d.body d.scope pm cd doc)->s₁.heap.CodeRec cd d.name->mg d.name=some ζm →
   s₁.heap.get? a=some { cls:=.type "list",data:=.seq δt } → IntsAre vs ns→ns.length≤n→s₁.gens = #[] →
   codeAny (model l.prog w) ηB ρw πR s₁) :
  WalkO q loose XP YP ξZ d [] 91e8:=by
 intro w s₀ s₁ mg mb G Y fa o pm cd doc dV kV ho hd C hD E hg O J as j H Q D R;obtain rfl:dV=.none:=Dflts.none hD hdf;obtain rfl:kV=.none:=Dflts.noKw hD;obtain⟨a,vs,ns,rfl,rfl,h,g,s⟩:=yv hn j D;refine enter_call (KS (call w s₀ s₁ mg mb fa o pm cd doc a vs ns G Y ho (fd_plain hd) C E h g s hg) λr s' hq=>?_);obtain⟨rfl,h2,h3,h4⟩:=hq;exact⟨.inl ⟨.bool true,.bool true,[],rfl,λ_=>rfl,.bool true,yw l _,λ_=>⟨MP.nil,λ_ hm=>(nomatch hm)⟩⟩,h2,h3,h4⟩
section
variable {prog:Program}{w:World}{A:Around}{E:Value->Shared->Prop}{s:Shared}{K:Frag}
end
end Att
namespace L2
open PySem PySem.Spec PyProof.Rows
theorem pN:∀{vs:χ}{ns:γz},IntsAre vs ns->h_ δC vs
 | _,_,.nil=>.nil
 | _,_,.cons n t h=>.cons θF (pN h)
abbrev So {K:n_}{h:Heap} (_:K.In h):n_:=K
end L2
namespace L2
open PySem PySem.Spec PyProof.Rows
def aA (s:Stmt) (j:Nat):Stmt:=match s with
 | .ClassDef _ _ _ body _ _ _ _ _ _ _=>body.getD j ϊh
 | _=>.Pass ⟨0,0,0,0⟩
def bI (s:Stmt):Arguments:=match s with
 | .FunctionDef _ a _ _ _ _ _ _ _ _=>a
 | _=>{ posonlyargs:=[],args:=[],vararg:=none,kwonlyargs:=[],kw_defaults:=[],kwarg:=none,defaults:=[] }
def bg (s:Stmt):List Stmt:=match s with
 | .FunctionDef _ _ b _ _ _ _ _ _ _=>b
 | _=>[]
def ah (s:Stmt):Scope:=match s with
 | .FunctionDef _ _ _ _ _ _ sc _ _ _=>sc
 | _=>{ kind:=.function,names:=[],isGenerator:=υ,isCoroutine:=false }
abbrev F7:Iw:=λ_ _ _ _ _ _=>False
abbrev E0:XK:=λ_ _ _=>False
theorem aj {X:Cx}:gc F7 X E0:=λ_ _ _ _ _ _ _ h=>h.elim
structure H_ (K:n_) (x qual:Str) (st:Stmt) (f:Addr) (fd:γN):Prop where
 ex:∃(oc:θ) (od:δk) (kV doc pm:θ) (an:δk) (cdv ct:θ) (osl:ηe),
  fd=G3 x qual ιf εa δM .none kV doc pm an cdv ct/\K.lookup f=some Ω8/\JD K cdv qual=true
 kp:HG K γt=true
variable {x qual:Str}{st:Stmt}{f:Addr}{N ps:List Str}
section
variable {P:Program}{w:World}{K:n_}{mg:Str->Option Value}{base:Heap}
theorem H_.ok {fd:γN}{k:Nat}{sp:Sp} (F:τZ) (S:θz) (len:ιB)
  (hbody:∀(cdv:θ) (A:ϣ) (outer:γ7) (s:ν) (H:Hp) (vs:δ) (Q:VK) (E:XK),DC k ρa->sp vs H Q E →
   ∃t,FK (FP F7 P w K mg base N qual δM f cdv A Δ s H E).nox εa t/\t { nx:=λ_ H'=>Q .non H',rt:=Q } 17e4 H):EI P w K mg base F7 (k+1) f fd ps sp:=by
 obtain⟨oc,od,kV,C,pm,an,cdv,ct,osl,rfl,lk,g⟩:=F.ex;refine Bf lk g S len λA outer s H vs Q E hr j=>?_;obtain⟨t,h,q⟩:=hbody cdv A Δ s H vs Q E hr j;exact ύo
theorem H_.binds {fd:γN} (F:τZ)
  (h:∀(kV doc pm:θ) (an:δk) (cdv ct:θ) (us:χ),οk=ps.length->bindArgs πv ιh=pure θ5):ER K fd ps []:=by
 obtain⟨oc,od,kV,doc,pm,an,cdv,ct,osl,rfl,lk,g⟩:=F.ex;exact .all (h kV doc pm an cdv ct)
theorem yz {oc:θ}{od an:δk}{osl:ηe}{kV doc pm cdv ct:θ} (l:Γ4)
  (c:υ6) (k:θt):H_ K x qual st f 76e5:=#[#[oc,od,kV,doc,pm,an,cdv,ct,osl,rfl,l,c],k]
end
theorem c4 {A:ϣ}{k:Nat} (hr:ι2):A.units+1 < cLine:=Ih (Nat.add_le_add_left (by decide:1<=64) _) hr.units
theorem yA {n:Nat} (h:n<=1000):n < sizeLine:=Ih h ε
section
variable {X:Cx}
theorem pv (i:Nat) {x:Str}{pos:Pos} (hN:X.N[i]?=some x:=by rfl) (hv:Mm πb x:=by first | exact Or.inl rfl | exact Or.inr ζ | exact Or.inr δ1) (hd:εu=false:=by decide)
  (hcd:ΦJ=false:=by decide):PE X ιp (JY i):=Ct hN hv hd hcd
end
variable {A B:Prop}
theorem Io (h:B):if false=true then A else B:=by
 show 111;exact h
theorem GI (h:A):if true=true then A else B:=by
 show 25;exact h
theorem c_ {c:Prop} [Decidable c] (h1:c->A) (h2:¬ c->B):if c then A else B:=by
 by_cases h:c
 ·rw[if_pos h]
  exact h1 h
 ·rw[if_neg h]
  exact h2 h
def a_ (H H':Hp):Prop:=∀b o,H b=some o->H' b=some o
theorem a_.refl (H:Hp):a_ H H:=λ_ _ h=>h
variable {H:Hp}
theorem a_.trans {H1 H2:Hp} (a:a_ H H1) (b:a_ H1 H2):a_ H H2:=λc o h=>b c o (a c o h)
theorem a_.free {H':Hp} (e:γD) {l:Addr} (h:H' l=Pw):H l=Pw:=by
 cases q:H l with
 | none=>rfl
 | some o =>
  rw[e l o q] at h
  cases h
theorem a_.seq {K:n_}{H':Hp}{a:Addr}{xs:δ} (e:γD) (h:b_ K H a xs):b_ K H' a xs:=by
 rcases h with (h | ⟨o,h⟩) | h
 ·exact .inl (.inl (e _ _ h))
 ·exact .inl (.inr #[o,e _ _ h])
 ·exact .inr h
section
variable {X:Cx}{st:Stmt}{rest:List Stmt}{t:TS}{G:TS->Prop}{pos:Pos}
theorem xx {b:ζ8} (k:let Y:=X;∃t,FK Y b t/\G t):∃t,FK X b t/\G t:=k
theorem xc (h:θM) (k:let u:=t;∃t',FK X rest t'/\G (Kc u t')):∃t',FK X ξX t'/\G t' :=
 let ⟨_,h',g⟩:=k
 ό7
theorem xl (h:θM) (k:let u:=t;G u):∃t',FK X [st] t'/\G t':=#[_,fW h,k]
theorem xq (k:∃t,PS X st t/\(let u:=t;∃t',FK X rest t'/\G (Kc u t'))):∃t',FK X ξX t'/\G t' :=
 let ⟨_,h,_,h',g⟩:=k
 ό7
theorem x1 (k:∃t,PS X st t/\(let u:=t;G u)):∃t',FK X [st] t'/\G t' :=
 let ⟨_,h,g⟩:=k
 #[_,fW h,g]
theorem xi {c:Expr}{a b:ζ8}{tc:TT} (hc:οh) (k:∃t,FK X a t/\∃u,FK X b u/\G (LL tc t u)):∃t,PS X ύh t/\G t :=
 let ⟨_,ha,_,hb,g⟩:=k
 #[_,rG hc ha hb,g]
theorem xf {tg iter:Expr}{body:ζ8}{wi:TI}{g:TG} (hp:ιC) (hc:γm) (hi:ζy) (hg:οj) (k:∃tb,FK X body tb/\G χi)
  (hs:∀x,foldedSetIterable iter π x=pure x:=by intro _;rfl):∃t,PS X τ0 t/\G t :=
 let ⟨_,hb,q⟩:=k
 #[_,xY hp hc hi hg hb hs,q]
theorem xw {c:Expr}{body:ζ8}{tc:TT} (hp:ιC) (hc:οh) (k:∃tb,FK X body tb/\G (xS tc tb)):∃t,PS X ΩO t/\G t :=
 let ⟨_,hb,q⟩:=k
 #[_,Ae hp hc hb,q]
end
theorem Mr {f:FuncData} (us:List Value) (hl:us.length=1) (h:∀x0,bindArgs f ⟨[x0],[]⟩=pure (ps.zip [x0])):bindArgs f ⟨us,[]⟩=pure (ps.zip us):=match us,hl with | [x0],_=>h x0
theorem Mo {f:FuncData} (us:List Value) (hl:us.length=2) (h:∀x0 x1,bindArgs f ⟨[x0,x1],[]⟩=pure (ps.zip [x0,x1])):bindArgs f ⟨us,[]⟩=pure (ps.zip us):=match us,hl with | [x0,x1],_=>h x0 x1
theorem Mj {f:FuncData} (us:List Value) (hl:us.length=3) (h:∀x0 x1 x2,bindArgs f ⟨[x0,x1,x2],[]⟩=pure (ps.zip [x0,x1,x2])):bindArgs f ⟨us,[]⟩=pure (ps.zip us):=match us,hl with | [x0,x1,x2],_=>h x0 x1 x2
theorem Mq {f:FuncData} (us:List Value) (hl:us.length=4) (h:∀x0 x1 x2 x3,bindArgs f ⟨[x0,x1,x2,x3],[]⟩=pure (ps.zip [x0,x1,x2,x3])):bindArgs f ⟨us,[]⟩=pure (ps.zip us):=match us,hl with | [x0,x1,x2,x3],_=>h x0 x1 x2 x3
theorem Mt {f:FuncData} (us:List Value) (hl:us.length=5) (h:∀x0 x1 x2 x3 x4,bindArgs f ⟨[x0,x1,x2,x3,x4],[]⟩=pure (ps.zip [x0,x1,x2,x3,x4])):bindArgs f ⟨us,[]⟩=pure (ps.zip us):=match us,hl with | [x0,x1,x2,x3,x4],_=>h x0 x1 x2 x3 x4
inductive E1 {T0:Type} (p:T0->Prop):Prop
 | mk:∀x0,p x0->E1 p
inductive E2 {T0 T1:Type} (p:T0->T1->Prop):Prop
 | mk:∀x0 x1,p x0 x1->E2 p
inductive E3 {T0 T1 T2:Type} (p:T0->T1->T2->Prop):Prop
 | mk:∀x0 x1 x2,p x0 x1 x2->E3 p
inductive E4 {T0 T1 T2 T3:Type} (p:T0->T1->T2->T3->Prop):Prop
 | mk:∀x0 x1 x2 x3,p x0 x1 x2 x3->E4 p
inductive E6 {T0 T1 T2 T3 T4 T5:Type} (p:T0->T1->T2->T3->T4->T5->Prop):Prop
 | mk:∀x0 x1 x2 x3 x4 x5,p x0 x1 x2 x3 x4 x5->E6 p
inductive A2 (p0 p1:Prop):Prop
 | mk:p0->p1->A2 p0 p1
inductive A3 (p0 p1 p2:Prop):Prop
 | mk:p0->p1->p2->A3 p0 p1 p2
inductive A4 (p0 p1 p2 p3:Prop):Prop
 | mk:p0->p1->p2->p3->A4 p0 p1 p2 p3
inductive A5 (p0 p1 p2 p3 p4:Prop):Prop
 | mk:p0->p1->p2->p3->p4->A5 p0 p1 p2 p3 p4
inductive A6 (p0 p1 p2 p3 p4 p5:Prop):Prop
 | mk:p0->p1->p2->p3->p4->p5->A6 p0 p1 p2 p3 p4 p5
inductive OI (p0 p1 p2 p3 p4 p5 p6 p7 p8 p9:Prop):Prop
 | mk:p0->p1->p2->p3->p4->p5->p6->p7->p8->p9->OI p0 p1 p2 p3 p4 p5 p6 p7 p8 p9
def Jt (x q:Str) (st:Stmt) (ps:ώ):Prop:=∀(kV doc pm:θ) (an:δk) (cdv ct:θ) (us:χ),οk=ps.length->bindArgs Δj ιh=pure θ5
def fd (K:n_) (f:Addr):FuncData:=((K.lookup f).bind λo=>match o.data with | .func d=>some d | _=>none).getD (G3 "" "" (bI (.Pass ⟨0,0,0,0⟩)) [] (ah (.Pass ⟨0,0,0,0⟩)) .none .none .none .none none .none .none)
theorem rJ {K:n_}{oc:θ}{od:δk}{d:γN}{osl:ηe} (l:K.lookup f=some #[oc,od,.func d,osl]):fd K f=d:=by
 unfold fd;rw[l];rfl
structure GD (K:n_) (mg:Ϡ) (x:Str) (st:Stmt) (f:Addr) (ps:ώ):Prop where
 m:mg x=some γt
 F:H_ K x x st f δG
 b:ER K δG ps []
 k:HG K γt=true
structure MD (K:n_) (C:Addr) (x q:Str) (st:Stmt) (f:Addr) (ps:ώ):Prop where
 me:IB K C x f
 F:H_ K x q st f δG
 b:ER K δG ps []
 k:HG K γt=true
section
variable {K:n_}{h:Heap}{mg:Str->Option Value}{x q:Str}{st:Stmt}{f C:Addr}{ps:List Str}{oc:Value}{od an:Option Addr}{osl:Array (Option Value)}{kV doc pm cdv ct:Value}
theorem LG (X:K.In h) (G:ϋa) (a:Ξ7) (l:K.lookup f=some #[oc,od,.func (G3 x x ιf εa δM .none kV doc pm an cdv ct),osl]) (c:JD K cdv x=true) (k:θt) (hb:Jt x x st ps):GD K mg x st f ps:=by
 have F:H_ K x x st f 15e6:=by rw[rJ l];exact yz l c k
 exact #[OY X G a,F,F.binds hb,k]
theorem Lh (a:Ξu) (i:υ5) (l:K.lookup f=some #[oc,od,.func Δj,osl]) (c:JD K cdv q=true) (k:θt) (hb:Jt x q st ps):MD K C x q st f ps:=by
 have F:H_ K x q st f 15e6:=by rw[rJ l];exact yz l c k
 exact #[#[a,i,k],F,F.binds hb,k]
end
abbrev C_ (P:Ϧ) (w:ϡ) (K:n_) (mg:Ϡ) (base:Heap) (k:Nat) (f:Addr) (ps:ώ) (sp:Sp):Prop:=EI P w K mg base F7 k f δG ps sp
theorem DC.u {j k:Nat}{A:ϣ} (r:ι2) (h:j<=k:=by decide):DC j A:=r.mono h
theorem Dx {P:ώ}{sc:γ3} (h1:sc.kind=.function:=by rfl) (h2:sc.isCoroutine=false:=by rfl) (h3:sc.isGenerator=false:=by rfl) (h4:N.Nodup:=by decide +kernel) (h5:N.take P.length=P:=by rfl) (h6:∀x∈P,sc.names.lookup x=some .local\/sc.names.lookup x=some .cell:=by decide +kernel) (h7:∀y∈sc.names,y.2≠.free:=by decide +kernel):ak N P sc:=#[h1,h2,h3,h4,h5,h6,h7]
section
variable {P:Program}{w:World}{K:n_}{mg:Str->Option Value}{base:Heap}
theorem H_.okA {fd:γN}{k:Nat}{sp:Sp} (F:τZ) (S:θz)
  (hbody:∀(cdv:θ) (A:ϣ) (outer:γ7) (s:ν) (H:Hp) (vs:δ) (Q:VK) (E:XK),DC k ρa->sp vs H Q E →
   ∃t,FK (FP F7 P w K mg base N qual δM f cdv A Δ s H E).nox εa t/\t { nx:=λ_ H'=>Q .non H',rt:=Q } 17e4 H)
  (len:∀vs H Q E,sp vs H Q E->vs.length=ps.length:=by intro vs H Q E h;first | (cases h;subst_vars;rfl) | ((repeat (obtain⟨_,h⟩:=h));subst_vars;rfl)):EI P w K mg base F7 (k+1) f fd ps sp:=F.ok S len hbody
end
end L2
namespace GF
theorem GX (a b:Nat):2 * ζE=(2 * a) ^^^ (2 * b):=by
 apply K_
 intro i;rw[HX]
 cases i with
 | zero=>simp[N5]
 | succ i=>simp[JR]
theorem kY (a b:Nat):ζE / 2=(a / 2) ^^^ 25e0:=by
 apply K_
 intro i;rw[HX,← JR,← JR,← JR,HX]
theorem kZ (a b:Nat):ζE % 2=(a % 2+b % 2) % 2:=by
 have h:=HX a b 0;simp only[N5] at h
 rcases IW a with ha | ha <;> rcases IW b with hb | hb <;>
  rcases IW (a ^^^ b) with hc | hc <;> simp_all
theorem HK (a b c d:Nat):ζE ^^^ (c ^^^ d)=(a ^^^ c) ^^^ (b ^^^ d):=by
 rw[Ie,Ie,← Ie b c d,Qs b c,Ie c b d]
def E8 (r w x:Nat):Nat:=if 2 ^ w<=2 * x then (2 * x) ^^^ r else 2 * x
structure Ef (r w:Nat):Prop where
 lo:2 ^ w<=r
 hi:r < 2 ^ (w+1)
theorem iq {w x:Nat} (h:ώz):(2 ^ w<=x) ↔ x.testBit w=true:=by
 constructor
 ·intro h1
  rw[Nat.testBit_eq_decide_div_mod_eq]
  have:x / 2 ^ w=1:=by
   apply Nat.div_eq_of_lt_le
   ·omega
   ·rw[Hk] at h;omega
  show 56
 ·intro h1
  exact Nat.ge_two_pow_of_testBit h1
theorem yB {w x:Nat} (h:ώz) (hb:x.testBit w=υ):x < 2 ^ w:=by
 refine Nat.lt_of_not_le λq=>?_;rw[(iq h).mp q] at hb
 cases hb
variable {r w:Nat}
theorem EG (R:γ8) {x:Nat} (hx:δm):E8 r w x < 2 ^ w:=by
 unfold E8
 show 212
 split
 ·rename_i h
  refine yB (JP h2 R.hi) ?_;rw[HX,(iq h2).mp h,(iq R.hi).mp R.lo];rfl
 ·omega
theorem rX {x:Nat} (hx:δm):E8 r w x=(2 * x) ^^^ (bif (2 * x).testBit w then r else 0):=by
 show 212
 unfold E8
 split
 ·rename_i h
  rw[(iq h2).mp h];rfl
 ·rename_i h
  cases e:(2 * x).testBit w
  ·simp
  ·exact absurd ((iq h2).mpr e) h
theorem vn (R:γ8) {a b:Nat} (ha:μo) (hb:ψa):E8 r w ζE=E8 r w a ^^^ E8 r w b:=by
 rw[rX (JP ha hb),rX ha,rX hb,GX,HX,HK]
 congr 1
 cases (2 * a).testBit w <;> cases (2 * b).testBit w <;> simp
theorem gg:E8 r w 0=0:=by
 unfold E8
 have:0 < 2 ^ w:=Ib w;show 57
def tm (r w a b:Nat):Nat:=if b=0 then 0 else τ1 ^^^ tm r w χJ ζc
termination_by b
decreasing_by omega
theorem m_ (a:Nat):tm r w a 0=0:=by rw[tm];simp
theorem DM (a b:Nat):tm r w a b=τ1 ^^^ tm r w χJ 25e0:=by
 show 58
 ·subst h
  rw[m_]
  simp[m_]
 ·rw[tm];simp[h]
theorem z_ (R:γ8):∀{b a:Nat},a < 2 ^ w->tm r w a b < 2 ^ w:=by
 intro b
 induction b using JE with
 | _ b ih =>
  intro a ha
  show 58
  ·subst h;rw[m_];exact Ib w
  ·rw[DM]
   refine JP ?_ (ih ζc γ οo)
   split
   ·exact ha
   ·exact Ib w
theorem da (R:γ8):∀{b a c:Nat},a < 2 ^ w->c < 2 ^ w->tm r w (a ^^^ c) b=tm r w a b ^^^ tm r w c b:=by
 intro b
 induction b using JE with
 | _ b ih =>
  intro a c ha hc
  show 58
  ·show 119
  ·rw[DM,DM a,DM c,vn R ha hc,ih ζc γ οo (EG R hc),HK]
   congr 1
   split <;> simp
theorem eQ (R:γ8):∀{b a:Nat},a < 2 ^ w->tm r w χJ b=E8 r w (tm r w a b):=by
 intro b
 induction b using JE with
 | _ b ih =>
  intro a ha
  show 58
  ·subst h;simp[m_,gg]
  ·have hz:τ1 < 2 ^ w:=by
    split
    ·exact ha
    ·exact Ib w
   rw[DM,DM a,vn R hz (z_ R οo),ih ζc γ οo]
   congr 1
   split <;> simp[gg]
theorem Ec:∀{b c a:Nat},tm r w a μp=tm r w a b ^^^ tm r w a c:=by
 intro b
 induction b using JE with
 | _ b ih =>
  intro c a
  show 58
  ·show 119
  ·rw[DM a μp,DM a b,DM a c,kY,ih ζc γ,HK]
   congr 1
   rw[kZ];rcases IW b with hb | hb <;> rcases IW c with hc | hc <;> simp[hb,hc]
abbrev ev (r w x:Nat):Nat:=tm r w 1 x
theorem BI (hw':δr):E8 r w 1=2:=by
 unfold E8
 have:2 ^ 2<=2 ^ w:=LU ε hw'
 show 57
theorem Fj (hw:δr):1 < 2 ^ w:=by
 have:2 ^ 2<=2 ^ w:=LU ε hw
 omega
theorem gh (a x:Nat) (R:γ8) (ha:μo):tm r w a x=(if x % 2=1 then a else 0) ^^^ E8 r w (tm r w a ηC):=by
 rw[DM,eQ R ha]
theorem BJ (R:γ8) (hw:δr):∀{k x:Nat},k<=w->x < 2 ^ k->ev r w x=x:=by
 intro k
 induction k with
 | zero =>
  intro x _ hx
  have:x=0:=by simpa using hx
  show 14;exact m_ 1
 | succ k ih =>
  intro x hk hx
  have g:x / 2 < 2 ^ k:=by rw[Hk] at hx;omega
  have s:2 ^ k<=2 ^ (w - 1):=LU ε γ
  have j:2 * 2 ^ (w - 1)=2 ^ w:=by rw[HI,← Hk];congr 1;omega
  have h1:ev r w ηC=x / 2:=ih γ g
  unfold ev at h1 ⊢
  have hd:E8 r w ηC=2 * 33e8:=by
   unfold E8;show 57
  rw[gh 1 x R (Fj hw),h1,hd];rcases IW x with h | h
  ·rw[if_neg γ,GN];omega
  ·rw[if_pos h]
   apply K_
   intro i;rw[HX]
   cases i with
   | zero=>simp[N5,h]
   | succ i=>simp[JR]
theorem EW (R:γ8) (hw:δr) {x:Nat} (hx:δm):tm r w 1 x=x:=BJ R hw (y_ w) hx
theorem EH (a:Nat):tm r w a 1=a:=by
 rw[DM];simp[m_]
theorem CD (a:Nat):tm r w a 2=E8 r w a:=by
 rw[DM];simp[EH]
theorem DX (R:γ8) (hw:δr) {a b:Nat} (ha:μo) (hb:ψa):tm r w a b=tm r w b a:=by
 have g:∀x y:Nat,tm r w (ev r w x) y=tm r w χK x:=by
  intro x
  induction x using JE with
  | _ x ih =>
   intro y
   by_cases h:x=0
   ·subst h
    show tm r w (tm r w 1 0) y=tm r w χK 0
    rw[m_,m_]
    have:∀y,tm r w 0 y=0:=by
     intro y
     induction y using JE with
     | _ y ihy =>
      show 120
      ·show 121
      ·show 122
    exact this y
   ·have e1:ev r w x=ΨD ^^^ E8 r w (ev r w ηC):=gh 1 x R (Fj hw)
    have l1:ev r w ηC < 2 ^ w:=z_ R (Fj hw)
    have l2:ΨD < 2 ^ w:=by
     split
     ·exact Fj hw
     ·exact Ib w
    have ly:ev r w y < 2 ^ w:=z_ R (Fj hw);rw[e1,da R l2 (EG R l1),eQ R l1,ih ηC γ y,gh χK x R ly]
    congr 1
    split
    ·rfl
    ·have:∀y,tm r w 0 y=0:=by
      intro y
      induction y using JE with
      | _ y ihy =>
       show 120
       ·show 121
       ·show 122
     exact this y
 have h:=g a b;rw[show ev r w a=a from EW R hw ha,show ev r w b=b from EW R hw hb] at h;exact h
theorem DQ (y:Nat):tm r w 0 y=0:=by
 induction y using JE with
 | _ y ihy =>
  show 120
  ·show 121
  ·show 122
theorem rY (R:γ8) (hw:δr) {a z:Nat} (ha:μo) (hz:z < 2 ^ w):tm r w a (E8 r w z)=E8 r w (tm r w a z):=by
 rw[DX R hw ha (EG R hz),eQ R hz,DX R hw hz ha]
theorem DG (R:γ8) (hw:δr) {a b:Nat} (ha:μo) (hb:ψa):∀c,tm r w (tm r w a b) c=tm r w a (tm r w b c):=by
 intro c
 induction c using JE with
 | _ c ih =>
  by_cases h:c=0
  ·show 119
  ·rw[gh _ c R (z_ R ha),gh b c R hb,Ec,rY R hw ha (z_ R hb),ih (c / 2) γ]
   congr 1
   split
   ·rfl
   ·exact(m_ a).symm
end GF
namespace GF
theorem uL (a b:Nat):ψb / 2=(a / 2) &&& 25e0:=by
 apply K_
 intro i;rw[PX,← JR,← JR,← JR,PX]
theorem uM (a b:Nat):ψb % 2=(a % 2) * (b % 2):=by
 have h:=PX a b 0;simp only[N5] at h
 rcases IW a with ha | ha <;> rcases IW b with hb | hb <;>
  rcases IW (a &&& b) with hc | hc <;> simp_all
theorem GQ:∀(a b:Nat),ζE+2 * ψb=a+b:=by
 intro a
 induction a using JE with
 | _ a ih =>
  intro b
  by_cases h:a=0
  ·subst h;simp
  ·have h1:=ih (a / 2) γ ζc
   have e1:=kY a b
   have e2:=uL a b
   have m1:=kZ a b
   have m2:=uM a b;rcases IW a with ha | ha <;> rcases IW b with hb | hb <;> rw[ha,hb] at m1 m2 <;> omega
variable {r w:Nat}
end GF
namespace GF
def it (r w:Nat):Nat->Nat
 | 0=>1
 | n+1=>E8 r w θJ
structure Good (r w:Nat):Prop where
 rule:Ef r w
 w4:4<=w
 w8:w<=8
 odd:r % 2=1
 lo16:16<=r
 hi511:r<=511
 back:it r w (2 ^ w - 1)=1
 first:∀n,1<=n->n < 2 ^ w - 1->it r w n≠1
theorem Good.w1 {r w:Nat} (g:δo):1 < w:=Fg ε g.w4
theorem Good.top16 {r w:Nat} (g:δo):16<=2 ^ w:=LU (n:=2) ε g.w4
theorem Good.top256 {r w:Nat} (g:δo):2 ^ w<=256:=LU (n:=2) ε g.w8
theorem Good.last1 {r w:Nat} (g:δo):1<=2 ^ w - 1:=by
 have:=μD;omega
theorem HF {r w:Nat} (R:γ8) (hw:δr):∀n,it r w n < 2 ^ w
 | 0=>Fj hw
 | n+1=>EG R (HF R hw n)
def eZ (r w:Nat):Nat->Nat->Nat->Option Nat
 | 0,_,_=>none
 | fuel+1,x,n=>if x=1 then some n else eZ r w fuel (E8 r w x) (n+1)
theorem oQ {r w:Nat}:∀{fuel n m:Nat},eZ r w fuel θJ n=some m->it r w m=1/\∀k,n<=k->k < m->it r w k≠1:=by
 intro fuel
 induction fuel with
 | zero=>intro n m h;cases h
 | succ fuel ih =>
  intro n m h;unfold eZ at h
  split at h
  ·rename_i e
   cases h;exact #[e,λk h1 h2=>absurd h2 γ]
  ·rename_i e
   obtain⟨h1,h2⟩:=ih (n:=n+1) h;refine #[h1,λk a b=>?_]
   by_cases q:k=n
   ·subst q;exact e
   ·exact h2 k γ b
def FD:List Nat:=[19,25,37,41,47,55,59,61,67,91,97,103,109,115,131,137,143,145,157,167,171,185,191,193,
 203,211,213,229,239,241,247,253,285,299,301,333,351,355,357,361,369,391,397,425,451,463,487,501]
def MZ (r:Nat):Bool:=decide (16<=r) && decide (r<=511) && decide (r % 2=1) && decide (4<=δx) && decide (r.log2<=8) && decide (2 ^ r.log2<=r) && decide (r < 2 ^ (r.log2+1)) &&
 decide (eZ r δx 600 2 1=some υp)
theorem yC:FD.all MZ=true:=by decide +kernel
theorem uN {r:Nat} (h:MZ r=true):Good r r.log2:=by
 unfold MZ at h;simp only[Gx,decide_eq_true_eq] at h;obtain⟨⟨⟨⟨⟨⟨⟨h1,h2⟩,h3⟩,h4⟩,h5⟩,h6⟩,h7⟩,h8⟩:=h
 have e:it r δx 1=2:=BI γ
 have h9:eZ r δx 600 (it r δx 1) 1=some 94e5:=by rw[e];exact h8
 obtain⟨b1,b2⟩:=oQ h9;exact #[#[h6,h7],h4,h5,h3,h1,h2,b1,b2]
def EZ (c:Int):Nat:=FD.getD (c % 48).toNat 19
theorem uO (c:Int):Good (EZ c) (EZ c).log2:=by
 apply uN
 have h:=Go.mp yC
 apply h
 unfold EZ
 show 213
 show 214
 show 215
theorem IA {r w n:Nat} (R:γ8) (hn:n<=w):(2 ^ n * 2<=r) ↔ n < w:=by
 constructor
 ·intro h
  refine Classical.byContradiction λz=>?_
  have:n=w:=by omega
  show 14
  have:=R.hi;rw[Hk] at this;omega
 ·intro h
  have h1:2 ^ (n+1)<=2 ^ w:=LU ε h
  rw[Hk] at h1;exact DK h1 R.lo
end GF
namespace GF
def Kk (r w:Nat):Nat->Nat->Nat->Nat
 | 0,_,acc=>acc
 | fuel+1,x,acc=>Kk r w fuel (E8 r w x) (acc ||| 2 ^ x)
theorem Aj {r w:Nat}:∀{fuel n acc b:Nat},(Kk r w fuel θJ acc).testBit b=true->acc.testBit b=true\/∃k,it r w k=b:=by
 intro fuel
 induction fuel with
 | zero=>intro n acc b h;exact .inl h
 | succ fuel ih =>
  intro n acc b h;rcases ih (n:=n+1) h with q | q
  ·rw[Nat.testBit_or,Nat.testBit_two_pow,K4] at q
   rcases q with q | q
   ·show 66
   ·exact .inr #[n,of_decide_eq_true q]
  ·exact .inr q
theorem wW:FD.all (λr=>decide (Kk r δx υp 1 0=2 ^ 2 ^ r.log2 - 2))=true:=by decide +kernel
theorem BK {N b:Nat} (h0:0 < b) (h:b < N):(2 ^ N - 2).testBit b=true:=by
 obtain⟨M,rfl⟩:∃M,N=M+1:=#[N - 1,by omega]
 obtain⟨c,rfl⟩:∃c,b=c+1:=#[b - 1,by omega]
 have e:(2 ^ (M+1) - 2) / 2=2 ^ M - 1:=by rw[Hk];omega
 rw[JR,e,Nat.testBit_two_pow_sub_one];exact decide_eq_true γ
structure Et (r w:Nat):Prop extends Good r w where
 all:∀x,0 < x->x < 2 ^ w->∃n,it r w n=x
theorem GW (c:Int):Et (EZ c) (EZ c).log2:=by
 refine #[uO c,λx h0 h=>?_]
 have hm:EZ c∈FD:=by
  unfold EZ
  show 213
  show 214
  show 215
 have q:=of_decide_eq_true (Go.mp wW _ hm)
 have b:=BK h0 h;rw[<- q] at b;rcases Aj (n:=0) b with z | z
 ·rw[Nat.zero_testBit] at z;cases z
 ·exact z
variable {r w:Nat}
theorem uP (g:δo) {x:Nat} (hx:δm) (h:E8 r w x=0):x=0:=by
 unfold E8 at h
 split at h
 ·have e:2 * x=r:=by
   have:=congrArg (· ^^^ r) h;simp only[GN,Ie,JG,GO] at this;show 9
  have:=g.odd;omega
 ·omega
theorem mQ (g:δo) {y:Nat} (hy:ψc):∀n,tm r w θJ y=0->y=0
 | 0,h=>by rw[show it r w 0=1 from rfl,EW γi g.w1 hy] at h;exact h
 | n+1,h=>by
  rw[show it r w (n+1)=E8 r w θJ from rfl,eQ γi ϋv] at h;exact mQ g hy n (uP g (z_ γi ϋv) h)
theorem Ek (g:εl) {x y:Nat} (hx:δm) (hy:ψc):tm r w x y=0 ↔ (x=0\/y=0):=by
 constructor
 ·intro h
  by_cases h0:x=0
  ·exact .inl h0
  ·obtain⟨n,rfl⟩:=g.all x γ hx
   exact .inr (mQ δc hy n h)
 ·rintro(rfl | rfl)
  ·exact DQ y
  ·exact m_ x
def pw (r w x:Nat):Nat->Nat
 | 0=>1
 | n+1=>tm r w χn x
theorem Gc (g:δo) {x:Nat} (hx:δm):∀n,pw r w x n < 2 ^ w
 | 0=>Fj g.w1
 | n+1=>z_ γi (Gc g hx n)
theorem GA (g:δo) {x:Nat} (hx:δm) (m:Nat):∀n,pw r w x (m+n)=tm r w μa χn
 | 0=>by rw[NX,show pw r w x 0=1 from rfl,EH]
 | n+1=>by
  rw[<- Nat.add_assoc]
  show tm r w (pw r w x (m+n)) x=tm r w μa (tm r w χn x)
  rw[GA g hx m n,DG γi g.w1 (Gc g hx m) (Gc g hx n)]
theorem Iy (x:Nat) (g:δo) (hx:δm):pw r w x 1=x:=by
 show tm r w 1 x=x
 exact EW γi g.w1 hx
theorem mR (g:δo) {x:Nat} (hx:δm) (m:Nat):∀n,pw r w μa n=pw r w x (m * n)
 | 0=>by rw[Nat.mul_zero];rfl
 | n+1=>by
  rw[Nat.mul_succ,GA g hx]
  show tm r w (pw r w μa n) μa=_
  rw[mR g hx m n]
theorem wX (g:δo):∀n,it r w n=pw r w 2 n
 | 0=>rfl
 | n+1=>by
  show E8 r w θJ=tm r w (pw r w 2 n) 2
  rw[wX g n,CD]
theorem Ir (g:δo):2 < 2 ^ w:=by have:=μD;omega
theorem yD (g:δo):∀n,pw r w 1 n=1
 | 0=>rfl
 | n+1=>by
  show tm r w (pw r w 1 n) 1=1
  rw[yD g n,EH]
theorem BL (g:εl) {x:Nat} (h0:0 < x) (hx:δm):pw r w x (2 ^ w - 1)=1:=by
 obtain⟨n,rfl⟩:=g.all x h0 hx;rw[wX δc,mR δc ώA,HI,← mR δc ώA,← wX δc,g.back,yD δc]
theorem F8 (g:εl) {x:Nat} (h0:0 < x) (hx:δm):tm r w x (pw r w x θA)=1:=by
 have h:=BL g h0 hx
 have e:2 ^ w - 1=1+39e8:=by have:=μD;omega
 rw[e,GA δc hx,Iy x δc hx] at h;exact h
theorem HE (g:δo) {x:Nat} (hx:δm) (n:Nat):pw r w (tm r w x x) n=pw r w x (2 * n):=by
 have e:tm r w x x=pw r w x 2:=by
  show _=tm r w (tm r w 1 x) x
  rw[EW γi g.w1 hx]
 rw[e,mR g hx]
end GF
namespace GF
variable {r w:Nat}
theorem uQ {i j:Nat} (h:i ^^^ j=0):i=j:=by
 have:=congrArg (· ^^^ j) h;show 216
theorem Kj (g:εl) {x i j:Nat} (h0:x≠0) (hx:δm) (hi:i < 2 ^ w) (hj:j < 2 ^ w) (h:tm r w x i=tm r w x j):i=j:=by
 have e:tm r w x (i ^^^ j)=0:=by rw[Ec,h,JG]
 rcases(Ek g hx (JP hi hj)).mp e with z | z
 ·exact absurd z h0
 ·exact uQ z
end GF
namespace GF
def DR (w:Nat):List Nat->Nat
 | []=>0
 | x :: xs=>DR w xs * 2 ^ w+x
def DD (w:Nat):Nat->Nat->List Nat
 | 0,_=>[]
 | n+1,b=>b % 2 ^ w :: DD w n (b / 2 ^ w)
theorem Ep (w:Nat):∀(n b:Nat),(DD w n b).length=n
 | 0,_=>rfl
 | n+1,b=>by rw[DD,F6,Ep w n]
theorem vo {w:Nat}:∀{n b x:Nat},x∈DD w n b->x < 2 ^ w
 | 0,b,x,h=>by simp[DD] at h
 | n+1,b,x,h=>by
  rw[DD] at h;rcases DH.mp h with e | h
  ·rw[e];exact IR _ μL
  ·exact vo h
theorem pO {w:Nat}:∀{row:η},Ωw->DD w πe (DR w row)=row
 | [],_=>rfl
 | x :: row,h=>by
  show 217;rw[F6,DD,DR]
  have e1:ϊF % 2 ^ w=x:=by rw[HI,Sg,Rr hx]
  have e2:ϊF / 2 ^ w=DR w row:=by
   rw[HI,RP μL,Rl hx,NX]
  rw[e1,e2,pO λy hy=>h y (Fv _ hy)]
theorem vp {w:Nat}:∀{row:η},Ωw->DR w row < γh ^ row.length
 | [],_=>by simp[DR]
 | x :: row,h=>by
  show 217
  have ih:=vp (row:=row) λy hy=>h y (Fv _ hy);rw[DR,F6,Hk]
  have:(DR w row+1) * 2 ^ w<=γh ^ row.length * 2 ^ w:=RB _ ih;rw[Nat.add_mul,Nat.one_mul] at this;omega
theorem pP {w:Nat}:∀{n b:Nat},b < γh ^ n->DR w μe=b
 | 0,b,h=>by
  have:b=0:=by simpa using h
  show 56
 | n+1,b,h=>by
  rw[DD,DR,pP (n:=n) (b:=b / 2 ^ w)]
  ·rw[HI];exact O2 b γh
  ·rw[Hk] at h
   exact NY (by rw[HI];exact h)
theorem mS (w:Nat):∀(n:Nat) (f:Ϟ),f 0=0->DR w ((DD w n 0).map f)=0
 | 0,_,_=>rfl
 | n+1,f,h=>by
  rw[DD,Nat.zero_mod,Nat.zero_div,FY,DR,mS w n f h,h]
  simp
theorem mT {w x y a b:Nat} (hx:δm) (hy:ψc):(a * 2 ^ w+x) ^^^ (b * 2 ^ w+y)=ζE * 2 ^ w+(x ^^^ y):=by
 apply K_
 intro i;rw[HX,HI a,HI b,HI ζE,Pp _ hx,Pp _ hy,Pp _ (JP hx hy)]
 split
 ·rw[HX]
 ·rw[HX]
theorem rZ {w:Nat}:∀{n:Nat}{f g:Ϟ}{b c:Nat},(∀x,f x < 2 ^ w)->(∀x,g x < 2 ^ w) →
  DR w ((DD w n b).map f) ^^^ DR w ((DD w n c).map g)=DR w (Px (λx y=>f x ^^^ g y) μe (DD w n c))
 | 0,_,_,_,_,_,_=>by simp[DD,DR]
 | n+1,f,g,b,c,hf,hg=>by
  rw[DD,DD,FY,FY,QR,DR,DR,DR,mT (hf _) (hg _),rZ hf hg]
theorem r0 {w:Nat}:∀{n b k:Nat},k < n->50e0[k]?=some (b / γh ^ k % 2 ^ w)
 | 0,_,_,h=>absurd h ι3
 | n+1,b,0,_=>by rw[DD,Nat.pow_zero,Nat.div_one];rfl
 | n+1,b,k+1,h=>by
  rw[DD,List.getElem?_cons_succ,r0 γ,Nat.div_div_eq_div_mul,Hk,HI (γh ^ k)]
theorem r6 {w:Nat}:∀{n b c:Nat},DD w n μp=Px (λx y=>x ^^^ y) μe (DD w n c)
 | 0,_,_=>rfl
 | n+1,b,c=>by
  rw[DD,DD,DD,QR]
  congr 1
  ·apply K_
   intro i;rw[HX,PV,PV,PV,HX]
   by_cases h:i < w <;> simp[h]
  ·have e:μp / 2 ^ w=b / 2 ^ w ^^^ c / 2 ^ w:=by
    apply K_
    intro i;rw[HX,Pd,Pd,Pd,HX]
   rw[e,r6]
end GF
namespace GF
def Em (r w n:Nat) (ps:δh):Nat:=ps.foldl (λt p=>t ^^^ DR w ρM) 0
def dg (r w:Nat) (ps:δh) (k:Nat):Nat:=ps.foldl (λt p=>t ^^^ tm r w (p.2 / γh ^ k % 2 ^ w) p.1) 0
theorem jJ {α:Type} (F:α->Nat):∀(ps:δH) (t:Nat),ps.foldl ϊG t=t ^^^ ps.foldl ϊG 0
 | [],t=>by simp
 | p :: ps,t=>by
  rw[O5,O5,jJ F ps (t ^^^ F p),jJ F ps (0 ^^^ F p),GN,Ie]
theorem EE (r w n:Nat) (ps qs:δh):Em r w n (ps++qs)=Em r w n ps ^^^ Em r w n qs:=by
 unfold Em;rw[O9,jJ (λp:Nat × Nat=>DR w ρM) qs]
theorem mU (w n b:Nat):DD w n b=(p_ n).map λk=>b / γh ^ k % 2 ^ w:=by
 apply GZ
 intro k
 by_cases h:k < n
 ·rw[r0 h,DO,F1 h]
  rfl
 ·rw[Fh (by rw[Ep];omega),Fh ξA]
theorem pQ {w:Nat}{f g:Ϟ}:∀(ks:η),(∀k,f k < 2 ^ w)->(∀k,g k < 2 ^ w)->DR w (ks.map f) ^^^ DR w (ks.map g)=DR w (ks.map λk=>f k ^^^ g k)
 | [],_,_=>by simp[DR]
 | k :: ks,hf,hg=>by
  rw[FY,FY,FY,DR,DR,DR,mT (hf k) (hg k),pQ ks hf hg]
theorem pR (w:Nat):∀(ks:η),DR w (ks.map λ_=>0)=0
 | []=>rfl
 | k :: ks=>by rw[FY,DR,pR w ks];simp
theorem HP (r w n:Nat) (ps:δh) (p:χL):Em r w n οp=Em r w n ps ^^^ DR w 84e4:=by
 unfold Em;rw[O9];rfl
end GF
namespace GF
variable {r w:Nat}
def DP (r w:Nat):Nat->χM->χM->Nat
 | 0,_,_=>0
 | n+1,a,x=>DP r w n a x ^^^ tm r w (a n) (x n)
theorem FN (R:γ8) {a x:Ϟ}:∀n,(∀k,k < n->a k < 2 ^ w)->DP r w n a x < 2 ^ w
 | 0,_=>Ib w
 | n+1,h=>JP (FN R n λk hk=>h k θ9) (z_ R (h n ζh))
theorem El {a b x y:Ϟ}:∀n,(∀k,k < n->a k=b k/\x k=y k)->DP r w n a x=DP r w n b y
 | 0,_=>rfl
 | n+1,h=>by
  rw[DP,DP,El n λk hk=>h k θ9,(h n ζh).1,(h n ζh).2]
theorem lZ (a:Ϟ):∀n,DP r w n a μf=0
 | 0=>rfl
 | n+1=>by rw[DP,lZ a n,m_];rfl
theorem kB {a x:Ϟ}{p v:Nat} (hx:x p=0):∀n,DP r w n a (λk=>if k=p then v else x k)=DP r w n a x ^^^ (if p < n then tm r w (a p) v else 0)
 | 0=>by
  rw[if_neg (Hl p),DP,DP];rfl
 | n+1=>by
  rw[DP,DP,kB hx n]
  by_cases e:n=p
  ·subst e
   rw[if_neg (Gf n),if_pos rfl,if_pos ζh,hx,m_,GO]
  ·rw[if_neg e]
   by_cases h:p < n
   ·rw[if_pos h,if_pos (Gp h),Ie,Ie,Qs (tm r w (a p) v)]
   ·rw[if_neg h,if_neg γ,GO,GO]
theorem GE (R:γ8) {a b x:Ϟ}:∀n,(∀k,k < n->a k < 2 ^ w/\b k < 2 ^ w)->DP r w n (λk=>a k ^^^ b k) x=DP r w n a x ^^^ DP r w n b x
 | 0,_=>by rw[DP,DP,DP];rfl
 | n+1,h=>by
  rw[DP,DP,DP,GE R n λk hk=>h k θ9,da R (h n ζh).1 (h n ζh).2];exact HK _ _ _ _
theorem Ex (R:γ8) (hw:δr) {a x:Ϟ}{c:Nat} (hc:ψd):∀n,Ξ8->DP r w n (λk=>tm r w (a k) c) x=tm r w ώ1 c
 | 0,_=>(DQ c).symm
 | n+1,h=>by
  have hn:=h n ζh
  have ih:=Ex R hw hc n λk hk=>h k θ9;rw[DP,DP,ih,da R ΞV (z_ R hn.1)]
  congr 1
  rw[DG R hw hn.1 hc,DX R hw hc hn.2,← DG R hw hn.1 hn.2]
theorem dI (R:γ8) (hw:δr) {a x:Ϟ}{c:Nat}:∀n,Ξ8->DP r w n a (λk=>tm r w (x k) c)=tm r w ώ1 c
 | 0,_=>(DQ c).symm
 | n+1,h=>by
  have hn:=h n ζh
  have ih:=dI R hw (c:=c) n λk hk=>h k θ9;rw[DP,DP,ih,da R ΞV (z_ R hn.1),DG R hw hn.1 hn.2]
theorem r9 {a x y:Ϟ}:∀n,DP r w n a (λk=>x k ^^^ y k)=DP r w n a x ^^^ DP r w n a y
 | 0=>by rw[DP,DP,DP];rfl
 | n+1=>by
  rw[DP,DP,DP,r9 n,Ec];exact HK _ _ _ _
structure G4 (r w N M:Nat) (L:ύ) (T:ύ):Prop where
 lt:∀i k,i < M->k < N+M->T i k < 2 ^ w
 of:∀i k,i < M->k < N->T i k=DP r w M ξI (λj=>T i (N+j))
 keep:∀x:Nat->Nat,(∀k,k < N->x k < 2 ^ w)->(∀i,i < M->DP r w N (T i) x=0)->∀j,j < M->DP r w N (L j) x=0
def DZ (T:ύ) (h f:Nat):Nat->Nat->Nat:=λi=>if i=h then T f else if i=f then T h else T i
def Dz (r w:Nat) (T:ύ) (h p c:Nat):Nat->Nat->Nat:=λi k=>if i=h then tm r w (T h k) c else T i k ^^^ tm r w (tm r w (T h k) c) (T i p)
theorem l3 {T:ύ}{h f M i:Nat} (hh:h < M) (hf:f < M) (hi:i < M):∃j,j < M/\DZ T h f i=T j:=by
 unfold DZ
 show 73
 ·exact #[f,hf,by rw[if_pos e]]
 ·by_cases e2:i=f
  ·exact #[h,hh,by rw[if_neg e,if_pos e2]]
  ·exact #[i,hi,by rw[if_neg e,if_neg e2]]
theorem G4.swap {N M:Nat}{L T:ύ} (t:ηm) {h f:Nat} (hh:h < M) (hf:f < M):G4 r w N M L (DZ T h f):=by
 refine #[λi k hi hk=>?_,λi k hi hk=>?_,λx hx hz=>t.keep x hx λi hi=>?_]
 ·obtain⟨j,hj,e⟩:=l3 (T:=T) hh hf hi
  rw[e];exact t.lt j k hj hk
 ·obtain⟨j,hj,e⟩:=l3 (T:=T) hh hf hi
  rw[e];exact t.of j k hj hk
 ·by_cases e:i=h
  ·have:=hz f hf
   show 123
   by_cases e2:f=h
   ·rw[if_pos e2,e2] at this
    rw[e];show 9
   ·rw[if_neg e2,if_pos rfl] at this
    rw[e];show 9
  ·by_cases e2:i=f
   ·have:=hz h hh
    show 123;rw[if_pos rfl] at this;rw[e2];show 9
   ·have:=hz i hi
    show 123;rw[if_neg e,if_neg e2] at this;show 9
theorem G4.clear {N M:Nat}{L T:ύ} (g:εl) (t:ηm) (hL:ρx) {h p c:Nat} (hh:h < M) (hp:ι7) (hc:ψd) (hc0:c≠0):G4 r w N M L (Dz r w T h p c):=by
 have R:=g.rule
 have hw:=g.w1;refine #[λi k hi hk=>?_,λi k hi hk=>?_,λx hx hz=>t.keep x hx ?_]
 ·unfold Dz
  show 73
  ·rw[if_pos e]
   exact z_ R όM
  ·rw[if_neg e]
   exact JP (t.lt i k hi hk) (z_ R (z_ R όM))
 ·unfold Dz
  show 73
  ·simp only[if_pos e]
   rw[t.of h k hh hk,← dI R hw M λj hj=>Θw]
  ·simp only[if_neg e]
   rw[r9,dI R hw M λj hj=>#[hL j k hj hk,z_ R (t.lt h (N+j) hh γ)],dI R hw M λj hj=>Θw,← t.of i k hi hk,← t.of h k hh hk]
 ·have s:∀i k,i < M->k < N->T i k < 2 ^ w:=λi k hi hk=>t.lt i k hi γ
  have hd:∀i,i < M->DP r w N (T i) x < 2 ^ w:=λi hi=>FN R N λk hk=>s i k hi hk
  have h1:DP r w N (T h) x=0:=by
   have z:=hz h hh
   have e:DP r w N (Dz r w T h p c h) x=tm r w ϋw c:=by
    rw[<- Ex R hw hc N λk hk=>ΨR];exact El N λk _=>#[by unfold Dz;rw[if_pos rfl],rfl]
   rw[e] at z;rcases(Ek g (hd h hh) hc).mp z with y | y
   ·exact y
   ·exact absurd y hc0
  intro i hi
  show 73
  ·rw[e]
   exact h1
  ·have z:=hz i hi
   have e2:DP r w N (Dz r w T h p c i) x=DP r w N (T i) x ^^^ tm r w (tm r w ϋw c) (T i p):=by
    rw[<- Ex R hw hc N λk hk=>ΨR,← Ex R hw (s i p hi hp) N λk hk=>#[z_ R ώB,hx k hk],← GE R N λk hk=>#[s i k hi hk,z_ R (z_ R ώB)]];exact El N λk _=>#[by unfold Dz;rw[if_neg e],rfl]
   rw[e2,h1,DQ,DQ,GO] at z;exact z
structure GU (N M:Nat) (T:ύ) (hs:η) (Z:Nat->Prop):Prop where
 hl:hs.length<=M
 lt:∀t p:Nat,hs[t]?=some p->p < N
 one:∀t p:Nat,hs[t]?=some p->∀i,i < M->T i p=if i=t then 1 else 0
 zero:∀k,Z k->∀i,hs.length<=i->i < M->T i k=0
section
variable {N M:Nat}{L T:Nat->Nat->Nat}{hs:List Nat}{Z:Nat->Prop}{p c f:Nat}
theorem GU.start:GU N M T [] (λ_=>False):=#[EO _,λt p h=>by simp at h,λt p h=>by simp at h,λk z=>z.elim]
theorem GU.weaken {Z':Nat->Prop} (h:ηo) (e:∀k,Z' k->Z k):GU N M T hs Z':=#[h.hl,h.lt,h.one,λk z=>h.zero k (e k z)]
theorem GU.skip (h:ηo) (hz:ΞW):GU N M T hs ό8 :=
 #[h.hl,h.lt,h.one,λk z=>z.elim (h.zero k) λe=>by rw[e];exact hz]
theorem GU.step (g:εl) (h:ηo) (t:ηm) (hp:ι7) (hf:hs.length<=f) (hfM:f < M) (hc:ψd) (hinv:ϋx) :
  GU N M (Dz r w υ9 γv p c) (hs++[p]) 173e4:=by
 have R:=g.rule
 have hw:=g.w1
 have C:hs.length < M:=by omega
 have D:DZ T γv f hs.length=T f:=by unfold DZ;rw[if_pos rfl]
 have ge:∀i,hs.length<=i->i < M->∃j,hs.length<=j/\j < M/\DZ T γv f i=T j:=λi h1 h2=>by
  unfold DZ
  show 124
  ·exact #[f,hf,hfM,by rw[if_pos e]]
  ·by_cases e2:i=f
   ·exact #[γv,y_ _,C,by rw[if_neg e,if_pos e2]]
   ·exact #[i,h1,h2,by rw[if_neg e,if_neg e2]]
 have lo:∀i,i < hs.length->DZ T γv f i=T i:=λi h1=>by
  unfold DZ;rw[if_neg γ,if_neg γ]
 have col:∀k,(∀i,hs.length<=i->i < M->T i k=0)->∀i,i < M->Dz r w υ9 γv p c i k=if i < hs.length then T i k else 0:=λk hz i hi=>by
  unfold Dz;rw[D,hz f hf hfM,DQ,DQ]
  show 124
  ·rw[if_pos e,if_neg γ]
  ·rw[if_neg e,GO]
   by_cases e2:i < hs.length
   ·rw[if_pos e2,lo i e2]
   ·obtain⟨j,j1,j2,ej⟩:=ge i γ hi
    rw[if_neg e2,ej,hz j j1 j2]
 have s:∀i,i < M->Dz r w υ9 γv p c i p=if i=hs.length then 1 else 0:=λi hi=>by
  unfold Dz;rw[D,hinv]
  show 124
  ·show 218
  ·obtain⟨j,j2,ej⟩:=l3 (T:=T) (h:=γv) (f:=f) C hfM hi
   rw[if_neg e,if_neg e,ej,EW R hw (t.lt j p j2 γ),JG]
 refine #[by rw[Fn];simp;omega,λt' q e=>?_,λt' q e i hi=>?_,λk z i h1 h2=>?_]
 ·rw[MC] at e
  split at e
  ·exact h.lt t' q e
  ·have:q=p:=by
    cases ht:t' - hs.length with
    | zero=>rw[ht] at e;simpa using e.symm
    | succ m=>rw[ht] at e;simp at e
   show 21;exact hp
 ·rw[MC] at e
  split at e
  ·rename_i hlt
   have hz:∀i,hs.length<=i->i < M->T i q=0:=λi h1 h2=>by
    rw[h.one t' q e i h2,if_neg γ]
   rw[col q hz i hi]
   by_cases e2:i < hs.length
   ·rw[if_pos e2]
    exact h.one t' q e i hi
   ·rw[if_neg e2,if_neg γ]
  ·rename_i hge
   have ht:t'=hs.length/\q=p:=by
    cases ht:t' - hs.length with
    | zero=>rw[ht] at e;exact⟨by omega,by simpa using e.symm⟩
    | succ m=>rw[ht] at e;simp at e
   rw[ht.2,ht.1];exact s i hi
 ·rw[Fn] at h1
  have E:hs.length < i:=by simp at h1;omega
  rcases z with z | z
  ·rw[col k (h.zero k z) i h2,if_neg γ]
  ·rw[z,s i h2,if_neg γ]
theorem GR (g:εl) (t:ηm) (hL:ρx) (h:ηo) (hf:hs.length<=f) (hfM:f < M) (hp:ι7) (hinv:ϋx) :
  (DP r w M (λj=>L j p) ρQ=1)/\∀k,k < N->Z k->DP r w M ξI ρQ=0:=by
 have R:=g.rule
 have e:∀k,k < N->DP r w M ξI ρQ=tm r w (T f k) c:=λk hk=>by
  rw[dI R g.w1 M λj hj=>#[hL j k hj hk,t.lt f (N+j) hfM γ],← t.of f k hfM hk]
 refine #[by rw[e p hp];exact hinv,λk hk z=>?_]
 rw[e k hk,h.zero k z f hf hfM,DQ]
def D0 (T:ύ) (hs:η) (p:Nat):Nat->Nat->Nat
 | 0=>λk=>if k=p then 1 else 0
 | t+1=>λk=>if k=hs.getD t 0 then T t p else D0 T hs p t k
theorem Fy {k:Nat} (hkp:k≠p):∀t,t<=hs.length->(∀s,s < t->hs.getD s 0≠k)->D0 T hs p t k=0
 | 0,_,_=>by unfold D0;rw[if_neg hkp]
 | t+1,ht,h=>by
  show 219;exact Fy hkp t γ λs hs'=>h s γ
theorem FU:∀t,t<=hs.length->(∀s,s < t->hs.getD s 0≠p)->D0 T hs p t p=1
 | 0,_,_=>by unfold D0;rw[if_pos rfl]
 | t+1,ht,h=>by
  show 219;exact FU t γ λs hs'=>h s γ
theorem FG {t:Nat} (h:t < γv):hs[t]?=some (hs.getD t 0):=by
 show 74
theorem sd (g:εl) (t:ηm) (h:ηo) (hp:ι7) (hnp:Ξv) {i:Nat} (hi:i < M):∀q,q<=hs.length->DP r w N (T i) (D0 T hs p q)=T i p ^^^ (if i < q then T i p else 0)
 | 0,_=>by
  rw[if_neg (Hl i),GO]
  have e:DP r w N (T i) (λk=>if k=p then 1 else 50e1 k)=_:=kB (x:=λ_=>0) (p:=p) (v:=1) rfl N
  rw[lZ,GN,if_pos hp,EH] at e;exact e
 | q+1,hq=>by
  have R:=g.rule
  have hq':q < hs.length:=hq
  have dup:∀s,s < q->hs.getD s 0≠hs.getD q 0:=λs hs' z=>by
   have a1:=h.one s _ (FG γ) s (by have:=h.hl;omega)
   have a2:=h.one q _ ψC s (by have:=h.hl;omega)
   rw[z,a2,if_pos rfl,if_neg γ] at a1
   exact absurd a1 ε
  have e:DP r w N (T i) (D0 T hs p (q+1))=_:=kB (x:=D0 T hs p q) (p:=hs.getD q 0) (v:=T q p) (Fy (hnp q hq') q γ dup) N
  rw[if_pos (h.lt q _ ψC),sd g t h hp hnp hi q γ,h.one q _ ψC i hi] at e
  rw[e]
  by_cases z:i=q
  ·subst z
   rw[if_pos rfl,if_neg (Gf i),if_pos (Gg i),EW R g.w1 (t.lt i p hi γ),GO]
  ·rw[if_neg z,DQ,GO]
   by_cases z2:i < q
   ·rw[if_pos z2,if_pos γ]
   ·rw[if_neg z2,if_neg γ]
theorem Ge (g:εl) (t:ηm) (h:ηo) (hp:ι7) (k:Nat):∀q,q<=hs.length->D0 T hs p q k < 2 ^ w
 | 0,_=>by
  have:=μD;unfold D0
  split <;> omega
 | q+1,hq=>by
  unfold D0
  split
  ·exact t.lt q p (by have:=h.hl;omega) γ
  ·exact Ge g t h hp k q γ
theorem Jb (g:εl) (t:ηm) (h:ηo) (hp:ι7) (hnp:Ξv) (hz:ΞW):∀j,j < M->DP r w N (L j) (D0 T hs p γv)=0:=by
 refine t.keep _ (λk _=>Ge g t h hp k _ Γ) λi hi=>?_;rw[sd g t h hp hnp hi _ Γ]
 by_cases z:i < hs.length
 ·rw[if_pos z,JG]
 ·rw[if_neg z,hz i γ hi]
  rfl
theorem G4.start (g:εl) (hL:ρx) (h1:∀i k,i < M->k < N->T i k=L i k) (h2:∀i j,i < M->j < M->T i (N+j)=if j=i then 1 else 0):G4 r w N M L T:=by
 have h:=μD;refine #[λi k hi hk=>?_,λi k hi hk=>?_,λx hx hz j hj=>?_]
 ·by_cases e:k < N
  ·rw[h1 i k hi e]
   exact hL i k hi e
  ·obtain⟨j,rfl⟩:∃j,k=N+j:=#[k - N,by omega]
   rw[h2 i j hi γ]
   split <;> omega
 ·have e:DP r w M ξI (λj=>if j=i then 1 else 50e1 j)=_:=kB (x:=λ_=>0) (p:=i) (v:=1) rfl M
  rw[lZ,GN,if_pos hi,EH] at e;rw[h1 i k hi hk,← e];exact(El M λj hj=>#[rfl,(h2 i j hi hj).symm])
 ·rw[<- hz j hj]
  exact El N λk hk=>#[(h1 j k hj hk).symm,rfl]
end
end GF
namespace GF
end GF
namespace GF
variable {r w:Nat}
def sc (r w n f b:Nat):Nat:=DR w ((DD w n b).map (tm r w f))
theorem Di (R:γ8) {n f b:Nat} (hf:μq):sc r w n f b < γh ^ n:=by
 unfold sc
 have:=vp (w:=w) (row:=(DD w n b).map (tm r w f)) λx hx=>by
  show 220;exact z_ R hf
 rw[o_,Ep] at this;show 9
theorem ON (R:γ8) {n f b c:Nat} (hf:μq):sc r w n f μp=sc r w n f b ^^^ sc r w n f c:=by
 unfold sc;rw[rZ όN όN,r6,List.map_zipWith]
 congr 2
 funext x y
 exact Ec
theorem IL {n b:Nat}:sc r w n 0 b=0:=by
 unfold sc
 have:(DD w n b).map (tm r w 0)=(p_ n).map λ_=>0:=by
  rw[mU,Fa];exact HR λk _=>DQ _
 rw[this,pR]
theorem ND {n f:Nat}:sc r w n f 0=0:=mS w n _ (m_ f)
theorem MX (R:γ8) (hw:δr) {n b:Nat} (hb:b < γh ^ n):sc r w n 1 b=b:=by
 unfold sc
 have:(DD w n b).map (tm r w 1)=DD w n b:=by
  conv=>rhs;rw[<- QM μe]
  exact HR λx hx=>EW R hw (vo hx)
 rw[this,pP hb]
theorem pS {n:Nat} (p:χL) (ps:δh):Em r w n (p :: ps)=sc r w n p.1 p.2 ^^^ Em r w n ps:=by
 rw[show p :: ps=[p]++ps from rfl,EE]
 congr 1
 exact GN _
theorem sf {n:Nat}:Em r w n []=0:=rfl
theorem GK (R:γ8) {n:Nat}:∀{fs bs:η},(∀f∈fs,f < 2 ^ w)->Em r w n (fs.zip bs) < γh ^ n
 | [],bs,_=>by
  rw[List.zip_nil_left,sf];exact LZ μL
 | _ :: _,[],_=>by
  rw[List.zip_nil_right,sf];exact LZ μL
 | f :: fs,b :: bs,h=>by
  rw[RF,pS,← PK];refine JP ?_ ?_
  ·rw[PK];exact Di R (h f F0)
  ·rw[PK];exact GK R λx hx=>h x ψe
theorem Gw (R:γ8) (hw:δr) {n t:Nat}:∀(M s:Nat) (bs:η),μU=M->(∀b∈bs,b < γh ^ n)->Em r w n (((p_ M).map λj=>if j+s=t then 1 else 0).zip bs)=if s<=t/\t < s+M then bs.getD (t - s) 0 else 0
 | 0,s,bs,_,_=>by
  show 57
  rfl
 | M+1,s,[],hl,_=>by simp at hl
 | M+1,s,b :: bs,hl,h=>by
  have ih:=Gw R hw (n:=n) (t:=t) M (s+1) bs ϋb λx hx=>h x ψe
  rw[Of,FY,Fa,RF,pS]
  have e:((λj=>if j+s=t then 1 else 0) ∘ Nat.succ)=λj=>if j+(s+1)=t then 1 else 0:=by
   funext j
   show (if j+1+s=t then 1 else 0)=_
   rw[show j+1+s=j+(s+1) by omega]
  rw[e,ih];show 11
  by_cases z:s=t
  ·subst z
   rw[if_pos γ,if_neg γ,if_pos γ,GO,JO,MX R hw (h b F0)]
   rfl
  ·rw[if_neg γ,IL,GN]
   by_cases y:s+1<=t/\t < s+1+M
   ·rw[if_pos y,if_pos γ]
    rw[show t - s=(t - (s+1))+1 by omega]
    rfl
   ·show 125
end GF
namespace GF
variable {r w:Nat}
def DJ:Nat->χM->Nat
 | 0,_=>0
 | n+1,F=>DJ n F ^^^ F n
theorem D9 {F G:Ϟ}:∀n,(∀k,k < n->F k=G k)->DJ n F=DJ n G
 | 0,_=>rfl
 | n+1,h=>by rw[DJ,DJ,D9 n λk hk=>h k θ9,h n ζh]
theorem FI (F G:Ϟ):∀n,DJ n (λk=>F k ^^^ G k)=DJ n F ^^^ DJ n G
 | 0=>(JG 0).symm
 | n+1=>by rw[DJ,DJ,DJ,FI F G n];exact HK _ _ _ _
theorem FR:∀n,DJ n μf=0
 | 0=>rfl
 | n+1=>by rw[DJ,FR n];rfl
theorem FV {n p:Nat}{F:Ϟ} (hp:p < n) (h:∀k,k < n->k≠p->F k=0):DJ n F=F p:=by
 have g:∀m,m<=n->DJ m F=if p < m then F p else 0:=by
  intro m
  induction m with
  | zero=>intro _;rw[if_neg ι3];rfl
  | succ m ih =>
   intro hm;rw[DJ,ih γ]
   by_cases z:m=p
   ·subst z
    show 221
   ·rw[h m γ z,GO]
    by_cases y:p < m
    ·show 222
    ·show 125
 rw[g n Γ,if_pos hp]
theorem CF (R:γ8) {n f g b:Nat} (hf:μq) (hg:g < 2 ^ w):sc r w n (f ^^^ g) b=sc r w n f b ^^^ sc r w n g b:=by
 unfold sc;rw[mU,Fa,Fa,Fa];refine Eq.trans ?_ (pQ (f:=tm r w f ∘ λk=>b / γh ^ k % 2 ^ w) (g:=tm r w g ∘ λk=>b / γh ^ k % 2 ^ w) _ (λk=>z_ R hf) (λk=>z_ R hg)).symm
 congr 1
 exact HR λk _=>da R hf hg
theorem Dj (R:γ8) (hw:δr) {n f g b:Nat} (hf:μq) (hg:g < 2 ^ w):sc r w n f (sc r w n g b)=sc r w n (tm r w f g) b:=by
 unfold sc
 have h:=pO (w:=w) (row:=(DD w n b).map (tm r w g)) λx hx=>by
  show 220;exact z_ R hg
 rw[o_,Ep] at h;rw[h,Fa]
 congr 1
 exact HR λd _=>(DG R hw hf hg d).symm
theorem vq (R:γ8) {n f:Nat} (hf:μq) (F:Ϟ):∀m,sc r w n f (DJ m F)=DJ m (λk=>sc r w n f (F k))
 | 0=>ND
 | m+1=>by rw[DJ,DJ,ON R hf,vq R hf F m]
theorem EY {n:Nat} (f x:Ϟ):∀(m:Nat),Em r w n (((p_ m).map f).zip ((p_ m).map x))=DJ m (λk=>sc r w n (f k) (x k))
 | 0=>rfl
 | m+1=>by
  rw[KR,FM,FM,QG (by rw[o_,o_]),EE,EY f x m,DJ]
  congr 1
  exact GN _
theorem G5 (X:η):X=(p_ X.length).map λk=>X.getD k 0:=by
 apply GZ
 intro k;rw[DO]
 by_cases h:k < X.length
 ·rw[F1 h,s_ h]
  show some _=some (X.getD k 0)
  show 74
 ·rw[Fh γ,Fh δf]
  rfl
theorem EC {n:Nat} (b:θQ) (f x:Ϟ):∀m,Em r w n (((p_ m).filter b).map λk=>(f k,x k))=DJ m (λk=>if b k=true then sc r w n (f k) (x k) else 0)
 | 0=>rfl
 | m+1=>by
  rw[KR,Pn,FM,EE,EC b f x m,DJ]
  congr 1
  by_cases z:b m=true
  ·rw[P0 z,L4,if_pos z]
   exact GN _
  ·rw[OV z,L4,if_neg z]
   rfl
theorem F_ (R:γ8) (hw:δr) {n m:Nat}{e:ύ}{x y:Ϟ}:∀(M:Nat),(∀t j,t < M->j < m->e t j < 2 ^ w)->(∀t,t < M->y t < 2 ^ w)->(∀t,t < M->DJ m (λj=>sc r w n (e t j) (x j))=0)->DJ m (λj=>sc r w n Ψq (x j))=0
 | 0,_,_,_=>by
  have:DJ m (λj=>sc r w n (DP r w 0 ωA y) (x j))=DJ m 50e1:=D9 m λj _=>IL;rw[this,FR]
 | M+1,he,hy,h0=>by
  have ih:=F_ R hw M (λt j ht hj=>he t j οY hj) (λt ht=>hy t οY) λt ht=>h0 t οY
  have e1:DJ m (λj=>sc r w n (DP r w (M+1) ωA y) (x j))=DJ m (λj=>sc r w n Ψq (x j) ^^^ sc r w n (y M) (sc r w n (e M j) (x j))):=D9 m λj hj=>by
   have hm:=he M j (Gg M) hj
   have hyM:=hy M (Gg M);rw[DP,CF R (FN R M λt ht=>he t j οY hj) (z_ R hm),Dj R hw hyM hm,DX R hw hyM hm]
  rw[e1,FI,ih,GN,← vq R (hy M (Gg M)),h0 M (Gg M),ND]
end GF
namespace L2
open PySem PySem.Spec PyProof.Rows
section
variable {X:Cx}
inductive la (x:V) (xs:δ) (H:Hp) (Q:VK):Prop
 | mk:∀i,x=.int i->xs=[]->Q (.int ((Oo i:Nat):Int)) H->la x xs H Q
theorem yE:Mu X "int.bit_length" (la):=by
 intro g s σ H x xs v us Q I rx rs h;obtain⟨i,rfl,rfl,q⟩:=h;show 33
 cases rs;exact call_int_bit_length ρt
inductive mV (K:n_) (xs:δ) (H:Hp) (Q:VK):Prop
 | mk:∀x c t b,xs=[x,.ty c]->Fz K H x t->Kw K t (.type c)=some b->Q (.bl b) H->mV K xs H Q
theorem si:bN X τh (mV X.K):=by
 show 223
 cases (show w'=ID c from g);show 224
end
theorem Ak (K:n_) (c:εG):Kw K οq οq=some true:=by
 unfold Kw;rw[if_pos (by exact beq_self_eq_true _)]
variable {K:n_}
theorem CG {t c:εG}{b:Bool} (h0:(ID t == ID c)=υ) (h1:RY c=true) (h2:(PySem.fastBuiltinMro t).map (λl=>l.contains (ID c))=some b):Kw K (.type t) οq=some b:=by
 unfold Kw;rw[if_neg (by rw[h0];exact Fp)]
 show (if RY c=true then PySem.W.subIn K (.type t) οq else none)=some b
 rw[if_pos h1];exact h2
theorem sj (K:n_):Kw K (.type "int") (.type "bool")=some false:=CG γu γu γu
theorem wY (a b:Nat):Q8 (a:Int) (b:Int)=((a &&& b:Nat):Int):=by
 unfold Q8;rw[decide_eq_true (QY a),decide_eq_true (QY b)]
 simp
theorem c5 (a b:Nat):IC (a:Int) (b:Int)=((a ^^^ b:Nat):Int):=by
 have h:=PyProof.Rows.bitXor_and (a:Int) (b:Int);rw[h,wY]
 have:=GF.GQ a b;omega
theorem uR {r w:Nat} (h1:2 ^ w<=r) (h2:r < 2 ^ (w+1)):Oo (r:Int)=w+1:=by
 unfold Oo
 have hr:0 < r:=Fg μL h1
 have:((r:Int) == 0)=false:=beq_eq_false_iff_ne.mpr γ
 show 21
 have e:(r:Int).natAbs=r:=Int.natAbs_natCast r;rw[e]
 have:r.log2=w:=(Nat.log2_eq_iff γ).mpr #[h1,h2]
 show 34
def Ls (K:n_) (a:Addr) (xs:δ):It :=
 #[λi H=>b_ K H a xs/\i < γ2,λi H x H'=>H'=H/\xs[xs.length - 1 - i]?=some x,λi _=>i=γ2]
variable {P:Program}{w:World}
theorem Al {tg:Expr} (a it:Addr) (xs:δ):Gi P w K tg (Ls K a xs) [it] it (λi h=>h.IsRevIter it a ((xs.length:Int) - 1 - (i:Int))) where
 mem:=by simp
 obj:=λi h st b hb=>by
  show 30
  show 69
 keep:=λi h h' st k=>st.at λo e=>k it ό o e
 item:=by
  show 225;obtain⟨hq,hi⟩:=hg;show 112
  have hx:xs[xs.length - 1 - i]?=some (xs[xs.length - 1 - i]'(by omega)):=s_ γ
  show 113
  have e:(xs.length:Int) - 1 - (i:Int)=((xs.length - 1 - i:Nat):Int):=by omega
  rw[e] at st;refine wpAny_pyNext_rev_item st γG (x:=u) μ0 λh' g sb=>?_
  have e2:((xs.length - 1 - i:Nat):Int) - 1=(xs.length:Int) - 1 - ((i+1:Nat):Int):=by omega
  rw[e2] at g
  have I1:Inv X j σ H { s with heap:=h' }:=I.turned (t':=s.toks) ιo f0 f1 f3 f4 f5;obtain⟨o,e,c,d⟩:=id g;exact⟨u,rfl,kA (s:={ s with heap:=h' }) e c d ε ⟨_,H,I1,ru,⟨rfl,hx⟩,g,λb hb=>(hf b hb).1⟩⟩
 done:=by
  show 225
  have hg:i=xs.length:=hg;show 70
  have e:(xs.length:Int) - 1 - (i:Int) = -1:=by omega
  rw[e] at st;exact wpAny_pyNext_rev_end γS st λh' eb=>θe
 self:=λ_ _ _ _ _ st h=>Q0 st h
variable {pos:Pos}
section
variable {X:Cx}{tg:Expr}
inductive yF (K:n_) (R:δD) (vs:δ) (H1:Hp):Prop
 | mk:∀l xs,vs=[.ref l]->b_ K H1 l xs->R (Ls K l xs) H1->yF K R vs H1
def Nq (K:n_) (ta:TA):TI:=λσ H R=>ta σ H λvs H1=>yF K R vs H1
theorem qV:bootBuiltins "reversed" = some (.type "reversed"):=by decide +kernel
theorem CI {a:Expr}{ta:TA}{p:Pos} (hg:Gl X "reversed") (hm:X.mg "reversed" = none) (ha:χu) (hs:starEach [a] X.env=[(υ,eval a π)]:=by rfl):PI X tg (.Call (.Name "reversed" p) [a] [] pos) (Nq X.K ta):=by
 show 226;refine Call_ (cx I hg hm qV (KY (w_ (ha pos j s σ H _ I h) λus s1 ⟨vs,H1,I1,r1,q1⟩=>?_) hs rfl));obtain⟨l,xs,e,hq,q⟩:=q1;subst e;obtain⟨u,rfl,ru⟩:=cg r1
 cases ru;obtain⟨g,rv,pl,hz⟩:=I1.list hq;refine call_reversed_list ζD ?_
 have C:((g.toArray.size:Nat):Int) - 1=(xs.length:Int) - 1 - ((0:Nat):Int):=by rw[Ey,← rv.length];omega
 have st:(s1.heap.push (revObj l ((g.toArray.size:Int) - 1))).IsRevIter γL l ((xs.length:Int) - 1 - ((0:Nat):Int)):=by
  rw[<- C];exact ιi
 refine Q0 st ?_;refine #[γL,[γL],_,_,H1,rfl,I1.kept (t':=εF) λb o e=>D_ _ e,Al l _ xs,st,λb hb=>?_,q]
 show 55
 show 114
end
variable {a:Addr}{xs:List V}{g:TG}{tb:TS}{σ:St}{H:Hp}
theorem BM {D:Fe} (Pv:ζw) (h0:ζ9) (hl:Θl)
  (hs:∀i x σ H,i < xs.length->xs[xs.length - 1 - i]?=some x->Pv i σ H->g x σ H λσ2 H2=>tb { D with nx:=Pv (i+1),ct:=Pv (i+1),bk:=D.nx } σ2 H2) (hd:θh) :
  ∃W:Nat->Nat->St->Hp->Prop,ζ1/\∀i m σ H,W i m σ H →
   ((Ls K a xs).stop i H/\D.nx σ H)\/((Ls K a xs).go i H/\∃N:St->Hp->Prop,εt/\∀x H',(Ls K a xs).yld i H x H'->g x σ H' λσ2 H2=>tb { D with nx:=N,ct:=N,bk:=D.nx } σ2 H2):=by
 refine θc
 rintro i m σ H ⟨rfl,hi,p⟩
 have q:=hl i σ H hi p
 by_cases hlt:i < xs.length
 ·refine .inr #[#[q,hlt],Pv (i+1),λσ' H' p'=>ωk,λx H' y=>?_]
  obtain⟨e,y⟩:=y;subst e;exact hs i x σ _ hlt y p
 ·have e:i=xs.length:=by omega
  exact .inl #[e,hd σ H νf]
theorem iV {env:Env}:∀(names:ξ1) (acc:δg),(∀n,(n,εR)∈names->∃c,env.cells.lookup n=some c)->(∀n c,acc.lookup n=some c->env.cells.lookup n=some c) →
  ∃cl:List (Str × Addr),(forIn names acc (λx r=>match x with
    | (name,kind)=>if (kind == εR)=true then do
      let c ← cellOf env name
      pure νB
     else pure ξk):Sem ξ7)=pure cl/\Δv ∧
   ∀n,((n,εR)∈names\/(acc.lookup n).isSome=true)->(cl.lookup n).isSome=true
 | [],acc,_,h=>⟨acc,rfl,h,λn q=>q.elim (λz=>by simp at z) id⟩
 | (n,k) :: r,acc,hf,h=>by
  rw[PH]
  by_cases hk:k=.free
  ·subst hk
   obtain⟨c,hc⟩:=hf n F0
   have e:cellOf env n=pure c:=by unfold cellOf;rw[hc]
   obtain⟨cl,h1,h2,h3⟩:=iV r ((n,c) :: acc) ΨF (λm d hm=>by
    rw[FZ] at hm
    cases q:(m == n) with
    | true=>rw[q] at hm;cases hm;rw[eq_of_beq q];exact hc
    | false=>rw[q] at hm;exact h m d hm)
   refine Φh
   ·show ((if (NameKind.free == εR)=true then _ else _) >>= _)=_
    rw[if_pos ε,e]
    exact h1
   ·rcases hm with hm | hm
    ·rcases DH.mp hm with z | z
     ·cases z
      exact .inr (by rw[FZ,ξy];rfl)
     ·exact .inl z
    ·refine .inr ?_
     rw[FZ]
     cases q:(m == n) with
     | true=>rfl
     | false=>exact hm
  ·have hb:τH=false:=by simpa using hk
   obtain⟨cl,h1,h2,h3⟩:=iV r acc ΨF h;refine Φh
   ·show ((if τH=true then _ else _) >>= _)=_
    rw[if_neg ξ4]
    exact h1
   ·rcases hm with hm | hm
    ·rcases DH.mp hm with z | z
     ·cases z
      exact absurd rfl hk
     ·exact .inl z
    ·exact .inr hm
theorem mW {env:Env}{scope:γ3} (hf:∀n,(n,εR)∈scope.names->∃c,env.cells.lookup n=some c) :
  ∃cl:List ψZ,closureFor γn env=pure cl/\Δv/\∀n,(n,εR)∈scope.names->(cl.lookup n).isSome=true:=by
 obtain⟨cl,h1,h2,h3⟩:=iV χy [] hf (λn c h=>by simp at h)
 refine #[cl,?_,h2,λn h=>h3 n οI];unfold closureFor
 have:(forIn scope.names ([]:List (Str × Addr)) (λx r=>match x with
    | (name,kind)=>if (kind == εR)=true then do
      let c ← cellOf env name
      pure νB
     else pure ξk):Sem ξ7)=pure cl:=h1
 first
  | exact this
  | (rw[show ∀x:Sem (List (Str × Addr)),(x >>= λcs=>pure cs)=x from λx=>by simp];exact this)
  | (simp only[bind_pure];exact this)
theorem cz {env:Env}:∀(names:ξ1) (x:Str),
  (names.map λ(n,k)=>if πT=true then (n,εM) else (n,k)).lookup x =
   (names.lookup x).map λk=>if Γo=true then NameKind.cell else k
 | [],x=>rfl
 | (n,k) :: r,x=>by
  have ih:=cz (env:=env) r x
  show Jw x ((if πT=true then (n,εM) else (n,k)) :: _)=_
  cases q:(x == n) with
  | true =>
   have e:=eq_of_beq q;subst e
   by_cases hc:Γo=true
   ·rw[if_pos hc]
    simp only[FZ,q,HZ,if_pos hc]
   ·rw[if_neg hc]
    simp only[FZ,q,HZ,if_neg hc]
  | false =>
   by_cases hc:πT=true
   ·rw[if_pos hc]
    show 227
   ·rw[if_neg hc]
    show 227
def yG (N:ώ) (osc sc:γ3) (cap:η) (own:ώ):Bool :=
 159e3 && sc.names.all (λy=>(y.2 != .cell) && 125e2 && ωN) &&
  cap.all (λi=>match N[i]? with | some x=>sc.names.lookup x == some .free | none=>false) && own.all (λx=>sc.names.lookup x == some .local) && decide ((cap.map (λi=>N.getD i Ob)++own).Nodup)
structure g_ (N:ώ) (osc sc:γ3) (cap:η) (own:ώ):Prop where
 kind:sc.kind=.function
 nocell:∀y∈sc.names,y.2≠.cell
 locs:∀y∈sc.names,y.2=.local->sc.names.lookup y.1=some .local
 free1:∀y∈sc.names,y.2=.free->sc.names.lookup y.1=some .free
 frees:∀y∈sc.names,y.2=.free->osc.names.lookup y.1=some .cell\/osc.names.lookup y.1=some .free
 capf:∀i∈cap,∃x,N[i]?=some x/\sc.names.lookup x=some .free
 owns:∀x∈own,sc.names.lookup x=some .local
 nd:(cap.map ϊH++own).Nodup
theorem g_.of {N:ώ}{osc sc:γ3}{cap:η}{own:ώ} (h:yG N osc sc cap own=true):g_ N osc sc cap own:=by
 unfold yG at h;show 228
 have all:=Go.mp h2;refine #[eq_of_beq h1,λy hy=>?_,λy hy e=>?_,λy hy e=>?_,λy hy e=>?_,λi hi=>?_,λx hx=>?_,of_decide_eq_true h5]
 ·have q:=all y hy
  simp only[Gx] at q;intro e;rw[e] at q;exact absurd q.1.1 ε
 ·have q:=all y hy
  show 44;rcases q.1.2 with z | z
  ·show 45
  ·exact eq_of_beq z
 ·have q:=all y hy
  show 44;rcases q.2 with z | z
  ·show 45
  ·exact eq_of_beq z.1
 ·have q:=all y hy
  show 44;rcases q.2 with z | z
  ·show 45
  ·show 229
 ·have q:=Go.mp h3 i hi
  cases e:N[i]? with
  | none=>rw[e] at q;cases q
  | some x=>rw[e] at q;exact Ωx
 ·exact eq_of_beq (Go.mp h4 x hx)
abbrev eU (N:ώ) (cap:η) (own:ώ):List Str:=cap.map ϊH++own
abbrev bY (σ:St) (cap:η) (own:ώ):St:=cap.map (λi=>(σ[i]?).join)++own.map λ_=>none
def cP (X:Cx) (sc:γ3) (cl:δg) (C:Addr) (cap:η) (own:ώ) (s₀:ν) (H₀:Hp) (ex:Ξ):Cx :=
 { X with N:=eU X.N cap own,s₀:=s₀,H₀:=H₀,env:=compEnvC sc cl C X.env,outer:=X.stack,stack:=X.stack,ex:=ex,fn:=λ_=>false,pn:=[],xe:=λ_ _=>False }
variable {fp:List Addr}{t':Nat}
section
variable {X:Cx}{pins:List (Addr × Obj)}{σ:St}{H:Hp}{s:Shared}{sc:Scope}{cl:List (Str × Addr)}{cap:List Nat}{own:List Str}
theorem sr (S:θk) {x:Str}{C:Addr} (h:Γe):(x,εR)∈sc.names:=by
 show 75
 rw[e] at h
 cases q:sc.names.lookup x with
 | none=>rw[q] at h;rcases h with z | z <;> cases z
 | some k =>
  have hm:=HW q
  have hk:k=.free:=by
   rw[q] at h;show 230
   by_cases c:ιx=true
   ·simp only[Gx] at c
    exact eq_of_beq c.1.1
   ·rw[if_neg c] at h
    rcases h with z | z
    ·exact absurd z (S.nocell _ hm)
    ·exact z
  rw[hk] at hm;exact hm
theorem yH (S:θk) {x:Str}{C:Addr} (h:Ψb):(compEnvC sc cl C π).kindOf x=some .cell\/(compEnvC sc cl C π).kindOf x=some .free:=by
 show 75
 show 231
 split
 ·exact .inl rfl
 ·exact .inr rfl
theorem Inv.block {h':Heap} (I:ρ) (S:θk) (hc1:Δw) (hc2:Δ7)
  (hf:ιT) (hlt:ΦB) {m:Ϡ} (hn:Ω9) (k:νo) :
  Inv (cP X sc cl Φ cap own s H fp) [] ξB H { s with heap:=h',toks:=t' }:=by
 refine⟨⟨I.mod,εk,νe,ψx,y_ _,λx y c a b=>I.ok.inj x y c (hc1 x c a) (hc1 y c b),λx hx=>?_,λx c z=>absurd z (by show ¬ (υ=true);decide),I.ok.hd,χw,.inl rfl,λb hb=>⟨Ea χN,λx c e=>(hf b hb).2.2.2.2.1 x c θG⟩,I.bs,DK οH I.sz,λb o e hb=>?_,λb hb z=>?_,I.stack,ψ8⟩,
  rfl,ε1,Un.kept k,Φ6,λx c e=>?_,I.hok.fresh Γ,λx c e=>I.freeC x c θG,λp hp=>absurd hp νq,I.hok.kept k,?_⟩
 ·have hm:=sr S hx
  exact MA.mp (hc2 x hm)
 ·rcases(hf b hb).2.2.2.1 with z | z
  ·exact I.ok.noex b o e z
  ·exact absurd ΦV γZ
 ·rcases DH.mp (I.stkSub b z) with q | q
  ·exact(hf b hb).2.1 q
  ·exact(hf b hb).2.2.1 q
 ·by_cases hi:i < cap.length
  ·have h:(eU X.N cap own)[i]?=some x:=e1
   have g:64e7[i]?=some 12e5:=e2;rw[eU,Ht εx,DO,s_ hi] at h
   rw[bY,Ht εx,DO,s_ hi] at g
   simp only[HZ,LS] at h g;obtain⟨y,hy,hl⟩:=S.capf _ οZ
   have D:x=y:=by
    rw[<- h,t_,hy];rfl
   subst D
   have ev:σ[cap[i]]?=some 12e5:=by
    cases q:σ[cap[i]]? with
    | none=>rw[q] at g;cases g
    | some o=>rw[q] at g;show 232
   obtain⟨m0,G,C⟩:=I.loc
   have hm:=HW hl
   have j:=S.frees _ hm rfl;obtain⟨u,ru,lk⟩:=C _ x v hy ev (j.elim (λz=>.inr (.inl z)) λz=>.inr (.inr z));refine⟨u,ru,.inr ⟨yH S hl,?_⟩⟩;obtain⟨c,hc⟩:=MA.mp (hc2 x hm);refine⟨c,hc,?_⟩;rcases lk with ⟨z,_⟩ | ⟨_,c',E,q⟩
   ·have z':X.env.scope.names.lookup x=some .local:=z
    rcases j with w | w <;> (rw[z'] at w;cases w)
   ·have:=hc1 x c hc
    rw[E] at this
    cases this;obtain⟨o,ho,hd⟩:=q;exact ϋc
  ·have g:64e7[i]?=some 12e5:=e2
   rw[bY,HU εx,DO] at g
   cases q:own[i - (cap.map λi=>(σ[i]?).join).length]? with
   | none=>rw[q] at g;cases g
   | some o=>rw[q] at g;cases g
 ·obtain⟨v,o,ho,hd⟩:=I.cell x c θG
  exact ϊi
 ·show (bY σ cap own).length=(eU X.N cap own).length
  simp[bY,eU]
def Ji (X:Cx) (ifs:εh) (t:TT):Prop :=
 ∀(pins:ϕ) (s:ν) (σ:St) (H:Hp) (Q:εy),Inv X pins σ H s->t σ H Q →
  wpAny ω X.A (forIn ifs true λc r=>if r=true then do let ok ← isTrue c X.env (eval c X.env);pure (ForInStep.yield ok) else pure (ForInStep.yield r)) (TP X pins σ Q) X.xe s
def bz:TT:=λ_ H Q=>Q true H
theorem aN:Ji X [] bz:=λ_ _ _ H _ I h=>wpAny_tests_nil #[H,I,h]
theorem cI {c:Expr}{t:TT} (h:PT X c t):Ji X [c] t:=λpins s σ H Q I q=>wpAny_tests_one (h pins s σ H Q I q)
end
variable {A:Around}{s:Shared}
theorem pT {prog:Ϧ}{R:ϊx}{elt target iter:Expr}{ifs:εh}{scope:γ3}{it acc:θ}{env:Env} (I:Nat->Shared->Prop)
  (turn:∀n s,I n s->wpAny (model prog w) A (pyNext it) (λr s₁=>match r with
   | none=>R πD s₁
   | some v=>wpAny γd A (letOwnedTupleGo target it v) (λ_ s₁=>wpAny γd A (assign target env v) (λ_ s₂ =>
     wpAny γd A (forIn ifs true λc r=>if r=true then do let ok ← isTrue c env (eval c env);pure (ForInStep.yield ok) else pure (ForInStep.yield r)) (λok s₃ =>
      if ok=true then wpAny γd A (eval elt env) (λx s₄ =>
       wpAny γd A (call (.builtin "list.append") [acc,x]) (λ_ s₅=>∃m,m < n∧I m s₅) δV s₄) δV s₃
      else ∃m,m < n/\I m s₃) δV s₂) δV s₁) δV s₁) δV s)
  (n:Nat) (h:I n s) :
  codeAny γd A (.compLoop ΔW 0 it acc env) R s:=by
 refine codeAny_loop rfl I (λn s hI=>?_) n h
 show wpAny _ A ((compTurn ΔW 0 it acc env).onRaise (λx=>do noteFrame x env;theTreesLotGoes x)) _ _ s
 refine wpAny_noted ?_;rw[compTurn_list];refine wpAny_noRaise ?_;refine q_ (MF (q_ (Gy (turn n s hI) (λr s₁ h₁=>?_) λ_ _ h'=>h')))
 cases r with
 | none=>exact DY h₁
 | some v =>
  refine q_ (Gy h₁ (λ_ s₁ h₁=>?_) λ_ _ h'=>h');refine q_ (Gy h₁ (λ_ s₂ h₂=>q_ (Gy h₂ (λok s₃ h₃=>?_) λ_ _ h'=>h')) λ_ _ h'=>h')
  cases ok with
  | false=>exact DY ⟨rfl,h₃⟩
  | true =>
   exact q_ (q_ (Gy h₃ (λx s₄ h₄=>q_ (Gy h₄ (λ_ s₅ h₅=>DY (DY #[rfl,h₅])) λ_ _ h'=>h')) λ_ _ h'=>h'))
def bq (J:It) (g:TG) (tt:TT) (te:TE) (σ0:St) (H1:Hp) (D:Addr) (Q:ηA):Prop :=
 ∃W:Nat->Nat->List V->St->Hp->Prop,(∃m,W 0 m [] σ0 (upd H1 D εP))/\∀i m ys σ H,W i m ys σ H->H D=some γB ∧
  ((J.stop i H/\Q H)\/(J.go i H/\∀x H',J.yld i H x H'->g x σ H' λσ2 H2=>tt σ2 H2 λb H3 =>
   if b=true then te σ2 H3 λv H4=>H4 D=some γB/\ys.length < sizeLine/\∃m',m' < m/\W (i+1) m' ψf σ2 (upd H4 D (.lst ψf))
   else ∃m',m' < m/\W (i+1) m' ys σ2 H3))
def mX (cap:η) (own:ώ) (wi:TI) (g:TG) (tt:TT) (te:TE):TE:=λσ H Q=>wi σ H λJ H1=>∀D,H1 D=none->bq J g tt te ξB H1 D (λH'=>Q γ4 H')
section
variable {X:Cx}{sc:Scope}{cap:List Nat}{own:List Str}{tg iter elt:Expr}{ifs:List Expr}{pos:Pos}{wi:TI}{g:TG}{tt:TT}{te:TE}
theorem pU {use:Ωa}{ppos:Pos}{pins:ϕ}{Q:γj}{R:Ϣ} (hc:γm) (S:θk) (hi:ζy)
  (hg:ρ1) (ht:πY) (he:πZ)
  (hs:ΘH) (I:ρ) (h:mX cap own wi g tt te σ H Q)
  (fin:ωH) :
  wpAny ω X.A ωT R X.xe s:=by
 obtain⟨cl,ad,a0,b6⟩:=mW (env:=π) (scope:=sc) λn hn=>X.env.cells.lookup n |> λ_=>I.ok.has n ϋy;refine Rm (use:=use) rfl hs ad εk S.locs Δ1;obtain⟨it,fp,tn,J,H2,rfl,I2,T,a4,f2,q⟩:=h2;refine QP ?_;obtain⟨D,hD⟩:∃D,D=s2.heap.objs.size:=ϒ
 have ce:H2 D=none:=by rw[hD];exact I2.hok.fresh Γ
 have I3:Inv X pins σ ξ8 { s2 with heap:=s2.heap.push { cls:=.type "list",dict:=none,data:=.seq ([]:List Value).toArray } }:=by
  show 233
 have bm:∀b∈fp,b≠D:=λb hb z=>by
  obtain⟨o,ho,_⟩:=T.obj _ _ a4 b hb;show 234
 have f3:∀b∈fp,Fb X pins ξ8 b:=λb hb=>#[by rw[ae (bm b hb)];exact(f2 b hb).1,(f2 b hb).2]
 have cv:tn 0 119e1:=T.keep _ _ _ a4 λb _ o e=>D_ _ e
 rw[<- hD];obtain⟨W,⟨m0,w0⟩,turn⟩:=q D ce
 generalize c0:({ s2 with heap:=s2.heap.push { cls:=.type "list",dict:=none,data:=.seq ([]:List Value).toArray } }:Shared)=s3 at I3 ⊢
 have G:tn 0 s3.heap:=by rw[<- c0];exact cv
 refine Pi ψD (by intro y hy;simp at hy) (λh1 ch ck=>?_) S.kind
 have hk:∀b u,s3.heap.get? b=some u->h1.get? b=some u:=λb u e=>ck.extBut b u ζA ιn
 have O:∀b∈fp,b < s3.heap.objs.size:=λb hb=>by
  obtain⟨o,ho,_⟩:=T.obj _ _ G b hb;exact DS ho
 have I4:=I3.block (t':=s3.toks+([]:List ωb).length) S a0 b6 f3 O ch hk
 have fC:∀H',H' s3.heap.objs.size=none->Fb X pins H' s3.heap.objs.size:=λH' hn=>I3.fpOk Γ hn;obtain⟨C,hC⟩:∃C,C=s3.heap.objs.size:=ϒ;rw[<- hC] at I4 fC;rw[<- hC];obtain⟨Xc,j⟩:∃Xc,Xc=cP X sc cl C cap own s3 (upd H2 D (.lst [])) fp:=ϒ;rw[<- j] at I4
 have gX:PG Xc tg g:=j ▸ hg cl C s3 _ fp
 have tX:Ji Xc ifs tt:=j ▸ ht cl C s3 _ fp
 have eX:PE Xc elt te:=j ▸ he cl C s3 _ fp
 have x1:Xc.prog=X.prog:=by rw[j];rfl
 have x2:Xc.w=X.w:=by rw[j];rfl
 have x3:Xc.K=X.K:=by rw[j];rfl
 have x4:Xc.calm=true:=by rw[j];exact hc
 have x5:Xc.A=X.A:=by rw[j];rfl
 have x6:Xc.env=compEnvC sc cl C X.env:=by rw[j];rfl
 have x7:Xc.xe=λ_ _=>False:=by rw[j];rfl
 have E:∀{H':Hp},ιW->∀b∈fp,Fb Xc [] H' b:=λhn b hb=>by
  rw[j];refine #[hn b hb,?_,?_,.inl hb,λx c e=>(f3 b hb).2.2.2.2.1 x c (a0 x c e),λp hp=>absurd hp νq]
  ·show b≠C
   rw[hC];exact Ea (O b hb)
  ·intro z
   rcases DH.mp (I3.stkSub b z) with q | q
   ·show 235
   ·show 236
 have a3:tn 0 h1:=T.keep _ _ _ G λb _ o e=>hk b o e
 have Z:∀s4:Shared,s4 = { s3 with heap:=h1,toks:=s3.toks+([]:List ωb).length } →
   codeAny ω X.A (.compLoop θ1 0 ιk γ4 (compEnvC sc cl C π)) Δx s4:=by
  rintro s4 rfl;refine pT (λn s'=>∃i σ' H' ys,Inv Xc [] σ' H' s'/\tn i s'.heap/\(∀b∈fp,H' b=none)/\H' D=some (.lst ys)/\W i n ys σ' H') ?_ m0 ⟨0,_,_,[],I4,a3,λb hb=>(f3 b hb).1,ab,w0⟩;rintro n s5 ⟨i,σ5,H5,ys,I5,a6,an,c1,w5⟩;obtain⟨_,U⟩:=turn i n ys σ5 H5 w5;rcases U with ⟨stop,qq⟩ | ⟨go,step⟩
  ·have td:=T.done Xc x1 x2 x3 x4 i [] s5 σ5 H5 δV I5 (E an) a6 stop
   rw[x5] at td;refine w_ td λr s6 ⟨hr,I6⟩=>?_;subst hr
   show compPost _ _ _ _ _ _ _ πD s6
   obtain⟨m6,a5,_⟩:=id I6.loc;rw[x6] at a5
   have u6:=I6.base
   have a1:=I6.hok
   have b4:H5 C=none:=by have:=I6.free;rw[x6] at this;exact this
   have cw:s6.os=s3.os:=by have:=I6.os;rw[j] at this;exact this
   rw[j] at u6 a1
   have IX:Inv X pins σ H5 s6:=I3.call' (s':=s6) cw u6 a1 I6.bare λb hb=>Γt;exact fin D C H5 s6 m6 IX a5 (fC H5 b4) qq
  ·have ti:=T.item Xc x1 x2 x3 x4 i [] s5 σ5 H5 δV I5 (E an) a6 go
   rw[x5] at ti;refine w_ ti λr s6 ⟨u,hr,h6⟩=>?_;subst hr;refine w_ h6 λ_ s7 ⟨x,H7,I7,r7,y7,Y,b1⟩=>?_
   have cs:=I7.pinned (E b1) ώC
   have a7:=gX _ s7 σ5 H7 x u _ cs r7 ώ2;rw[x1,x2,x5,x6,x7] at a7;refine w_ a7 λ_ s8 ⟨σ8,H8,I8,q8⟩=>?_
   have a8:=tX _ s8 σ8 H8 _ I8 q8;rw[x1,x2,x5,x6,x7] at a8
   have again:∀{σ9:St}{H9:Hp}{s9:ν}{zs:δ}{m':Nat},Inv Xc ξl σ9 H9 s9->H9 D=some ζF->m' < n->W (i+1) m' zs σ9 H9 →
     ∃m,m < n/\∃i σ' H' ys,Inv Xc [] σ' H' s9/\tn i s9.heap/\ιW/\H' D=some γB/\W i m ys σ' H':=λ{σ9 H9 s9 zs m'} I9 hz hm w9=>by
    refine ωQ;obtain⟨o,e,d⟩:=T.obj _ _ Y b hb;exact(I9.pin (b,o) νb).2.1
   refine w_ a8 λok s9 ⟨H9,I9,q9⟩=>?_
   cases ok with
   | false =>
    rw[if_neg Fp] at q9 ⊢;obtain⟨m',hm,w9⟩:=q9;exact again I9 (turn _ _ _ _ _ w9).1 hm w9
   | true =>
    rw[if_pos rfl] at q9 ⊢
    have a9:=eX _ s9 σ8 H9 _ I9 q9;rw[x1,x2,x5,x6,x7] at a9;refine w_ a9 λv cr ⟨y,aw,b5,cc,bt,b0,m',hm,cy⟩=>?_
    have aT:=aZ (X:=Xc) ξl cr σ8 aw γ4 [y] γ4 [v] (λ_ a2=>a2=upd aw D όO) b5 rfl (.cons cc .nil) #[D,ys,y,rfl,rfl,bt,b0,rfl];rw[x1,x2,x5,x7] at aT;refine w_ aT λ_ c3 ⟨_,a2,b2,_,b3⟩=>?_;subst b3;exact again b2 ab hm cy
 exact QL οs (T.self _ 0 _ _ _ a3 οs)
theorem aS (S:θk) (hc:γm) (hi:ζy)
  (hg:ρ1) (ht:πY) (he:πZ)
  (hs:∀x,foldedSetIterable iter π x=pure x:=by intro _;rfl):PE X θ1 (mX cap own wi g tt te):=by
 intro j s σ H Q I h;rw[ώD];refine pU (use:=none) hc S hi hg ht he hs I h λD C H' s' m I' hn hf q=>?_;refine Ωb;obtain⟨f0,f1,f2,f3,f4,f5⟩:=hf;exact Γ8
theorem b9 {i:Nat}{x:Str}{pos' spos:Pos} (hN:θL) (hi':ηl) (hx:θv) (S:θk) (hc:γm) (hi:ζy)
  (hg:ρ1) (ht:πY) (he:πZ)
  (hsw:swapsWith θ1 ϊb spos.line X.env=pure true:=by rfl) (hs:∀x,foldedSetIterable iter π x=pure x:=by intro _;rfl)
  (hf:X.fn x=true\/X.env.scope.names.lookup x=some .local:=by first | exact .inl rfl | exact .inr rfl | assumption) :
  PS X (.Assign [.Name x pos'] θ1 spos) (λD σ H=>mX cap own wi g tt te σ H λv H1=>D.nx ξc H1):=by
 intro j s σ H D I h;rw[exec_Assign_Name_used _ _ _ _ hsw];refine q_ (MF (q_ ?_))
 show wpAny _ X.A (do let _ ← comprehension (.ListComp elt [⟨tg,iter,ifs,0⟩] sc pos) sc X.env _ (newList []) false (eval iter X.env) (some (assign (.Name x pos') X.env))) _ _ s
 refine q_ (w_ (pU (use:=some (assign ωz π)) (R:=λ_ s'=>SP X j D .next s') hc S hi hg ht he hs I h λA C H' s' m I' hn O q=>?_) (λ_ s' hq=>DY (DY hq)));obtain⟨f0,f1,f2,f3,f4,f5⟩:=O;refine Qn (pB I' hN hi' hx (v:=.ref A) rfl (λJ E ⟨a,sa,ha⟩=>?_) hf)
 have G:C≠a:=by
  rcases ha with z | z
  ·rw[z];exact f1
  ·exact λw=>f4 x a z w.symm
 refine #[m,hn.sameBut sa G,λh' sb=>?_];exact #[_,H',E.turned (t':=J.toks) ιo f0 f1 f3 f4 f5,q]
end
section
variable {X:Cx}{pins:List (Addr × Obj)}{σ:St}{H:Hp}{s:Shared}{h':Heap}
theorem Inv.turnedUp {o:HO} (I:ρ) (hf:ιT) (k:ΔB) (ha:τQ)
  (new:Φf):Inv X pins σ θ4 { s with heap:=h',toks:=t' }:=by
 have ne:∀b u,s.heap.get? b=some u->b≠a:=λb u e=>Ea (Fg εL ha)
 have nH:H a=none:=I.hok.fresh ha
 have nb:∀b u,H b=some u->b≠a:=λb u e z=>by rw[z,nH] at e;cases e
 have nf:∀b u,H b=some u->b∉fp:=λb u e z=>by rw[(hf b z).1] at e;cases e
 refine I.step (g':=μI) (d':=s.drawn) (ch:=fp) Γg Φi Θp
  (λb o _ e n=>by rw[ae (ne b o e)];exact n) (λb o hc e=>?_) (λb xs e=>by rw[ae χO];exact e) (λb o u e=>by rw[ae χO];exact e) (λb ps e=>#[#[],by rw[ae χO,e];simp])
  (λm hm=>by
   obtain⟨oL,es,ep,ho,r⟩:=hm
   exact ΔM) ύp ε1
 ·exact ϋz
 ·by_cases hb:b=a
  ·subst hb;rw[ab] at e;cases e;exact new
  ·rw[ae hb] at e
   refine(I.hok b u e).stay ΨA (λc q=>by rw[ae (nb c _ q)];exact q) λc xs q=>by rw[ae (nb c _ q)];exact q
   rcases hc with z | z
   ·rw[z];exact nf b u e
   ·exact nf c _ z
theorem Inv.turnedL (I:ρ) (hf:ιT) (k:ΔB):Inv X pins σ H { s with heap:=h',toks:=t' }:=by
 have nf:∀b u,H b=some u->b∉fp:=λb u e z=>by rw[(hf b z).1] at e;cases e
 refine I.step (g':=μI) (d':=s.drawn) (ch:=fp) Γg Φi Θp
  (λb o _ e n=>n) (λb o hc e=>ϋz) (λb xs e=>e) (λb o u e=>e) (λb ps e=>#[#[],by rw[e];simp])
  (λm hm=>by
   obtain⟨oL,es,ep,ho,r⟩:=hm
   exact ΔM) ύp ε1
 refine(I.hok b u e).stay (λc v hc q=>k c v ?_ q) (λ_ q=>q) λ_ _ q=>q;rcases hc with z | z
 ·rw[z];exact nf b u e
 ·exact nf c _ z
end
def Jn (K:n_) (l1 l2:Addr) (xs ys:δ):It :=
 ⟨λi H=>b_ K H l1 xs/\b_ K H l2 ys/\i < xs.length/\i < ys.length,λi H x H'=>∃T u v,H T=none/\x=.ref T/\xs[i]?=some u/\ys[i]?=some v/\H'=upd H T (.tup [u,v]),
  λi H=>b_ K H l1 xs/\b_ K H l2 ys/\(xs.length<=i\/ys.length<=i)⟩
structure Js (z TI TO i1 i2:Addr):Prop where
 TIz:TI≠z
 TOz:TO≠z
 i1z:i1≠z
 i2z:i2≠z
 TITO:TI≠TO
 TIi1:TI≠i1
 TIi2:TI≠i2
 TOi1:TO≠i1
 TOi2:TO≠i2
 i12:i1≠i2
theorem BN (n:Nat):Js (n+4) (n+2) (n+3) n (n+1) :=
 ⟨(by omega:(n+2:Nat)≠n+4),(by omega:(n+3:Nat)≠n+4),(by omega:(n:Nat)≠n+4),(by omega:(n+1:Nat)≠n+4),(by omega:(n+2:Nat)≠n+3),(by omega:(n+2:Nat)≠n),
  (by omega:(n+2:Nat)≠n+1),(by omega:(n+3:Nat)≠n),(by omega:(n+3:Nat)≠n+1),(by omega:(n:Nat)≠n+1)⟩
variable {h:Heap}
theorem cA {b:Addr}{x y:γx}{o:Obj}{T:εG} (hl:h.IsList a x) (ho:υB) (hc:o.cls=.type T) (hT:T ≠ "list"):a≠b:=by
 rintro rfl;obtain⟨o',g,j,_⟩:=hl;rw[ho] at g
 cases g;rw[hc] at j
 cases j;exact hT rfl
variable {l1 l2:Addr}
theorem Js.apart {z TI TO i1 i2:Addr}{a b c d:θ}{k1 k2:Nat}{xs ys:γx} (F:όP) (hz:Sf h z TI TO a) (hTO:Ph h TO b c) (h1:h.IsListIter i1 l1 k1) (h2:h.IsListIter i2 l2 k2)
  (hl1:h.IsList l1 xs) (hl2:h.IsList l2 ys):PySem.ZipApart z TI TO i1 i2 l1 l2:=by
 obtain⟨o1,e1,c1,_⟩:=id h1;obtain⟨o2,e2,c2,_⟩:=id h2
 exact⟨F.TIz,F.TOz,F.i1z,F.i2z,F.TITO,F.TIi1,F.TIi2,F.TOi1,F.TOi2,F.i12,
  cA (y:=xs) hl1 hz rfl ε,cA (y:=xs) hl1 hTO rfl ε,cA (y:=xs) hl1 e1 c1 ε,cA (y:=xs) hl1 e2 c2 ε,
  cA (y:=xs) hl2 hz rfl ε,cA (y:=xs) hl2 hTO rfl ε,cA (y:=xs) hl2 e1 c1 ε,cA (y:=xs) hl2 e2 c2 ε⟩
variable {elts:List Expr}
theorem Am {x1}{tp:Pos}{z TI TO i1 i2 l1 l2:Addr} (F:όP) (xs ys:δ) :
  Gi P w K θp ϋA [z,TI,TO,i1,i2] z (λi h=>Sf h z TI TO .none/\Ph h TI (.ref i1) (.ref i2)/\(∃a b,Ph h TO a b)/\h.IsListIter i1 l1 i/\h.IsListIter i2 l2 i) where
 mem:=by simp
 obj:=λi h st b hb=>by
  obtain⟨hz,j,⟨a,c,g⟩,⟨o1,e1,c1,d1⟩,o2,e2,c2,d2⟩:=st;show 46;rcases hb with rfl | rfl | rfl | rfl | rfl
  ·exact ΓQ
  ·exact #[_,j,λv q=>by have q':Data.seq _ _=Data.cell v:=q;cases q']
  ·exact #[_,g,λv q=>by have q':Data.seq _ _=Data.cell v:=q;cases q']
  ·exact ΘE
  ·exact #[o2,e2,λv q=>by rw[d2] at q;cases q]
 keep:=λi h h' st k=>by
  obtain⟨hz,j,⟨a,b,g⟩,h1,h2⟩:=st;exact #[k z ό _ hz,k TI (by simp) _ j,#[a,b,k TO (by simp) _ g],h1.at λo e=>k i1 (by simp) o e,h2.at λo e=>k i2 (by simp) o e]
 item:=by
  show 237;obtain⟨q1,q2,b1,b2⟩:=hg;show 238
  show 239
  have hy:ys[i]?=some ys[i]:=s_ b2;obtain⟨u,hu,ru⟩:=C.get hx;obtain⟨v,hv,rv⟩:=D.get hy
  have lt:∀{c o},s.heap.get? c=some o->c≠s.heap.objs.size:=λe=>Ea εL;refine PySem.wpAny_pyNext_zip_item ΔX hz j g h1 h2 θ7 ιu (x:=u) (y:=v) μ0 (by simpa using hv) λh' a1 a2 a3 a4 a5 a6 hk=>?_
  refine #[_,rfl,PySem.wpAny_letOwnedTupleGo_zip a1 λU G sb=>?_]
  have T:s.heap.objs.size≠z:=(lt hz).symm
  have kk:∀b u,b∉[z,TI,TO,i1,i2]->s.heap.get? b=some u->U.get? b=some u:=λb u hb e=>by
   show 126;exact sb.extBut _ _ hb.1 (hk b u hb.1 hb.2.2.1 hb.2.2.2.1 hb.2.2.2.2 e)
  refine⟨.ref Φ,upd H Φ (.tup [xs[i],ys[i]]),I.turnedUp (t':=δ9) hf kk Γ ⟨by show 2<=δv;decide,[u,v],.cons ru (.cons rv .nil),⟨_,sb.extBut _ _ T a5,rfl,_,rfl⟩⟩,rfl,
   ⟨_,_,_,I.hok.fresh Γ,rfl,hx,hy,rfl⟩,⟨G,sb.extBut _ _ F.TIz (hk _ _ F.TIz F.TITO F.TIi1 F.TIi2 j),⟨_,_,sb.extBut _ _ F.TOz a2⟩,a3.at λo e=>sb.extBut _ _ F.i1z e,a4.at λo e=>sb.extBut _ _ F.i2z e⟩,λb hb=>?_⟩
  have:b≠s.heap.objs.size:=by
   show 240;obtain⟨o2,e2,_⟩:=id h2;show 46;rcases hb with rfl | rfl | rfl | rfl | rfl
   ·exact lt hz
   ·exact lt j
   ·exact lt g
   ·exact lt e1
   ·exact lt e2
  show 241
 done:=by
  show 237;obtain⟨q1,q2,R⟩:=hg;show 238
  have l1:=C.length
  have l2:=D.length;refine PySem.wpAny_pyNext_zip_end γS ΔX hz j g h1 h2 θ7 ιu ?_ λh' hk=>ΔN
  ·rcases R with q | q
   ·exact .inl τi
   ·exact .inr τi
  ·simp only[DH,Fl,or_false,not_or] at hb
   exact hk b u hb.1 hb.2.2.1 hb.2.2.2.1 hb.2.2.2.2 e
 self:=λ_ _ _ _ _ st h=>RQ st.1 h
section
variable {X:Cx}
inductive yI (K:n_) (R:δD) (vs:δ) (H1:Hp):Prop
 | mk:∀l1 l2 xs ys,vs=[.ref l1,.ref l2]->b_ K H1 l1 xs->b_ K H1 l2 ys->R (Jn K l1 l2 xs ys) H1->yI K R vs H1
def M7 (K:n_) (ta:TA):TI:=λσ H R=>ta σ H λvs H1=>yI K R vs H1
theorem An:bootBuiltins "zip" = some (.type "zip"):=by decide +kernel
theorem mY {x1}{tp:Pos}{a b:Expr}{ta:TA}{p pos:Pos} (hg:Gl X "zip") (hm:X.mg "zip" = none) (ha:ώs) (hs:starEach [a,b] X.env=[(υ,eval a π),(υ,eval b π)]:=by rfl) (hs2:starEach [b] X.env=[(υ,eval b π)]:=by rfl) :
  PI X θp (.Call (.Name "zip" p) [a,b] [] pos) (M7 X.K ta):=by
 intro g s σ H R I h;refine Call_ (cx I hg hm An (KY (w_ (ha pos g s σ H _ I h) λus s1 ⟨vs,H1,I1,r1,q1⟩=>?_) (by rw[hs,hs2]) (by rw[hs2];rfl)))
 obtain⟨l1,l2,xs,ys,e,h1,h2,q⟩:=q1;subst e;obtain⟨u,v,rfl,ru,rv⟩:=fM r1
 cases ru
 cases rv;obtain⟨C,D,p1,_⟩:=I1.list h1;obtain⟨j,E,p2,_⟩:=I1.list h2;refine PySem.call_zip_2 θ7 ιu λh' a1 a2 a3 a4 a5 a6 a7=>?_;refine RQ a1 ?_
 refine⟨s1.heap.objs.size+4,[s1.heap.objs.size+4,s1.heap.objs.size+2,s1.heap.objs.size+3,γL,s1.heap.objs.size+1],_,_,H1,rfl,I1.kept (t':=εF) λb o e=>a7 b o e,Am (BN _) xs ys,
  ⟨a1,a2,⟨_,_,a3⟩,a4,a5⟩,λb hb=>?_,q⟩
 have:s1.heap.objs.size<=b:=by
  show 46;rcases hb with rfl | rfl | rfl | rfl | rfl
  ·exact KA _ 4
  ·exact KA _ 2
  ·exact KA _ 3
  ·show 35
  ·exact KA _ 1
 exact I1.fpOk this ϋd
end
variable {ys:List V}
theorem vt {D:Fe} (Pv:ζw) (h0:ζ9) (hl:Δ6) (he:ϋe)
  (hs:∀i u v T σ H,i < xs.length->xs[i]?=some u->ys[i]?=some v->H T=none->Pv i σ H->g θT σ τn λσ2 H2=>tb { D with nx:=Pv (i+1),ct:=Pv (i+1),bk:=D.nx } σ2 H2) (hd:θh) :
  ∃W:Nat->Nat->St->Hp->Prop,ζ1/\∀i m σ H,W i m σ H →
   134e9\/((Jn K l1 l2 xs ys).go i H/\∃N:St->Hp->Prop,εt/\∀x H',(Jn K l1 l2 xs ys).yld i H x H'->g x σ H' λσ2 H2=>tb { D with nx:=N,ct:=N,bk:=D.nx } σ2 H2):=by
 refine θc
 rintro i m σ H ⟨rfl,hi,p⟩;obtain⟨q1,q2⟩:=hl i σ H hi p
 by_cases hlt:i < xs.length
 ·refine .inr ωV
  obtain⟨T,u,v,hT,rfl,hu,hv,rfl⟩:=y;exact hs i u v T σ H hlt hu hv hT p
 ·have e:i=xs.length:=by omega
  exact .inl ΔY
inductive Dt where
 | non | bl (b:Bool) | int (i:Int) | str (x:Str) | lst (l:List Dt) | tup (l:List Dt)
mutual
def Ed:Dt->Dt->Bool
 | .non,.non=>true
 | .bl a,.bl b=>a == b
 | .bl a,.int b=>ϊD == b
 | .int a,.bl b=>a == ϊE
 | .int a,.int b=>a == b
 | .str a,.str b=>a == b
 | .lst a,.lst b=>Fs a b
 | .tup a,.tup b=>Fs a b
 | _,_=>false
def Fs:List Dt->List Dt->Bool
 | [],[]=>true
 | a :: as,b :: bs=>Ed a b && Fs as bs
 | [],_ :: _=>false
 | _ :: _,[]=>false
end
mutual
def Fc:Dt->Nat
 | .lst a=>c6 a+1
 | .tup a=>c6 a+1
 | _=>0
def c6:List Dt->Nat
 | []=>0
 | a :: as=>max (Fc a) (c6 as)
end
mutual
def l_ (K:n_) (H:Hp):V->Dt->Prop
 | v,.non=>v=.non
 | v,.bl b=>v=.bl b
 | v,.int i=>v=.int i
 | v,.str x=>v=.str x
 | v,.lst ds=>∃a xs,v=.ref a/\b_ K H a xs/\DF K H xs ds
 | v,.tup ds=>∃a xs,v=.ref a/\Ew K H a xs/\DF K H xs ds
def DF (K:n_) (H:Hp):List V->List Dt->Prop
 | xs,[]=>xs=[]
 | xs,d :: ds=>∃v vs,xs=v :: vs/\l_ K H v d/\DF K H vs ds
end
theorem lc:∀{a b:ζd},Fs a b=true->a.length=b.length
 | [],[],_=>rfl
 | x :: a,y :: b,h=>by
  rw[Fs,Gx] at h;rw[F6,F6,lc h.2]
 | [],_ :: _,h=>by rw[Fs] at h;cases h
 | _ :: _,[],h=>by rw[Fs] at h;cases h
theorem DF.length {K:n_}{H:Hp}:∀{ds:ζd}{xs:δ},DF K H xs ds->xs.length=ds.length
 | [],xs,h=>by rw[DF] at h;rw[h];rfl
 | d :: ds,xs,h=>by
  show 76;obtain⟨v,vs,rfl,_,t⟩:=h;rw[F6,F6,DF.length t]
theorem DF.get {K:n_}{H:Hp}:∀{ds:ζd}{xs:δ} (j:Nat) (h1:j < xs.length) (h2:ώE),DF K H xs ds->l_ K H xs[j] ds[j]
 | d :: ds,xs,j,h1,h2,h=>by
  show 76;obtain⟨v,vs,rfl,s,t⟩:=h
  cases j with
  | zero=>exact s
  | succ j=>exact DF.get j ξi ξj t
theorem iW:∀{a b:ζd},a.length=b.length->Fs a b=(p_ a.length).all λj=>Ed (a.getD j .non) (b.getD j .non)
 | [],[],_=>by rw[Fs];rfl
 | x :: a,y :: b,h=>by
  have ih:=iW (a:=a) (b:=b) (by simpa using h)
  rw[Fs,ih,F6,Of,Mb,PD];rfl
theorem vv:∀{ds:ζd}{j:Nat} (h:ώE),Fc ds[j]<=c6 ds
 | d :: ds,j,h=>by
  rw[c6]
  cases j with
  | zero=>exact Nat.le_max_left _ _
  | succ j =>
   have h':j < ds.length:=by simpa using h
   exact DK (vv (ds:=ds) (j:=j) h') (Nat.le_max_right _ _)
mutual
theorem gj:∀d:Dt,Ed d d=true
 | .non=>by rw[Ed]
 | .bl b=>by rw[Ed];exact beq_self_eq_true _
 | .int b=>by rw[Ed];exact beq_self_eq_true _
 | .str b=>by rw[Ed];exact beq_self_eq_true _
 | .lst l=>by rw[Ed];exact jK l
 | .tup l=>by rw[Ed];exact jK l
theorem jK:∀l:List Dt,Fs l l=true
 | []=>by rw[Fs]
 | d :: l=>by rw[Fs,gj d,jK l];rfl
end
section
variable {X:Cx}{pins:List (Addr × Obj)}{σ:St}{H:Hp}{s:Shared}
mutual
theorem Ao (I:ρ):∀{d d':Dt}{v:V},l_ X.K H v d->l_ X.K H v d'->d=d'
 | .non,d',v,h,h'=>by
  show 77
  cases d' <;> rw[l_] at h' <;> first | (obtain⟨a,xs,z,_⟩:=h';cases z) | rfl | cases h'
 | .bl b,d',v,h,h'=>by
  show 77
  cases d' <;> rw[l_] at h' <;> first | (obtain⟨a,xs,z,_⟩:=h';cases z) | (cases h';rfl) | cases h'
 | .int b,d',v,h,h'=>by
  show 77
  cases d' <;> rw[l_] at h' <;> first | (obtain⟨a,xs,z,_⟩:=h';cases z) | (cases h';rfl) | cases h'
 | .str b,d',v,h,h'=>by
  show 77
  cases d' <;> rw[l_] at h' <;> first | (obtain⟨a,xs,z,_⟩:=h';cases z) | (cases h';rfl) | cases h'
 | .lst ds,d',v,h,h'=>by
  show 242
  cases d' with
  | lst ds' =>
   show 78
   cases z
   have:=I.list_inj q q';show 243
  | tup ds' =>
   show 78
   cases z;obtain⟨its,_,p,_⟩:=I.list q;obtain⟨its',_,p',_⟩:=I.tuple q';exact absurd rfl (Rb γG p')
  | _=>rw[l_] at h';cases h'
 | .tup ds,d',v,h,h'=>by
  show 242
  cases d' with
  | tup ds' =>
   show 78
   cases z
   have:=I.tuple_inj q q';show 243
  | lst ds' =>
   show 78
   cases z;obtain⟨its,_,p,_⟩:=I.tuple q;obtain⟨its',_,p',_⟩:=I.list q';exact absurd rfl (Rb οt p)
  | _=>rw[l_] at h';cases h'
theorem fb (I:ρ):∀{ds ds':ζd}{xs:δ},DF X.K H xs ds->DF X.K H xs ds'->ds=ds'
 | [],ds',xs,h,h'=>by
  show 76;subst h
  cases ds' with
  | nil=>rfl
  | cons d' ds'=>rw[DF] at h';obtain⟨_,_,z,_⟩:=h';cases z
 | d :: ds,ds',xs,h,h'=>by
  show 76;obtain⟨v,vs,rfl,q,t⟩:=h
  cases ds' with
  | nil=>rw[DF] at h';cases h'
  | cons d' ds' =>
   rw[DF] at h';obtain⟨v',vs',z,q',t'⟩:=h'
   cases z;rw[Ao I q q',fb I t t']
end
def wZ:Dt->Bool
 | .lst _=>false
 | .tup _=>false
 | _=>true
theorem vw (I:ρ) {A:ϣ}{d d':Dt}{v v':V}{u u':θ} (h:l_ X.K H v d) (h':l_ X.K H v' d') (r:ζM) (r':f_ v' u') (f:wZ d=true) (hu:A.units < cLine):E_ A s u u' 51e3:=by
 have j:∀(T:E_ A s u u' μr),E_ A s u u' 51e3:=λT=>T
 cases d with
 | lst l=>exact absurd (show false=true from f) Fp
 | tup l=>exact absurd (show false=true from f) Fp
 | non =>
  show 79;cases r
  cases d' with
  | lst l=>simp only[l_] at h';obtain⟨a,xs,rfl,q,t⟩:=h';cases r';obtain⟨g,rv,p,_⟩:=I.list q;show 36;exact E_.none_list γG hu
  | tup l=>simp only[l_] at h';obtain⟨a,xs,rfl,q,t⟩:=h';cases r';obtain⟨g,rv,p,_⟩:=I.tuple q;show 36;exact E_.none_tuple p hu
  | non=>simp only[l_] at h';show 12;exact bK (y:=.non) (x:=.non) rfl r' rfl rfl
  | bl b=>simp only[l_] at h';show 12;exact bK (y:=.non) (x:=.bl b) rfl r' rfl rfl
  | int b=>simp only[l_] at h';show 12;exact bK (y:=.non) (x:=.int b) rfl r' rfl rfl
  | str b=>simp only[l_] at h';show 12;exact bK (y:=.non) (x:=.str b) rfl r' rfl rfl
 | bl c =>
  show 79
  cases d' with
  | lst l=>cases r;show 127;exact E_.bool_list c γG hu
  | tup l=>cases r;show 128;exact E_.bool_tuple c p hu
  | non=>simp only[l_] at h';show 12;exact bK (y:=.bl c) (x:=.non) r r' rfl rfl
  | bl b=>simp only[l_] at h';show 12;exact bK (y:=.bl c) (x:=.bl b) r r' rfl rfl
  | int b=>simp only[l_] at h';show 12;exact bK (y:=.bl c) (x:=.int b) r r' rfl rfl
  | str b=>simp only[l_] at h';show 12;exact bK (y:=.bl c) (x:=.str b) r r' rfl rfl
 | int c =>
  show 79
  cases d' with
  | lst l=>obtain⟨t,rfl⟩:=r;show 127;exact E_.int_list c _ γG hu
  | tup l=>obtain⟨t,rfl⟩:=r;show 128;exact E_.int_tuple c _ p hu
  | non=>simp only[l_] at h';show 12;exact bK (y:=.int c) (x:=.non) r r' rfl rfl
  | bl b=>simp only[l_] at h';show 12;exact bK (y:=.int c) (x:=.bl b) r r' rfl rfl
  | int b=>simp only[l_] at h';show 12;exact bK (y:=.int c) (x:=.int b) r r' rfl rfl
  | str b=>simp only[l_] at h';show 12;exact bK (y:=.int c) (x:=.str b) r r' rfl rfl
 | str c =>
  show 79
  cases d' with
  | lst l=>obtain⟨t,rfl⟩:=r;show 127;exact E_.str_list c _ γG hu
  | tup l=>obtain⟨t,rfl⟩:=r;show 128;exact E_.str_tuple c _ p hu
  | non=>simp only[l_] at h';show 12;exact bK (y:=.str c) (x:=.non) r r' rfl rfl
  | bl b=>simp only[l_] at h';show 12;exact bK (y:=.str c) (x:=.bl b) r r' rfl rfl
  | int b=>simp only[l_] at h';show 12;exact bK (y:=.str c) (x:=.int b) r r' rfl rfl
  | str b=>simp only[l_] at h';show 12;exact bK (y:=.str c) (x:=.str b) r r' rfl rfl
def eJ (ds ds':ζd) (j:Nat):Bool:=Ed (ds.getD j .non) (ds'.getD j .non)
variable {ds ds':List Dt}{its:List Value}
theorem iX {xs':δ}{its':χ} (t:DF X.K H xs ds) (t':DF X.K H xs' ds') (rv:h_ xs its) (rv':h_ xs' its')
  (ih:∀(d d':Dt) (v v':V) (u u':θ),Fc d<=c6 ds->l_ X.K H v d->l_ X.K H v' d'->f_ v u->f_ v' u'->E_ A s u u' μr) :
  ∀j (h1:j < its.toArray.size) (h2:j < its'.toArray.size),E_ A s its.toArray[j] its'.toArray[j] (eJ ds ds' j):=by
 intro j h1 h2
 have l1:=rv.length
 have l2:=rv'.length
 have k1:=t.length
 have k2:=ψg;simp only[Ey] at h1 h2
 have b1:j < xs.length:=by omega
 have b2:j < xs'.length:=by omega
 have c1:j < ds.length:=by omega
 have c2:j < ds'.length:=by omega
 obtain⟨u,hu,ru⟩:=rv.get (s_ b1);obtain⟨u',h,g⟩:=rv'.get (s_ b2)
 have e1:its.toArray[j]=u:=by
  have:=(ET.mp hu).2
  simpa using this
 have e2:its'.toArray[j]=u':=by
  have:=(ET.mp h).2
  simpa using this
 rw[e1,e2]
 have g1:ds.getD j .non=ds[j]:=by rw[t_,s_ c1];rfl
 have g2:ds'.getD j .non=ds'[j]:=by rw[t_,s_ c2];rfl
 unfold eJ;rw[g1,g2];exact ih _ _ _ _ _ _ (vv c1) (DF.get j b1 c1 t) (DF.get j b2 c2 t') ru g
theorem l4 (h:ds.length≠ds'.length):Fs ds ds'=false:=by
 cases q:Fs ds ds' with
 | false=>rfl
 | true=>exact absurd (lc q) h
theorem vx:((p_ (min ds.length ds'.length)).all (eJ ds ds') && ds.length == ds'.length)=Fs ds ds':=by
 by_cases h:ds.length=ds'.length
 ·rw[h,Sl,ξy,Oa,iW h,h]
  rfl
 ·rw[l4 h,beq_eq_false_iff_ne.mpr h,R_]
theorem vz (I:ρ):∀(n:Nat) (A:ϣ) (d d':Dt) (v v':V) (u u':θ),Fc d<=n->l_ X.K H v d->l_ X.K H v' d'->f_ v u->f_ v' u'->A.units+n < cLine->E_ A s u u' 51e3:=by
 intro n
 induction n with
 | zero =>
  show 244;refine vw I h h' r r' ?_ hu
  cases d with
  | lst l=>simp only[Fc] at hn;omega
  | tup l=>simp only[Fc] at hn;omega
  | _=>rfl
 | succ n ih =>
  show 244
  have g:A.units < cLine:=by omega
  have G:A.in1.units+n < cLine:=by
   have:A.in1.units=A.units+1:=rfl;omega
  cases fd:wZ d with
  | true=>exact vw I h h' r r' fd g
  | false =>
   cases d with
   | lst l =>
    show 245
    cases r;obtain⟨E,rv,p,_⟩:=I.list q
    cases d' with
    | non=>simp only[l_] at h';show 80;exact E_.list_none γG g
    | bl b=>simp only[l_] at h';show 80;exact E_.list_bool b γG g
    | int b=>simp only[l_] at h';show 81;exact E_.list_int b _ γG g
    | str b=>simp only[l_] at h';show 81;exact E_.list_str b _ γG g
    | tup l' =>
     show 82
     show 246;show 36;exact E_.list_tuple γG p' g
    | lst l' =>
     have h2:=h';show 82
     show 247
     by_cases e:a=a'
     ·subst e
      have:xs=D:=I.list_inj q q';show 14
      show 248
     ·refine RR e ?_
      have Q:=rv.length
      have O:=j.length
      show 83
      show 249
      show 250
      ·have:=O3.lists (A:=A) (e:=eJ l l') γG οt ΨT g Γ5
       show 251
       rw[hs] at this;rw[iW hl];show 9
      ·rw[l4 hl]
       exact O3.lists_lengths γG οt ΘL g
   | tup l =>
    show 245
    cases r;obtain⟨E,rv,p,_⟩:=I.tuple q
    cases d' with
    | non=>simp only[l_] at h';show 80;exact E_.tuple_none p g
    | bl b=>simp only[l_] at h';show 80;exact E_.tuple_bool b p g
    | int b=>simp only[l_] at h';show 81;exact E_.tuple_int b _ p g
    | str b=>simp only[l_] at h';show 81;exact E_.tuple_str b _ p g
    | lst l' =>
     show 82
     show 247;show 36;exact E_.tuple_list p οt g
    | tup l' =>
     show 82
     show 246
     by_cases e:a=a'
     ·subst e
      have:xs=D:=I.tuple_inj q q';show 14
      show 248
     ·refine RR e ?_
      have Q:=rv.length
      have O:=j.length
      show 83
      show 249
      have:=O3.tuples (A:=A) (e:=eJ l l') p p' g Γ5
      show 251
      have J:C.toArray.size=l'.length:=by simp only[Ey];omega
      rw[hs,J,vx] at this;show 9
   | _=>cases fd
end
section
variable {X:Cx}
def Dk:Dt->Dt->Bool
 | .lst _,.tup _=>false
 | .tup _,.lst _=>false
 | _,_=>true
inductive Lk (K:n_) (neg:Bool) (x y:V) (H:Hp) (Q:VK):Prop
 | mk:∀d d',l_ K H x d->l_ K H y d'->wZ d=false->Dk d d'=true->((∃p,y=.ref p))->Fc d<=60->(Q (.bl (if neg then !Ed d d' else Ed d d')) H)->Lk K neg x y H Q
theorem yJ (hu:X.A.units+64 < cLine):FL X ϋq (Lk X.K true):=by
 intro G s σ H x y v u Q I rx ry h;obtain⟨d,d',h1,h2,fd,sk,⟨p',rfl⟩,hd,q⟩:=h
 cases ry
 have C:X.A.units < cLine:=by omega
 have E:X.A.in1.units+60 < cLine:=by
  have:X.A.in1.units=X.A.units+1:=rfl;omega
 have fin:∀b,b=(!Ed d d')->EP X G σ Q ψ4 s:=λb e=>#[.bl b,H,I,rfl,by rw[e];exact q]
 cases d with
 | lst l =>
  show 252
  show 13;obtain⟨D,rv,p,_⟩:=I.list q1
  cases d' with
  | lst l' =>
   show 253
   cases z;obtain⟨j,g,p2,_⟩:=I.list q'
   have U:=rv.length
   have R:=g.length
   show 83
   have k2:=t'.length
   show 250
   ·have hs:D.toArray.size=l.length:=by simp only[Ey];omega
    refine PM.lists (A:=X.A) (e:=eJ l l') γG ιu ΨT C Γ0 _ _ _ _ χP
    show 36;rw[hs,iW hl];rfl
   ·refine PM.lists_lengths γG ιu ΘL C _ _ _ _ χP
    show 36;rw[l4 hl];rfl
  | tup l'=>cases sk
  | _=>simp only[l_] at h2;cases h2
 | tup l =>
  show 252
  show 13;obtain⟨D,rv,p,_⟩:=I.tuple q1
  cases d' with
  | tup l' =>
   show 253
   cases z;obtain⟨j,g,p2,_⟩:=I.tuple q'
   have U:=rv.length
   have R:=g.length
   show 83
   have k2:=t'.length
   have hs:D.toArray.size=l.length:=by simp only[Ey];omega
   have O:j.toArray.size=l'.length:=by simp only[Ey];omega
   refine PM.tuples (A:=X.A) (e:=eJ l l') p p2 C Γ0 _ _ _ _ χP
   show 36;rw[hs,O,vx]
  | lst l'=>cases sk
  | _=>simp only[l_] at h2;cases h2
 | _=>cases fd
end
variable {D:Addr}
theorem a_.up {H':Hp}{o:HO} (s:γD) (n:οO):a_ H (upd H' D o):=λb u e=>by rw[ae (al e n)];exact s b u e
variable {J:It}{n:Nat}{src f:Nat->V}{te:TE}{cs:St}{H1:Hp}{Q:Hp->Prop}
theorem jL {k:Nat} (hD:γq) (hk:γF) (hn:δE)
  (stop:θm) (go:θj) (yld:ρ4)
  (he:∀i H (R:γj),i < n->a_ H1 H->εY->te ξ9 H R)
  (hQ:νm):bq J δ6 bz te δ2 H1 D Q:=by
 refine #[λi m ys σ H=>m=n - i/\i<=n/\a_ H1 H/\ys=(p_ i).map f/\H D=some γB/\∃o,σ=cs++[o],Θ1,?_];rintro i m ys σ H ⟨rfl,hi,sm,rfl,hd,o,rfl⟩;refine ηr
 by_cases hlt:i < n
 ·refine .inr θi
  obtain⟨rfl,rfl⟩:=yld i H x H' hlt sm y
  have e:(cs++[o]).set k υU=cs++[some (src i)]:=by
   show 129
  unfold be;rw[e];unfold bz;refine GI ?_;refine he i H' _ hlt sm λH4 s4=>#[s4 _ _ hd,?_,n - (i+1),by omega,rfl,hlt,(sm.trans s4).up hD,?_,ab,_,rfl]
  ·rw[o_,Eo]
   omega
  ·rw[KR,FM]
   rfl
 ·have e:i=n:=by omega
  subst e;exact .inl τ2
theorem fO {f:V->V}{k:Nat} (hs:χo) (hD:γq) (hk:γF) (hn:θq)
  (he:∀x H (R:γj),x∈xs->a_ H1 H->Ψc->te υV H R)
  (hQ:∀H,a_ H1 H->H D=some (.lst (xs.map f))->Q H):bq οK δ6 bz te δ2 H1 D Q:=by
 refine jL (src:=λi=>xs.getD i .non) (f:=λi=>f πy) (n:=γ2) hD hk hn ρy ρj ιP θn (λH sm hd=>hQ H sm ?_)
 ·obtain⟨e,y⟩:=y
  refine χQ
  have:=y xs χz;rw[t_,this];rfl
 ·refine he _ H R ?_ sm r
  rw[t_,s_ hi];exact GM hi
 ·rw[hd]
  congr 2
  apply L6
  ·simp
  ·intro i h1 h2
   simp at h1 h2
   simp[h1]
theorem uS {lo:Int}{k:Nat} (hD:γq) (hk:γF) (hn:δE)
  (he:∀i H (R:γj),i < n->a_ H1 H->εY->te (cs++[some ώt]) H R)
  (hQ:νm):bq (Ia lo n) δ6 bz te δ2 H1 D Q :=
 jL (src:=λi=>.int (lo+(i:Nat))) hD hk hn υD υa ρz he hQ
theorem lg {k:Nat} (hD:γq) (hk:γF) (hn:δE)
  (he:∀i H (R:γj),i < n->a_ H1 H->εY->te ιO H R)
  (hQ:νm):bq οP δ6 bz te δ2 H1 D Q :=
 uS hD hk hn (λi H R hi sm r=>by
  show 84
  rw[e]
  exact he i H R hi sm r) hQ
section
variable {X:Cx}{K:n_}
theorem dz {e:Expr}{f:Str}{ta:TE} (hK:ζP) (he:PE X e ta) (hb:ΔV):PE X τF (Lx K ta f):=by
 subst hK;exact ao he hb
theorem bZ (hK:ζP):LB X (Ko K):=by subst hK;exact aG
theorem vA (hK:ζP):LB X (Ke K):=by subst hK;exact bX
theorem qX (hK:ζP):bN X όK (ee K):=by subst hK;exact aD
end
def mZ:List Expr->Option (List Int)
 | []=>some []
 | .Constant (.int i) _ _ :: r=>(mZ r).map (i :: ·)
 | _=>none
theorem vB {X:Cx}:∀{es:εh}{is:γz},mZ es=some is->PA X es (λ_ H Q=>Q (is.map δN) H)
 | [],is,h=>by
  cases h;exact ac
 | e :: es,is,h=>by
  unfold mZ at h
  split at h
  ·rename_i z
   cases z
  ·rename_i i j pos r heq
   cases heq
   cases q:mZ es with
   | none=>rw[q] at h;cases h
   | some js =>
    rw[q] at h
    cases h;intro pos pins s σ H Q I hq;exact aa ai (vB q) εq pos pins s σ H Q I hq
  ·cases h
theorem p0 {j:Int} (h:(0:Int) < j):(0:Int) < j:=h
def M4 (h:Heap) (x C:Addr) (od tb:δk) (fl:θ):Prop :=
 ∃oe vs,h.get? x=some oe/\oe.cls=.ref C/\oe.dict=od/\oe.data=.fields vs ∧
  match tb with
  | none=>vs[1]?=some Jy
  | some T=>vs[1]?=some θT/\T≠x/\∃oT ts,h.get? T=some oT/\oT.data=.fields ts/\ts[3]?=some fl
section
variable {P:Program}{w:World}{K:n_}{mg:Str->Option Value}{base:Heap}{N:List Str}{qual:Str}{scope:Scope}{f:Addr}{cd:Value}{A:Around}{outer:List Env}{s:Shared}{H:Hp}{E E':XK}
end
section
variable {P:Program}{w:World}{K:n_}{mg:Str->Option Value}{base:Heap}
end
section
variable {X:Cx}{E:XK}{c:Str}{C Pk:Addr}{p cpos pos:Pos}{e:Expr}{es:List Expr}{t:TA}
end
section
variable {X:Cx}{pins:List (Addr × Obj)}{σ:St}{H:Hp}{s:Shared}{h':Heap}
def XP (X:Cx) (pins:ϕ) (EX:St->XK) (e:θ) (s':ν):Prop :=
 ∃(x C T:Addr) (od:δk) (σ:St) (H':Hp),e=.ref x/\Inv X pins σ H' s'/\M4 εs x C od (some T) .none/\X.s₀.heap.get? x=none/\X.s₀.heap.get? T=none/\H' x=none/\H' T=none ∧
  (∀p∈X.pn++pins,p.1≠x/\p.1≠T)/\EX σ γK od H'
end
abbrev P_:=St->Hp->VK->XK->Prop
section
variable {X:Cx}{k:Nat}{f C:Addr}{fd:FuncData}{ps:List Str}{sp:Sp}{dvs:List V}{ds:List Value}{x m:Str}{p pos apos:Pos}{e o:Expr}{es:List Expr}{te:TE}{ta:TE}{t:TA}
end
abbrev Qh:=Fe->(St->XK)->St->Hp->Prop
section
variable {X:Cx}{e:Expr}{te:P_}{t:TS}{u:Qh}{st:Stmt}{rest:List Stmt}{pos:Pos}
end
section
variable {X:Cx}{pins:List (Addr × Obj)}{σ:St}{H:Hp}{s:Shared}{x C T:Addr}{od:Option Addr}{fl:Value}
end
abbrev TH:=Fe->Addr->Option Addr->St->Hp->Prop
section
variable {X:Cx}{c n:Str}{C':Addr}{i:Nat}{p pos:Pos}{b₀:Stmt}{suite:List Stmt}{hs:List ExceptHandler}{ts:TS}{th:TH}
end
section
variable {prog:Program}{w:World}{A:Around}{E:Value->Shared->Prop}{s:Shared}{K:n_}{x C Pk:Addr}{ox:Obj}{od:Option Obj}{name:Str}{tk:Tok}{fill expr:Bool}{r:Builtin.ObjectAttr.Found}{Q:Value->Shared->Prop}
end
section
variable {X:Cx}
end
abbrev TJ:=St->Hp->(Hp->Prop)->Prop
section
variable {X:Cx}{e v₁ v₂:Expr}{es:List Expr}{n:Nat}{te:TE}{t:TJ}{pos:Pos}
end
section
variable {prog:Program}{w:World}{A:Around}{E:Value->Shared->Prop}{s:Shared}{K:n_}{C Pk f:Addr}{rest:List Value}
end
section
variable {prog:Program}{w:World}{A:Around}{E:Value->Shared->Prop}{s:Shared}{K:n_}{x C Pk:Addr}{ox:Obj}{od:Option Obj}{name:Str}{v:Value}{Q:Unit->Shared->Prop}
end
section
variable {fl:Bool}{X:Cx}{pins:List (Addr × Obj)}{σ:St}{H:Hp}{s:Shared}{x C Pk:Addr}{f:Str}{A:Around}{E:Value->Shared->Prop}
end
section
variable {X:Cx}{o e value:Expr}{f:Str}{pos pos':Pos}{ta tv:TE}
end
section
variable {prog:Program}{w:World}{A:Around}{E:Value->Shared->Prop}{s:Shared}{K:n_}{x C Pk:Addr}{oe:Obj}{vs:Array Value}{us:List Value}{Q:Value->Shared->Prop}
end
section
variable {X:Cx}{P c:Str}{p pos apos:Pos}{e:Expr}{es:List Expr}{t:TA}{Pk:Addr}
end
def Qe (H:Hp) (x:Addr):Hp:=λb=>if b=x then none else H b
section
variable {X:Cx}{pins:List (Addr × Obj)}{σ:St}{H:Hp}{s:Shared}{x:Addr}{φ:Heap->Prop}
end
section
variable {X:Cx}{E:XK}{c:Str}{C Pk f:Addr}{fd:FuncData}{ps:List Str}{sp:Sp}{k:Nat}{p cpos pos:Pos}{e:Expr}{es:List Expr}{t:TA}
end
structure x_ (H:Hp) (ps:Ξ) (n:Nat) (row:Nat->List V):Prop where
 len:ps.length=n
 nd:ps.Nodup
 on:∀j p,ps[j]?=some p->H p=some ώ3
section
variable {H H':Hp}{ps:List Addr}{n:Nat}{row:Nat->List V}{p:Addr}
theorem x_.same (h:μ6) (s:γD):x_ H' ps n row:=#[γU,h.nd,λj p e=>s _ _ (h.on j p e)]
theorem x_.none:x_ H [] 0 row:=#[rfl,L_,λj p e=>by simp at e]
theorem x_.ne (h:μ6) (hp:H p=Pw):p∉ps:=λm=>by
 obtain⟨j,hj,e⟩:=Jz m
 have:=h.on j p ό9
 rw[hp] at this
 show 8
theorem x_.snoc (h:μ6) (np:p∉ps) (hp:H p=some (.lst (row n))):x_ H οp (n+1) row:=by
 refine #[by rw[Fn,γU];rfl,KU.mpr #[h.nd,by simp,λa ha b hb e=>?_],λj q e=>?_]
 ·rw[Eu.mp hb] at e
  exact np (e ▸ ha)
 ·rw[MC] at e
  split at e
  ·show 130
  ·rename_i hj
   have s:j - ps.length=0:=by
    by_cases z:j - ps.length=0
    ·exact z
    ·rw[Fh ξA] at e;cases e
   have g:j=n:=by have:=γU;omega
   rw[s] at e
   cases e;rw[g];exact hp
theorem x_.get (h:μ6) {j:Nat} (hj:j < n):∃p,ps[j]?=some p/\H p=some ώ3/\p∈ps:=by
 have hl:j < ps.length:=by rw[γU];exact hj
 exact #[ps[j],s_ hl,h.on j _ (s_ hl),GM hl]
theorem x_.upd (h:μ6) (hp:p∉ps) {o:HO}:x_ (upd H p o) ps n row:=by
 refine #[γU,h.nd,λj q e=>?_]
 have:q≠p:=λz=>hp ΨU
 rw[ae this];show 130
end
theorem sw {K:n_}{H:Hp}:∀(ns:γz),DF K H δC ωy
 | []=>by simp[DF]
 | n :: ns=>by
  rw[FY,FY,DF];exact #[_,_,rfl,by simp[l_],sw ns]
theorem vC:∀(ns:γz),c6 ωy=0
 | []=>by simp[c6]
 | n :: ns=>by
  rw[FY,c6,vC ns,Fc];rfl
  all_goals (intro _ h;cases h)
variable {row:Nat->List V}
theorem pV {k:Nat} (hD:γq) (hk:γF) (hn:δE)
  (stop:θm) (go:θj) (yld:ρ4)
  (he:∀i H (R:γj),i < n->a_ H1 H->ιy->te ξ9 H R)
  (hQ:πQ):bq J δ6 bz te δ2 H1 D Q:=by
 refine⟨λi m ys σ H=>m=n - i/\i<=n/\a_ H1 H/\(∃ps:List Addr,ys=ps.map V.ref/\x_ H ps i row/\ω3/\D∉ps)/\H D=some γB/\∃o,σ=cs++[o],
  ⟨n,rfl,EO _,(a_.refl _).up hD,Ξw,ab,none,rfl⟩,?_⟩
 rintro i m ys σ H ⟨rfl,hi,sm,⟨ps,rfl,hr,hf,g⟩,hd,o,rfl⟩;refine ηr
 by_cases hlt:i < n
 ·refine .inr θi
  obtain⟨rfl,rfl⟩:=yld i H x H' hlt sm y
  have e:(cs++[o]).set k υU=cs++[some (src i)]:=by
   show 129
  unfold be;rw[e];unfold bz;refine GI ?_;refine he i H' _ hlt sm λp H4 hp s4 h4=>#[s4 _ _ hd,?_,n - (i+1),by omega,rfl,hlt,(sm.trans s4).up hD,Ξq,ab,_,rfl]
  ·rw[o_,hr.len]
   omega
  ·have np:p≠D:=λz=>by rw[z,hd] at hp;cases hp
   have h:=hr.ne hp;refine((hr.same s4).snoc h h4).upd ?_;intro z;rcases Fw.mp z with z | z
   ·exact g z
   ·exact np (Eu.mp z).symm
  ·intro q hq
   rcases Fw.mp hq with z | z
   ·exact hf q z
   ·rw[Eu.mp z]
    exact sm.free hp
  ·intro z
   rcases Fw.mp z with z | z
   ·exact g z
   ·rw[Eu.mp z] at hd
    rw[hd] at hp;cases hp
 ·have e:i=n:=by omega
  subst e;exact .inl #[stop H sm,hQ ps H sm hd hr hf g]
theorem m3 {k:Nat} (hD:γq) (hk:γF) (hn:δE)
  (he:∀i H (R:γj),i < n->a_ H1 H->ιy->te ιO H R)
  (hQ:πQ):bq οP δ6 bz te δ2 H1 D Q :=
 pV (src:=λi=>.int (0+(i:Nat))) hD hk hn υD υa ρz (λi H R hi sm r=>by
  show 84
  rw[e]
  exact he i H R hi sm r) hQ
theorem m4 {k:Nat} (hs:χo) (hD:γq) (hk:γF) (hn:θq)
  (he:∀i x H (R:γj),xs[i]?=some x->a_ H1 H->ιy->te υV H R)
  (hQ:ωW):bq οK δ6 bz te δ2 H1 D Q:=by
 refine pV (src:=λi=>xs.getD i .non) hD hk hn ρy ρj ιP θn hQ
 ·obtain⟨e,y⟩:=y
  refine χQ
  have:=y xs χz;rw[t_,this];rfl
 ·refine he i _ H R ?_ sm r
  rw[t_,s_ hi];rfl
variable {X:Cx}
theorem sy:∀{ns:γz}{its:χ},h_ δC its->IntsAre its ns
 | [],_,.nil=>.nil
 | n :: ns,_,.cons r rs=>by
  show 191;exact .cons n t (sy rs)
theorem l5:∀{ns:γz}{its:χ},IntsAre its ns->h_ δC its
 | _,_,.nil=>.nil
 | _,_,.cons n t rs=>.cons θF (l5 rs)
theorem sB {vs:χ}{out:γx}:∃e,(sortedAll h vs out).get? (h.objs.size+1)=some (seqObj "list" out e):=by
 unfold sortedAll;refine sortedHeap_at (n:=0) (Heap.get?_push_at ?_ rfl)
 simp[Heap.update,Heap.push]
inductive jf (K:n_) (xs:δ) (H:Hp) (Q:VK):Prop
 | mk:∀(p:Addr) (ns:List Int),xs=[.ref p]->b_ K H p (ns.map V.int)->ns.length < 64->(∀l ns',H l=none->ns'.Perm ns->MP (λx y=>x<=y) ns'->Q ζp Φj)->jf K xs H Q
theorem uT:bN X ξm (jf X.K):=by
 intro E s σ H xs us Q I r h;obtain⟨p,ns,rfl,hq,hl,q⟩:=h;show 59
 show 13;obtain⟨D,r',pl,hz⟩:=I.list hq
 have g:=μn;rw[o_] at g;refine sorted_ints (ns:=ns) ζD (sy r') γ λout j hi hp hs=>?_
 obtain⟨e,he⟩:=sB (h:=Ψ) (vs:=D) (out:=out)
 have hv:=l5 hi
 have C:=hv.length;rw[o_,hp.length_eq] at C;refine #[.ref ϙ,_,I.laid (t':=δ9) (λb o' z=>sortedAll_old z) θa (show r_ ϥ X.w _ _ _ (.lst (j.map δN)) from Ψr),rfl,q _ _ ϊy hp hs]
 ·rw[o_,hp.length_eq]
  exact DK (IF hl) ε
 ·rw[he]
def fP (r:Addr) (lo hi:Int) (h:Heap):Prop:=∃t u v,IsRange h r lo hi 1 t u v
inductive ir (xs:δ) (H:Hp) (Q:VK):Prop
 | mk:∀j:Int,xs=[.int j]->(∀r,H r=none->Q (.ref r) (upd H r (.ext (fP r 0 j))))->ir xs H Q
theorem sE:bN X ύq (ir):=by
 intro g s σ H xs us Q I r h;obtain⟨j,rfl,q⟩:=h;obtain⟨u,rfl,t,rfl⟩:=cg r;refine call_range_1 #[.ref Φ,_,I.laid τI Γ (show r_ ϥ X.w _ _ _ (.ext (fP Φ 0 j)) from υW),rfl,q _ ζt]
 ·exact ϊI
 ·exact υq
 ·rintro h1 h2 ⟨t,u,v,e⟩ k
  exact όa
theorem xa {lo:Int}:∀{n:Nat}{acc:γx},ItemsOf (λi v=>∃t,v=HY (lo+(i:Int) * 1) t) acc n->h_ ((p_ n).map λi:Nat=>V.int ο0) acc.toList:=by
 intro n acc ⟨h1,h2⟩
 have:∀(xs:χ) (k:Nat),(∀(j:Nat) (v:θ),xs[j]?=some v->∃t,v=HY (lo+((k+j:Nat):Int) * 1) t)->h_ ((List.range' k γ2).map λi:Nat=>V.int ο0) xs:=by
  intro xs
  induction xs with
  | nil=>intro k _;exact .nil
  | cons x xs ih =>
   intro k hx;obtain⟨t,ht⟩:=hx 0 x rfl;rw[F6,List.range'_succ,FY];refine .cons #[t,?_] (ih (k+1) λj v e=>?_)
   ·rw[ht,NX,Int.mul_one]
   ·obtain⟨t',e'⟩:=hx (j+1) v ηh
    exact #[t',by rw[e'];congr 3;omega]
 have h3:=this acc.toList 0 λj v e=>by
  obtain⟨t,ht⟩:=h2 j v ηh
  exact #[t,by rw[ht,NT]]
 rw[List.range_eq_range',← h1]
 simpa using h3
inductive gN (xs:δ) (H:Hp) (Q:VK):Prop
 | mk:∀(r:Addr) (lo hi:Int),xs=[.ref r]->H r=some (.ext (fP r lo hi))->-(2 ^ 20)<=lo->lo < 2 ^ 20->-(2 ^ 20)<=hi->hi < 2 ^ 20->(∀l,H l=none->Q (.ref l) (upd H l (.lst ((p_ (hi - lo).toNat).map λi:Nat=>V.int ο0))))->gN xs H Q
theorem jg (hc:γm):bN X υR (gN):=by
 intro j s σ H xs us Q I rv h;obtain⟨r,lo,hi,rfl,hr,b1,b2,b3,b4,q⟩:=h;obtain⟨u,rfl,rx⟩:=cg rv
 show 13;obtain⟨t,u,v,e⟩:=(I.hok r _ hr).1;refine call_list_range (n:=(hi - lo).toNat) γS e ?_ ?_ ?_ λh' tk g c' kp e1 it=>?_
 ·have e1:MM lo hi 1=((hi - lo).toNat:Int):=by rw[χ4];split <;> omega
  unfold Pc;rw[e1]
  have fl:∀i:Int,-(2 ^ 22)<=i->i < 2 ^ 22->NV i=true:=λi h1 h2=>by
   unfold NV
   simp
   omega
  rw[fl lo γ γ,fl hi γ γ,fl 1 γ γ,fl _ γ γ,if_pos ε,fl (hi+(1 - 1)) γ γ]
  simp
 ·rw[χ4];split <;> omega
 ·omega
 ·refine #[.ref Φ,_,I.laid (t':=tk) kp Γ (show r_ ϥ X.w _ h' _ (.lst ((p_ (hi - lo).toNat).map λi:Nat=>V.int ο0)) from #[?_,ψE,c',xa it,e1]),rfl,q _ ζt]
  rw[o_,Eo];exact DK (show (hi - lo).toNat<=2 ^ 21 by omega) ε
section
variable {K:n_}
theorem jh (hK:ζP):bN X υR (eA K):=by
 subst hK;exact bC
end
theorem sH {ns ns':γz} (hp:ns'.Perm ns) (hs:MP (λx y=>x<=y) ns') (h:ns.Perm ((p_ n).map λi:Nat=>(i:Int))):ns'=(p_ n).map λi:Nat=>(i:Int):=by
 refine Oh (le:=λx y=>x<=y) ΦX hs ?_ (hp.trans h);rw[PB];exact MS.imp λh=>by omega
def JV (K:n_) (l:Addr) (xs:δ):It :=
 #[λi H=>b_ K H l xs/\i < γ2,λi H x H'=>∃T u,H T=none/\x=.ref T/\xs[i]?=some u/\H'=upd H T Ωy,λi H=>b_ K H l xs/\xs.length<=i]
theorem yK {x1}{tp:Pos}{z it l:Addr} (zi:z≠it) (xs:δ) :
  Gi P w K θp χA [z,it] z (λi h=>(∃old,PySem.IsEnum h z it (i:Nat) old)/\h.IsListIter it l i) where
 mem:=by simp
 obj:=λi h st b hb=>by
  obtain⟨⟨old,hz⟩,o1,e1,c1,d1⟩:=st;show 46;rcases hb with rfl | rfl
  ·exact ΓQ
  ·exact ΘE
 keep:=λi h h' st k=>by
  obtain⟨⟨old,hz⟩,h1⟩:=st;exact #[#[old,k z ό _ hz],h1.at λo e=>k it (by simp) o e]
 item:=by
  show 254;obtain⟨q1,b1⟩:=hg;show 255
  show 239;obtain⟨u,hu,ru⟩:=g.get hx
  have lt:∀{c o},s.heap.get? c=some o->c≠s.heap.objs.size:=λe=>Ea εL;refine PySem.wpAny_pyNext_enum_item hz h1 θ7 (x:=u) μ0 zi λh' a1 a2 a3 a4 hk=>?_
  refine #[_,rfl,PySem.wpAny_letOwnedTupleGo_enum a1 λJ j sb=>?_]
  have G:s.heap.objs.size≠z:=(lt hz).symm
  have kk:∀b u,b∉[z,it]->s.heap.get? b=some u->J.get? b=some u:=λb u hb e=>by
   show 126;exact sb.extBut _ _ hb.1 (hk b u hb.1 hb.2 e)
  refine⟨.ref Φ,upd H Φ (.tup [.int (i:Nat),xs[i]]),I.turnedUp (t':=s.toks+1) hf kk Γ ⟨by show 2<=δv;decide,[.int (i:Nat) δ9,u],.cons ϒ ύr,⟨_,sb.extBut _ _ G a3,rfl,_,rfl⟩⟩,rfl,
   ⟨_,_,I.hok.fresh Γ,rfl,hx,rfl⟩,⟨⟨_,j⟩,a2.at λo e=>sb.extBut _ _ zi.symm e⟩,λb hb=>?_⟩
  have:b≠s.heap.objs.size:=by
   show 240;show 46;rcases hb with rfl | rfl
   ·exact lt hz
   ·exact lt e1
  show 241
 done:=by
  show 254;obtain⟨q1,O⟩:=hg;show 255
  have l1:=μy;refine PySem.wpAny_pyNext_enum_end γS hz h1 θ7 τi λh' hk=>ΔN
  show 126;exact hk b u hb.2 e
 self:=λ_ _ _ _ _ ⟨⟨_,hz⟩,_⟩ h=>Qx hz h
section
variable {X:Cx}
inductive vD (K:n_) (R:δD) (vs:δ) (H1:Hp):Prop
 | mk:∀l xs,vs=[.ref l]->b_ K H1 l xs->R (JV K l xs) H1->vD K R vs H1
def Dl (K:n_) (ta:TA):TI:=λσ H R=>ta σ H λvs H1=>vD K R vs H1
theorem oR:bootBuiltins "enumerate" = some (.type "enumerate"):=by decide +kernel
theorem fX {x1}{tp:Pos}{a:Expr}{ta:TA}{p pos:Pos} (hg:Gl X "enumerate") (hm:X.mg "enumerate" = none) (ha:χu) (hs:starEach [a] X.env=[(υ,eval a π)]:=by rfl) :
  PI X θp (.Call (.Name "enumerate" p) [a] [] pos) (Dl X.K ta):=by
 intro g s σ H R I h;refine Call_ (cx I hg hm oR Γx);obtain⟨l,xs,e,h1,q⟩:=q1;subst e;obtain⟨u,rfl,ru⟩:=cg r1
 cases ru;obtain⟨j,C,p1,_⟩:=I1.list h1;refine PySem.call_enumerate_list θ7 λh' a1 a2 a3 a4=>?_;refine Qx a1 ?_;refine #[s1.heap.objs.size+1,[s1.heap.objs.size+1,γL],_,_,H1,rfl,I1.kept (t':=εF) λb o e=>a4 b o e,yK (Nat.succ_ne_self _) xs,#[#[_,a1],a2],λb hb=>?_,q]
 have:s1.heap.objs.size<=b:=by
  show 46;rcases hb with rfl | rfl
  ·exact KA _ 1
  ·show 35
 exact I1.fpOk this ϋd
end
variable {l:Addr}
theorem iY {D:Fe} (Pv:ζw) (h0:ζ9) (hl:∀i σ H,i<=xs.length->Pv i σ H->b_ K H l xs)
  (hs:∀i u T σ H,i < xs.length->xs[i]?=some u->H T=none->Pv i σ H->g θT σ (upd H T Ωy) λσ2 H2=>tb { D with nx:=Pv (i+1),ct:=Pv (i+1),bk:=D.nx } σ2 H2) (hd:θh) :
  ∃W:Nat->Nat->St->Hp->Prop,ζ1/\∀i m σ H,W i m σ H →
   ((JV K l xs).stop i H/\D.nx σ H)\/((JV K l xs).go i H/\∃N:St->Hp->Prop,εt/\∀x H',(JV K l xs).yld i H x H'->g x σ H' λσ2 H2=>tb { D with nx:=N,ct:=N,bk:=D.nx } σ2 H2):=by
 refine θc
 rintro i m σ H ⟨rfl,hi,p⟩
 have q1:=hl i σ H hi p
 by_cases hlt:i < xs.length
 ·refine .inr #[#[q1,hlt],Pv (i+1),λσ' H' p'=>ωk,λx H' y=>?_]
  obtain⟨T,u,hT,rfl,hu,rfl⟩:=y;exact hs i u T σ H hlt hu hT p
 ·have e:i=xs.length:=by omega
  exact .inl #[#[q1,by omega],hd σ H νf]
theorem oS {es:εh}{k:Nat}{t:Jp} (hK:ζP) (hc:γm) (h:ψ5) (hn:(assignEach es π).length=n:=by rfl) (hst:(assignEach es π).findIdx? (·.1)=none:=by rfl):PG X υf (Hj K n t):=by
 subst hK;exact cO hc h hn hst
theorem pW {stt:Nat->St}{Ok:St->Prop}{σ0:St} (hD:γq) (hn:δE) (h0:Ok σ0) (hok:τj)
  (stop:θm) (go:θj)
  (tg:ωS)
  (he:∀i H (R:γj),i < n->a_ H1 H->εY->te (stt i) H R)
  (hQ:νm):bq J g bz te σ0 H1 D Q:=by
 refine #[λi m ys σ H=>m=n - i/\i<=n/\a_ H1 H/\ys=(p_ i).map f/\H D=some γB/\Ok σ,#[n,rfl,EO _,(a_.refl _).up hD,rfl,ab,h0],?_];rintro i m ys σ H ⟨rfl,hi,sm,rfl,hd,ho⟩;refine ηr
 by_cases hlt:i < n
 ·refine .inr θi
  refine tg i σ H x H' _ hlt sm ho y λH'' s2=>?_;unfold bz;refine GI ?_;refine he i H'' _ hlt ξO λH4 s4=>#[32e5 _ _ hd,?_,n - (i+1),by omega,rfl,hlt,(sm.trans ηp).up hD,?_,ab,hok i hlt]
  ·rw[o_,Eo]
   omega
  ·rw[KR,FM]
   rfl
 ·have e:i=n:=by omega
  subst e;exact .inl τ2
theorem xb {stt:Nat->St}{Ok:St->Prop}{σ0:St} (hD:γq) (hn:δE) (h0:Ok σ0) (hok:τj)
  (stop:θm) (go:θj)
  (tg:ωS)
  (he:∀i H (R:γj),i < n->a_ H1 H->ιy->te (stt i) H R)
  (hQ:πQ):bq J g bz te σ0 H1 D Q:=by
 refine⟨λi m ys σ H=>m=n - i/\i<=n/\a_ H1 H/\(∃ps:List Addr,ys=ps.map V.ref/\x_ H ps i row/\ω3/\D∉ps)/\H D=some γB/\Ok σ,
  ⟨n,rfl,EO _,(a_.refl _).up hD,Ξw,ab,h0⟩,?_⟩
 rintro i m ys σ H ⟨rfl,hi,sm,⟨ps,rfl,hr,hf,h⟩,hd,ho⟩;refine ηr
 by_cases hlt:i < n
 ·refine .inr θi
  refine tg i σ H x H' _ hlt sm ho y λH'' s2=>?_;unfold bz;refine GI ?_;refine he i H'' _ hlt ξO λp H4 hp s4 h4=>#[32e5 _ _ hd,?_,n - (i+1),by omega,rfl,hlt,(sm.trans ηp).up hD,Ξq,ab,hok i hlt]
  ·rw[o_,hr.len]
   omega
  ·have np:p≠D:=λz=>by rw[z,s2 _ _ hd] at hp;cases hp
   have j:=(hr.same s2).ne hp;refine((hr.same (s2.trans s4)).snoc j h4).upd ?_;intro z;rcases Fw.mp z with z | z
   ·exact h z
   ·exact np (Eu.mp z).symm
  ·intro q hq
   rcases Fw.mp hq with z | z
   ·exact hf q z
   ·rw[Eu.mp z]
    exact(sm.trans s2).free hp
  ·intro z
   rcases Fw.mp z with z | z
   ·exact h z
   ·rw[Eu.mp z] at hd
    rw[s2 _ _ hd] at hp;cases hp
 ·have e:i=n:=by omega
  subst e;exact .inl #[stop H sm,hQ ps H sm hd hr hf h]
theorem oU {k:Nat} (hk:γF) {T:Addr}{u v:V}{o1 o2:εi}{H:Hp}{R:θ3} (hT:H T=none) (q:∀H'',a_ H H''->R ϊj H'') :
  Hj K 2 (eP δ6 (eP (be (k+1)) Ix)) θT (cs++[o1,o2]) τn R:=by
 refine #[T,_,rfl,Ew.of ab,rfl,_,_,rfl,_,_,rfl,rfl,?_]
 have e:((cs++[o1,o2]).set k δn).set (k+1) δb=cs++[some u,some v]:=by
  subst hk
  have e1:(Kv cs).succ - Kv cs=1:=by omega
  rw[K9 _ _ Γ,K9 _ _ θa,JO,e1];rfl
 rw[e];exact q _ λb o e=>by rw[ae (al e hT)];exact e
theorem yL {k:Nat} (h1:b_ K H1 l1 xs) (h2:b_ K H1 l2 ys) (hl:ϋe) (hD:γq) (hk:γF) (hn:θq)
  (he:∀i u v H (R:γj),xs[i]?=some u->ys[i]?=some v->a_ H1 H->εY->te ϊj H R)
  (hQ:ρ5):bq ϋA ρq bz te υi H1 D Q:=by
 refine pW (n:=γ2) (stt:=λi=>cs++[xs[i]?,ys[i]?]) (Ok:=λσ=>∃o1 o2,σ=cs++[o1,o2]) hD hn θr τd (λH sm=>#[sm.seq h1,sm.seq h2,.inl Γ]) (λi H hi sm=>#[sm.seq h1,sm.seq h2,hi,by omega]) νy θn hQ
 ·obtain⟨o1,o2,rfl⟩:=ho
  obtain⟨T,u,v,hT,rfl,hu,hv,rfl⟩:=y;exact oU hk hT λg s=>by rw[<- hu,← hv];exact q g s
 ·rw[s_ hi,s_ γ]
  exact he i _ _ H R ζJ (s_ γ) sm r
theorem xg {k:Nat} (h1:b_ K H1 l xs) (hD:γq) (hk:γF) (hn:θq)
  (he:∀i u H (R:γj),xs[i]?=some u->a_ H1 H->ιy->te ΞX H R)
  (hQ:ωW):bq χA ρq bz te υi H1 D Q:=by
 refine xb (n:=γ2) (stt:=λi=>cs++[some μR,xs[i]?]) (Ok:=λσ=>∃o1 o2,σ=cs++[o1,o2]) hD hn θr τd Φk ΞG νy θn hQ
 ·obtain⟨o1,o2,rfl⟩:=ho
  obtain⟨T,u,hT,rfl,hu,rfl⟩:=y;exact oU hk hT λg s=>by rw[<- hu];exact q g s
 ·rw[s_ hi]
  exact he i _ H R ζJ sm r
theorem Ap {D:Fe} (Pv:ζw) (h0:ζ9) (hl:Δ6) (he:xs.length<=ys.length)
  (hs:∀i u v T σ H,i < xs.length->xs[i]?=some u->ys[i]?=some v->H T=none->Pv i σ H->g θT σ τn λσ2 H2=>tb { D with nx:=Pv (i+1),ct:=Pv (i+1),bk:=D.nx } σ2 H2) (hd:θh) :
  ∃W:Nat->Nat->St->Hp->Prop,ζ1/\∀i m σ H,W i m σ H →
   134e9\/((Jn K l1 l2 xs ys).go i H/\∃N:St->Hp->Prop,εt/\∀x H',(Jn K l1 l2 xs ys).yld i H x H'->g x σ H' λσ2 H2=>tb { D with nx:=N,ct:=N,bk:=D.nx } σ2 H2):=by
 refine θc
 rintro i m σ H ⟨rfl,hi,p⟩;obtain⟨q1,q2⟩:=hl i σ H hi p
 by_cases hlt:i < xs.length
 ·refine .inr ωV
  obtain⟨T,u,v,hT,rfl,hu,hv,rfl⟩:=y;exact hs i u v T σ H hlt hu hv hT p
 ·have e:i=xs.length:=by omega
  exact .inl ΔY
theorem pX {prog:Ϧ}{w:ϡ}{A:ϣ}{E:Ϣ}{it l:Addr}{items:γx} (hne:l≠it) :
  ∀(n i:Nat) (s:ν) (Q:τe),s.heap.IsListIter it l i->s.heap.IsList l items->i+n<=items.size →
   (∀h':Heap,h'.IsListIter it l (i+n)->JQ it Ψ h'->Q (Om n ϋf) { s with heap:=h' })->wpAny γd A (draw (Ev it) n) Q E s
 | 0,i,s,Q,hi,hl,hn,h=>by
  rw[draw.eq_1];exact DY (h Ψ hi (JQ.refl _ _))
 | n+1,i,s,Q,hi,hl,hn,h=>by
  rw[draw.eq_2];obtain⟨o,e1,e2,nn,e3⟩:=hl
  have hx:items[i]?=some items[i]:=Array.getElem?_eq_getElem γ
  refine q_ (QT hi #[o,e1,e2,nn,e3] hx λh1 i1 s1=>?_);show 11;refine q_ (Gz (pX hne n (i+1) _ _ i1 #[o,by rw[<- e1];exact s1.2 l hne,e2,nn,e3] γ λh2 i2 s2=>DY ?_))
  have e:Om (n+1) ϋf=items[i] :: Om n (On (i+1) πC):=by
   rw[NN (by simpa using(by omega:i < items.size))]
   rfl
  rw[<- e];exact h h2 (by rw[show i+(n+1)=i+1+n by omega];exact i2) (JQ.trans s1 s2)
theorem l6 {prog:Ϧ}{E:Ϣ}{items:γx}{Q:τe} (hh:ζz) (hl:s.heap.IsList l items)
  (h:∀h':Heap,QW Φ Ψ h'->Q πC { s with heap:=h' }):wpAny γd A (unpackItems (Ev l) items.size none) Q E s:=by
 obtain⟨o,e1,e2,nn,e3⟩:=id hl
 have g:l≠s.heap.objs.size:=Ea θX;unfold unpackItems notIterableAtAll;refine q_ (q_ (Pe #[o,e1,e2] slot_list_iter.lookup (wpAny_ite_true rfl δU)));refine Pq rfl ?_;refine q_ (Gz (K6 hl ?_));dsimp only
 have D:(s.heap.push { cls:=ID "list_iterator",data:=Data.fields [Ev l,HY 0 0].toArray }).IsList l items:=#[o,D_ _ e1,e2,nn,e3]
 have C:(s.heap.push { cls:=ID "list_iterator",data:=Data.fields [Ev l,HY 0 0].toArray }).IsListIter Φ l 0:=ιi
 refine q_ (Gz (pX g οe 0 _ _ C D γ λh1 i1 s1=>?_))
 have j:Om οe (On 0 πC)=items.toList:=by
  rw[Q2];exact KD ό
 rw[j];refine Pq ό ?_
 have G:h1.IsList l items:=#[o,(s1.2 l g).trans (D_ _ e1),e2,nn,e3];refine q_ (Gz (Ru hh i1 G ό λh2 x2=>?_))
 refine Pq rfl (DY (h h2 λb o' hb e=>?_));refine x2 b o' hb ?_
 show h1.get? b=_
 rw[s1.2 b hb];exact D_ _ e
section
variable {X:Cx}{pos:Pos}
inductive Bh (K:n_) (n:Nat) (t:Jp) (v:V) (σ:St) (H:Hp) (Q:θ3):Prop
 | mk:∀a xs,v=.ref a->b_ K H a xs->xs.length=n->t xs σ H Q->Bh K n t v σ H Q
theorem BO {es:εh}{k:Nat}{t:Jp} (hc:γm) (h:ψ5)
  (hn:(assignEach es π).length=n:=by rfl) (hst:(assignEach es π).findIdx? (·.1)=none:=by rfl):PG X υf (Bh X.K n t):=by
 intro g s σ H v u Q I r hw;obtain⟨a,xs,e1,hq,hl,hw⟩:=hw;subst e1
 cases r;obtain⟨C,rv,ht,hz⟩:=I.list hq;rw[assign_Tuple];refine q_ (MF ?_);unfold unpack
 have j:(assignEach es π).length=C.toArray.size:=by simp[hn,← hl,rv.length]
 rw[j,hst];obtain⟨o,nn,e1,e2,e3,e4⟩:=ht;refine q_ (Gz (l6 γS ⟨o,e1,e2,nn,by first | exact e3 | exact e4⟩ λh' hx=>?_))
 have I1:Inv X g σ H { s with heap:=h' }:=I.kept (t':=s.toks) λb o e=>hx b o ζA e;exact h g _ σ H xs _ Q I1 ϋ4 hw
end
section
variable {X:Cx}{e:Expr}{es:List Expr}{n:Nat}{te:TE}{t:TJ}{pos:Pos}
end
theorem pY {α:Type} (f:α->Bool) (d:α):∀(l:δH),(p_ l.length).any Ωz=l.any f:=λl=>by
 rw[LX,LV,LV]
 constructor
 ·rintro⟨i,hi,e⟩
  have hi:=EF.mp hi;rw[t_,s_ hi] at e;exact #[_,GM hi,e]
 ·rintro⟨x,hx,e⟩
  show 256;refine #[i,EF.mpr hi,?_];show 131;exact e
theorem yM {α:Type} (f:α->Bool) (d:α):∀(l:δH),(p_ l.length).all Ωz=l.all f:=λl=>by
 rw[LX,Go,Go]
 constructor
 ·intro h x hx
  show 256
  have:=h i (EF.mpr hi);rw[t_,s_ hi] at this;show 9
 ·intro h i hi
  have hi:=EF.mp hi;show 257
section
variable {X:Cx}
theorem sI {ns:γz} (rv:h_ δC its) {i:Nat}{v:θ} (h:ΩS):∃t,v=HY ζ4 t:=by
 show 258
 have hi:i < ns.length:=by
  show 259
 obtain⟨u,hu,ru⟩:=rv.get (i:=i) (x:=V.int ns[i]) ΩT
 rw[h'] at hu
 cases hu;obtain⟨t,rfl⟩:=ru;exact #[t,by rw[t_,s_ hi];rfl]
theorem vE {bs:δ4} (rv:h_ (bs.map V.bl) its) {i:Nat}{v:θ} (h:ΩS):v=MO (bs.getD i υ):=by
 show 258
 have hi:i < bs.length:=by
  show 259
 obtain⟨u,hu,ru⟩:=rv.get (i:=i) (x:=V.bl bs[i]) ΩT
 rw[h'] at hu
 cases hu;show 131;exact ru
inductive li (K:n_) (xs:δ) (H:Hp) (Q:VK):Prop
 | mk:∀(p:Addr) (ns:List Int),xs=[.ref p]->b_ K H p (ns.map V.int)->(Q (.bl (ns.any λi=>i != 0)) H)->li K xs H Q
theorem pZ (hc:γm):bN X υr (li X.K):=by
 intro C s σ H xs us Q I r h;obtain⟨p,ns,rfl,hq,q⟩:=h;show 59
 show 85
 show 260;refine #[_,_,_,_,_,_,λi=>ns.getD i 0 != 0,rfl,MV (A:=ν2) (show X.A.in1.handled=none from I.ok.hd hc) Φ p j εr,ωh,λi v s' Q' E' hv q'=>?_,λh' tk kp=>?_]
 ·obtain⟨t,rfl⟩:=sI rv hv
  exact P.truthy_int q'
 ·have hl:g.toArray.size=ns.length:=by
   show 86
   show 34
  rw[hl,pY (λi:Int=>i != 0) 0 ns];exact πO
inductive lj (K:n_) (xs:δ) (H:Hp) (Q:VK):Prop
 | mk:∀(p:Addr) (bs:List Bool),xs=[.ref p]->b_ K H p (bs.map V.bl)->(Q (.bl (bs.all λb=>b)) H)->lj K xs H Q
theorem yN (hc:γm):bN X (.builtin "all") (lj X.K):=by
 show 261
 show 85
 have j:p≠s.heap.objs.size:=Ea θX;refine call_all_walk νL;refine ωF
 ·rw[vE rv hv]
  exact JF q'
 ·have hl:g.toArray.size=bs.length:=by
   show 86
   show 34
  rw[hl,yM (λb:Bool=>b) υ bs];exact πO
end
theorem ci {k:Nat} (hs:χo) (hD:γq) (hk:γF) (hn:θq)
  (he:∀i x H (R:γj),xs[i]?=some x->a_ H1 H->εY->te υV H R)
  (hQ:ρ5):bq οK δ6 bz te δ2 H1 D Q:=by
 refine jL (src:=λi=>xs.getD i .non) (f:=f) (n:=γ2) hD hk hn ρy ρj ιP θn hQ
 ·obtain⟨e,y⟩:=y
  refine χQ
  have:=y xs χz;rw[t_,this];rfl
 ·refine he i _ H R ?_ sm r
  rw[t_,s_ hi];rfl
theorem ic {k:Nat}{b:θQ}{tt:TT} (hD:γq) (hk:γF) (hn:δE)
  (stop:θm) (go:θj) (yld:ρ4)
  (ht:∀i H (R:εy),i < n->a_ H1 H->ρU->tt ξ9 H R)
  (he:∀i H (R:γj),i < n->b i=true->a_ H1 H->εY->te ξ9 H R)
  (hQ:Δ8):bq J δ6 tt te δ2 H1 D Q:=by
 refine #[λi m ys σ H=>m=n - i/\i<=n/\a_ H1 H/\ys=((p_ i).filter b).map f/\H D=some γB/\∃o,σ=cs++[o],Θ1,?_];rintro i m ys σ H ⟨rfl,hi,sm,rfl,hd,o,rfl⟩;refine ηr
 by_cases hlt:i < n
 ·refine .inr θi
  obtain⟨rfl,rfl⟩:=yld i H x H' hlt sm y
  have e:(cs++[o]).set k υU=cs++[some (src i)]:=by
   show 129
  unfold be;rw[e];refine ht i H' _ hlt sm λH4 s4=>?_
  have er:(p_ (i+1)).filter b=(p_ i).filter b++(if b i=true then [i] else []):=by
   rw[KR,Pn]
   congr 1
   by_cases z:b i=true
   ·rw[if_pos z,P0 z,L4]
   ·rw[if_neg z,OV z,L4]
  by_cases z:b i=true
  ·rw[if_pos z]
   refine he i H4 _ hlt z (sm.trans s4) λH5 s5=>#[s5 _ _ (s4 _ _ hd),?_,n - (i+1),by omega,rfl,hlt,((sm.trans s4).trans s5).up hD,?_,ab,_,rfl]
   ·rw[o_]
    have:=GP b (p_ i);rw[Eo] at this;omega
   ·rw[er,if_pos z,FM]
    rfl
  ·rw[if_neg z]
   refine #[n - (i+1),by omega,rfl,hlt,sm.trans s4,?_,s4 _ _ hd,_,rfl]
   rw[er,if_neg z,ML]
 ·have e:i=n:=by omega
  subst e;exact .inl τ2
theorem de {b:θQ}{k:Nat}{tt:TT} (hD:γq) (hk:γF) (hn:δE)
  (ht:∀i H (R:εy),i < n->a_ H1 H->ρU->tt ιO H R)
  (he:∀i H (R:γj),i < n->b i=true->a_ H1 H->εY->te ιO H R)
  (hQ:Δ8):bq οP δ6 tt te δ2 H1 D Q :=
 ic (src:=λi=>.int (0+(i:Nat))) hD hk hn υD υa ρz (λi H R hi sm r=>by
  show 84
  rw[e];exact ht i H R hi sm r) (λi H R hi hb sm r=>by
  show 84
  rw[e]
  exact he i H R hi hb sm r) hQ
variable {X:Cx}
def Jv (D:Addr) (H H':Hp):Prop:=∀y o,y≠D->H y=some o->H' y=some o
theorem yO {k:Nat} (Z:Nat->List V->Hp->Prop) (hD:γq) (hk:γF) (hn:δE)
  (h0:∀H,a_ H1 H->Z 0 [] H)
  (he:∀i ys H (R:γj),i < n->a_ H1 H->H D=some γB->Z i ys H->(∀v H4,a_ H H4->(∀H5,Jv D H4 H5->Z (i+1) ψf H5)->R v H4)->te ιO H R)
  (hQ:∀ys H,a_ H1 H->H D=some γB->Z n ys H->Q H):bq οP δ6 bz te δ2 H1 D Q:=by
 refine⟨λi m ys σ H=>m=n - i/\i<=n/\a_ H1 H/\Z i ys H/\ys.length=i/\H D=some γB/\∃o,σ=cs++[o],
  ⟨n,rfl,EO _,(a_.refl _).up hD,h0 _ ((a_.refl _).up hD),rfl,ab,none,rfl⟩,?_⟩
 rintro i m ys σ H ⟨rfl,hi,sm,hz,hl,hd,o,rfl⟩;refine ηr
 by_cases hlt:i < n
 ·refine .inr #[hlt,λx H' y=>?_]
  obtain⟨rfl,rfl⟩:x=.int (0+(i:Nat))/\H'=H:=#[y.2,y.1]
  have e0:(0:Int)+(i:Nat)=(i:Nat):=by omega
  have e:(cs++[o]).set k (some ϋB)=cs++[some μR]:=by
   rw[hk,K9 _ _ Γ,JO,e0];rfl
  unfold be;rw[e];unfold bz;refine GI ?_;refine he i ys H' _ hlt sm hd hz λv H4 s4 z4=>#[s4 _ _ hd,?_,n - (i+1),by omega,rfl,hlt,(sm.trans s4).up hD,z4 _ (λy o ny e=>by rw[ae ny];exact e),by rw[Fn,hl];rfl,ab,_,rfl]
  rw[hl];omega
 ·have e:i=n:=by omega
  subst e;exact .inl #[y_ _,hQ ys H sm hd hz]
theorem xj {k:Nat} (h1:b_ K H1 l xs) (hD:γq) (hk:γF) (hn:θq)
  (he:∀i u H (R:γj),xs[i]?=some u->a_ H1 H->εY->te ΞX H R)
  (hQ:ρ5):bq χA ρq bz te υi H1 D Q:=by
 refine pW (n:=γ2) (stt:=λi=>cs++[some μR,xs[i]?]) (Ok:=λσ=>∃o1 o2,σ=cs++[o1,o2]) hD hn θr τd Φk ΞG νy θn hQ
 ·obtain⟨o1,o2,rfl⟩:=ho
  obtain⟨T,u,hT,rfl,hu,rfl⟩:=y;exact oU hk hT λg s=>by rw[<- hu];exact q g s
 ·rw[s_ hi]
  exact he i _ H R ζJ sm r
variable {X:Cx}
inductive iu (xs:δ) (H:Hp) (Q:VK):Prop
 | mk:∀i j:Int,xs=[.int i,.int j]->(∀r,H r=none->Q (.ref r) (upd H r (.ext (fP r i j))))->iu xs H Q
theorem sJ:bN X ύq (iu):=by
 show 194;obtain⟨u,u',rfl,⟨t,rfl⟩,t',rfl⟩:=fM r;refine call_range_2 #[.ref Φ,_,I.laid τI Γ (show r_ ϥ X.w _ _ _ (.ext (fP Φ i j)) from υW),rfl,q _ ζt]
 ·exact ϊI
 ·exact υq
 ·rintro h1 h2 ⟨t,u,v,e⟩ k
  exact όa
end L2
namespace GF
end GF
namespace L2
open PySem PySem.Spec PyProof.Rows
theorem m5 {M:Model}{A:ϣ}{E:Ϣ}:∀(names:ξ1) (acc:δg) (s:ν) (Q:Φl),names.filter θl=[]->Q acc s →
  wpAny M A (forIn names acc (λx r=>match x with
    | (name,kind)=>if (kind == εM)=true then do
      let c ← alloc { cls:=.type "cell",data:=.cell none }
      pure νB
     else pure ξk):Sem ξ7) Q E s
 | [],acc,s,Q,_,h=>DY h
 | (n,k) :: r,acc,s,Q,hf,h=>by
  rw[PH]
  have hb:(k == εM)=false:=by
   cases q:(k == NameKind.cell) with
   | false=>rfl
   | true=>rw[Ol,if_pos q] at hf;cases hf
  show 262
  refine q_ ?_
  show 263
  rw[if_neg ξ4]
  exact DY (m5 r acc s Q hf h)
theorem qc {M:Model}{A:ϣ}{E:Ϣ}{y:Str}:∀(names:ξ1) (acc:δg) (s:ν) (Q:Φl),names.filter θl=[(y,εM)] →
  Q ((y,Φ) :: acc) { s with heap:=s.heap.push { cls:=.type "cell",data:=.cell none } } →
  wpAny M A (forIn names acc (λx r=>match x with
    | (name,kind)=>if (kind == εM)=true then do
      let c ← alloc { cls:=.type "cell",data:=.cell none }
      pure νB
     else pure ξk):Sem ξ7) Q E s
 | [],acc,s,Q,hf,h=>by cases hf
 | (n,k) :: r,acc,s,Q,hf,h=>by
  rw[PH];refine q_ ?_
  show 263
  cases hb:(k == NameKind.cell) with
  | false =>
   show 262
   show 111;exact DY (qc r acc s Q hf h)
  | true =>
   rw[Ol,if_pos hb] at hf;obtain⟨e1,e2⟩:=NP hf
   cases e1;show 25;exact q_ (wpAny_alloc (DY (m5 r _ _ Q e2 h)))
variable {scope:Scope}
theorem xk {M:Model}{A:ϣ}{E:Ϣ}{s:ν}{globals:Addr}{closure:δg}{qual:Str}{func:δk}{code:θ}{around:Option Env}{builtins:Addr}{Q:Env->Shared->Prop}{y:Str}
  (hc:scope.names.filter θl=[(y,εM)])
  (h:∀h':Heap,h'.Ns Φ ώu->(∀b u,s.heap.get? b=some u->h'.get? b=some u)->h'.IsCell ϙ none →
   Q (newEnv γn Φ globals ((y,s.heap.objs.size+1) :: closure) qual func code around builtins) { s with heap:=h' }) :
  wpAny M A (newFunctionEnv γn globals closure [] qual func code around builtins) Q E s:=by
 unfold newFunctionEnv;refine q_ (wpAny_alloc (q_ (qc _ _ _ _ hc ?_)))
 have hs:(s.heap.push { cls:=.type Θh,data:=.dict #[] }).objs.size=s.heap.objs.size+1:=by simp[Heap.push]
 have:=h ((s.heap.push { cls:=.type Θh,data:=.dict #[] }).push { cls:=.type "cell",data:=.cell none }) ?_ ?_ ?_
 ·rw[<- hs] at this
  exact q_ (DY (DY this))
 ·exact(Heap.Ns.new _ _).push _
 ·exact λb u e=>D_ _ ιn
 ·rw[<- hs]
  exact #[_,Fm _ rfl,rfl]
def vF (N:ώ) (osc sc:γ3) (cap:η) (y:Str):Bool :=
 159e3 && (sc.names.filter θl == [(y,εM)]) && (sc.names.lookup y == some .cell) && sc.names.all (λy=>125e2 && ωN) &&
  cap.all (λi=>match N[i]? with | some x=>sc.names.lookup x == some .free | none=>false)
structure EU (N:ώ) (osc sc:γ3) (cap:η) (y:Str):Prop where
 kind:sc.kind=.function
 one:sc.names.filter θl=[(y,εM)]
 mine:sc.names.lookup y=some .cell
 locs:∀y∈sc.names,y.2=.local->sc.names.lookup y.1=some .local
 free1:∀y∈sc.names,y.2=.free->sc.names.lookup y.1=some .free
 frees:∀y∈sc.names,y.2=.free->osc.names.lookup y.1=some .cell\/osc.names.lookup y.1=some .free
 capf:∀i∈cap,∃x,N[i]?=some x/\sc.names.lookup x=some .free
theorem EU.of {N:ώ}{osc sc:γ3}{cap:η}{y:Str} (h:vF N osc sc cap y=true):EU N osc sc cap y:=by
 unfold vF at h;show 228
 have all:=Go.mp h4;refine #[eq_of_beq h1,eq_of_beq h2,eq_of_beq h3,λy hy e=>?_,λy hy e=>?_,λy hy e=>?_,λi hi=>?_]
 ·have q:=all y hy
  show 44;rcases q.1 with z | z
  ·show 45
  ·exact eq_of_beq z
 ·have q:=all y hy
  show 44;rcases q.2 with z | z
  ·show 45
  ·exact eq_of_beq z.1
 ·have q:=all y hy
  show 44;rcases q.2 with z | z
  ·show 45
  ·show 229
 ·have q:=Go.mp h5 i hi
  cases e:N[i]? with
  | none=>rw[e] at q;cases q
  | some x=>rw[e] at q;exact Ωx
def dA (X:Cx) (sc:γ3) (cl:δg) (C:Addr) (cap:η) (y:Str) (s₀:ν) (H₀:Hp) (ex:Ξ):Cx :=
 { X with N:=eU X.N cap [y],s₀:=s₀,H₀:=H₀,env:=compEnvC sc υE C X.env,outer:=X.stack,stack:=X.stack,ex:=ex,fn:=λx=>x == y,pn:=[],xe:=λ_ _=>False }
variable {x:Str}{C c:Addr}{h':Heap}
section
variable {X:Cx}{pins:List (Addr × Obj)}{σ:St}{H:Hp}{s:Shared}{sc:Scope}{cl:List (Str × Addr)}{cap:List Nat}{y:Str}
theorem qY (S:νM) {x:Str}{C:Addr} (h:Γe):x=y\/(x,εR)∈sc.names:=by
 show 75
 rw[e] at h
 cases q:sc.names.lookup x with
 | none=>rw[q] at h;rcases h with z | z <;> cases z
 | some k =>
  have hm:=HW q
  by_cases hk:k=.free
  ·rw[hk] at hm
   exact .inr hm
  ·rw[q] at h
   show 230
   have g:τH=false:=by simpa using hk
   rw[g] at h;simp only[Pa,Kt,if_false] at h;rcases h with z | z
   ·have:(x,εM)∈sc.names.filter 38e3:=E5.mpr #[by rw[z] at hm;exact hm,rfl]
    rw[S.one] at this
    simp at this
    exact .inl this
   ·exact absurd z hk
theorem xm (h:Ψb):(compEnvC sc cl C π).kindOf x=some .cell\/(compEnvC sc cl C π).kindOf x=some .free:=by
 show 75
 show 231
 split
 ·exact .inl rfl
 ·exact .inr rfl
theorem cB {n:Str} (h:((y,C) :: cl).lookup n=some c):(n=y/\c=C)\/cl.lookup n=some c:=by
 rw[FZ] at h
 cases q:(n == y) with
 | true =>
  rw[q] at h
  cases h;exact .inl #[eq_of_beq q,rfl]
 | false =>
  rw[q] at h;exact .inr h
theorem m7 {n:Str} (h:n≠y):((y,C) :: cl).lookup n=cl.lookup n:=by
 rw[FZ]
 have:(n == y)=false:=by simpa using h
 show 21
theorem Inv.blockC {fp:Ξ}{t':Nat} (I:ρ) (S:νM) (hc1:Δw) (hc2:Δ7)
  (hf:ιT) (hlt:ΦB) {m:Ϡ} (hn:Ω9) (k:νo) (hcell:h'.IsCell ϙ none) :
  Inv (dA X sc cl Φ cap y s H fp) [] υF H { s with heap:=h',toks:=t' }:=by
 have C:∀n c,cl.lookup n=some c->c < s.heap.objs.size:=λn c e=>by
  obtain⟨v,q⟩:=I.cell n c (hc1 n c e);exact q.lt
 refine⟨⟨I.mod,εk,νe,ψx,y_ _,λx z c a b=>?_,λx hx=>?_,λx c e1 e2=>?_,I.ok.hd,χw,.inl rfl,λb hb=>⟨Ea χN,λx c e=>?_⟩,I.bs,DK οH I.sz,λb o e hb=>?_,λb hb z=>?_,I.stack,ψ8⟩,
  rfl,ε1,Un.kept k,Φ6,λx c e=>?_,I.hok.fresh Γ,λx c e=>?_,λp hp=>absurd hp νq,I.hok.kept k,?_⟩
 ·rcases cB a with ⟨ex,ec⟩ | a2
  ·rcases cB b with ⟨ez,_⟩ | b2
   ·exact ex.trans ez.symm
   ·exact absurd (RA (ec ▸ C _ _ b2)) γZ
  ·rcases cB b with ⟨ez,ec⟩ | b2
   ·exact absurd (RA (ec ▸ C _ _ a2)) γZ
   ·exact I.ok.inj x z c (hc1 x c a2) (hc1 z c b2)
 ·by_cases hy:x=y
  ·subst hy
   exact #[_,by show Jw x ((x,_) :: cl)=_;rw[FZ,ξy]]
  ·rcases qY S hx with hm | hm
   ·exact absurd hm hy
   ·obtain⟨c,hc⟩:=MA.mp (hc2 x hm)
    exact #[c,(m7 hy).trans hc]
 ·have ey:x=y:=eq_of_beq e1
  rcases cB e2 with ⟨_,rfl⟩ | e2
  ·exact IH _
  ·subst ey
   have g:Jw x ((x,s.heap.objs.size+1) :: cl)=some c:=by assumption
   rw[FZ,ξy] at g
   cases g;exact IH _
 ·rcases cB e with ⟨_,rfl⟩ | e
  ·exact LQ (Gp χN)
  ·exact(hf b hb).2.2.2.2.1 x c θG
 ·rcases(hf b hb).2.2.2.1 with z | z
  ·exact I.ok.noex b o e z
  ·exact absurd ΦV γZ
 ·rcases DH.mp (I.stkSub b z) with q | q
  ·exact(hf b hb).2.1 q
  ·exact(hf b hb).2.2.1 q
 ·by_cases hi:i < cap.length
  ·have h:(eU X.N cap [y])[i]?=some x:=e1
   have g:96e1[i]?=some 12e5:=e2;rw[eU,Ht εx,DO,s_ hi] at h
   rw[bY,Ht εx,DO,s_ hi] at g
   simp only[HZ,LS] at h g;obtain⟨z,hy,hl⟩:=S.capf _ οZ
   have E:x=z:=by
    rw[<- h,t_,hy];rfl
   subst E
   have ev:σ[cap[i]]?=some 12e5:=by
    cases q:σ[cap[i]]? with
    | none=>rw[q] at g;cases g
    | some o=>rw[q] at g;show 232
   obtain⟨m0,O,G⟩:=I.loc
   have hm:=HW hl
   have j:=S.frees _ hm rfl
   have D:x≠y:=λz=>by rw[z,S.mine] at hl;cases hl
   obtain⟨u,ru,lk⟩:=G _ x v hy ev (j.elim (λz=>.inr (.inl z)) λz=>.inr (.inr z));refine⟨u,ru,.inr ⟨xm hl,?_⟩⟩;obtain⟨c,hc⟩:=MA.mp (hc2 x hm);refine⟨c,(m7 D).trans hc,?_⟩;rcases lk with ⟨z,_⟩ | ⟨_,c',J,q⟩
   ·have z':X.env.scope.names.lookup x=some .local:=z
    rcases j with w | w <;> (rw[z'] at w;cases w)
   ·have:=hc1 x c hc
    rw[J] at this
    cases this;obtain⟨o,ho,hd⟩:=q;exact ϋc
  ·have g:96e1[i]?=some 12e5:=e2
   rw[bY,HU εx,DO] at g
   cases q:[y][i - (cap.map λi=>(σ[i]?).join).length]? with
   | none=>rw[q] at g;cases g
   | some o=>rw[q] at g;cases g
 ·rcases cB e with ⟨_,rfl⟩ | e
  ·exact #[none,hcell]
  ·obtain⟨v,o,ho,hd⟩:=I.cell x c θG
   exact ϊi
 ·rcases cB e with ⟨_,rfl⟩ | e
  ·exact I.hok.fresh θa
  ·exact I.freeC x c θG
 ·show (bY σ cap [y]).length=(eU X.N cap [y]).length
  simp[bY,eU]
end
section
variable {X:Cx}{sc:Scope}{cap:List Nat}{y:Str}{tg iter elt:Expr}{ifs:List Expr}{pos:Pos}{wi:TI}{g:TG}{tt:TT}{te:TE}
theorem xn {use:Ωa}{ppos:Pos}{pins:ϕ}{s:ν}{σ:St}{H:Hp}{Q:γj}{R:Ϣ} (hc:γm) (S:νM) (hi:ζy)
  (hg:Δ2) (ht:ΓW) (he:ΓX)
  (hs:ΘH) (I:ρ) (h:mX cap [y] wi g tt te σ H Q)
  (fin:ωH) :
  wpAny ω X.A ωT R X.xe s:=by
 obtain⟨cl,an,a1,cc⟩:=mW (env:=π) (scope:=sc) λn hn=>X.env.cells.lookup n |> λ_=>I.ok.has n ϋy;refine Rm (use:=use) rfl hs an εk S.locs Δ1;obtain⟨it,fp,tn,J,H2,rfl,I2,T,a5,f2,q⟩:=h2;refine QP ?_;obtain⟨D,hD⟩:∃D,D=s2.heap.objs.size:=ϒ
 have ch:H2 D=none:=by rw[hD];exact I2.hok.fresh Γ
 have I3:Inv X pins σ ξ8 { s2 with heap:=s2.heap.push { cls:=.type "list",dict:=none,data:=.seq ([]:List Value).toArray } }:=by
  show 233
 have bt:∀b∈fp,b≠D:=λb hb z=>by
  obtain⟨o,ho,_⟩:=T.obj _ _ a5 b hb;show 234
 have f3:∀b∈fp,Fb X pins ξ8 b:=λb hb=>#[by rw[ae (bt b hb)];exact(f2 b hb).1,(f2 b hb).2]
 have cv:tn 0 119e1:=T.keep _ _ _ a5 λb _ o e=>D_ _ e
 rw[<- hD];obtain⟨W,⟨m0,w0⟩,turn⟩:=q D ch
 generalize c0:({ s2 with heap:=s2.heap.push { cls:=.type "list",dict:=none,data:=.seq ([]:List Value).toArray } }:Shared)=s3 at I3 ⊢
 have O:tn 0 s3.heap:=by rw[<- c0];exact cv
 refine xk S.one λh1 ck hk ad=>?_
 have G:∀b∈fp,b < s3.heap.objs.size:=λb hb=>by
  obtain⟨o,ho,_⟩:=T.obj _ _ O b hb;exact DS ho
 have I4:=I3.blockC (t':=s3.toks) S a1 cc f3 G ck hk ad
 have fC:∀H',H' s3.heap.objs.size=none->Fb X pins H' s3.heap.objs.size:=λH' hn=>I3.fpOk Γ hn;obtain⟨C,hC⟩:∃C,C=s3.heap.objs.size:=ϒ;rw[<- hC] at I4 fC;rw[<- hC];obtain⟨Xc,j⟩:∃Xc,Xc=dA X sc cl C cap y s3 (upd H2 D (.lst [])) fp:=ϒ;rw[<- j] at I4
 have gX:PG Xc tg g:=j ▸ hg cl C s3 _ fp
 have tX:Ji Xc ifs tt:=j ▸ ht cl C s3 _ fp
 have eX:PE Xc elt te:=j ▸ he cl C s3 _ fp
 have x1:Xc.prog=X.prog:=by rw[j];rfl
 have x2:Xc.w=X.w:=by rw[j];rfl
 have x3:Xc.K=X.K:=by rw[j];rfl
 have x4:Xc.calm=true:=by rw[j];exact hc
 have x5:Xc.A=X.A:=by rw[j];rfl
 have x6:Xc.env=compEnvC sc υE C X.env:=by rw[j];rfl
 have x7:Xc.xe=λ_ _=>False:=by rw[j];rfl
 have E:∀{H':Hp},ιW->∀b∈fp,Fb Xc [] H' b:=λhn b hb=>by
  rw[j];refine #[hn b hb,?_,?_,.inl hb,λx c e=>?_,λp hp=>absurd hp νq]
  ·show b≠C
   rw[hC];exact Ea (G b hb)
  ·intro z
   rcases DH.mp (I3.stkSub b z) with q | q
   ·show 235
   ·show 236
  ·rcases cB e with ⟨_,rfl⟩ | e
   ·rw[hC]
    exact LQ (Gp (G b hb))
   ·exact(f3 b hb).2.2.2.2.1 x c (a1 x c e)
 have a4:tn 0 h1:=T.keep _ _ _ O λb _ o e=>hk b o e
 have Z:∀s4:Shared,s4 = { s3 with heap:=h1,toks:=s3.toks } →
   codeAny ω X.A (.compLoop θ1 0 ιk γ4 (compEnvC sc υE C π)) Δx s4:=by
  rintro s4 rfl;refine pT (λn s'=>∃i σ' H' ys,Inv Xc [] σ' H' s'/\tn i s'.heap/\(∀b∈fp,H' b=none)/\H' D=some (.lst ys)/\W i n ys σ' H') ?_ m0 ⟨0,_,_,[],I4,a4,λb hb=>(f3 b hb).1,ab,w0⟩;rintro n s5 ⟨i,σ5,H5,ys,I5,bm,aw,c1,w5⟩;obtain⟨_,U⟩:=turn i n ys σ5 H5 w5;rcases U with ⟨stop,qq⟩ | ⟨go,step⟩
  ·have td:=T.done Xc x1 x2 x3 x4 i [] s5 σ5 H5 δV I5 (E aw) bm stop
   rw[x5] at td;refine w_ td λr s6 ⟨hr,I6⟩=>?_;subst hr
   show compPost _ _ _ _ _ _ _ πD s6
   obtain⟨m6,a6,_⟩:=id I6.loc;rw[x6] at a6
   have u6:=I6.base
   have a2:=I6.hok
   have b5:H5 C=none:=by have:=I6.free;rw[x6] at this;exact this
   have cw:s6.os=s3.os:=by have:=I6.os;rw[j] at this;exact this
   rw[j] at u6 a2
   have IX:Inv X pins σ H5 s6:=I3.call' (s':=s6) cw u6 a2 I6.bare λb hb=>Γt;exact fin D C H5 s6 m6 IX a6 (fC H5 b5) qq
  ·have ti:=T.item Xc x1 x2 x3 x4 i [] s5 σ5 H5 δV I5 (E aw) bm go
   rw[x5] at ti;refine w_ ti λr s6 ⟨u,hr,h6⟩=>?_;subst hr;refine w_ h6 λ_ s7 ⟨x,H7,I7,r7,y7,Y,b2⟩=>?_
   have cs:=I7.pinned (E b2) ώC
   have a7:=gX _ s7 σ5 H7 x u _ cs r7 ώ2;rw[x1,x2,x5,x6,x7] at a7;refine w_ a7 λ_ s8 ⟨σ8,H8,I8,q8⟩=>?_
   have a8:=tX _ s8 σ8 H8 _ I8 q8;rw[x1,x2,x5,x6,x7] at a8
   have again:∀{σ9:St}{H9:Hp}{s9:ν}{zs:δ}{m':Nat},Inv Xc ξl σ9 H9 s9->H9 D=some ζF->m' < n->W (i+1) m' zs σ9 H9 →
     ∃m,m < n/\∃i σ' H' ys,Inv Xc [] σ' H' s9/\tn i s9.heap/\ιW/\H' D=some γB/\W i m ys σ' H':=λ{σ9 H9 s9 zs m'} I9 hz hm w9=>by
    refine ωQ;obtain⟨o,e,d⟩:=T.obj _ _ Y b hb;exact(I9.pin (b,o) νb).2.1
   refine w_ a8 λok s9 ⟨H9,I9,q9⟩=>?_
   cases ok with
   | false =>
    rw[if_neg Fp] at q9 ⊢;obtain⟨m',hm,w9⟩:=q9;exact again I9 (turn _ _ _ _ _ w9).1 hm w9
   | true =>
    rw[if_pos rfl] at q9 ⊢
    have a9:=eX _ s9 σ8 H9 _ I9 q9;rw[x1,x2,x5,x6,x7] at a9;refine w_ a9 λv cr ⟨y,aT,b6,ce,b0,b1,m',hm,cy⟩=>?_
    have a0:=aZ (X:=Xc) ξl cr σ8 aT γ4 [y] γ4 [v] (λ_ a3=>a3=upd aT D όO) b6 rfl (.cons ce .nil) #[D,ys,y,rfl,rfl,b0,b1,rfl];rw[x1,x2,x5,x7] at a0;refine w_ a0 λ_ c3 ⟨_,a3,b3,_,b4⟩=>?_;subst b4;exact again b3 ab hm cy
 exact QL οs (T.self _ 0 _ _ _ a4 οs)
theorem Aq (S:νM) (hc:γm) (hi:ζy)
  (hg:Δ2) (ht:ΓW) (he:ΓX)
  (hs:∀x,foldedSetIterable iter π x=pure x:=by intro _;rfl):PE X θ1 (mX cap [y] wi g tt te):=by
 intro j s σ H Q I h;rw[ώD];refine xn (use:=none) hc S hi hg ht he hs I h λD C H' s' m I' hn hf q=>?_;refine Ωb;obtain⟨f0,f1,f2,f3,f4,f5⟩:=hf;exact Γ8
end
section
variable {X:Cx}
end
def dk (q:Str) (c:Addr):HO:=.ext λh=>h.CodeRec γo q
def Fx (fa:Addr) (fd:γN):HO:=.ext λh=>h.get? fa=some { cls:=.type "function",data:=.func fd }
structure Iz (X:Cx) (c P:Addr):Prop where
 cd:X.env.code=.ref c
 hd:JS X.K c P=true
 blt:X.base.BuiltinsAt X.mg P
 ne:mainGlobals≠P
variable {P:Program}{w:World}{h:Heap}{q:Str}{params:Arguments}{body:Expr}{Q:VK}
section
variable {X:Cx}{pins:List (Addr × Obj)}{σ:St}{H:Hp}{s:Shared}
theorem Ar (e:h.CodeRec γo q):r_ P w H h c (dk q c):=by
 refine #[e,?_,λh1 h2 e1 k=>?_]
 ·obtain⟨c',o,vs,t,e1,e2,_⟩:=e
  cases e1;exact #[o,e2]
 ·obtain⟨c',o,vs,t,e1,e2,e3⟩:=e1
  cases e1;exact #[c,o,vs,t,rfl,k o e2,e3]
theorem vG {fa:Addr}{fd:γN} (e:h.get? fa=some { cls:=.type "function",data:=.func fd }):r_ P w H h fa 103e5:=#[e,#[_,e],λh1 h2 e1 k=>k _ e1]
theorem Inv.fnew {P c':Addr}{ps more:γx}{fd:γN}{tk:Nat} (I:ρ) (hP:H P=some δT) (x:QW P Ψ h') (h1:s.heap.objs.size<=c') (h2:c' < δR) (cr:h'.CodeRec ιe q) (ht:h'.get? P=some (MG (ps++more))) :
  Inv X pins σ (upd ρm δR ξa) { s with heap:=h'.push { cls:=.type "function",data:=.func fd },toks:=tk }:=by
 have J:P < s.heap.objs.size:=(I.hok P _ hP).lt
 have C:s.heap.objs.size<=h'.objs.size:=DK h1 (IF h2)
 have nP:∀b,H b=none->b≠P:=λb e z=>by rw[z,hP] at e;cases e
 have j:∀b o,s.heap.get? b=some o->b≠c'/\b≠h'.objs.size:=λb o e=>#[Ea (Fg εL h1),Ea (Fg εL C)]
 have h:∀b u,H b=some u->b≠c'/\b≠h'.objs.size:=λb u e=>#[Ea (Fg (I.hok b u e).lt h1),Ea (Fg (I.hok b u e).lt C)]
 have g:∀b o,b≠P→s.heap.get? b=some o→(h'.push { cls:=.type "function",data:=.func fd }).get? b=some o:=λb o hb e=>D_ _ (x b o hb e)
 have at_:∀b u,b≠P->H b=some u->upd ρm δR ξa b=some u:=λb u hb e=>by
  rw[ae (h b u e).2,ae (h b u e).1,ae hb];exact e
 have D:upd ρm δR ξa P=some 76e2:=by
  rw[ae (h P _ hP).2,ae (h P _ hP).1];exact ab
 refine I.step (g':=s.gens) (d':=s.drawn) (ch:=[]) (λ_ z=>nomatch z) (λb o _ _ _ e n=>g b o (nP b n) e) (λb o _ _ _ e n=>⟨o.slots,g b o (nP b n) e⟩) (λb o _ e n=>?_) (λb o _ e=>?_) (λb xs e=>at_ b _ (λz=>by rw[z,hP] at e;cases e) e) (λb o u e=>at_ b _ (λz=>by rw[z,hP] at e;cases e) e) (λb G e=>?_) (λm hm=>?_) (λb u e=>?_) I.bare
 ·rw[ae (j b o e).2,ae (j b o e).1,ae (nP b n)]
  exact n
 ·by_cases z:b=P
  ·rw[z]
   exact #[_,D_ _ ht]
  ·exact #[o,g b o z e]
 ·by_cases z:b=P
  ·subst z
   rw[hP] at e
   cases e;exact #[more,D]
  ·exact #[#[],by rw[at_ b _ z e];simp]
 ·obtain⟨o,es,ep,ho,r⟩:=hm
  exact #[o,es,ep,g _ o (nP _ εV) ho,r]
 ·by_cases z1:b=h'.objs.size
  ·rw[z1,ab] at e
   cases e;rw[z1];exact vG χS
  rw[ae z1] at e
  by_cases z2:b=c'
  ·rw[z2,ab] at e
   cases e;rw[z2];refine Ar ?_;obtain⟨E,o,vs,t,e1,e2,e3⟩:=cr;exact #[E,o,vs,t,e1,D_ _ e2,e3]
  rw[ae z2] at e
  by_cases z3:b=P
  ·rw[z3,ab] at e
   cases e;rw[z3];exact D_ _ ht
  rw[ae z3] at e;refine(I.hok b u e).stay (λc v hc q=>g c v ?_ q) (λc q=>at_ c _ (λz=>by rw[z,hP] at q;cases q) q) λc xs q=>at_ c _ (λz=>by rw[z,hP] at q;cases q) q
  rcases hc with z | z
  ·rw[z];exact z3
  ·exact λy=>by rw[y,hP] at z;cases z
theorem Inv.fhit {fd:γN}{tk:Nat} (I:ρ) (x:∀b o,s.heap.get? b=some o->h'.get? b=some o) (le':s.heap.objs.size<=δR) :
  Inv X pins σ (upd H δR ξa) { s with heap:=h'.push { cls:=.type "function",data:=.func fd },toks:=tk } :=
 I.laid (t':=tk) (λb u e=>D_ _ (x b u e)) le' (vG χS)
inductive IN (P:Addr) (pos:Pos) (q:Str) (mk:ιE) (σ:St) (H:Hp) (Q:VK):Prop
 | mk:∀ps,H P=some (.tbl ps)->TriplesOk ps.toList->(((codeAmong pos ps.toList=none/\∀(c' fa:Addr) (doc pm ctv:Value),H c'=none->H fa=none->fa≠c'->Q (.ref fa) (upd (upd (upd H P (.tbl (ps ++ [rawInt pos.line,rawInt pos.col,.ref c'].toArray))) c' (dk q c')) fa (Fx fa (mk doc pm (.ref c') ctv))))\/∃c',codeAmong pos ps.toList=some (.ref c')/\H c'=some (dk q c')/\∀(fa:Addr) (doc pm ctv:Value),H fa=none->Q (.ref fa) (upd H fa (Fx fa (mk doc pm (.ref c') ctv)))))->IN P pos q mk σ H Q
theorem Inv.blt {P:Addr} (I:ρ) (b:X.base.BuiltinsAt X.mg P):s.heap.BuiltinsAt X.mg P:=by
 obtain⟨bm,o,e1,e2,e3,e4,e5,e6,e7,e8⟩:=b;exact #[bm,o,e1,e2,e3,e4,I.bk _ _ e5,e6,e7,e8]
theorem Inv.nsg (I:ρ):s.heap.Ns εp X.mg:=by
 obtain⟨o,es,ep,ho,r⟩:=I.mod.glob;exact #[o,es,ep,I.bk _ _ ho,r]
theorem l7 {P:Addr}{name:Str}{pos:Pos}{ln:Nat}{clos:δg} (T:οQ) (hcl:Φm) (I:ρ)
  (h:IN P pos q (λ_ pm cdv ctv=>HJ name q εO body γn clos pm cdv ctv) σ H Q) :
  wpAny ω X.A (makeFunction name q εO (.expr body) γn π [] [] [] pos ln) δi X.xe s:=by
 obtain⟨ps,hP,tr,h⟩:=h
 have hd:=Rt ι5 T.hd
 have tb:s.heap.get? P=some (MG ps):=I.hok P _ hP;rcases h with ⟨hn,h⟩ | ⟨c',hs,hc,h⟩
 ·refine PySem.W.kla_makeFunction hcl νe I.nsg T.cd hd tb tr hn T.ne ώF λc' ctv h' tk x h1 h2 cr ht=>?_
  refine #[.ref δR,_,I.fnew (more:=[rawInt ηz,rawInt pos.col,.ref c'].toArray) hP x h1 h2 cr ht,rfl,h c' δR .none _ ctv (I.hok.fresh h1) (I.hok.fresh (DK h1 (IF h2))) (LQ h2)]
 ·refine PySem.W.kla_makeFunctionHit hcl νe I.nsg T.cd hd tb tr hs ώF λctv h' tk x g=>?_
  exact #[.ref δR,_,I.fhit x g,rfl,h δR .none _ ctv (I.hok.fresh g)]
theorem CJ {P:Addr}{pos:Pos}{clos:δg} (T:οQ) (hcl:Φm) (h1:defaultsOf εO X.env=([],[]):=by rfl) :
  PE X (.Lambda εO body γn pos) (IN P pos ζl (λ_ pm j g=>HJ ν1 ζl εO body γn clos pm j g)):=by
 intro C s σ H Q I h;exact OZ h1 (l7 T hcl I h)
end
def FQ (c:Addr) (v:V):HO:=.ext λh=>∃u,f_ v u/\h.IsCell c δn
def HM (cvs:List (Addr × V)) (H:Hp):Hp:=λb=>match cvs.lookup b with
 | some v=>some οR
 | none=>H b
def FC (cvs:List (Addr × V)) (H:Hp):Hp:=λb=>match cvs.lookup b with
 | some _=>none
 | none=>H b
section
variable {cvs:List (Addr × V)}{H:Hp}{b:Addr}{v:V}
theorem jM (e:ϋg):HM cvs H b=some 72e5:=by unfold HM;rw[e]
theorem bP (e:όb):HM cvs H b=H b:=by unfold HM;rw[e]
theorem eB (e:ϋg):FC cvs H b=none:=by unfold FC;rw[e]
theorem bw (e:όb):FC cvs H b=H b:=by unfold FC;rw[e]
theorem BP {u:θ} (r:ζM) (e:h.IsCell c δn):r_ P w H h c 41e8:=by
 obtain⟨o,e1,e2⟩:=e;refine #[#[u,r,o,e1,e2],#[o,e1],λh1 h2 ⟨u',r',o',g,j⟩ k=>#[u',r',o',k _ g,j]]
theorem vH (x:γM) (free:∀c v,cvs.lookup c=some v->H c=none) (cel:∀c v,cvs.lookup c=some v->∃u,f_ v u/\h.IsCell c δn):Er P w (HM cvs H) h:=λb o e=>by
 have out:∀c u,H c=some u->cvs.lookup c=none:=λc u e=>by
  cases q:cvs.lookup c with
  | none=>rfl
  | some v=>rw[free c v q] at e;cases e
 cases q:cvs.lookup b with
 | some v =>
  rw[jM q] at e
  cases e;obtain⟨u,r,z⟩:=cel b v q;exact BP r z
 | none =>
  rw[bP q] at e;exact(x b o e).stay όQ (λc z=>by rw[bP (out c _ z)];exact z) λc xs z=>by rw[bP (out c _ z)];exact z
theorem As (x:γM) (cel:∀c v,cvs.lookup c=some v->H c=some θU):Er P w ηt h:=λb o e=>by
 cases q:cvs.lookup b with
 | some v=>rw[eB q] at e;cases e
 | none =>
  rw[bw q] at e;refine(x b o e).stay όQ (λc z=>?_) λc xs z=>?_
  ·cases q2:cvs.lookup c with
   | none=>rw[bw q2];exact z
   | some v=>rw[cel c v q2] at z;cases z
  ·cases q2:cvs.lookup c with
   | none=>rw[bw q2];exact z
   | some v=>rw[cel c v q2] at z;cases z
end
structure eC (N P:ώ) (sc:γ3):Prop where
 kind:sc.kind=.function
 co:sc.isCoroutine=false
 gen:sc.isGenerator=false
 nd:N.Nodup
 pre:N.take P.length=P
 par:∀x∈P,sc.names.lookup x=some .local
 nocell:∀y∈sc.names,y.2≠.cell
def GB (q:Str) (scope:γ3) (L fa:Addr) (cd:θ) (clos:δg):Env:=newEnv γn L εp clos (q++EM ".<locals>.") (some fa) cd none χH
def Kg (P:Ϧ) (w:ϡ) (K:n_) (mg:Ϡ) (base:Heap) (N:ώ) (env:Env) (A:ϣ) (outer:γ7) (s:ν) (H:Hp):Cx where
 prog:=P
 w:=w
 K:=K
 mg:=mg
 base:=base
 A:=A.deeper env
 N:=N
 s₀:=s
 H₀:=H
 env:=env
 outer:=outer
 stack:=env :: outer
 ex:=[]
 calm:=true
 fn:=λ_=>false
 pn:=[]
 xe:=λ_ _=>False
def Bi (ps:ώ) (vs:δ) (scope:γ3) (clos:δg) (cvs:υs) (N:ώ) (σ:St):Prop :=
 σ.length=N.length/\∀(i:Nat) (x:Str) (v:V),N[i]?=some x->σ[i]?=some δb->146e5\/(scope.names.lookup x=some .free/\∃c,clos.lookup x=some c/\cvs.lookup c=some v)
structure Kd (scope:γ3) (clos:δg) (cvs:υs) (H:Hp):Prop where
 inj:∀x y c,clos.lookup x=some c->clos.lookup y=some c->x=y
 has:∀x,scope.names.lookup x=some .free->∃c,clos.lookup x=some c
 val:∀x c,clos.lookup x=some c->∃v,cvs.lookup c=some v
 at_:∀c v,cvs.lookup c=some v->H c=some θU
section
variable {P:Program}{w:World}{K:n_}{mg:Str->Option Value}{base:Heap}{A:Around}{outer:List Env}{s:Shared}{H:Hp}{N ps:List Str}{scope:Scope}{fa:Addr}{q:Str}{cd:Value}{clos:List (Str × Addr)}{cvs:List (Addr × V)}{vs:List V}{us:List Value}{σ0:St}{h':Heap}{tk:Nat}
theorem vI:∀{ps:ώ}{us:χ}{i:Nat}{x:Str}{u:θ},ps.Nodup->ps[i]?=some x->us[i]?=some u->(ps.zip us).reverse.lookup x=some u
 | ps,us,i,x,u,nd,e1,e2=>by
  have hm:(x,u)∈(ps.zip us).reverse:=Rc.mpr (Ez (i:=i) (QC (z:=(x,u)).mpr #[e1,e2]))
  have uq:∀v,(x,v)∈(ps.zip us).reverse->v=u:=λv hv=>by
   obtain⟨j,hj⟩:=IV (Rc.mp hv);obtain⟨j1,j2⟩:=QC.mp hj
   have:i=j:=lU nd e1 j1;show 14;rw[e2] at j2;exact(DU j2).symm
  generalize (ps.zip us).reverse=l at hm uq
  induction l with
  | nil=>exact absurd hm Fl
  | cons p l ih =>
   obtain⟨y,v⟩:=p;rw[FZ]
   by_cases e:x=y
   ·subst e
    simp only[beq_self_eq_true];rw[uq v F0]
   ·have:(x == y)=false:=beq_eq_false_iff_ne.mpr e
    show 21;refine ih ?_ λv hv=>uq v (Fv _ hv);rcases DH.mp hm with z | z
    ·exact absurd (Prod.mk.inj z).1 e
    ·exact z
theorem BQ (S:ξP) (hd:ζz) (e0:δB) (r:ζH) (C:υ0) (h0:ΦY)
  (hn:h'.Ns Φ λx=>(ps.zip us).reverse.lookup x) (hs:Γy) :
  Inv (Kg P w K mg base N ΘW A Δ s ηt) [] σ0 ηt { s with heap:=h',toks:=tk }:=by
 have hk:∀b o,s.heap.get? b=some o->h'.get? b=some o:=λb o e=>by
  show 87
 have h:∀b:Addr,b∉([]:List Addr):=λb=>Fl
 have j:∀x c,clos.lookup x=some c->∃v u,cvs.lookup c=some v/\f_ v u/\s.heap.IsCell c 13e7:=λx c e=>by
  obtain⟨v,hv⟩:=C.val x c e;obtain⟨⟨u,r,z⟩,_⟩:=(show r_ P w H Ψ c θU from e0.hok c _ (C.at_ c v hv));exact #[v,u,hv,r,z]
 have ik:∀{c u},s.heap.IsCell c δn->h'.IsCell c 13e7:=λ⟨o,e1,e2⟩=>ϊJ
 refine⟨⟨e0.mod,εk,rfl,rfl,y_ _,C.inj,λx hx=>?_,όc,λ_=>hd,Around.frames_deeper οl,.inr μ5,λb z=>absurd z (h b),λb o e=>⟨(e0.bs b o e).1,?_⟩,e0.bsz,λb _ _=>h b,λb z=>absurd z (h b),οW,λb hb=>?_⟩,
  rfl,μC,Un.kept hk,Φ7,λx c e=>?_,?_,λx c e=>?_,λp hp=>absurd (show p∈([]:List ζU) from hp) ό,(As e0.hok C.at_).kept hk,h0.1⟩
 ·rcases hx with hx | hx
  ·exact absurd rfl ΓZ
  ·exact C.has x hx
 ·have:=(e0.bs b o e).2
  cases z:cvs.lookup b with
  | none=>exact(bw z).trans this
  | some v=>exact eB z
 ·have:=e0.frf b hb
  cases z:cvs.lookup b with
  | none=>exact(bw z).trans this
  | some v=>exact eB z
 ·rcases h0.2 i x v h1 h2 with ⟨hp,hv⟩ | ⟨hf,c,hc,hv⟩
  ·obtain⟨u,hu,rv⟩:=r.get hv
   have D:ps.Nodup:=by rw[<- S.pre];exact S.nd.sublist οM
   exact #[u,rv,.inl #[S.par x (Ez hp),vI D hp hu]]
  ·obtain⟨v',u,g,ru,z⟩:=j x c hc
   rw[hv] at g
   cases g;exact Ξ9
 ·obtain⟨v',u,g,ru,z⟩:=j x c e
  exact #[_,ik z]
 ·have:=e0.hok.fresh Γ
  show FC cvs H s.heap.objs.size=none
  cases z:cvs.lookup s.heap.objs.size with
  | none=>exact(bw z).trans this
  | some v=>exact eB z
 ·obtain⟨v',u,g,_⟩:=j x c e
  exact eB g
theorem BR {s':ν}{H':Hp}{σ':St}{env:Env}{v:V}{u:θ} (C:υ0) (e0:δB) (J:Inv (Kg P w K mg base N env A Δ s ηt) [] σ' H' s') (rv:ζM) (hq:Q v (HM cvs H')):CE Δ P w H s Q u s':=by
 have B:Un δ3 [] ηt H' Ψ s'.heap:=J.base
 have h:∀b,(∀v,H b≠some οR)->cvs.lookup b=none:=λb hb=>by
  cases z:cvs.lookup b with
  | none=>rfl
  | some v=>exact absurd (C.at_ b v z) (hb v)
 have g:∀b,H b=none->cvs.lookup b=none:=λb hb=>h b λv z=>by rw[hb] at z;cases z
 have j:∀b:Addr,b∉([]:List Addr):=λb=>Fl
 have D:∀c v,cvs.lookup c=some v->c∉Ff outer:=λc v e z=>by
  have:=e0.frf c z;rw[C.at_ c v e] at this
  show 8
 have cell:∀c v,cvs.lookup c=some v->H' c=none/\∃u,f_ v u/\s'.heap.IsCell c 13e7:=λc v e=>by
  obtain⟨⟨u,r,o,e1,e2⟩,_⟩:=(show r_ P w H Ψ c θU from e0.hok c _ (C.at_ c v e));exact #[B.free c o e1 (eB e) (j c),u,r,o,B.keep c o e1 (eB e) (D c v e) (j c),e2]
 refine #[v,HM cvs H',J.os,J.bare,#[λb o e n hb hx=>?_,λb o e n hb hx=>?_,λb o e n hx=>?_,λb o e hx=>B.there b o e hx,λb xs e=>?_,λb o x e=>?_,λb ps e=>?_],vH J.hok Ψs (λc v e=>(cell c v e).2),rv,hq]
 ·exact B.keep b o e τo hb hx
 ·exact B.slot b o e τo hb hx
 ·exact(bP (g b n)).trans (B.free b o e τo hx)
 ·have z:=h b λv y=>by rw[e] at y;cases y
  exact(bP z).trans (B.tups b xs υt)
 ·have z:=h b λv y=>by rw[e] at y;cases y
  exact(bP z).trans (B.frzs b o x υt)
 ·have z:=h b λv y=>by rw[e] at y;cases y
  obtain⟨more,y⟩:=B.tbls b ps υt;exact #[more,(bP z).trans y]
theorem BS {k:Nat}{name:Str}{pm ctv:θ}{c':Addr}{E:XK}{t:TE} (S:ξP) (hr:μd) (e0:δB) (r:ζH)
  (hf:ΓM) (hc:ϋh) (hb:Γh)
  (C:υ0) (h0:ΦY)
  (ht:PE (Kg P w K mg base N Θn A Δ s ηt) body t) (hq:t σ0 ηt (λv H'=>Q v (HM cvs H'))) :
  codeAny Ϛ A ρR ΨV s:=by
 have j:s.heap.NoLimit:=e0.mod.nolimit.keeps λb o e=>(e0.bs b o e).1
 have ho:s.heap.get? fa=some { cls:=.type "function",data:=.func ω7 }:=(e0.hok fa _ hf).1
 have g:s.heap.CodeRec ιe q:=(e0.hok c' _ hc).1;refine Sk οN ho rfl S.co S.gen rfl g ?_;rw[hb];refine DY ?_;refine Pi ψD ΦC ϋC εk
 have hk:∀b o,s.heap.get? b=some o->h'.get? b=some o:=λb o e=>by
  show 87
 refine ΩU
 have I:=BQ (q:=q) (fa:=fa) (cd:=.ref c') (tk:=s.toks+(ps.zip us).length) S hr.hd e0 r C h0 hn hs;refine Gy ΩV Φn λe s' h=>False.elim h;exact BR C e0 J rv q
end
abbrev TR:=(V->St->Hp->Prop)->St->Hp->Prop
def LK (X:Cx) (body:ζ8) (t:TR):Prop:=∀(pins:ϕ) (s:ν) (σ:St) (H:Hp) (R:V->St->Hp->Prop),Inv X pins σ H s->t R σ H →
 wpAny ω X.A (execs body π) (λf s'=>∃v σ' H' u,f=.ret u/\Inv X pins σ' H' s'/\f_ v u/\R v σ' H') X.xe s
def Ox (t:TS) (u:TR):TR:=λR σ H=>t { nx:=u R,rt:=λ_ _=>False } σ H
def Os (te:TE):TR:=λR σ H=>te σ H λv H'=>R v σ H'
section
variable {X:Cx}{st:Stmt}{rest:List Stmt}{t:TS}{u:TR}{e:Expr}{te:TE}{pos:Pos}
theorem ma (h1:θM) (h2:LK X rest u):LK X ξX (Ox t u):=by
 show 71;refine NO (w_ (h1 g s σ H { nx:=u R,rt:=λ_ _=>False } I h) λf s1 q=>?_)
 cases f with
 | next =>
  show 180;exact h2 g s1 σ' H' R I' q
 | ret v=>obtain⟨_,_,_,_,_,q⟩:=q;show 132
 | brk=>obtain⟨_,_,_,q⟩:=q;show 132
 | cont=>obtain⟨_,_,_,q⟩:=q;show 132
theorem BU (he:δX):LK X [.Return ψy pos] (Os te):=by
 show 71;refine NO (RO Δl);exact #[x,σ,H1,v,rfl,I1,r1,q1]
end
def yP (N:ώ) (scope:γ3) (cs:δg) (σ:St) (cvs:υs):Prop:=∀c v,cvs.lookup c=some v->∃(i:Nat) (y:Str),N[i]?=some y/\σ[i]?=some δb/\cs.lookup y=some c/\scope.names.lookup y=some .cell
section
variable {P:Program}{w:World}{K:n_}{mg:Str->Option Value}{base:Heap}
end
abbrev KI:=V->List V->Hp->VK->Prop
def m9 (P:Ϧ) (w:ϡ) (K:n_) (mg:Ϡ) (base:Heap) (k:Nat) (sp:KI):Prop :=
 ∀(A:ϣ) (outer:γ7) (s:ν) (H:Hp) (f:V) (us:χ) (vs:δ) (Q:VK),DC k A->Eh P w K mg base A Δ s H->h_ vs us->sp f vs H Q →
  ∃fa fd,f=.ref fa/\H fa=some χR/\codeAny Ϛ A ρR (CR F7 Δ P w H s Q E0) s
section
variable {X:Cx}{k:Nat}{sp:KI}{x m:Str}{p pos apos:Pos}{e o:Expr}{es:List Expr}{ta:TE}{t:TA}{i:Nat}{pins:List (Addr × Obj)}{σ:St}{H:Hp}{s:Shared}{Q:VK}{us:List Value}{vs:List V}{f:V}
theorem BV {u:θ} (F:ΞY) (hr:θR) (I:ρ) (rf:f_ f u) (r:ζH) (h:sp f vs H Q) :
  ∃fa ob fd,u=.ref fa/\s.heap.get? fa=some ob/\ob.data=.func fd/\wpAny ω X.A (call ζm us) δi X.xe s:=by
 obtain⟨fa,fd,rfl,hf,hc⟩:=F X.A δp s H f us vs Q hr I.env0 r h;obtain rfl:u=.ref fa:=rf;refine #[fa,_,fd,rfl,(I.hok fa _ hf).1,rfl,?_];refine KZ (KS hc λr s' hq=>?_)
 cases r with
 | error e=>exact False.elim hq
 | ok fl =>
  cases fl with
  | ret u=>exact I.after hq
  | next=>exact False.elim hq
  | brk=>exact False.elim hq
  | cont=>exact False.elim hq
inductive sK (K:n_) (m:Str) (sp:KI) (t:TA) (σ:St) (Q:VK) (x:V) (H1:Hp):Prop
 | mk:∀a C dx fs fa fd,x=.ref a->H1 a=some (.ins C dx fs)->FX K C->i_ K C m->fs.lookup m=some (.ref fa)->H1 fa=some (Fx fa fd)->(t σ H1 λvs H2=>H2 fa=some χR/\sp ζm vs H2 Q)->sK K m sp t σ Q x H1
def CL (K:n_) (m:Str) (sp:KI) (ta:TE) (t:TA):TE:=λσ H Q=>ta σ H λx H1=>sK K m sp t σ Q x H1
theorem At {pl:μw} (F:ΞY) (hr:θR) (ho:μm) (ha:ηk) (he:starEach δs X.env=(υ,eval e π) :: starEach es X.env:=by rfl)
  (ht:eval νp X.env=(do
   let ov ← eval o X.env
   standAt χx
   let (f,first) ← holding [ov] (getMethod ov m pl)
   callWith pos f first 135e9 ρr):=by rfl) :
  PE X νp (CL X.K m sp ta t):=by
 intro g s σ H Q I h;refine P8 (pl:=pl) (w_ (ho g s σ H _ I h) λu s1 ⟨x,H1,I1,rx,a,C,dx,fs,fa,fd,ex,ea,cl,na,l,hf,q⟩=>?_) ht;subst ex;obtain rfl:u=Ev a:=rx;obtain⟨mA,O,_⟩:=ip I1.hok ea;obtain⟨od,J,_⟩:=O.look;refine PySem.W.method_usual I1.kIn J (MU (cl.get m)).1 (MU (cl.get m)).2 na rfl ?_;refine iU I1 ea cl na l λu2 s2 I2 ru=>?_;obtain rfl:u2=Ev fa:=ru
 refine callWith_def (fd:=fd) (o:={ cls:=.type "function",data:=.func fd }) rfl (w_ (ha pos g s2 σ H1 _ I2 q) λus s3 ⟨vs,H2,I3,r,j,q2⟩=>?_) he
 obtain⟨D,ob,E,e1,e2,e3,e4⟩:=BV (f:=.ref fa) (u:=.ref fa) F hr I3 rfl r q2
 cases e1;exact #[(I3.hok fa _ j).1,e4]
end
theorem yQ {K:n_}{mg mb:Ϡ}{CX:Iw}{k:Nat}{fa a:Addr}{fd:γN}{sp:Sp}{s₁:ν}{vs:χ}{ns:γz}{ts:Ξ}
  (KX:K.In ηZ) (hns:s₁.heap.Ns εp mg) (hb:s₁.heap.Ns χH mb) (hbb:∀x:Str,x ≠ "__name__" → mb x=bootBuiltins x) (hlim:s₁.heap.NoLimit) (hg:s₁.gens = #[])
  (ha:s₁.heap.get? a=some { cls:=.type "list",data:=.seq δt }) (hi:ώG) (hl:ns.length≤sizeLine) (hr:DC k ηB)
  (hT:∀p∈ts,s₁.heap.get? p=some (MG #[])) (hTK:∀p∈ts,K.lookup p=none) (hTc:∀p∈ts,∃c,JS K c p=true)
  (hbm:∃bm ob,mg "__builtins__" = some (.ref bm)∧bm≠builtinsNs∧s₁.heap.get? bm=some ob∧ob.cls=.type "module" ∧ ob.dict=some builtinsNs∧ob.data=.plain)
  (F:∀base:Heap,K.In base->base.Ns εp mg->Θ2->EI P w K mg base CX k fa fd [x] sp) (hbind:∀(s:ν) (u:θ),BindsTo s fd νc [(x,u)])
  (hsp:∀H:Hp,b_ K H a δC->ρG->sp [.ref a] H ϊk λ_ _ _=>False)
  (hCX:∀H e s',CX [] H s₁ ϋD e s'->False) :
  codeAny Ϛ ηB ρw πR s₁:=by
 have rv:=pN hi
 have O:=hi.length
 have aT:a∉ts:=λz=>by
  have:=hT a z;rw[ha] at this
  show 8
 have E:∀H:Hp,(∀b,b∉ts->H b=none\/∃o xs,H b=some (.frz o γV))->ρG->b_ K H a δC->Er P w H s₁.heap->(∀b,H b≠none->b=a\/b∈ts)->(H a≠none->K.lookup a=none) →
   codeAny Ϛ ηB ρw πR s₁:=by
  intro H hO J hS hok hA hK
  have g:∀{b:Addr}{o:Obj},s₁.heap.get? b=some o->H b=none->(Gk ηZ H).get? b=some o:=λe n=>Ac e n
  have R:∀{b:Addr}{o:Obj}{es:υG}{ep:Nat},s₁.heap.get? b=some o->o.data=.dict es ep->H b=none:=λ{b o es ep} e d=>by
   cases q:H b with
   | none=>rfl
   | some u =>
    rcases hA b (by rw[q];simp) with e' | e'
    ·subst e'
     rw[ha] at e;cases e
     have d':Data.seq δt _=Data.dict es ep:=d
     cases d'
    ·rw[hT b e'] at e;cases e
     cases d
  have j:∀{b:Addr}{m:Ϡ},s₁.heap.Ns b m->(Gk ηZ H).Ns b m:=λ{b m} ⟨o,es,ep,e,d,r⟩=>#[o,es,ep,g e (R e d),d,r]
  have G:K.In 95e0:=λb o e=>g (KX b o e) (by
   cases q:H b with
   | none=>rfl
   | some u =>
    rcases hA b (by rw[q];simp) with e' | e'
    ·subst e'
     rw[hK (by rw[q];simp)] at e;cases e
    ·rw[hTK b e'] at e;cases e)
  have hM:Mg K mg 95e0:=#[G,j hns,#[mb,j hb,hbb],let ⟨mc,h1,h2⟩:=hlim;#[mc,j h1,h2]]
  have e0:Eh P w K mg υu ηB [] s₁ H:=#[rfl,hM,λb o e=>Bx e,Py (xP _ _),π0,λb hb=>absurd (show b∈([]:List Addr) from hb) ό,hok,.of_eq hg]
  have Q:∀p∈ts,mainGlobals≠p/\(Gk ηZ H).BuiltinsAt mg p:=λp hp=>by
   refine #[λz=>?_,?_]
   ·obtain⟨o,es,ep,ho,hd,_⟩:=hns
    rw[z,hT p hp] at ho
    cases ho
    cases hd
   obtain⟨bm,ob,b1,b2,b3,b4,b5,b6⟩:=hbm;refine #[bm,ob,b1,b2,λz=>?_,λz=>?_,g b3 ?_,b4,b5,b6]
   ·obtain⟨o,es,ep,ho,hd,_⟩:=hns
    rw[z,ho] at b3
    cases b3;rw[b6] at hd
    cases hd
   ·rw[z,hT p hp] at b3
    cases b3
    cases b6
   ·cases q:H bm with
    | none=>rfl
    | some u =>
     rcases hA bm (by rw[q];simp) with e' | e'
     ·rw[e',ha] at b3
      cases b3
      cases b6
     ·rw[hT bm e'] at b3
      cases b3
      cases b6
  refine KS ((F _ G (j hns) Q).run ηB [] s₁ H #[[.ref a],[]] [.ref a] [.ref a] _ _ hr e0 (hbind s₁ ε0) όI (hsp H hS J)) λr s' h=>?_
  cases r with
  | error e=>exact(hCX H e s' h).elim
  | ok fl =>
   cases fl with
   | next=>exact False.elim h
   | brk=>exact False.elim h
   | cont=>exact False.elim h
   | ret u =>
    obtain⟨v,H',os,bare,un,C,r',q⟩:=h
    have q':v=.bl true:=q;subst q';obtain rfl:u=MO true:=r';refine #[rfl,#[λb o e=>?_,λb o e=>un.there b o e ό],os,bare]
    by_cases hb:b∈ts
    ·obtain⟨more,z⟩:=un.tbls b _ (J b hb)
     have z2:s'.heap.get? b=some _:=C b _ z;rw[hT b hb] at e
     cases e;obtain⟨cc,T⟩:=hTc b hb;exact .inr (.inl #[((Rt KX T).tab (hT b hb)).isCodeTable,rfl,#[],more,rfl,z2])
    refine .inl ?_
    cases q:H b with
    | none=>exact un.keep b o e q (by intro z;exact absurd (show b∈([]:List Addr) from z) ό) (by simp)
    | some u =>
     rcases hO b hb with z | ⟨ob,xs,z⟩
     ·rw[q] at z;cases z
     ·have z2:=un.frzs b ob _ z
      obtain⟨e1,_⟩:=hok b _ z;obtain⟨e2,_⟩:=C b _ z2;rw[e] at e1;cases e1;exact e2
 have tab:∀(H:Hp) b,b∈ts->r_ P w H ηZ b 76e4:=λH b hb=>hT b hb
 cases hk:K.lookup a with
 | some o =>
  have e:=KX a o hk;rw[ha] at e
  cases e;refine E (λb=>if b∈ts then some πu else none) (λb hb=>.inl (if_neg hb)) ϊl (.inr #[_,δt,_,hk,rfl,rfl,rfl,by rw[Ey,O];exact hl,by simpa using rv]) ύs ώH λz=>absurd (if_neg aT) z
  ·by_cases hb:b∈ts
   ·have z':=(if_pos hb).symm.trans z
    cases z';exact tab _ b hb
   ·have z':=(if_neg hb).symm.trans z
    cases z'
  ·by_cases hb:b∈ts
   ·exact .inr hb
   ·exact absurd (if_neg hb) z
 | none =>
  refine E (λb=>if b∈ts then some πu else if b=a then some (.frz { cls:=.type "list",data:=.seq δt } (.lst δC)) else none) υP ϊl (.inl (.inr #[{ cls:=.type "list",data:=.seq δt },(if_neg aT).trans (if_pos rfl)])) ύs ώH λ_=>hk
  ·by_cases hb2:b=a
   ·exact .inr #[_,_,(if_neg hb).trans (if_pos hb2)]
   ·exact .inl Φo
  ·by_cases hb:b∈ts
   ·have z':=(if_pos hb).symm.trans z
    cases z';exact tab _ b hb
   ·have z':=(if_neg hb).symm.trans z
    by_cases hb2:b=a
    ·have D:=(if_pos hb2).symm.trans z'
     cases D;subst hb2;exact #[ha,by rw[o_];exact hl,vs,_,rv,ha]
    ·have D:=(if_neg hb2).symm.trans z'
     cases D
  ·by_cases hb:b∈ts
   ·exact .inr hb
   ·by_cases hb2:b=a
    ·exact .inl hb2
    ·exact absurd Φo z
theorem Ii {l:R8}{n k:Nat}{q:Ϧ}{loose:ώ}{XP:ρL}{YP:υh}{d:DefRec}{K:Params->n_}{CX:World->Iw}{sp:World->Sp}{ts:Ξ}
  (hn:χ8) (hn2:δE) (hdf:τG) (hr:DC k ηB)
  (hY:Γm)
  (F:∀(w:ϡ) (mg:Ϡ) (fa:Addr) (h:Heap),(K μQ).In h->h.Ns εp mg->mg d.name=some ζm →
   ∃fd:FuncData,(∀(s:ν) (u:θ),BindsTo s fd νc [(x,u)])/\Ξa/\ΘI ∧
    ∀base:Heap,(K μQ).In base->base.Ns εp mg->Θ2->EI l.prog w ιr mg base (CX w) k fa fd [x] (sp w))
  (hsp:∀(w:ϡ) (H:Hp) (a:Addr) (ns:γz),ns.length<=n->b_ ιr H a δC->ρG->sp w [.ref a] H ϊk λ_ _ _=>False)
  (hCX:∀(w:ϡ) (H:Hp) (s:ν) (e:θ) (s':ν),CX w [] H s ϋD e s'->False) :
  Qo q loose XP YP ξZ d [] 91e8:=by
 refine Att.GY hn hdf λw s₀ s₁ mg mb fa o pm cd U a vs ns G Y ho hd R Q D C j hg=>?_;obtain⟨KX,hT⟩:=hY w _ Y;obtain⟨fd,hb,O,E,hF⟩:=F w mg fa _ KX G.T.g Q;exact yQ KX G.T.g G.T.b G.T.builtins G.T.nolimit hg D C (DK j hn2) hr hT O E G.T.bmain hF hb (λH hS J=>hsp w H a ns j hS J) λH e s'=>hCX w H s₁ e s'
end L2
namespace L2
open PySem PySem.W PyProof.Rows
section
variable {α β:Type}{n:Nat}{lt:Nat->Nat->Bool}
def E9 (n:Nat) (lt:Nat->Nat->Bool):KasT α->(α->Prop)->Prop
 | .ret a,Q=>Q a
 | .ask i j k,Q=>i < n/\j < n/\E9 n lt (k ψF) Q
theorem E9.bind {f:α->KasT β}{Q:β->Prop}:∀(t:KasT α),E9 n lt t (λa=>E9 n lt (f a) Q)->E9 n lt (t.bind f) Q
 | .ret _,h=>h
 | .ask _ _ k,h=>⟨h.1,h.2.1,E9.bind (k _) h.2.2⟩
theorem E9.mono {Q Q':ψG} (hq:∀a,Q a->Q' a):∀(t:KasT α),E9 n lt t Q->E9 n lt t Q'
 | .ret a,h=>hq a h
 | .ask _ _ k,h=>⟨h.1,h.2.1,E9.mono hq (k _) h.2.2⟩
theorem E9.wp {cmp:Nat->Nat->(Bool->Shared->Prop)->Shared->Prop}{R:όC}{s:ν} (hc:∀i j (C:ϋE),i < n->j < n->C ψF s->cmp i j C s):∀(t:KasT α),E9 n lt t (λa=>R a s)->t.kasWp cmp R s
 | .ret _,h=>h
 | .ask i j k,h=>hc i j _ h.1 h.2.1 (E9.wp hc (k ψF) h.2.2)
end
structure Pm (n:Nat) (p:ηx):Prop where
 pm:p.Perm (p_ n).toArray
section
variable {n:Nat}{p:Array Nat}{z:Nat->Int}
theorem Pm.size (h:ε3):p.size=n:=by rw[h.pm.size_eq];simp
theorem Pm.lt (h:ε3) (hn:ε6) (i:Nat):p.getD i 0 < n:=by
 by_cases hi:i < p.size
 ·have e:p.getD i 0=p[i]:=by simp[MJ,hi]
  rw[e]
  have:=(N4.mp h.pm).mem_iff.mp (show p[i]∈p.toList by simp)
  simpa using this
 ·have e:p.getD i 0=0:=by simp[MJ,hi]
  rw[e];exact hn
theorem Pm.inj (h:ε3) {i j:Nat} (hi:i < n) (hj:j < n) (e:p.getD i 0=p.getD j 0):i=j:=by
 have hs:=h.size
 have nd:p.toList.Nodup:=(N4.mp h.pm).nodup_iff.mpr (by simpa using Kx)
 have e1:p.getD i 0=p.toList[i]'(by simpa[hs] using hi):=by simp[MJ,hs,hi]
 have e2:p.getD j 0=p.toList[j]'(by simpa[hs] using hj):=by simp[MJ,hs,hj]
 rw[e1,e2] at e
 by_cases q:i=j
 ·exact q
 ·exact absurd e (by
   rcases Nat.lt_or_gt_of_ne q with q | q
   ·exact PP.mp nd i j _ _ q
   ·exact λz=>PP.mp nd j i _ _ q εn)
def Kz (z:γC) (p:ηx) (i:Nat):Int:=z (p.getD i 0)
def Up (z:γC) (p:ηx) (m:Nat):Prop:=∀i j,i < j->j < m->Kz z p i < Kz z p j
def Dn (z:γC) (p:ηx) (m:Nat):Prop:=∀i j,i < j->j < m->Kz z p j < Kz z p i
theorem rK {q:ηx}{i j:Nat} (h:p[i]?=q[j]?):Kz z p i=Kz z q j:=by
 unfold Kz;rw[Rg,Rg,h]
theorem Pm.ne (h:ε3) (hn:ε6) (hz:ζq) {i j:Nat} (hi:i < n) (hj:j < n) (ij:i≠j):Kz z p i≠Kz z p j:=λe=>ij (h.inj hi hj (hz _ _ (h.lt hn _) (h.lt hn _) e))
theorem Pm.rev (h:ε3) (i j:Nat):Pm n (kas_rev p i j):=#[(mirror_perm p i j _).trans h.pm]
theorem Pm.bub (h:ε3) (i j:Nat):Pm n (bubble p i j):=#[(bubble_perm p i j).trans h.pm]
variable (z) in
abbrev GL:Nat->Nat->Bool:=λi j=>decide (z i < z j)
theorem sM (h:ε3) (hn:ε6) (hz:ζq):∀(f m:Nat),1<=m->m+f<=n->Up z p m->E9 n ηE (kas_asc p f m) λm'=>m<=m'/\m'<=m+f/\Up z p m'/\(m'=m+f\/Kz z p m' < Kz z p (m' - 1))
 | 0,m,_,_,u=>⟨y_ _,y_ _,u,.inl rfl⟩
 | f+1,m,h1,hm,u=>by
  refine ιN
  show 264
  ·rw[show GL z μb θu=true from decide_eq_true c]
   show 60;exact #[y_ _,by omega,u,.inr c]
  ·rw[show GL z μb θu=false from decide_eq_false c]
   show 133
   have c':Kz z p ιg < Kz z p m:=by
    show 265
    omega
   refine E9.mono (λm' q=>#[by omega,by omega,q.2.2.1,?_]) _ (sM h hn hz f (m+1) γ γ λi j g hj=>?_)
   ·rcases q.2.2.2 with q | q
    ·exact .inl γ
    ·exact .inr q
   ·by_cases hjm:j < m
    ·exact u i j g hjm
    ·obtain rfl:j=m:=by omega
     show 266
     ·rw[him];exact c'
     ·exact N7 ΞH c'
theorem vJ (h:ε3) (hn:ε6) (hz:ζq):∀(f m:Nat),1<=m->m+f<=n->Dn z p m->E9 n ηE (kas_desc f p m 0) λr=>r.1=p/\r.2.2=0/\m<=r.2.1/\r.2.1<=m+f/\Dn z p r.2.1
 | 0,m,_,_,u=>⟨rfl,rfl,y_ _,y_ _,u⟩
 | f+1,m,h1,hm,u=>by
  refine ιN
  show 264
  ·rw[show GL z μb θu=true from decide_eq_true c]
   show 11;rw[if_pos rfl,if_neg ε]
   refine E9.mono (λr q=>#[q.1,q.2.1,by omega,by omega,q.2.2.2.2]) _ (vJ h hn hz f (m+1) γ γ λi j hij hj=>?_)
   by_cases hjm:j < m
   ·exact u i j hij hjm
   ·obtain rfl:j=m:=by omega
    show 266
    ·rw[him];exact c
    ·exact N7 c ΞH
  ·rw[show GL z μb θu=false from decide_eq_false c]
   show 133
   have c':Kz z p ιg < Kz z p m:=by
    show 265
    omega
   refine ιN;rw[show GL z θu μb=true from decide_eq_true c'];show 60;exact #[rfl,rfl,y_ _,KA _ _,u]
theorem CM (h:ε3) {m:Nat} (hm:m<=n) (u:Dn z p m):Up z ύt m:=by
 intro i j s hj
 have g:∀k,k < m->Kz z ύt k=Kz z p (m - 1 - k):=λk hk=>by
  refine rK ?_;unfold kas_rev;rw[getElem?_mirror_all (by rw[h.size];exact hm),if_pos #[EO _,hk],NT]
 rw[g i γ,g j hj]
 exact u _ _ γ γ
theorem Au (h:ε3) (hn:ε6) (hz:ζq) {m:Nat} (h1:1<=m) (hm:m<=n) (u:Dn z p m):E9 n ηE (kas_tail3 m n p) λr=>Pm n r.2/\1<=r.1/\r.1<=n/\Up z r.2 r.1:=by
 unfold kas_tail3;refine E9.bind _ (E9.mono (λm' q=>?_) _ (sM (h.rev 0 m) hn hz (n - m) m h1 γ (CM h hm u)))
 exact #[h.rev 0 m,by omega,by omega,q.2.2.1]
theorem Av (h:ε3) (h2:2<=n) (hz:ζq):E9 n ηE (kas_count n p) λr=>Pm n r.2/\1<=r.1/\r.1<=n/\Up z r.2 r.1:=by
 have hn:0 < n:=by omega
 unfold kas_count;refine E9.bind _ (E9.mono (λm q=>?_) _ (sM h hn hz π1 1 (y_ 1) γ λi j _ _=>by omega))
 by_cases e:m=n
 ·rw[if_pos ηh]
  exact Φ8
 ·rw[if_neg ηh]
  by_cases e1:m > 1
  ·rw[if_pos e1]
   refine ιN;rw[show GL z (p.getD 0 0) θu=true from decide_eq_true (q.2.2.1 0 ιg γ γ)]
   show 60;exact Φ8
  ·rw[if_neg e1]
   obtain rfl:m=1:=by omega
   have c:Kz z p 1 < Kz z p 0:=by
    rcases q.2.2.2 with c | c
    ·omega
    ·exact c
   unfold kas_descPart;refine E9.bind _ (E9.mono (λr q'=>?_) _ (vJ h hn hz (n - (1+1)) (1+1) γ γ λi j g hj=>?_))
   ·obtain⟨p',m',q0⟩:=r
    obtain⟨e1,e2,e3,e4,e5⟩:=q';dsimp only at e1 e2 e3 e4 e5 ⊢;subst e1 e2;show 134
    exact Au h hn hz γ γ e5
   ·obtain rfl:j=1:=by omega
    obtain rfl:i=0:=by omega
    exact c
theorem md (h:ε3) (hn:ε6) (hz:ζq) {k:Nat} (hk:k < n) (u:Up z p k):∀(f l r:Nat),r<=l+f->l<=r->r<=k->(∀i,i < l->Kz z p i < Kz z p k)->(∀i,r<=i->i < k->Kz z p k < Kz z p i) →
  E9 n ηE (kas_place p k f l r) λl'=>l'<=k/\(∀i,i < l'->Kz z p i < Kz z p k)/\(∀i,l'<=i->i < k->Kz z p k < Kz z p i)
 | 0,l,r,hf,hl,hr,h1,h2=>by
  show 267
  exact ώ4
 | f+1,l,r,hf,hl,hr,h1,h2=>by
  unfold kas_place
  by_cases e:l ≥ r
  ·rw[if_pos e]
   show 267
   exact ώ4
  ·rw[if_neg e]
   refine ιN
   by_cases c:Kz z p k < Kz z p πE
   ·rw[show GL z (p.getD k 0) ΩW=true from decide_eq_true c]
    show 60;refine md h hn hz hk u f l πE γ γ γ h1 λi hi g=>?_
    show 268
    ·rw[q];exact c
    ·exact N7 c (u _ _ γ g)
   ·rw[show GL z (p.getD k 0) ΩW=false from decide_eq_false c]
    show 133
    have c':Kz z p πE < Kz z p k:=by
     have:=h.ne hn hz (show k < n by omega) (show (l+r) / 2 < n by omega) γ
     omega
    refine md h hn hz hk u f ((l+r) / 2+1) r γ γ hr (λi hi=>?_) h2
    show 268
    ·rw[q];exact c'
    ·exact N7 (u _ _ γ γ) c'
theorem yR (hn:ε6) (hz:ζq):∀(f:Nat) (p:ηx) (k:Nat),Pm n p->k+f<=n->Up z p k->E9 n ηE (kas_bin f p k) λp'=>Pm n p'/\Up z p' (k+f)
 | 0,p,k,h,_,u=>⟨h,u⟩
 | f+1,p,k,h,hk,u=>by
  unfold kas_bin;refine E9.bind _ (E9.mono (λl q=>?_) _ (md h hn hz (show k < n by omega) u k 0 k γ γ Γ (λi hi=>absurd hi (Hl i)) λi h1 h2=>by omega))
  obtain⟨q1,q2,q3⟩:=q;refine E9.mono (λp' q'=>#[q'.1,by rw[show k+(f+1)=k+1+f by omega];exact q'.2]) _ (yR hn hz f _ (k+1) (h.bub k π2) γ λi j hij hj=>?_)
  have g:∀i,Kz z (bubble p k π2) i=if i=l then Kz z p k else if l < i/\i<=k then Kz z p (i - 1) else Kz z p i:=λi=>by
   have e:=getElem?_bubble (xs:=p) (src:=k) (by rw[h.size];omega) π2 γ i
   rw[show k - π2=l by omega] at e
   by_cases c1:i=l
   ·rw[if_pos c1] at e ⊢;exact rK e
   ·rw[if_neg c1] at e ⊢
    by_cases c2:l < i/\i<=k
    ·rw[if_pos c2] at e ⊢;exact rK e
    ·rw[if_neg c2] at e ⊢;exact rK e
  rw[g i,g j]
  repeat' split
  all_goals first
   | (exfalso;omega)
   | exact q2 _ (by omega)
   | exact q3 _ (by omega) (by omega)
   | exact u _ _ (by omega) (by omega)
theorem vK (h2:2<=n) (hz:ζq):E9 n ηE (kas_sort n) λp=>Pm n p/\Up z p n:=by
 unfold kas_sort;refine E9.bind _ (E9.mono (λr q=>?_) _ (Av (p:=(p_ n).toArray) χT h2 hz));obtain⟨m,p⟩:=r;obtain⟨q1,q2,q3,q4⟩:=q;dsimp only at q1 q2 q3 q4 ⊢
 by_cases c:m < n
 ·rw[if_pos c]
  have e:max m 1=m:=by omega
  rw[e];refine E9.mono (λp' q'=>#[q'.1,?_]) _ (yR γ hz (n - m) p m q1 γ q4)
  have:=q'.2
  rwa [show m+(n - m)=n by omega] at this
 ·rw[if_neg c]
  obtain rfl:m=n:=by omega
  exact #[q1,q4]
end
end L2
namespace L2
open PySem PySem.Spec PySem.W PyProof.Rows
section
variable {P:Program}{w:World}{K:n_}{mg:Str->Option Value}{base:Heap}{A A':Around}{outer:List Env}{s s':Shared}{H H':Hp}
theorem Eh.nofr (e0:δB) {b:Addr}{o:Obj} (e:base.get? b=some o):b∉Ff outer:=λhb=>by
 have:=(e0.funs.mem hb).1;show 170
theorem Eh.after (e0:δB) (hA:A'.frames=A.frames) (un:Un δ3 [] H H' Ψ εs) (hok:όd) (bare:ύf) (hsz:s.heap.objs.size<=s'.heap.objs.size):Eh P w K mg base A' Δ s' H':=by
 have g:∀b:Addr,b∉([]:List Addr):=λb=>Fl;refine #[hA.trans οl,e0.mod,λb o e=>?_,DK e0.bsz hsz,?_,λb hb=>?_,hok,bare]
 ·obtain⟨h1,h2⟩:=e0.bs b o e
  exact #[un.keep b o h1 h2 (e0.nofr e) (g b),un.free b o h1 h2 (g b)]
 ·have all:∀(l:γ7),(∀b∈Ff l,b∈Ff Δ)->s.heap.FunFrames base l->s'.heap.FunFrames base l:=by
   intro l
   induction l with
   | nil=>intro _ _;trivial
   | cons env r ih =>
    show 171
    have hL:L∈Ff outer:=hs L ΞT
    obtain⟨sl,e⟩:=un.slot L o ho (e0.frf L hL) hL (g L);exact Γ9
  exact all Δ ύQ οW
 ·obtain⟨_,o,ho,_⟩:=e0.funs.mem hb
  exact un.free b o ho (e0.frf b hb) (g b)
theorem Eh.lt (e0:δB) {b:Addr} (hb:b∈Ff Δ):b < s.heap.objs.size:=by
 obtain⟨_,o,ho,_⟩:=e0.funs.mem hb;exact DS ho
end
def Fq (c:Int) (n:Nat):HO:=.tup [.int c,.int (n:Nat)]
section
variable {P:Program}{w:World}{A:Around}{s:Shared}{H:Hp}
theorem vL {t u:Addr}{c d:Int}{m n:Nat}{Q:ϋE}{E:Ϣ} (hok:υH) (h1:H t=some (Fq c m)) (h2:H u=some (Fq d n)) (hcalm:ζz) (hu:ϋF) (q:Q (decide υ1) s) :
  wpAny Ϛ A (keyLt' υX (.ref t) (.ref u)) Q E s:=by
 obtain⟨_,G,r,ot,e1,e2,n1,e3⟩:=hok t _ h1;obtain⟨_,C,r',ou,g,D,J,j⟩:=hok u _ h2;obtain⟨x,y,rfl,⟨t1,rfl⟩,⟨t2,rfl⟩⟩:=fM r;obtain⟨x',y',rfl,⟨t3,rfl⟩,⟨t4,rfl⟩⟩:=fM r';refine kat_lt e1 e3 g j ?_;refine kat_cons (PU ?_)
 by_cases h:c=d
 ·rw[show (c == d)=true from by simpa using h]
  refine kat_yes (kat_cons (PU ?_))
  by_cases h':m=n
  ·subst h h'
   rw[show (((m:Nat):Int) == ((m:Nat):Int))=true from by simp]
   refine kat_yes (kat_nil ?_)
   have e:decide (c < c\/c=c/\m < m)=false:=decide_eq_false γ
   rw[e] at q;exact q
  ·rw[show (((m:Nat):Int) == ((n:Nat):Int))=false from by
    have:((m:Nat):Int)≠((n:Nat):Int):=by omega
    simpa using this]
   refine kat_no ?_;rw[show (true && (0+1 == 0))=false from rfl];refine kat_one _ _ ?_;refine lt_int ?_
   have e:decide υ1=decide (((m:Nat):Int) < ((n:Nat):Int)):=by
    by_cases z:m < n
    ·rw[decide_eq_true (by omega:((m:Nat):Int) < (n:Nat)),decide_eq_true (.inr #[h,z])]
    ·rw[decide_eq_false (by omega:¬ ((m:Nat):Int) < (n:Nat)),decide_eq_false γ]
   show 135
 ·rw[show (c == d)=false from by simpa using h]
  refine kat_no ?_;rw[show (true && (0 == 0))=true from rfl];refine oneLt_int ?_
  have e:decide υ1=decide (c < d):=by
   by_cases z:c < d
   ·rw[decide_eq_true z,decide_eq_true (.inl z)]
   ·rw[decide_eq_false z,decide_eq_false γ]
  rw[e] at q;exact q
def F4 (ck:γC) (m n:Nat):Prop:=ck m < ck n\/ck m=ck n/\m < n
instance (ck:Nat->Int) (m n:Nat):Decidable (F4 ck m n):=inferInstanceAs (Decidable (_\/_/\_))
def EK (H:Hp) (ck:γC):List Nat->List Value->Prop
 | [],[]=>True
 | n :: ns,k :: ks=>(∃t,k=.ref t/\H t=some πA)/\EK H ck ns ks
 | _,_=>False
theorem EK.snoc {ck:γC}{n:Nat}{t:Addr} (h:H t=some πA):∀{ns:η}{ks:χ},EK H ck ns ks->EK H ck (ns++[n]) (ks++[.ref t])
 | [],[],_=>⟨⟨t,rfl,h⟩,π0⟩
 | [],_ :: _,z=>z.elim
 | _ :: _,[],z=>z.elim
 | _ :: _,_ :: _,z=>⟨z.1,EK.snoc h z.2⟩
theorem EK.imp {H':Hp}{ck:γC} (h:∀t xs,H t=some δa->H' t=some δa):∀{ns:η}{ks:χ},EK H ck ns ks->EK H' ck ns ks
 | [],[],_=>trivial
 | [],_ :: _,z=>z.elim
 | _ :: _,[],z=>z.elim
 | _ :: _,_ :: _,⟨⟨t,e,z⟩,r⟩=>⟨⟨t,e,h t _ z⟩,EK.imp h r⟩
theorem EK.length {ck:γC}:∀{ns:η}{ks:χ},EK H ck ns ks->ks.length=ns.length
 | [],[],_=>rfl
 | [],_ :: _,z=>z.elim
 | _ :: _,[],z=>z.elim
 | _ :: _,_ :: _,z=>by rw[F6,F6,EK.length z.2]
theorem EK.get {ck:γC}:∀{ns:η}{ks:χ}{i:Nat},EK H ck ns ks->i < ns.length->∃t,ks.getD i Jy=.ref t/\H t=some (Fq (ck ζ4) ζ4)
 | [],_,i,_,hi=>absurd hi (Hl i)
 | _ :: _,[],_,z,_=>z.elim
 | _ :: _,_ :: _,0,⟨⟨t,e,z⟩,_⟩,_=>⟨t,e,z⟩
 | _ :: ns,_ :: ks,i+1,z,hi=>EK.get (ns:=ns) (ks:=ks) (i:=i) z.2 εx
theorem EK.tups {ck:γC} (hok:υH):∀{ns:η}{ks:χ},EK H ck ns ks->∃fs:List Value,KatTups Ψ ks fs/\fs.length=ns.length/\∀v∈fs,∃i t,v=HY i t
 | [],[],_=>Θx
 | [],_ :: _,z=>z.elim
 | _ :: _,[],z=>z.elim
 | _ :: ns,_ :: ks,⟨⟨t,e,z⟩,r⟩=>by
  obtain⟨fs,h1,h2,h3⟩:=EK.tups hok r;show 269;subst e;refine ΓG
  rcases DH.mp hv with rfl | hv
  ·exact εo
  ·exact h3 v hv
def Jq (ck:γC) (ns:η) (B:Int) (i:Nat):Int:=ck ζ4 * B+(ns.getD i 0:Nat)
theorem ni {ck:γC}{ns:η}{B:Nat} (hB:ξz) {i j:Nat} (hi:i < γP) (hj:j < γP):Jq ck ns B i < Jq ck ns B j ↔ F4 ck ζ4 40e1:=by
 have mem:∀i,i < ns.length->ns.getD i 0 < B:=λi h=>hB _ (by rw[t_,s_ h];exact GM h)
 have a:=mem i hi
 have b:=mem j hj;unfold Jq F4;generalize ns.getD i 0=m at a;generalize ns.getD j 0=n at b;generalize ck m=c;generalize ck n=d
 constructor
 ·intro h
  rcases Int.lt_trichotomy c d with z | z | z
  ·exact .inl z
  ·subst z;exact .inr #[rfl,by omega]
  ·exfalso
   have:(d+1) * (B:Int)<=c * B:=Q6 γ γ
   show 270
 ·intro h
  rcases h with z | ⟨rfl,z⟩
  ·have:(c+1) * (B:Int)<=d * B:=Q6 γ γ
   show 270
  ·omega
end
end L2
namespace L2
open PySem PySem.Spec PySem.W PyProof.Rows
section
variable {fs ex:List Addr}{H H':Hp}{h h' h'':Heap}{x:Addr}{P:Program}{w:World}
theorem Un.turn (u:ϋG) (hx:ώ5) (k:∀b o,b≠x->h'.get? b=some o->h''.get? b=some o):Un fs ex H H' h h'' where
 keep:=λb o e n hb he=>k b o ξn (u.keep b o e n hb he)
 slot:=λb o e n hb he=>let ⟨sl,z⟩:=u.slot b o e n hb he;#[sl,k b _ ξn z]
 free:=u.free
 there:=λb o e he=>let ⟨o',z⟩:=u.there b o e he;#[o',k b _ ξn z]
 tups:=u.tups
 frzs:=u.frzs
 tbls:=u.tbls
theorem Er.turn (ok:γM) (hx:οS) (k:∀b o,b≠x->h.get? b=some o->h'.get? b=some o):Er P w H h':=λb o e=>by
 have ne:∀c u,H c=some u->c≠x:=λc u e z=>by rw[z,hx] at e;cases e
 refine(ok b o e).stay (λc v hc q=>k c v ?_ q) (λ_ q=>q) λ_ _ q=>q;rcases hc with z | z
 ·rw[z];exact ne b o e
 ·exact ne c _ z
theorem Un.trk {o:HO} (u:ϋG) (hx:ώ5) (n:H' x=none):Un fs ex H (upd H' x o) h h' where
 keep:=u.keep
 slot:=u.slot
 free:=λb q e m he=>by
  rw[ae ξn];exact u.free b q e m he
 there:=u.there
 tups:=λb xs e=>by
  have z:=u.tups b xs e;rw[ae ψH];exact z
 frzs:=λb q v e=>by
  have z:=u.frzs b q v e;rw[ae ψH];exact z
 tbls:=λb ps e=>by
  obtain⟨m,z⟩:=u.tbls b ps e;exact #[m,by rw[ae ψH];exact z]
theorem Er.trk {o:HO} (ok:γM) (n:οS) (new:r_ P w ζ5 h x o):Er P w ζ5 h:=λb u e=>by
 by_cases hb:b=x
 ·show 168
 ·rw[ae hb] at e
  exact(ok b u e).stay υv (λc q=>by rw[ae (al q n)];exact q) λc xs q=>by rw[ae (al q n)];exact q
end
def cC (ns:η):List V:=ns.map λn=>.int ((n:Nat):Int)
theorem iZ {ns:η}{vs:χ} (r:ξQ):vs.length=ns.length/\∀i,i < ns.length->∃t,vs.getD i Jy=HY (ns.getD i 0:Nat) t:=by
 have hl:=οJ;unfold cC at hl;rw[o_] at hl;refine #[hl.symm,λi hi=>?_]
 obtain⟨u,h1,t,rfl⟩:=r.get (i:=i) (x:=.int ((ns.getD i 0:Nat):Int)) (by
  unfold cC;rw[DO,s_ hi,t_,s_ hi]
  rfl)
 exact #[t,by rw[t_,h1];rfl]
section
variable {P:Program}{w:World}{K:n_}{mg:Str->Option Value}{base:Heap}{A:Around}{outer:List Env}{s:Shared}{H:Hp}{k:Nat}{sp:KI}{l fa:Addr}{vs:List Value}{ns:List Nat}{ck:Nat->Int}{B:Nat}{Q:VK}{E:Value->Shared->Prop}
theorem yS {s':ν}{H':Hp}{D kS:Addr}{ks:χ}{e e1:Nat}{R:ΩA} (hA:ζz) (hAu:ϋF) (r:ξQ) (nd:ψI) (hB:ξz) (h64:υY)
  (hok:όd) (hD:s'.heap.get? D=some ξ2) (hk:s'.heap.get? kS=some Ψd) (hDk:D≠kS) (hK:EK H' ck ns ks)
  (fin:∀(h':Heap) (ms:η) (out:χ) (c:Nat),(∀b o,b≠D→b≠kS→s'.heap.get? b=some o→h'.get? b=some o)→h'.get? D=some (seqObj "list" out.toArray c)→h_ (cC ms) out→ms.Perm ns→ms.Pairwise θY→R ϊK { s' with heap:=h' }) :
  wpAny Ϛ A (ksk_end D υ δt e1 οu ks.toArray) R E s':=by
 obtain⟨G,an⟩:=iZ r
 have aw:=hK.length
 have tail:∀(st:SortSt) (p:ηx),Pm γP p->arrOf st=p.map Ξf->failedOf st=none->(∀i j,i < j->j < ns.length->F4 ck (ns.getD (p.getD i 0) 0) (ns.getD (p.getD j 0) 0))->wpAny Ϛ A (ksk_tail D υ e1 οu st) R E s':=by
  intro st p hp O hf ad
  have Z:=kat_snds (ks:=ks) (vs:=vs) γ O
  have Y:=hp.size
  have s1:=Kr εs kS δd
  have U:(s'.heap.update kS δd).get? D=some 61e2:=(s1.2 D hDk).trans hD
  have s2:=Kr (s'.heap.update kS δd) D ΘN
  obtain⟨c2,J⟩:∃c2,((s'.heap.update kS (Obj.mapSeq λ_=>(#[]:Array Value))).update D (Obj.mapSeq λ_=>(arrOf st).map (·.2))).get? D=some (seqObj "list" ((arrOf st).map (·.2)) c2):=#[_,get?_update_seq U λ_=>(arrOf st).map (·.2)]
  unfold ksk_tail;show 6
  refine q_ (listUpdate_at hk rfl ?_ 46e9 η3)
  refine q_ οX;refine q_ (seqEpoch_at U rfl ?_);simp only[Kt,if_false]
  refine q_ (listUpdate_at U rfl ?_ 30e3 (by
   show 271
   rw[Z,Ey,o_,Ky,Y,ηY];omega))
  rw[hf];simp only[bne_self_eq_false,Kt,if_false]
  have J:=J.trans (congrArg ΞZ Z)
  have pl:p.toList.Perm 185e6:=by simpa using N4.mp hp.pm
  have pin:∀i∈p.toList,i < ns.length:=λi hi=>EF.mp ϋH;refine DY (fin _ (p.toList.map λi=>ns.getD i 0) _ c2 (λb o hb aT q=>?_) J ?_ ?_ ?_)
  ·rw[s2.2 b hb,s1.2 b aT];exact q
  ·unfold cC
   rw[Fa]
   have:∀(ls:η),(∀i∈ls,i < γP)->h_ (ls.map ((λn:Nat=>V.int ((n:Nat):Int)) ∘ λi=>ns.getD i 0)) (ls.map λi=>vs.getD i Jy):=by
    intro ls
    induction ls with
    | nil=>intro _;exact .nil
    | cons i ls ih =>
     intro hl;obtain⟨t,e⟩:=an i (hl i δO);exact .cons #[t,e] (ih λj hj=>hl j (.tail _ hj))
   exact this _ pin
  ·have e0:(p_ γP).map ζu=ns:=by
    apply GZ
    show 136
    show 272
    ·rw[F1 hi,s_ hi,HZ,t_,s_ hi]
     rfl
    ·rw[Fh δf,Fh γ]
     rfl
   have:=pl.map λi=>ns.getD i 0
   rwa [e0] at this
  ·rw[PB,PP]
   intro i j hi hj H
   have:=ad i j H (by rw[Ky,Y] at hj;exact hj)
   have g:∀m (hm:m < p.toList.length),p.getD m 0=p.toList[m]:=λm hm=>by
    have:m < p.size:=by simpa using hm
    simp[MJ,this]
   rw[g i hi,g j hj] at this;show 9
 unfold ksk_end;try dsimp only
 simp only[Kt,if_false]
 by_cases h2:vs.toArray.size < 2
 ·rw[if_pos h2,if_pos h2]
  rw[Ey,G] at h2;refine q_ δU;rw[ύu];refine q_ δU;try dsimp only
  refine tail _ (p_ γP).toArray χT ?_ rfl (λi j H hj=>by omega)
  have e:=kas_range (ks.toArray.zip δt);rw[show (ks.toArray.zip δt).size=ns.length by simp[aw,G]] at e
  rw[e]
 ·rw[if_neg h2,if_neg h2]
  rw[Ey,G] at h2;obtain⟨fs,t1,t2,t3⟩:=hK.tups hok
  refine q_ Δ3
  ·obtain⟨i,t,rfl⟩:=t3 v hv
   exact Looks.of_pure rfl
  rw[show ΨG=true from rfl]
  have hz:∀i j,i < ns.length->j < ns.length->Jq ck ns B i=Jq ck ns B j->i=j:=λi j hi hj e=>by
   have n1:¬ F4 ck ζ4 40e1:=λz=>by have:=(ni hB hi hj).mpr z;omega
   have n2:¬ F4 ck θD 24e2:=λz=>by have:=(ni hB hj hi).mpr z;omega
   have e3:ns.getD i 0=ns.getD j 0:=by
    unfold F4 at n1 n2;generalize ck (ns.getD i 0)=c at n1 n2;generalize ck (ns.getD j 0)=d at n1 n2;omega
   rw[t_,s_ hi,t_,s_ hj] at e3;exact(KC nd).mp e3
  have ask:(kas_sort ψh).kasWp (kas_ask P w A υX ks) (λp s=>s=s'/\Pm γP p/\Up ο1 p γP) s':=by
   rw[G];refine E9.wp (lt:=GL ο1) (n:=γP) ΩB _ ΔI
   obtain⟨t,e1,e2⟩:=hK.get hi;obtain⟨u,e3,e4⟩:=hK.get hj;show 273;refine vL hok e2 e4 hA hAu ?_
   have e5:decide (ck ζ4 < ck 40e1\/ck ζ4=ck θD/\ns.getD i 0 < ns.getD j 0)=GL ο1 i j:=by
    show _=decide _
    rw[όR];exact(ni hB hi hj).symm
   rw[e5];exact q
  refine q_ (Gy (kat_run (Q:=λh s=>∃p:Array Nat,arrOf h=p.map Ξf/\failedOf h=none/\s=s'/\Pm γP p/\Up ο1 p γP) γ γ γ (λp' h s a1 a2 a3 a4=>όe) ask) ?_ λ_ _ x=>x)
  rintro⟨⟨⟩,h⟩ s ⟨p,O,hf,rfl,hp,hu⟩;try dsimp only
  refine tail h p hp O hf λi j H hj=>?_
  have:=hu i j H hj;exact(ni hB (hp.lt γ i) (hp.lt γ j)).mp this
end
end L2
namespace L2
open PySem PySem.Spec PySem.W PyProof.Rows
section
variable {P:Program}{w:World}{K:n_}{mg:Str->Option Value}{base:Heap}{A:Around}{outer:List Env}{s:Shared}{H:Hp}{k:Nat}{sp:KI}{l fa:Addr}{vs:List Value}{ns:List Nat}{ck:Nat->Int}{B:Nat}{Q:VK}{E:Value->Shared->Prop}
structure yT (P:Ϧ) (w:ϡ) (outer:γ7) (s:ν) (H:Hp) (D kS:Addr) (e1:Nat) (ck:γC) (ns:η) (s':ν) (H':Hp) (ks:χ) (e:Nat):Prop where
 os:s'.os=s.os
 bare:AllBare s'.gens
 un:Un δ3 [] H H' Ψ εs
 hok:Er P w H' εs
 same:a_ H H'
 hD:s'.heap.get? D=some ξ2
 nD:H' D=none
 hk:s'.heap.get? kS=some Ψd
 nk:H' kS=none
 keys:EK H' ck ns ks
theorem xo {D kS:Addr}{e1:Nat}{s5:ν}{R:ΩA} (hr:ι2) (e0:δB) (r:ξQ) (nd:ψI) (hB:ξz) (h64:υY)
  (hf:∀(s':ν) (H':Hp) (n:Nat) (x:θ),n∈ns->a_ H H'->Eh P w K mg base A Δ s' H'->Un δ3 [] H H' Ψ s'.heap->f_ τJ x->codeAny Ϛ A ΦO Γb s')
  (nDs:s.heap.objs.size<=D) (nks:s.heap.objs.size<=kS) (hDk:D≠kS) (S5:yT P w Δ s H D kS e1 ck [] s5 H [] 0)
  (fin:∀(s':ν) (H':Hp) (ms:η),s'.os=s.os->AllBare s'.gens->Un δ3 [] H ιS Ψ s'.heap->Er P w ιS s'.heap->a_ H H'->H' D=none->ms.Perm ns->ms.Pairwise θY->R ϊK s') :
  wpAny Ϛ A (ksk_rest D ζm υ δt e1 οu) R E s5:=by
 obtain⟨C,ad⟩:=iZ r
 have g:∀b:Addr,b∉([]:List Addr):=λb=>Fl
 have U:∀{s':ν},(∃o,s'.heap.get? D=some o)->s.heap.objs.size<=s'.heap.objs.size:=λ{s'} ⟨o,z⟩=>DK nDs (IF (DS z))
 have aw:D∉Ff outer:=λz=>absurd (e0.lt z) (MQ.mpr nDs)
 have an:kS∉Ff outer:=λz=>absurd (e0.lt z) (MQ.mpr nks);unfold ksk_rest;refine q_ ύn;rw[<- Array.forIn_toList];refine q_ (ksk_fold (I:=λj s'=>∃H' ks e,yT P w Δ s H D kS e1 ck (ns.take j) s' H' ks e) vs 0 s5 #[H,[],0,S5] (λj x s' hx hI=>?_) λs' hI=>?_)
 ·obtain⟨H',ks,e,S⟩:=hI
  rw[NT] at S ⊢
  have hj:j < ns.length:=by rw[<- C];exact(ET.mp hx).1
  have hn:ns.getD j 0∈ns:=by rw[t_,s_ hj];exact GM hj
  obtain⟨t,ex⟩:=ad j hj;rw[t_,hx] at ex
  have ex:x=_:=ex
  have T:=e0.after (A':=A) rfl S.un S.hok S.bare (U #[_,S.hD])
  have hc:=hf s' H' _ x hn S.same T S.un #[t,ex];refine q_ (wpAny_attempt (KZ (KS hc λrs h hq=>?_)))
  cases rs with
  | error _=>exact False.elim hq
  | ok fl =>
   cases fl with
   | next=>exact False.elim hq
   | brk=>exact False.elim hq
   | cont=>exact False.elim hq
   | ret u =>
    obtain⟨v,H'',os,bare,un,hok,rv,q⟩:=hq;obtain⟨ta,rfl,O,sm⟩:=q;obtain rfl:u=.ref ta:=rv
    have Z:=un.keep D _ S.hD S.nD aw (g D)
    have G:=un.keep kS _ S.hk S.nk an (g kS)
    have a1:=un.free D _ S.hD S.nD (g D)
    have Q:=un.free kS _ S.hk S.nk (g kS)
    have s1:=Kr h.heap kS Φp
    have k1:∀b o,b≠kS->h.heap.get? b=some o->(h.heap.update kS Φp).get? b=some o:=λb o hb z=>(s1.2 b hb).trans z
    have ea:(O_ ks).push πG=O_ (ks++[.ref ta]):=by simp
    have J:=ώI;rw[Hu,Oj γ] at J
    obtain⟨c2,Y⟩:∃c2,(h.heap.update kS (Obj.mapSeq (·.push (.ref ta)))).get? kS=some (seqObj "list" (O_ (ks++[.ref ta])) c2):=#[_,by rw[← ea];exact get?_update_seq G (·.push πG)]
    show wpAny _ _ (do Builtin.List.listUpdate οu (·.push πG);pure (ForInStep.yield PUnit.unit)) _ _ _
    refine q_ (listUpdate_at G rfl ?_ 46e9 (DK (Py (Array.size_push ..)) ιJ))
    refine DY #[rfl,H'',ks++[.ref ta],c2,os.trans S.os,bare,(S.un.trans un).turn nks k1,hok.turn Q k1,λb o z=>sm b o (S.same b o z),(k1 D _ hDk Z),a1,Y,Q,?_];rw[List.take_succ,s_ hj]
    have eg:ns.getD j 0=ns[j]:=by rw[t_,s_ hj];rfl
    rw[eg] at O;exact EK.snoc O (S.keys.imp λt xs z=>un.tups t xs z)
 ·obtain⟨H',ks,e,S⟩:=hI
  rw[NT,C,Ks] at S
  have J:=ώI;refine q_ (listItems_at S.hk rfl ?_);refine yS hr.hd hr.units r nd hB h64 S.hok S.hD S.hk hDk S.keys λh' ms a0 c kp hD rv pm pw=>?_
  have u1:Un δ3 [] H H' Ψ h':=#[λb o z n hb he=>?_,λb o z n hb he=>?_,S.un.free,λb o z he=>?_,S.un.tups,S.un.frzs,S.un.tbls]
  have aT:Er P w H' h':=λb o z=>by
   have ne:∀c u x,H' x=none->H' c=some u->c≠x:=λc u x n z y=>by rw[y,n] at z;cases z
   refine(S.hok b o z).stay (λc v hc q=>?_) (λ_ q=>q) λ_ _ q=>q;rcases hc with rfl | y
   ·exact kp c v (ne c o _ S.nD z) (ne c o _ S.nk z) q
   ·exact kp c v (ne c _ _ S.nD y) (ne c _ _ S.nk y) q
  refine fin _ H' ms S.os S.bare (u1.trk nDs S.nD) (aT.trk S.nD #[?_,a0,c,rv,hD]) S.same S.nD pm pw
  ·unfold cC
   rw[o_,ο2,ηY];omega
  ·exact kp b o τK τL (S.un.keep b o z n hb he)
  ·obtain⟨sl,y⟩:=S.un.slot b o z n hb he
   exact #[sl,kp b _ τK τL y]
  ·obtain⟨o',y⟩:=S.un.there b o z he
   exact #[o',kp b _ τK τL y]
theorem yU (hr:DC (k+2) A) (e0:δB) (hl:s.heap.IsList l δt) (r:ξQ) (nd:ψI) (hB:ξz) (h64:υY)
  (hf:∀(s':ν) (H':Hp) (n:Nat) (x:θ),n∈ns->a_ H H'->Eh P w K mg base οv Δ s' H'->Un δ3 [] H H' Ψ s'.heap->f_ τJ x->codeAny Ϛ οv ΦO Γb s')
  (hq:∀(D:Addr) (H':Hp) (ms:η),H D=none->H' D=none->a_ H H'->ms.Perm ns->ms.Pairwise θY->Q γ4 ιS) :
  wpAny Ϛ A (call ξm [.ref l] [ϋI]) (λu s'=>CE Δ P w H s Q u s') E s:=by
 obtain⟨R,T⟩:=iZ r;refine call_function_entry_kw kind_sorted plain_sorted χp (ksk_s1 _ _) ?_;unfold Builtin.«sorted»
 refine q_ (m:=checkCount "sorted" 1 1 _) δU
 refine q_ Θi
 refine q_ ΞI
 have h:((s.heap.push γQ).update Φ ζr).objs.size=s.heap.objs.size+1:=by
  rw[Pf,χU]
 have g:(((s.heap.push γQ).update Φ ζr).push ζs).get? ϙ=some 26e6:=by
  rw[<- h];exact Fm _ rfl
 have keep:∀b o,s.heap.get? b=some o→(((s.heap.push γQ).update Φ ζr).push ζs).get? b=some o:=λb o q=>by
  have C:b < s.heap.objs.size:=DS q;rw[N8 _ _ _ (by rw[h];exact Ea (Gp C)),Ql _ _ _ _ (Ea C),N8 _ _ _ (Ea C)]
  exact q
 show wpAny _ _ _ _ _ { s with heap:=((s.heap.push γQ).update s.heap.objs.size ζr).push ζs }
 rw[h]
 generalize (((s.heap.push (seqObj "list" #[] 0)).update s.heap.objs.size (Obj.mapSeq (· ++ vs.toArray))).push (seqObj "list" vs.toArray 0))=h2 at g keep
 refine q_ (Gz (wpAny_call_entry_kw ώ7 #[_,g,rfl] ύv ?body (ksk_l1 _ _)))
 show wpAny Ϛ οv (Builtin.«list.sort» #[[.ref ϙ],[ϋI]]) _ _ _
 rw[ksk_t1];unfold ksk_tree
 have s1:=Kr h2 ϙ δd
 obtain⟨e1,J⟩:∃e1,(h2.update (s.heap.objs.size+1) (Obj.mapSeq λ_=>(#[]:Array Value))).get? (s.heap.objs.size+1)=some (seqObj "list" #[] e1):=#[_,get?_update_seq g λ_=>#[]]
 refine q_ (listItems_at g rfl ?_);refine q_ (listUpdate_at g rfl ?_ 46e9 η3)
 refine q_ (seqEpoch_at J rfl ?_);refine q_ ΓY
 refine q_ υZ;refine Gz ?_
 have G:∀b o,s.heap.get? b=some o→(((h2.update ϙ δd).push ηb).push γQ).get? b=some o:=λb o q=>by
  show 274
 have O:s.heap.objs.size+1 < h2.objs.size:=DS g
 have j:((h2.update ϙ δd).push ηb).objs.size=h2.objs.size+1:=by rw[χU,Pf]
 have fr:∀a,s.heap.objs.size<=a->H a=none:=λa z=>e0.hok.fresh z
 refine xo (D:=s.heap.objs.size+1) (A:=οv) (outer:=Δ) (s:=s) (H:=H) (s5:={ s with heap:=((h2.update ϙ δd).push ηb).push γQ }) (kS:=((h2.update ϙ δd).push ηb).objs.size) hr.in1.in1 (e0.after rfl Un.refl e0.hok e0.bare Γ) r nd hB h64 hf θa (by have:=j;omega) (Ea (by have:=j;omega))
  #[rfl,μC,Un.kept G,e0.hok.kept G,λ_ _ z=>z,D_ _ (D_ _ J),fr _ γ,Fm _ rfl,fr _ (by rw[j];omega),π0] ?_
 intro s' H' ms os bare un hok sm nD pm pw;exact #[_,rfl,DY #[_,rfl,.ref ϙ,_,os,bare,un,hok,rfl,hq _ H' ms (fr _ γ) nD sm pm pw]]
end
def yV (ps:ώ) (vs:δ) (scope:γ3) (clos:δg) (cv:ξC) (N:ώ) (σ:St):Prop :=
 σ.length=N.length/\∀(i:Nat) (x:Str) (v:V),N[i]?=some x->σ[i]?=some δb->146e5\/(scope.names.lookup x=some .free/\(∃c,clos.lookup x=some c)/\cv.lookup x=some v)
structure Lv (scope:γ3) (clos:δg) (cv:ξC) (H:Hp) (h:Heap):Prop where
 inj:∀x y c,clos.lookup x=some c->clos.lookup y=some c->x=y
 has:∀x,scope.names.lookup x=some .free->∃c,clos.lookup x=some c
 val:∀x c,clos.lookup x=some c->∃v u,cv.lookup x=some v/\f_ v u/\h.IsCell c δn/\H c=none
section
variable {P:Program}{w:World}{K:n_}{mg:Str->Option Value}{base:Heap}{A:Around}{outer:List Env}{s:Shared}{H:Hp}{N ps:List Str}{scope:Scope}{fa:Addr}{q:Str}{cd:Value}{clos:List (Str × Addr)}{cv:List (Str × V)}{vs:List V}{us:List Value}{σ0:St}{h':Heap}{tk:Nat}
theorem Aw (S:ξP) (hd:ζz) (e0:δB) (r:ζH) (C:ΨW) (h0:Ψe)
  (hn:h'.Ns Φ λx=>(ps.zip us).reverse.lookup x) (hs:Γy) :
  Inv (Kg P w K mg base N ΘW A Δ s H) [] σ0 H { s with heap:=h',toks:=tk }:=by
 have hk:∀b o,s.heap.get? b=some o->h'.get? b=some o:=λb o e=>by
  show 87
 have h:∀b:Addr,b∉([]:List Addr):=λb=>Fl
 have ik:∀{c u},s.heap.IsCell c δn->h'.IsCell c 13e7:=λ⟨o,e1,e2⟩=>ϊJ
 refine⟨⟨e0.mod,εk,rfl,rfl,y_ _,C.inj,λx hx=>?_,όc,λ_=>hd,Around.frames_deeper οl,.inr μ5,λb z=>absurd z (h b),e0.bs,e0.bsz,λb _ _=>h b,λb z=>absurd z (h b),οW,e0.frf⟩,
  rfl,μC,Un.kept hk,Φ7,λx c e=>?_,?_,λx c e=>?_,λp hp=>absurd (show p∈([]:List ζU) from hp) ό,e0.hok.kept hk,h0.1⟩
 ·rcases hx with hx | hx
  ·exact absurd rfl ΓZ
  ·exact C.has x hx
 ·rcases h0.2 i x v h1 h2 with ⟨hp,hv⟩ | ⟨hf,⟨c,hc⟩,hv⟩
  ·obtain⟨u,hu,rv⟩:=r.get hv
   have j:ps.Nodup:=by rw[<- S.pre];exact S.nd.sublist οM
   exact #[u,rv,.inl #[S.par x (Ez hp),vI j hp hu]]
  ·obtain⟨v',u,g,ru,z,_⟩:=C.val x c hc
   rw[hv] at g
   cases g;exact Ξ9
 ·obtain⟨v',u,g,ru,z,_⟩:=C.val x c e
  exact #[_,ik z]
 ·exact e0.hok.fresh Γ
 ·obtain⟨v',u,g,_,_,n⟩:=C.val x c e
  exact n
theorem sP {k:Nat}{name:Str}{params:οm}{body:Expr}{pm ctv:θ}{c':Addr}{Q:VK}{E:XK}{t:TE} (S:ξP) (hr:μd) (e0:δB) (r:ζH)
  (hf:ΓM) (hc:ϋh) (hb:Γh)
  (C:ΨW) (h0:Ψe)
  (ht:PE (Kg P w K mg base N Θn A Δ s H) body t) (hq:t σ0 H Q) :
  codeAny Ϛ A ρR ΨV s:=by
 have j:s.heap.NoLimit:=e0.mod.nolimit.keeps λb o e=>(e0.bs b o e).1
 have ho:s.heap.get? fa=some { cls:=.type "function",data:=.func ω7 }:=(e0.hok fa _ hf).1
 have g:s.heap.CodeRec ιe q:=(e0.hok c' _ hc).1;refine Sk οN ho rfl S.co S.gen rfl g ?_;rw[hb];refine DY ?_;refine Pi ψD ΦC ϋC εk
 have hk:∀b o,s.heap.get? b=some o->h'.get? b=some o:=λb o e=>by
  show 87
 refine ΩU
 have I:=Aw (q:=q) (fa:=fa) (cd:=.ref c') (tk:=s.toks+(ps.zip us).length) S hr.hd e0 r C h0 hn hs;refine Gy ΩV Φn λe s' h=>False.elim h;exact ΘT
end
section
variable {X:Cx}{pins:List (Addr × Obj)}{σ:St}{H:Hp}{s:Shared}
theorem sQ {P:Addr}{pos:Pos}{q:Str}{mk:ιE}{Q:VK} (h:IN P pos q mk σ H Q):IN P pos q mk σ H λv H2=>Q v H2/\∃fa c' doc pm ctv,v=.ref fa/\H2 fa=some Φ9/\H2 c'=some 75e1:=by
 obtain⟨ps,hP,tr,h⟩:=h;refine⟨ps,hP,tr,?_⟩;rcases h with ⟨hn,h⟩ | ⟨c',hs,hc,h⟩
 ·refine .inl #[hn,λc' fa doc pm ctv n1 n2 ne=>#[h c' fa doc pm ctv n1 n2 ne,fa,c',doc,pm,ctv,rfl,ab,?_]]
  rw[ae ne.symm];exact ab
 ·refine .inr #[c',hs,hc,λfa doc pm ctv n=>#[h fa doc pm ctv n,fa,c',doc,pm,ctv,rfl,ab,?_]]
  rw[ae (al hc n)];exact hc
inductive sR (K:n_) (j:Nat) (tb:TE) (σ:St) (Q:VK) (x:V) (H2:Hp):Prop
 | mk:∀(l:Addr) (ns:List Nat) (ck:Nat->Int) (B:Nat) (vy:V),x=.ref l->b_ K H2 l (cC ns)->ns.Nodup->((∀n∈ns,n < B))->ns.length < 64->σ[j]?=some (some vy)->((∀(n:Nat) (H':Hp),n∈ns->a_ H2 H'->tb [some (.int ((n:Nat):Int)),some vy] H' λv H''=>∃t,v=.ref t/\H'' t=some πA/\a_ H' H''))->(∀(D:Addr) (H':Hp) (ms:η),H2 D=none->H' D=none->a_ H2 H'->ms.Perm ns->ms.Pairwise θY->Q γ4 ιS)->sR K j tb σ Q x H2
def CN (K:n_) (P:Addr) (lpos:Pos) (q:Str) (mk:ιE) (j:Nat) (te tb:TE):TE:=λσ H Q=>te σ H λx H1=>IN P lpos q mk σ H1 λ_ H2=>sR K j tb σ Q x H2
theorem Ax {c P cy:Addr}{p y:Str}{j k:Nat}{e:Expr}{te tb:TE}{params:οm}{body:Expr}{scope:γ3}{lpos kp p0 pos:Pos} (T:οQ) (hcl:closureFor γn X.env=pure [(y,cy)]) (hr:DC (k+3) X.A) (hg:Gl X "sorted") (hm:X.mg "sorted" = none) (he:δX)
  (S:eC [p,y] [p] γn) (hyf:scope.names.lookup y=some .free) (hfr:∀q∈scope.names,q.2=.free->q.1=y) (hcy:X.env.cells.lookup y=some cy) (hky:X.env.kindOf y=some .cell) (hfn:X.fn y=true) (hj:X.N[j]?=some y)
  (hb:∀(pm cdv ctv u:θ),bindArgs (HJ ν1 ζl εO body γn [(y,cy)] pm cdv ctv) νc=pure [(p,u)])
  (hbody:∀(A:ϣ) (outer:γ7) (s:ν) (H:Hp) (fa c':Addr),DC k (A.deeper Γu)→PE (Kg ϥ X.w X.K X.mg γX [p,y] Γu A Δ s H) body tb)
  (h1:defaultsOf εO X.env=([],[]):=by rfl) (hs:starEach [e] X.env=(υ,eval e π) :: starEach [] X.env:=by rfl) (hs2:backTo pos ζv=(υ,eval e π) :: backTo pos 62e6:=by rfl) (hs3:(backTo pos ζv).any (·.1)=false:=by rfl) :
  PE X (.Call (.Name "sorted" p0) [e] [Θ3] pos) (CN X.K P lpos ζl Γ1 j te tb):=by
 intro E s σ H Q I h;refine K1 (cx I hg hm KE ?_ 0e2 ε)
 refine callWith_kw ?_ hs2 hs3 rfl rfl
 refine w_ ((aa he ac hs) pos E s σ H (λvs H1=>match vs with
  | [x]=>IN P lpos ζl Γ1 σ H1 (λ_ H2=>sR X.K j tb σ Q x H2)
  | _=>False) I h) ?_
 rintro us s1 ⟨vs,H1,I1,rv,q1⟩
 match vs,rv,q1 with
 | [x],rv,q1 =>
  obtain⟨u,rfl,rx⟩:=cg rv;refine kws_cons (OZ h1 (w_ ϊm λf s2 ⟨vf,H2,I2,rf,q2,fa,c',_,pm,ctv,aT,a0,ad⟩=>?_));subst aT;obtain rfl:f=Ev fa:=rf;obtain⟨l,ns,ck,B,vy,rfl,Z,nd,hB,J,hσ,an,hq⟩:=q2;obtain rfl:u=Ev l:=rx;refine kws_nil ?_;obtain⟨a2,ri,pl,_⟩:=I2.list Z;refine Gy (yU (K:=X.K) (mg:=X.mg) (base:=γX) (ck:=ck) (B:=B) (ns:=ns) (Q:=Q) hr I2.env0 ζD ri nd hB J (λs3 H3 n xv hn sm e0 un O=>?_) hq) ΨH λ_ _ z=>z;obtain⟨m,a1,hl⟩:=I2.loc;obtain⟨uy,aw,lk⟩:=hl j y vy hj hσ (.inr (.inl hky))
  have G:s2.heap.IsCell cy (some uy):=by
   rcases lk with ⟨z,_⟩ | ⟨_,c2,ec,z⟩
   ·rw[hky] at z;cases z
   ·rw[hcy] at ec;cases ec;exact z
  obtain⟨oc,ho,hd⟩:=id G
  have g:=I2.freeC y cy hcy
  have nf:cy∉Ff X.stack:=λz=>by
   rcases DH.mp (I2.stkSub cy z) with e | U
   ·exact I2.cne y cy hcy e
   ·obtain⟨_,o2,R,_⟩:=I2.ok.funs.mem U
    exact absurd (DS R) (MQ.mpr (I2.ok.cab y cy hfn hcy))
  have Y:=un.keep cy oc ho g nf Fl
  have D:=un.free cy oc ho g Fl
  have L1:∀x c,[(y,cy)].lookup x=some c->x=y/\c=cy:=λx c e=>by
   show 37
   split at e
   ·rename_i hxy
    cases e;exact #[eq_of_beq hxy,rfl]
   ·cases e
  have C:[(y,cy)].lookup y=some cy:=by rw[FZ];simp
  have L3:[(y,vy)].lookup y=some vy:=by rw[FZ];simp
  refine sP (cv:=[(y,vy)]) (vs:=[.int ((n:Nat):Int)]) (us:=[xv]) (σ0:=[some τJ,some vy]) S (k:=k) hr.in1.in1 e0 (.cons O .nil) χB (sm _ _ ad) (hb _ _ _ _) #[λx z c e1 e2=>((L1 x c e1).1).trans ((L1 z c e2).1).symm,λx hx=>#[cy,by have e:x=y:=hfr (x,.free) (HW hx) rfl;rw[e];exact C],λx c e=>?_] ΦZ (hbody _ _ _ _ _ _ ((hr.in1.in1).deeper _)) (an n H3 hn sm)
  ·obtain⟨rfl,rfl⟩:=L1 x c e
   exact #[vy,uy,L3,aw,#[oc,Y,hd],D]
  ·match i,e1,e2 with
   | 0,e1,e2=>exact .inl τf
   | 1,e1,e2 =>
    cases e1
    cases e2;exact .inr #[hyf,#[cy,C],L3]
end
structure FF (K:n_) (x qual:Str) (st:Stmt) (f:Addr) (fd:γN) (c t:Addr):Prop where
 ex:∃(oc:θ) (od:δk) (kV doc pm:θ) (an:δk) (ct:θ) (osl:ηe),
  fd=G3 x qual ιf εa δM .none kV doc pm an γo ct/\K.lookup f=some Ω8/\JD K γo qual=true
 kp:HG K γt=true
 hd:JS K c t=true
section
variable {P:Program}{w:World}{K:n_}{mg:Str->Option Value}{base:Heap}{x qual:Str}{st:Stmt}{f c t:Addr}{fd:FuncData}{N ps:List Str}{k:Nat}{sp:Sp}
theorem FF.fun (F:FF K x qual st f fd c t):H_ K x qual st f fd:=by
 obtain⟨oc,od,kV,h,pm,an,ct,osl,e,lk,g⟩:=F.ex;exact #[#[oc,od,kV,h,pm,an,_,ct,osl,e,lk,g],F.kp]
theorem FF.ok (F:νY) (S:θz) (len:ιB)
  (hbody:∀(A:ϣ) (outer:γ7) (s:ν) (H:Hp) (vs:δ) (Q:VK) (E:XK),DC k ρ2->sp vs H Q E →
   ∃t,FK (FP F7 P w K mg base N qual δM f γo A Δ s H E).nox εa t/\t { nx:=λ_ H'=>Q .non H',rt:=Q } 17e4 H):EI P w K mg base F7 (k+1) f fd ps sp:=by
 obtain⟨oc,od,kV,C,pm,an,ct,osl,rfl,lk,g⟩:=F.ex;refine Bf lk g S len λA outer s H vs Q E hr j=>?_;obtain⟨t,h,q⟩:=hbody A Δ s H vs Q E hr j;exact ύo
theorem vM {oc:θ}{od an:δk}{osl:ηe}{kV doc pm ct:θ} (l:K.lookup f=some #[oc,od,.func ΓU,osl])
  (hc:JD K γo qual=true) (hk:θt) (hd:χ9):FF K x qual st f ΓU c t:=#[#[oc,od,kV,doc,pm,an,ct,osl,rfl,l,hc],hk,hd]
theorem FF.tab {A:ϣ}{outer:γ7}{s:ν}{H:Hp}{E:XK}{sc:γ3} (F:νY) (hb:base.BuiltinsAt mg t) (ne:mainGlobals≠t):Iz (FP F7 P w K mg base N qual sc f γo A Δ s H E).nox c t:=#[rfl,F.hd,hb,ne]
end
end L2
namespace L2
open PySem PySem.Spec PySem.W PyProof.Rows
theorem qd:∀{ts:Ξ}{us:χ},h_ ω6 us->us=ts.map Ev
 | [],_,.nil=>rfl
 | t :: ts,_,.cons h r=>by rw[FY,← qd r];cases h;rfl
theorem qe:∀(ts:Ξ),h_ ω6 (ts.map Ev)
 | []=>.nil
 | t :: ts=>.cons rfl (qe ts)
section
variable {X:Cx}
end
variable {X:Cx}
section
variable {κ:Type} [DecidableEq κ]
def Fi (kvs:εe) (k:κ):Option V:=(kvs.find? λkv=>decide πl).map (·.2)
def FH (kvs:εe) (k:κ) (v:V):List πc :=
 if νC=true then kvs.map (λkv=>if kv.1=k then (kv.1,v) else kv) else kvs++[(k,v)]
theorem gm {p:κ × V}{r:εe}{k:κ} (e:p.1=k):Fi (p :: r) k=some p.2:=by simp[Fi,L7,e]
theorem gp {p:κ × V}{r:εe}{k:κ} (e:¬ p.1=k):Fi (p :: r) k=Fi r k:=by simp[Fi,L7,e]
theorem mf (k:κ):∀kvs:List πc,νC=(Fi kvs k).isSome
 | []=>rfl
 | p :: r=>by
  rw[LP]
  show 137
  ·simp only[gm e,decide_eq_true e,N_,Option.isSome_some]
  ·rw[gp e,decide_eq_false e,Mz];exact mf k r
theorem ll (kvs:εe) (k:κ) (v:V):(FH kvs k v).length<=kvs.length+1:=by
 unfold FH
 split
 ·rw[o_];omega
 ·rw[Fn,F6,Sa];omega
theorem sU {kvs:εe}{k:κ} (v:V) (h:Fi kvs k=none):FH kvs k v=kvs++[(k,v)]:=by
 unfold FH;rw[mf,h];exact if_neg ε
theorem Ft.isSome_eq {o:εi}{u:χk} (r:Ft o u):o.isSome=u.isSome:=by
 cases o with
 | none=>cases u with
  | none=>rfl
  | some _=>exact(show False from r).elim
 | some _=>cases u with
  | none=>exact(show False from r).elim
  | some _=>rfl
theorem KV.val {kvs:εe}{vs:μ1} (r:ζa) (k:κ):Ft χV (valueAt vs k):=by
 show 138
 induction r with
 | nil=>exact True.intro
 | @cons p q ps qs h t ih =>
  obtain⟨h1,h2⟩:=h
  show 137
  ·have e':q.1=k:=h1.symm.trans e
   have b:valueAt οw k=some q.2:=by simp[valueAt,L7,e']
   show 275
  ·have e':¬ q.1=k:=λz=>e ωC
   have b:valueAt οw k=valueAt qs k:=by simp[valueAt,L7,e']
   show 276
theorem KV.any {kvs:εe}{vs:μ1} (r:ζa) (k:κ):νC=vs.any λkv=>decide 75e5:=by
 show 138
 induction r with
 | nil=>rfl
 | cons h t ih=>rw[LP,LP,ih,h.1]
theorem KV.repl {kvs:εe}{vs:μ1} (r:ζa) (k:κ) {y:V}{u:θ} (ry:ε2) :
  KV Θc (vs.map λkv=>if kv.1=k then (kv.1,u) else kv):=by
 unfold KV at r ⊢
 induction r with
 | nil=>exact .nil
 | @cons p q ps qs h t ih =>
  rw[FY,FY];refine .cons ?_ ih;obtain⟨h1,h2⟩:=h
  by_cases e:p.1=k
  ·rw[if_pos e,if_pos όf];exact #[h1,ry]
  ·rw[if_neg e,if_neg ΩC];exact #[h1,h2]
theorem KV.put {kvs:εe}{vs:μ1} (r:ζa) (k:κ) {y:V}{u:θ} (ry:ε2):KV (FH kvs k y) (stored vs k u):=by
 unfold FH stored;rw[r.any k]
 by_cases e:(vs.any λkv=>decide πl)=true
 ·show 218;exact r.repl k ry
 ·rw[if_neg e,if_neg e];exact Paired.snoc r #[rfl,ry]
theorem KV.length {kvs:εe}{vs:μ1} (r:ζa):kvs.length=vs.length:=Paired.length r
end
variable {P:Program}{w:World}
theorem nj {k:Key}{u:θ} (r:f_ (kV k) u):(bv P w).is k u=true:=by
 cases k with
 | inl i=>obtain⟨t,e⟩:=(show ∃t,u=HY i t from r);subst e;exact uH P w i t
 | inr x=>obtain⟨t,e⟩:=(show ∃t,u=MK x t from r);subst e;exact uI P w x t
theorem qf {P:Ϧ}{w:ϡ}:∀{ks:μz}{us:χ},h_ (ks.map kV) us->ItemsAre η2 ks us
 | [],_,r=>by rw[RE] at r;cases r;exact .nil
 | k :: ks,_,r=>by
  rw[FY] at r
  cases r with
  | cons h t=>exact .cons (nj h) (qf t)
abbrev KT (H:Hp):List ύw->List ρV->Prop:=Paired λp q=>p.1=q.1/\H q.2.1=some ϋ3/\f_ p.2 q.2.2
variable {H:Hp}{kvs:List (List Key × V)}{xs:List (List Key × Addr × Value)}
theorem KT.val (r:οa) (k:μz):Ft χV ((atKey xs k).map (·.2)):=by
 induction r with
 | nil=>exact True.intro
 | @cons p q ps qs h t ih =>
  obtain⟨h1,_,h2⟩:=h
  show 137
  ·have e':q.1=k:=h1.symm.trans e
   have b:atKey οw k=some q.2:=by simp[atKey,L7,e']
   show 275
  ·have e':¬ q.1=k:=λz=>e ωC
   have b:atKey οw k=atKey qs k:=by simp[atKey,L7,e']
   show 276
theorem KT.repl (r:οa) (k:μz) {y:V}{u:θ} (ry:ε2) :
  KT H Θc (xs.map (putAt k u)):=by
 induction r with
 | nil=>exact .nil
 | @cons p q ps qs h t ih =>
  rw[FY,FY];refine .cons ?_ ih;obtain⟨h1,h2,h3⟩:=h;unfold putAt
  by_cases e:p.1=k
  ·rw[if_pos e,if_pos όf];exact #[h1,h2,ry]
  ·rw[if_neg e,if_neg ΩC];exact #[h1,h2,h3]
theorem KT.put (r:οa) (k:μz) {b:Addr}{y:V}{u:θ} (hb:H b=some υj) (ry:ε2) :
  KT H (FH kvs k y) (storedH xs k b u):=by
 have e:νC=(atKey xs k).isSome:=by
  rw[mf,(r.val k).isSome_eq,PZ]
 unfold FH storedH;rw[e]
 by_cases q:(atKey xs k).isSome=true
 ·rw[if_pos q,if_pos q];exact r.repl k ry
 ·rw[if_neg q,if_neg q];exact Paired.snoc r #[rfl,hb,ry]
variable {H':Hp}
theorem KT.keeps (r:οa) (ht:∀b ys,H b=some (.tup ys)->H' b=some (.tup ys)):KT H' kvs xs :=
 Paired.mapP r λ_ _ z=>Ψ9
section
variable {P:Program}{w:World}{H:Hp}{h:Heap}{a:Addr}
theorem Bj {u:HO} (ok:γM) (e:Rd H a u):r_ P w H h a u:=e.ok ok
theorem dm {kvs:δj} (ok:γM) (e:Rd H a ζV):kvs.length<=sizeLine/\ηj=false/\∃vs,KV kvs vs/\h.DictOf η2 a vs :=
 show r_ P w H h a ζV from Bj ok e
theorem Bk {kvs:δj} (ok:γM) (e:υb):kvs.length<=sizeLine/\ηj=false/\∃vs,KV kvs vs/\h.DictOf η2 a vs:=dm ok ψA
theorem jN {ks:μz} (ok:γM) (e:H a=some ϋJ):(tupleKind η2).is h ks a:=by
 obtain⟨_,g,r,o,h1,h2,n,h3⟩:=(show r_ P w H h a ϋJ from ok a _ e);exact #[o,εr,n,h1,h2,h3,by simpa using qf r]
theorem nu (ok:γM) (e:Rd H a θP):kvs.length<=sizeLine/\ηj=false ∧
  ∃xs,KT H kvs xs/\h.DictOfH τC a xs:=by
 obtain⟨z,y,xs,r,o,es,ep,h1,h2,h3,h4,h5⟩:=(show r_ P w H h a θP from Bj ok e);refine #[z,y,xs,r,o,es,ep,h1,h2,h3,h4,λx hx=>?_,h5]
 have all:∀{l:List ύw}{m:List ρV},KT H l m->∀x∈m,(tupleKind η2).is h x.1 x.2.1:=by
  intro l m q
  induction q with
  | nil=>intro x hx;exact nomatch hx
  | @cons p q ps qs hq t ih =>
   intro x hx;rcases DH.mp hx with e | hx
   ·subst e
    exact jN ok (by rw[<- hq.1];exact hq.2.1)
   ·exact ih x hx
 exact all r x hx
theorem Dm (ok:γM) (e:H a=some θP):kvs.length<=sizeLine/\ηj=false ∧
  ∃xs,KT H kvs xs/\h.DictOfH τC a xs:=nu ok ψA
end
def Fd (H:Hp) (a:Addr) (y:V) (r:εi):Prop :=
 (∃kvs k,Rd H a ζV/\y=kV k/\r=Fi kvs k)\/∃kvs k b,Rd H a θP/\y=.ref b/\H b=some υj/\r=Fi kvs k
def GC (H:Hp) (a:Addr) (y v:V) (H':Hp):Prop :=
 (∃kvs k,H a=some ζV/\y=kV k/\kvs.length < sizeLine/\H'=upd H a ϋK) ∨
 ∃kvs k b,H a=some θP/\y=.ref b/\H b=some υj/\kvs.length < sizeLine/\H'=upd H a (.dT (FH kvs k v))
theorem Fd.k {H:Hp}{a:Addr}{kvs:δj}{k:Key} (e:υb):Fd H a (kV k) 103e9:=.inl #[kvs,k,.inl e,rfl,rfl]
theorem GC.k {H:Hp}{a:Addr}{kvs:δj}{k:Key}{v:V} (e:υb) (hl:kvs.length < δv):GC H a (kV k) v (upd H a ϋK):=.inl #[kvs,k,e,rfl,hl,rfl]
variable {Q:Value->Shared->Prop}
section
variable {X:Cx}{pins:List (Addr × Obj)}{σ:St}{H:Hp}{s:Shared}{a:Addr}{y v:V}{u r:Value}{o:Option V}{A:Around}{E:Value->Shared->Prop}
theorem Inv.big (I:ρ):sysModules < s.heap.objs.size:=by
 have h:mainGlobals < s.heap.objs.size:=(I.mod.glob.keeps I.bk).lt;exact Oi ε h
theorem yW (hu:ξu) (I:ρ) (g:Fd H a y δb) (ry:ε2) (h:∀w' s',Inv X pins σ H s'->f_ v w'->Q w' s') :
  wpAny ω A (getItem ε0 u) Q E s:=by
 rcases g with ⟨G,k,e,ey,l⟩ | ⟨G,k,b,e,ey,eb,l⟩
 ·subst ey
  obtain⟨z,hd,vs,j,dd⟩:=dm γb e;obtain⟨w',hw,C⟩:=Ft.some_of (v:=v) (o:=valueAt vs k) ΨX
  exact wpAny_getItem_of π3 ψJ hw (h w' _ ηw C)
 ·subst ey
  cases (show u=Ev b from ry);obtain⟨z,hd,xs,j,dd⟩:=nu γb e;obtain⟨w',hw,C⟩:=Ft.some_of (v:=v) (o:=(atKey xs k).map (·.2)) ΨX
  obtain⟨p,hp,D⟩:=Sc.mp hw;refine wpAny_getItem_heap νZ ξR dd hp ?_;rw[D];exact h w' _ ηw C
theorem Nn (hu:ξu) (I:ρ) (g:χW) (ry:ε2) (h:∀s',Inv X pins σ H s'->Q (.bool o.isSome) s') :
  wpAny ω A (compareOp .In u ε0) Q E s:=by
 rcases g with ⟨C,k,e,ey,l⟩ | ⟨C,k,b,e,ey,eb,l⟩
 ·subst ey
  obtain⟨z,hd,vs,j,dd⟩:=dm γb e;refine wpAny_in_of π3 hd ψJ ?_;rw[<- (j.val k).isSome_eq,← l];exact h _ ηw
 ·subst ey
  cases (show u=Ev b from ry);obtain⟨z,hd,xs,j,dd⟩:=nu γb e;refine wpAny_in_heap νZ ξR hd dd ?_
  have q:=(j.val k).isSome_eq;rw[PZ] at q;rw[<- q,← l];exact h _ ηw
theorem BW (hu:ξu) (I:ρ) (g:χW) (ry:ε2) (h:∀s',Inv X pins σ H s'->Q (.bool (!o.isSome)) s') :
  wpAny ω A (compareOp .NotIn u ε0) Q E s:=by
 rcases g with ⟨C,k,e,ey,l⟩ | ⟨C,k,b,e,ey,eb,l⟩
 ·subst ey
  obtain⟨z,hd,vs,j,dd⟩:=dm γb e;refine wpAny_notIn_of π3 hd ψJ ?_;rw[<- (j.val k).isSome_eq,← l];exact h _ ηw
 ·subst ey
  cases (show u=Ev b from ry);obtain⟨z,hd,xs,j,dd⟩:=nu γb e;refine wpAny_notIn_heap νZ ξR hd dd ?_
  have q:=(j.val k).isSome_eq;rw[PZ] at q;rw[<- q,← l];exact h _ ηw
theorem vN {h':Heap}{t':Nat}{ob:HO} (I:ρ) (mu:LD (H a)) (hs:JQ a Ψ h') (he:∃q,h'.get? a=some q) (new:r_ ϥ X.w (upd H a ob) h' a ob) :
  Inv X pins σ (upd H a ob) { s with heap:=h',toks:=t' } :=
 I.write (x:=a) (e:=a) mu γA (λb q hb z=>(hs.2 b hb).trans z) he new
theorem CO {h':Heap}{kvs:δj}{vs:θs} (z:ϊL) (hd:ηj=υ) (rel:ζa) (dd:h'.DictOf η2 a vs) :
  r_ P w H' h' a 29e5:=#[z,hd,vs,rel,dd]
theorem yX {Q:υ8} (hu:ξu) (I:ρ) (g:GC H a y v H') (ry:ε2) (rv:f_ v r) (h:∀s',Inv X pins σ H' s'->Q () s') :
  wpAny ω A (setItem ε0 u r) Q E s:=by
 rcases g with ⟨C,k,e,ey,l,eH⟩ | ⟨C,k,b,e,ey,eb,l,eH⟩
 ·subst ey eH
  obtain⟨z,hd,vs,j,dd⟩:=Bk γb e
  have hz:vs.length<=sizeLine:=by rw[<- j.length];exact z
  have hl:(FH C k v).length<=sizeLine:=by have:=ll C k v;omega
  refine wpAny_setItem_pairs (hsz:=hz) π3 dd λh' D hs=>h _ ?_
  have he:∃q,h'.get? a=some q:=let ⟨q,_,_,hq,_⟩:=D;#[q,hq];exact vN I ρT hs he (CO hl hd (j.put k rv) D)
 ·subst ey eH
  cases (show u=Ev b from ry);obtain⟨z,hd,xs,j,dd⟩:=Dm γb e
  have hz:xs.length<=sizeLine:=by rw[<- Paired.length j];exact z
  have hl:(FH C k v).length<=sizeLine:=by have:=ll C k v;omega
  refine wpAny_setItem_heap (hsz:=hz) νZ ξR dd λh' D hs=>h _ ?_;obtain⟨q,es,ep,hq,h2,h3,h4,_,h5⟩:=D;refine vN I ρT hs #[q,hq] #[hl,hd,_,(j.put k eb rv).keeps λc ys ec=>?_,q,es,ep,hq,h2,h3,h4,h5]
  rw[ae (bj ec e (λz=>nomatch z))];exact ec
end
section
variable {X:Cx}{pins:List (Addr × Obj)}{σ:St}{H:Hp}{s:Shared}{a:Addr}{kvs:List (Key × V)}{k:Key}{u:Value}{A:Around}{E:Value->Shared->Prop}
end
def Lg (i:Expr):Prop:=∀ov iv,subscripted i υ ov iv=operate [ov,iv] (getItem ov iv)
theorem BX {prog:Ϧ}{A:ϣ}{E:Ϣ}{s:ν}{env:Env}{value slice:Expr}{pos:Pos}{T id:εG}
  (hl:typeLookup οn "__getitem__" = pure ϊB) (hs:Lg ι6)
  (h:wpAny γd A (eval εS env) (λo s₁=>wpAny γd A (eval ι6 env) (λi s₂=>s₂.TypeIs o T/\wpAny γd A ώx Q E s₂) E s₁) E s) :
  wpAny γd A (eval (.Subscript εS ι6 pos) env) Q E s:=by
 refine Subscript_ (Gy h (λo s₁ h₁=>Gy h₁ (λi s₂ h₂=>?_) λ_ _ x=>x) λ_ _ x=>x);obtain⟨hT,h₂⟩:=h₂;unfold subscriptTail;refine q_ ?_;rw[getitemInPython_of_ne hT.not_modules];refine q_ (Pe hT hl ?_)
 have fin:wpAny γd A (subscripted ι6 υ o i) (λr s₃=>wpAny γd A (letTemporaryGo εS o r >>= λ_=>pure r) Q E s₃) E s₂:=by
  rw[hs o i];exact wpAny_operating (Gy h₂ (λr s₃ h₃=>q_ (wpAny_letTemporaryGo (DY h₃))) λ_ _ x=>x)
 first
  | exact DY (q_ fin)
  | exact q_ (DY (q_ fin))
  | exact q_ fin
theorem uU {pins:ϕ}{σ:St}{s:ν}{a:Addr}{y:V}{o:εi} (I:ρ) (g:χW):s.TypeIs ε0 "dict":=by
 rcases g with ⟨h,k,e,_,_⟩ | ⟨h,k,b,e,_,_,_⟩
 ·obtain⟨_,_,vs,_,dd⟩:=dm γb e
  exact dd.typeIs
 ·obtain⟨_,_,xs,_,dd⟩:=nu γb e
  exact dd.typeIs
inductive vO (Q:VK) (x y:V) (H2:Hp):Prop
 | mk:∀a v,x=.ref a->Fd H2 a y (some v)->Q v H2->vO Q x y H2
def Do (td ty:TE):TE:=λσ H Q=>td σ H λx H1=>ty σ H1 λy H2=>vO Q x y H2
inductive yY (Q:VK) (y x:V) (H2:Hp):Prop
 | mk:∀a o,x=.ref a->Fd H2 a y o->Q (.bl o.isSome) H2->yY Q y x H2
def Nt (ty td:TE):TE:=λσ H Q=>ty σ H λy H1=>td σ H1 λx H2=>yY Q y x H2
inductive qg (Q:VK) (y x:V) (H2:Hp):Prop
 | mk:∀a o,x=.ref a->Fd H2 a y o->Q (.bl (!o.isSome)) H2->qg Q y x H2
def BY (ty td:TE):TE:=λσ H Q=>ty σ H λy H1=>td σ H1 λx H2=>qg Q y x H2
inductive vP (D:Fe) (σ:St) (v x y:V) (H3:Hp):Prop
 | mk:∀a H4,x=.ref a->GC H3 a y v H4->D.nx σ H4->vP D σ v x y H3
def Dp (td ty tv:TE):TS:=λD σ H=>tv σ H λv H1=>td σ H1 λx H2=>ty σ H2 λy H3=>vP D σ v x y H3
section
variable {X:Cx}{o i e value:Expr}{pos pos' tpos:Pos}{td ty tv:TE}
theorem iw (hu:ξo) (ho:οx) (hi:οy) (hs:Lg i):PE X τE (Do td ty):=by
 show 67;refine BX PySem.F.slot_dict_getitem.lookup hs (w_ (ho j s σ H _ I h) λu s1 ⟨x,H1,I1,rx,q1⟩=>w_ (hi j s1 σ H1 _ I1 q1) λiv s2 ⟨y,H2,I2,ry,a,v,ex,g,q2⟩=>?_);show 72;exact #[uU I2 g,yW hu I2 g ry λw' s3 I3 C=>#[v,H2,I3,C,q2]]
theorem yZ (hu:ξo) (hi:οy) (ho:οx):PC X .In i o (Nt ty td):=by
 show 67;refine w_ τU λiv s1 ⟨y,H1,I1,ry,q1⟩=>w_ τk λu s2 ⟨x,H2,I2,rx,a,ov,ex,g,q2⟩=>?_;show 72;exact Nn hu I2 g ry λs3 I3=>#[.bl ov.isSome,H2,I3,rfl,q2]
theorem qh (hu:ξo) (hi:οy) (ho:οx):PC X .NotIn i o (BY ty td):=by
 show 67;refine w_ τU λiv s1 ⟨y,H1,I1,ry,q1⟩=>w_ τk λu s2 ⟨x,H2,I2,rx,a,ov,ex,g,q2⟩=>?_;show 72;exact BW hu I2 g ry λs3 I3=>#[.bl (!ov.isSome),H2,I3,rfl,q2]
theorem kC (hu:ξo) (ho:οx) (hi:οy) (hv:χ5) (hs:swapsWith εS (some (.Subscript o i pos')) ηz X.env=pure υ) :
  PS X (.Assign [.Subscript o i pos'] εS pos) (Dp td ty tv):=by
 intro j s σ H D I h;refine wpAny_Assign_Subscript (w_ (hv j s σ H _ I h) λr s1 ⟨v,H1,I1,rv,q1⟩=>w_ τk λu s2 ⟨x,H2,I2,rx,q2⟩=>w_ (hi j s2 σ H2 _ I2 q2) λiv s3 ⟨y,H3,I3,ry,a,H4,ex,g,q3⟩=>?_) hs;subst ex;obtain rfl:u=Ev a:=rx;exact yX hu I3 g ry rv λs4 I4=>#[σ,H4,I4,q3]
end
theorem Ay (h:Heap) (hb:sysModules < ο7):r_ P w H (h.push { cls:=.type "dict",data:=.dict #[] }) ο7 οT :=
 #[EO _,beq_eq_false_iff_ne.mpr (Es (Ea hb)),[],.nil,Heap.DictOf.new h]
def CP:TE:=λ_ H Q=>∀p,H p=none->Q γE (upd H p οT)
section
variable {X:Cx}{pos:Pos}
theorem mh:PE X (.Dict [] [] pos) CP:=λpins s σ H Q I h =>
 wpAny_Dict_empty #[.ref Φ,_,I.laid (a:=Φ) (o:=.dK []) (t':=δ9) ϋ9 Γ (Ay Ψ I.big),rfl,h _ ζt]
end
structure M1 (X:Cx) (o:Expr) (m:Str) (apos:Pos) (e:Expr) (cpos:Pos):Prop where
 base:attributeBase o m π ξG=eval o π
 few:((backTo cpos ζv).all χ7 && (backToKw cpos πp).all τW
  && decide (([e]:List Expr).length+([]:List Keyword).length+ρn < 30))=true
 line:νK=true
 trees:backTo cpos ζv=[(υ,eval e π)]
structure M2 (X:Cx) (o:Expr) (m:Str) (apos:Pos) (e f:Expr) (cpos:Pos):Prop where
 base:attributeBase o m π ξG=eval o π
 few:((backTo cpos ΩX).all χ7 && (backToKw cpos πp).all τW
  && decide (([e,f]:List Expr).length+([]:List Keyword).length+ρn < 30))=true
 line:νK=true
 trees:backTo cpos ΩX=[(υ,eval e π),(υ,eval f π)]
section
variable {X:Cx}{pins:List (Addr × Obj)}{σ:St}{H:Hp}{s:Shared}{a:Addr}{y d:V}{u r:Value}{o:Option V}{A:Around}{E:Value->Shared->Prop}
end
section
variable {X:Cx}{o e f:Expr}{apos cpos:Pos}{td ty tx:TE}
end
section
variable {X:Cx}{pins:List (Addr × Obj)}{σ:St}{H:Hp}{s:Shared}{a:Addr}{kvs:List (Key × V)}{A:Around}{E:Value->Shared->Prop}
end
section
variable {X:Cx}{pins:List (Addr × Obj)}{σ:St}{H:Hp}{s:Shared}{a:Addr}{y:V}{u:Value}{A:Around}{E:Value->Shared->Prop}
end
section
variable {X:Cx}
end
section
variable {κ:Type} [DecidableEq κ]
end
section
variable {X:Cx}{pins:List (Addr × Obj)}{σ:St}{H:Hp}{s:Shared}
theorem Inv.freeze {d:Addr}{o:Obj}{kvs:δj} (I:ρ) (hd:H d=some ζV) (ho:s.heap.get? d=some o):Inv X pins σ Ψf s:=by
 show 277
 refine #[I.ok,I.os,ε1,ωZ,ε5,μJ,?_,λy c e=>?_,λp hp=>?_,λa u e=>?_,ηG]
 ·have z:=I.base.free b o e n h
  show 278
 ·have z:=I.base.tups b xs e
  show 139
 ·have z:=I.base.frzs b o u e
  show 139
 ·obtain⟨m,z⟩:=I.base.tbls b ps e
  exact Δ9
 ·show 279
 ·show 280
 ·obtain⟨q1,q2,q3⟩:=I.pin p hp
  exact ΘO
 ·have st:∀{a u},r_ ϥ X.w H Ψ a u->r_ ϥ X.w Ψf Ψ a u:=λx =>
   x.stay υv (λb q=>by rw[ae (λw=>by rw[w,hd] at q;cases q)];exact q) λb xs q=>by rw[ae (λw=>by rw[w,hd] at q;cases q)];exact q
  by_cases ha:a=d
  ·subst ha
   rw[ab] at e
   cases e;exact #[ho,st (I.hok a _ hd)]
  ·rw[ae ha] at e
   exact st (I.hok a u e)
def Nv (d:Addr) (o:Obj) (kvs:δj):It where
 go i H:=H d=some θ2/\i < kvs.length
 yld i H x H':=H'=H/\∃k v,kvs[i]?=some (k,v)/\x=kV k
 stop i H:=H d=some θ2/\kvs.length<=i
theorem KV.getk {kvs:δj}{vs:θs} (h:ζa):∀{i:Nat}{k:Key}{v:V},kvs[i]?=some (k,v)->∃u,vs[i]?=some (k,u):=by
 induction h with
 | nil=>intro i k v e;simp at e
 | cons r rs ih =>
  intro i k v e
  cases i with
  | zero =>
   rename_i p q _ _
   show 281
   show 282
   show 14;obtain⟨r1,_⟩:=r;exact #[u',by rw[show k=k' from r1];rfl]
  | succ i=>exact ih ηh
theorem vQ {k:Key}{key:θ} (h:(bv P w).is k key=true):f_ (kV k) key:=by
 rw[wP] at h;rcases bB h with ⟨i,t,rfl,rfl⟩ | ⟨x,t,rfl,rfl⟩
 ·exact θF
 ·exact θF
theorem y8 {K:n_}{tg:Expr}{kvs:δj}{o:Obj}{es:υG}{ep:Nat} (d it:Addr) (ho:ΩZ):Gi P w K tg (Nv d o kvs) [it] it (λi h=>h.IsKeyIter it d i χX ep) where
 mem:=by simp
 obj:=λi h st b hb=>by
  show 30
  show 69
 keep:=λi h h' ⟨o,e,c,d⟩ k=>#[o,k it ό o e,c,d]
 item:=by
  show 283
  show 88
  show 89
  cases g3
  have hl:=μy;obtain⟨u,hu⟩:=g.getk ζJ;rw[hl] at st;show 70
  refine wpAny_pyNext_dict_item st νN hu λJ h' hk C sb=>?_
  have I1:Inv X D σ H { s with heap:=h' }:=I.turned (t':=s.toks) ιo f0 f1 f3 f4 f5;obtain⟨oi,e,c,dd⟩:=id C;rw[<- hl] at C;exact⟨J,rfl,kA (s:={ s with heap:=h' }) e c dd ε ⟨_,H,I1,vQ hk,⟨rfl,_,_,s_ hi,rfl⟩,C,λb hb=>(hf b hb).1⟩⟩
 done:=by
  show 283
  show 88
  show 89
  cases g3
  show 284
  exact wpAny_pyNext_dict_end γS st νN ύx λh' eb=>θe
 self:=λ_ _ _ _ _ st h=>wpAny_pyIter_keyiter st h
inductive vR (R:δD) (x:V) (H1:Hp):Prop
 | mk:∀a kvs,x=.ref a->H1 a=some (.dK kvs)->(∀o,R (Nv a o kvs) (upd H1 a (.frz o (.dK kvs))))->vR R x H1
def Dq (td:TE):TI:=λσ H R=>td σ H λx H1=>vR R x H1
theorem BZ {tg l:Expr}{tl:TE} (hl:μl):PI X tg l (Dq tl):=by
 show 226;refine w_ (hl j s σ H _ I h) λv s1 ⟨x,H1,I1,r1,q1⟩=>?_;obtain⟨a,D,e,ea,q⟩:=q1;subst e
 cases r1;obtain⟨z,g,vs,C,o,es,ep,g1,g2,g3,g4,g5,g6⟩:=dm I1.hok (.inl ea)
 show 285
 have hl:=C.length;refine wpAny_pyIter_dict g ρY ?_;refine #[γL,[γL],_,_,_,rfl,I2.kept (t':=εF) λb o e=>D_ _ e,y8 a _ g3,#[_,Fm _ rfl,rfl,by rw[hl];rfl],λb hb=>?_,q o]
 show 55
 show 286
end
structure JZ (K:n_) (C:Addr):Prop where
 ha:HS K γK "__class__" = some (some ιK)
 hn:R7 K ιK "__get__" = some Θv
 htk:RJ K ιK=some true
 hm:Qt K C όH=some true
theorem JZ.of {K:n_}{C a dx:Addr}{fs:ξC} (t:JZ K C) (c:FX K C) (e:ιU):Fz K H ε0 9e8:=.ins e c t.ha t.hn t.htk t.hm
section
variable {X:Cx}{CX:Iw}{k:Nat}{f Pk:Addr}{fd:FuncData}{ps:List Str}{sp:Sp}{dvs:List V}{ds:List Value}{E:XK}{c m:Str}{p pos apos:Pos}{e:Expr}{es:List Expr}{t:TA}
inductive lq (K:n_) (xs:δ) (H:Hp) (Q:VK):Prop
 | mk:∀x Cp t b,xs=[x,.ref Cp]->Fz K H x t->Kw K t (.ref Cp)=some b->Q (.bl b) H->lq K xs H Q
theorem y9:bN X τh (lq X.K):=by
 show 223
 cases (show w'=Ev c from g);show 224
end
end L2
namespace GF
end GF
namespace L2
open PySem PySem.Spec PyProof.Rows
variable {A:Around}{E:Value->Shared->Prop}{s:Shared}
theorem sV {M:Model}{v:θ}{Q:Unit→Shared→Prop} (q:Q () s):wpAny M A (checkBuiltinCall "sorted" { pos:=[v] }) Q E s:=by
 have e1:splitId "sorted" = none:=by decide +kernel
 have h:=args_sorted1 v;unfold argsOk at h;unfold checkBuiltinCall;rw[e1]
 have fin:wpAny M A (match Manifest.signature? "sorted" with
   | some sig=>Bind.checkArgs "sorted" sig { pos:=[v] }
   | x=>pure ()) Q E s:=by
  cases hs:Manifest.signature? "sorted" with
  | none=>exact DY q
  | some sig =>
   rw[hs] at h
   have h:Bind.checkArgs "sorted" sig { pos:=[v] } = pure ():=h
   show wpAny M A (Bind.checkArgs "sorted" sig { pos:=[v] }) Q E s
   rw[h];exact DY q
 cases builtinKind "sorted" with
 | none=>exact fin
 | some k=>exact fin
theorem za {prog:Ϧ}{w:ϡ}{a:Addr}{vs:χ}{ns:γz}{n:Nat}{Q:Value→Shared→Prop} (h:s.heap.get? a=some (seqObj "list" vs.toArray n)) (hi:ώG) (hl:vs.length < 64)
  (q:∀(out:γx) (ns':γz),IntsAre out.toList ns'→ns'.Perm ns→MP (λx y=>x≤y) ns'→Q .none { s with heap:=sortedHeap s.heap a vs out }):wpAny γd A (call (.builtin "list.sort") [.ref a]) Q E s:=by
 refine KZ (Sm QN.plain PySem.F.entry_list_sort ?_);refine QN.check _ _ _ _ _ _ _ _ ώK (PySem.F.args_list_sort_1 _) ?_;exact list_sort_tree h hi hl λout ns' h1 h2 h3=>q out ns' h1 h2 h3
theorem zb {vs:θs}{ns:γz}{acc:χ} (hk:vs.map (·.1)=ns.map Sum.inl) (hl:acc.length=ψh) (h:∀(j:Nat) v,acc[j]?=some v->∃k x,vs[j]?=some (k,x)/\fL k v=true):IntsAre acc ns:=by
 induction acc generalizing vs ns with
 | nil =>
  cases vs with
  | nil =>
   cases ns with
   | nil=>exact .nil
   | cons n ns=>cases hk
  | cons p vs=>cases hl
 | cons v acc ih =>
  cases vs with
  | nil=>cases hl
  | cons p vs =>
   cases ns with
   | nil=>cases hk
   | cons n ns =>
    obtain⟨k,x,e,hv⟩:=h 0 v rfl
    have e:p=(k,x):=DU e;subst e
    have g:=(NP hk).1
    have g:k=Sum.inl n:=g;subst g
    have hv:N9 n v=true:=hv
    obtain⟨t,rfl⟩:∃t,v=HY n t:=by
     unfold N9 at hv
     split at hv
     ·rename_i i t hq
      exact #[t,by rw[eq_of_beq hv]]
     ·cases hv
    exact .cons n t (ih (NP hk).2 (Q7 hl) λj u hj=>h (j+1) u hj)
theorem B0 {kvs:δj}{vs:θs} (r:ζa):vs.map (·.1)=kvs.map (·.1):=by
 show 138
 induction r with
 | nil=>rfl
 | cons h _ ih=>rw[FY,FY,ih,h.1]
theorem sX {prog:Ϧ}{w:ϡ}{d:Addr}{kvs:θs}{ep:Nat}{Q:τe} (hh:ζz) (hsys:(d == sysModules)=υ) (hd:Heap.DictAt (bv prog w) Ψ d kvs ep) (hn:ϊL)
  (q:∀(h':Heap) (tk:Nat) (acc:γx),(∀b o,s.heap.get? b=some o->h'.get? b=some o)->s.heap.objs.size < h'.objs.size->ItemsOf (λi v=>∃k x,kvs[i]?=some (k,x)/\fL k v=true) acc kvs.length->Q acc.toList { s with heap:=h',toks:=tk }) :
  wpAny γd A (collect (.ref d)) Q E s:=by
 unfold collect;refine q_ (wpAny_runValue (Mx PySem.F.entry_proto_collect ?_));unfold Builtin.«proto.collect»;refine q_ (KW ?_ (by show 0<=δv;decide))
 refine DY #[Code.quiet_builtin { pos:=[.ref Φ,.ref d] } γu,?_]
 refine Mx PySem.F.entry_list_iadd ?_;unfold Builtin.«list.__iadd__»;refine q_ ?_;unfold slotArgs;refine DY ?_
 have g:d < s.heap.objs.size:=by
  obtain⟨o,es,g1,_⟩:=id hd;exact DS g1
 rw[Around.under_plainId γu]
 have h:(s.heap.push { cls:=.type "list",data:=.seq #[] }).get? s.heap.objs.size=some { cls:=.type "list",data:=.seq #[] }:=Fm _ rfl
 obtain⟨o,es,g1,g2,g3,g4,g5,g6⟩:=id hd
 refine PySem.W.kdl_extend (A:=A) (R:=λr s'=>match r with
   | Except.ok (Flow.ret v)=>wpAny (model prog w) A (match v with
      | Ev a=>do
       let __do_lift ← load a
       match __do_lift.data with
        | Data.seq xs epoch=>pure xs.toList
        | x=>unsupported "internal:collect"
      | x=>unsupported "internal:collect") Q E s'
   | Except.ok a=>False
   | Except.error e=>E e s') (s:={ s with heap:=s.heap.push { cls:=.type "list",data:=.seq #[] } }) (PySem.W.kdl_dict (knd:=bv prog w) (kvs:=kvs) (ep:=ep) hsys) hh ⟨o,es,D_ _ g1,g2,g3,g4,g5,g6⟩ s.heap.objs.size (LQ g) (LQ g) νV 0 h (λh' tk acc c kp hS it=>?_) hn
 dsimp only;refine q_ (wpAny_load hS ?_);dsimp only;refine DY (q h' tk acc (λb o e=>kp b o ζA ιn) (DS hS) it)
section
variable {X:Cx}
inductive ix (xs:δ) (H:Hp) (Q:VK):Prop
 | mk:∀(p:Addr) (kvs:List (Key × V)) (ns:List Int),xs=[.ref p]->H p=some (.dK kvs)->kvs.map (·.1)=ns.map Sum.inl->ns.length < 64->(∀l ns',H l=none->ns'.Perm ns->MP (λx y=>x<=y) ns'->Q ζp Φj)->ix xs H Q
theorem cQ (hc:γm):bN X ξm (ix):=by
 intro Y s σ H xs us Q I r h;obtain⟨p,T,ns,rfl,hp,hk,hl,q⟩:=h;show 59
 show 13;obtain⟨z,G,vs,C,o,es,ep,g1,g2,g3,g4,g5,g6⟩:=dm γb (.inl hp)
 have U:T.length=ns.length:=by
  have:=congrArg Kv hk;show 287
 have Z:=C.length
 have O:vs.map (·.1)=ns.map Sum.inl:=by
  rw[<- hk];exact B0 C
 refine KZ (Sm γu χp (sV ?_))
 unfold Builtin.sorted;refine q_ ?_
 show wpAny _ ν2 (pure ()) _ _ s
 refine DY ?_;refine q_ (sX (show X.A.in1.handled=none from I.ok.hd hc) G ρY γ λh' tk g kp D it=>?_)
 have J:IntsAre ψE ns:=zb O (by rw[Ky];exact it.1) λj v hj=>it.2 j v υ2
 have E:g.toList.length < 64:=by rw[Ky,it.1];omega
 refine q_ (KW ?_ (DK (IF E) ε))
 have ha:(h'.push { cls:=.type "list",data:=.seq g.toList.toArray }).get? h'.objs.size=some (seqObj "list" g.toList.toArray 0):=Fm _ rfl
 refine q_ (Gz (za (A:=ν2) (a:=δR) (n:=0) ha J E λout R h1 h2 h3=>?_));refine DY ?_;obtain⟨e,he⟩:=sortedHeap_at (vs:=ψE) (out:=out) ha
 have hv:=l5 h1;refine #[.ref δR,_,I.laid (t':=tk) όT (IF D) (show r_ ϥ X.w _ _ _ (.lst (R.map δN)) from Ψr),rfl,q _ _ (I.hok.fresh (IF D)) h2 h3]
 ·have z':=kp b o' z
  have hb:=DS z';rw[sortedHeap_old (Ea hb) (by rw[NQ];exact Gp hb)]
  exact D_ _ z'
 ·rw[o_,h2.length_eq]
  exact DK (IF hl) ε
 ·exact he
end
structure GT (K:n_) (mg:Ϡ) (x:Str) (st:Stmt) (f:Addr) (ps:ώ) (c t:Addr):Prop where
 m:mg x=some γt
 F:FF K x x st f δG c t
 b:ER K δG ps []
 k:HG K γt=true
 nl:K.lookup t=none
structure MT (K:n_) (C:Addr) (x q:Str) (st:Stmt) (f:Addr) (ps:ώ) (c t:Addr):Prop where
 me:IB K C x f
 F:FF K x q st f δG c t
 b:ER K δG ps []
 k:HG K γt=true
 nl:K.lookup t=none
section
variable {K:n_}{h:Heap}{mg:Str->Option Value}{x q:Str}{st:Stmt}{f C c t:Addr}{ps:List Str}{oc:Value}{od an cod:Option Addr}{osl csl:Array (Option Value)}{cvs:Array Value}{kV doc pm ct:Value}
theorem LM (X:K.In h) (G:ϋa) (a:Ξ7) (l:K.lookup f=some #[oc,od,.func (G3 x x ιf εa δM .none kV doc pm an γo ct),osl]) (hc:JD K γo x=true) (_:ΔC) (_:ϊ0) (hd:χ9) (nl:ύy) (k:θt) (hb:Jt x x st ps):GT K mg x st f ps c t:=by
 have F:FF K x x st f δG c t:=by rw[rJ l];exact vM l hc k hd
 exact #[OY X G a,F,F.fun.binds hb,k,nl]
theorem LO (a:Ξu) (i:υ5) (l:K.lookup f=some #[oc,od,.func (G3 x q ιf εa δM .none kV doc pm an γo ct),osl]) (hc:JD K γo q=true) (_:ΔC) (_:ϊ0) (hd:χ9) (nl:ύy) (k:θt) (hb:Jt x q st ps):MT K C x q st f ps c t:=by
 have F:FF K x q st f δG c t:=by rw[rJ l];exact vM l hc k hd
 exact #[#[a,i,k],F,F.fun.binds hb,k,nl]
end
section
variable {P:Program}{w:World}{K:n_}{mg:Str->Option Value}{base:Heap}
theorem FF.okA {x qual:Str}{st:Stmt}{f c t:Addr}{fd:γN}{N ps:ώ}{k:Nat}{sp:Sp} (F:νY) (S:θz)
  (hbody:∀(A:ϣ) (outer:γ7) (s:ν) (H:Hp) (vs:δ) (Q:VK) (E:XK),DC k ρ2->sp vs H Q E →
   ∃t,FK (FP F7 P w K mg base N qual δM f γo A Δ s H E).nox εa t/\t { nx:=λ_ H'=>Q .non H',rt:=Q } 17e4 H)
  (len:∀vs H Q E,sp vs H Q E->vs.length=ps.length:=by intro vs H Q E h;first | (cases h;subst_vars;rfl) | ((repeat (obtain⟨_,h⟩:=h));subst_vars;rfl)):EI P w K mg base F7 (k+1) f fd ps sp:=F.ok S len hbody
end
end L2
namespace L2
open PySem PySem.Spec PySem.W PyProof.Rows
variable {i:Nat}
section
variable {P:Program}{w:World}{K:n_}{mg:Str->Option Value}{base:Heap}{A:Around}{outer:List Env}{s:Shared}{H:Hp}{l I S:Addr}{xs:List V}{f:Value}{kf:Nat->Int}
def Lb (outer:γ7) (P:Ϧ) (w:ϡ) (H:Hp) (s:ν) (k:Int):Value->Shared->Prop:=λu s'=>∃(H':Hp) (t:Tok),u=.int k t/\s'.os=s.os/\AllBare s'.gens/\Un δ3 [] H H' Ψ s'.heap/\Er P w H' s'.heap/\a_ H H'
structure ED (P:Ϧ) (w:ϡ) (outer:γ7) (s:ν) (H:Hp) (l I S:Addr) (j:Nat) (best:γx) (s':ν) (H':Hp):Prop where
 os:s'.os=s.os
 bare:AllBare s'.gens
 un:Un δ3 [] H H' Ψ εs
 hok:Er P w H' εs
 same:a_ H H'
 hS:∃c,s'.heap.get? S=some (seqObj "list" best c)
 nS:H' S=none
 hI:s'.heap.IsListIter I l j
 nI:H' I=none
def ES (kf:γC) (n i:Nat):Prop:=∀j,j < n->kf i<=kf j/\(j < i->kf i < kf j)
theorem ES.more {n:Nat} (h:ES kf n i) (hi:i < n):ES kf (n+1) (if kf n < kf i then n else i):=λj hj=>by
 by_cases z:kf n < kf i
 ·rw[if_pos z]
  by_cases e:j=n
  ·subst e;exact #[Md _,λy=>absurd y γZ]
  ·have:=h j γ
   exact #[by omega,λ_=>by omega]
 ·rw[if_neg z]
  by_cases e:j=n
  ·subst e;exact #[by omega,λy=>by omega]
  ·exact h j γ
variable {j:Nat}{best:Array Value}{s':Shared}{H':Hp}
structure HN (P:Ϧ) (w:ϡ) (K:n_) (mg:Ϡ) (base:Heap) (A:ϣ) (outer:γ7) (s:ν) (H:Hp) (l I S:Addr) (xs:δ) (f:θ) (kf:γC):Prop where
 hh:A.handled=none
 e0:Eh P w K mg base A Δ s H
 hl:H l=some γV
 nI:s.heap.objs.size<=I
 nS:s.heap.objs.size<=S
 IS:I≠S
 hf:∀(s':ν) (H':Hp) (i:Nat) (x:V) (v:θ),xs[i]?=some x->a_ H H'->Eh P w K mg base γp Δ s' H'->Un δ3 [] H H' Ψ s'.heap->f_ x v->wpAny Ϛ γp χq Ψt δV s'
theorem HN.lI (g:νs):l≠I:=λe=>by
 have:=g.e0.hok.fresh g.nI;rw[<- e,g.hl] at this;show 8
theorem ED.moved (m:ιG) (nI:s.heap.objs.size<=I) (IS:I≠S) {h':Heap}{tk j':Nat} (k:∀b o,b∉[I]->s'.heap.get? b=some o->h'.get? b=some o) (hI:h'.IsListIter I l j'):ED P w Δ s H l I S j' best { s' with heap:=h',toks:=tk } H':=by
 have k':∀b o,b≠I->s'.heap.get? b=some o->h'.get? b=some o:=λb o hb e=>k b o ωw e
 show 140;exact #[m.os,m.bare,m.un.turn nI k',m.hok.turn m.nI k',m.same,#[c,k' S _ IS.symm hS],m.nS,hI,m.nI]
theorem ED.put (m:ιG) (nS:ϋi) (IS:I≠S) (bs:γx):ED P w Δ s H l I S j bs { s' with heap:=s'.heap.update S τp } H':=by
 show 140
 have s1:=Kr εs S τp
 have k':∀b o,b≠S->s'.heap.get? b=some o->(s'.heap.update S τp).get? b=some o:=λb o hb e=>(s1.2 b hb).trans e;obtain⟨o,h1,h2⟩:=m.hI;exact #[m.os,m.bare,m.un.turn nS k',m.hok.turn m.nS k',m.same,#[_,get?_update_seq hS λ_=>bs],m.nS,#[o,k' I _ IS h1,h2],m.nI]
theorem mi (g:νs) {s':ν}{H':Hp}{j:Nat}{best:γx}{E:Ϣ}{Q:Option Value->Shared->Prop} (m:ιG) (hj:j<=γ2)
  (no:j=xs.length->∀(h':Heap) (tk:Nat),(∀b o,b∉[I]->s'.heap.get? b=some o->h'.get? b=some o)->Q none { s' with heap:=h',toks:=tk })
  (yes:∀x v s'',xs[j]?=some x->f_ x v->ED P w Δ s H l I S (j+1) best s'' H'->Q δb s''):wpAny Ϛ γp (pyNext (.ref I)) Q E s':=by
 obtain⟨_,h,n,rv,J⟩:=m.hok l _ (m.same _ _ g.hl)
 have D:=rv.length
 have W:=MV (prog:=P) (w:=w) (A:=γp) g.hh I l g.lI h.toArray
 have C:s'.heap.IsList l h.toArray:=#[_,J,rfl,n,rfl]
 by_cases e:j < xs.length
 ·refine W.item j s' _ _ υ7 #[m.hI,C] λv h' tk hP G hk=>?_
  have hv:h[j]?=some v:=by simpa using hP
  obtain⟨u,e1,e2⟩:=rv.get (s_ e);rw[hv] at e1
  cases e1;exact yes _ v _ (s_ e) e2 (m.moved g.nI g.IS hk G.1)
 ·have e':j=xs.length:=by omega
  refine W.done s' _ _ #[?_,C] λh' tk hk=>no e' h' tk hk;rw[Ey,← D,← e'];exact m.hI
theorem ED.size (m:ιG) (nS:ϋi):s.heap.objs.size<=s'.heap.objs.size:=by
 show 140;exact DK nS (IF (DS hS))
theorem vS (g:νs) {s':ν}{H':Hp}{j i:Nat}{best:γx}{x:V}{v:θ}{Q:Ϣ}{E:Ϣ} (m:ιG) (hx:ώL) (rx:f_ x v)
  (q:∀t s'' H'',ED P w Δ s H l I S j best s'' H''->Q ύz s''):wpAny Ϛ γp χq Q E s':=by
 refine Gy (g.hf s' H' i x v hx m.same (g.e0.after rfl m.un m.hok m.bare (m.size g.nS)) m.un rx) (λu s'' h=>?_) λ_ _ h=>h.elim;obtain⟨H'',t,rfl,os,bare,un,hok,sm⟩:=h;obtain⟨c,hS⟩:=m.hS;obtain⟨o,h1,h2⟩:=m.hI
 have nf:∀b,s.heap.objs.size<=b->b∉Ff outer:=λb hb z=>absurd (g.e0.lt z) (MQ.mpr hb)
 have C:∀b:Addr,b∉([]:List Addr):=λb=>Fl;exact q t s'' H'' #[os.trans m.os,bare,m.un.trans un,hok,m.same.trans sm,#[c,un.keep S _ hS m.nS (nf S g.nS) (C S)],un.free S _ hS m.nS (C S),#[o,un.keep I _ h1 m.nI (nf I g.nI) (C I),h2],un.free I _ h1 m.nI (C I)]
end
section
variable {P:Program}{w:World}{K:n_}{mg:Str->Option Value}{base:Heap}{A:Around}{outer:List Env}{s:Shared}{H:Hp}{l I S:Addr}{xs:List V}{f:Value}{kf:Nat->Int}{R:Result->Shared->Prop}
theorem Az (g:νs)
  (hR:∀(i:Nat) (x:V) (v:θ) (s':ν) (H':Hp),xs[i]?=some x->f_ x v->ES kf γ2 i->s'.os=s.os->AllBare s'.gens->Un δ3 [] H H' Ψ s'.heap->Er P w H' s'.heap->a_ H H'->R (.ok (.ret v)) s') (hfn:Ξx) :
  ∀(r j i:Nat) (s':ν) (H':Hp) (x:V) (v:θ) (t:Tok),xs.length - j=r->j<=xs.length->i < j->ED P w Δ s H l I S j [v,.int ν3 t].toArray s' H'->xs[i]?=some x->f_ x v->ES kf j i →
   codeAny Ϛ A (.builtin "min.loop" #[[.ref I,f,.ref S],[]]) R s':=by
 have nm:(toString "min" ++ toString ".loop" : String) = "min.loop":=by decide
 intro r
 induction r with
 | zero =>
  intro j i s' H' x v t hr hj D m hx rx hb;obtain⟨c,hS⟩:=m.hS;refine Mx O8 ?_;rw[Around.under_plainId K2 _]
  show wpAny Ϛ γp τ3 _ _ s'
  refine q_ ώ8
  show wpAny Ϛ γp Ξy _ _ s'
  refine q_ (LW (mi g m hj (λe h' tk hk=>?_) λy u G hy=>?_))
  ·have k':∀b o,b≠I->s'.heap.get? b=some o->h'.get? b=some o:=λb o hb e=>hk b o ωw e
   have s1:=Kr h' S δd
   have k2:∀b o,b≠S->h'.get? b=some o->(h'.update S δd).get? b=some o:=λb o hb e=>(s1.2 b hb).trans e
   show wpAny Ϛ γp (updateSeq S (λ_=>#[]) >>= _) _ _ _
   refine q_ (N2 (k' S _ g.IS.symm hS) rfl όg);exact hR i x v _ H' hx rx (e ▸ hb) m.os m.bare ((m.un.turn g.nI k').turn g.nS k2) ((m.hok.turn m.nI k').turn m.nS k2) m.same
  ·have:=(ET.mp hy).1
   omega
 | succ r ih =>
  intro j i s' H' x v t hr hj D m hx rx hb;obtain⟨c,hS⟩:=m.hS;refine Mx O8 ?_;rw[Around.under_plainId K2 _]
  show wpAny Ϛ γp τ3 _ _ s'
  refine q_ ώ8
  show wpAny Ϛ γp Ξy _ _ s'
  refine q_ (LW (mi g m hj όh λy u s1 hy ry m1=>?_))
  rcases hfn with ⟨q,rfl⟩ | ⟨b,rfl⟩
  all_goals
   show wpAny Ϛ γp Θy _ _ s1
   refine q_ Θz
   show wpAny Ϛ γp (tryCatch (holding [u,.int (kf j) t2] (richCompare .Lt (.int (kf j) t2) ύz >>= _)) _ >>= _) _ _ s2
   refine q_ (LW (Gz (q_ (CmpOf.ints_lt (prog:=P) (w:=w) (A:=γp) (P:=λi v=>∃t,v=.int ν3 t) kf (λi v h=>h) j i _ _ _ _ _ #[t2,rfl] θF ?_))));refine q_ (Gz (JF όg))
   have C:=hb.more D;obtain⟨c2,E⟩:=m2.hS
   by_cases lt:kf j < kf i
   ·simp only[lt,decide_true,if_true]
    refine q_ (N2 E rfl (q_ οX));rw[nm];rw[if_pos lt] at C;exact DY #[plainId_quiet K2 _,ih (j+1) j _ H2 y u t2 γ γ (Gg j) ϊM hy ry C]
   ·simp only[lt,decide_false,Kt,if_false]
    refine q_ οX;rw[nm];rw[if_neg lt] at C;exact DY #[plainId_quiet K2 _,ih (j+1) i _ H2 x v t γ γ γ m2 hx rx C]
theorem vT {Q:Ϣ}{E:Ϣ} (hh:ζz) (e0:δB) (hl:ξr) (ne:0 < γ2) (hfn:Ξx)
  (hf:∀(s':ν) (H':Hp) (i:Nat) (x:V) (v:θ),xs[i]?=some x->a_ H H'->Eh P w K mg base γp Δ s' H'->Un δ3 [] H H' Ψ s'.heap->f_ x v->wpAny Ϛ γp χq Ψt δV s')
  (hQ:∀(i:Nat) (x:V) (v:θ) (s':ν) (H':Hp),xs[i]?=some x->f_ x v->ES kf γ2 i->s'.os=s.os->AllBare s'.gens->Un δ3 [] H H' Ψ s'.heap->Er P w H' s'.heap->a_ H H'->Q v s') :
  wpAny Ϛ A (call όF [.ref l] [ωD]) Q E s:=by
 have nm:(toString "min" ++ toString ".loop" : String) = "min.loop":=by decide
 obtain⟨_,D,n,rv,G⟩:=e0.hok l _ hl
 have j:s.heap.IsList l D.toArray:=#[_,G,rfl,n,rfl]
 have ha:argsOk "min" #[[.ref l],[ωD]]:=kmk_min_key _ _
 refine kmk_tree PySem.F.kind_min PySem.F.plain_min PySem.F.entry_min ha ?_
 show wpAny Ϛ γp (QA "min" ["key", "default"] 0 ΩD >>= _) _ _ s
 refine q_ (wpAny_of_eq (show QA "min" ["key", "default"] 0 ΩD=pure [some f,none] from rfl) (q_ (DY (q_ (K6 j ?_)))))
 refine q_ υZ;rw[nm]
 have hS:(s.heap.push { cls:=.type "list_iterator",data:=.fields [.ref l,.int 0 0].toArray }).objs.size=s.heap.objs.size+1:=size_push' ..
 have kp:∀b o,s.heap.get? b=some o→((s.heap.push { cls:=.type "list_iterator",data:=.fields [.ref l,.int 0 0].toArray }).push γQ).get? b=some o:=λb o e=>D_ _ ιn
 have g:HN P w K mg base A Δ s H l Φ (s.heap.push { cls:=.type "list_iterator",data:=.fields [.ref l,.int 0 0].toArray }).objs.size xs f kf:=#[hh,e0,hl,y_ _,by rw[hS];exact IH _,by rw[hS];exact Ea μK,hf]
 have m0:ED P w Δ s H l Φ (s.heap.push { cls:=.type "list_iterator",data:=.fields [.ref l,.int 0 0].toArray }).objs.size 0 #[] { s with heap:=(s.heap.push { cls:=.type "list_iterator",data:=.fields [.ref l,.int 0 0].toArray }).push γQ } H:=⟨rfl,e0.bare,Un.kept kp,e0.hok.kept kp,a_.refl _,⟨0,Fm _ rfl⟩,e0.hok.fresh g.nS,⟨_,D_ _ χS,rfl,rfl⟩,e0.hok.fresh Γ⟩
 refine DY #[plainId_quiet K2 _,?_]
 show codeAny Ϛ A _ _ { s with heap:=(s.heap.push { cls:=.type "list_iterator",data:=.fields [.ref l,.int 0 0].toArray }).push γQ }
 generalize (s.heap.push { cls:=.type "list_iterator",data:=.fields [.ref l,.int 0 0].toArray }).objs.size=S at g m0
 generalize ({ s with heap:=(s.heap.push { cls:=.type "list_iterator",data:=.fields [.ref l,.int 0 0].toArray }).push (seqObj "list" #[] 0) }:Shared)=s0 at m0
 obtain⟨c,C⟩:=m0.hS;refine Mx O8 ?_;rw[Around.under_plainId K2 _]
 show wpAny Ϛ γp τ3 _ _ s0
 refine q_ (MN C rfl ?_)
 show wpAny Ϛ γp (tryCatch (pyNext νV) _ >>= _) _ _ s0
 refine q_ (LW (mi g m0 η3 όh λy u s1 hy ry m1=>?_))
 have lp:=Az g (R:=λr s'=>match r with | .ok (.ret v)=>Q v s' | .ok _=>False | .error e=>E e s') (λi x v s' H' h1 h2 h3 h4 h5 h6 h7 h8=>hQ i x v s' H' h1 h2 h3 h4 h5 h6 h7 h8) hfn
 have l0:ES kf 1 0:=λj' J=>by
  obtain rfl:j'=0:=by omega
  exact #[Md _,λz=>absurd z γZ]
 rcases hfn with ⟨q,rfl⟩ | ⟨b,rfl⟩
 all_goals
  show wpAny Ϛ γp Θy _ _ s1
  refine q_ Θz;obtain⟨c2,h⟩:=m2.hS
  show wpAny Ϛ γp (updateSeq S (λ_=>[u,.int (kf 0) t2].toArray) >>= _) _ _ s2
  refine q_ (N2 h rfl ?_);rw[nm];exact DY #[plainId_quiet K2 _,lp _ 1 0 _ H2 y u t2 rfl ne (Gg 0) ϊM hy ry l0]
end
variable {K:n_}
section
variable {X:Cx}
inductive ie (K:n_) (xs:δ) (H:Hp) (Q:VK):Prop
 | mk:∀(p:Addr) (bs:List Bool),xs=[.ref p]->b_ K H p (bs.map V.bl)->(Q (.bl (bs.any λb=>b)) H)->ie K xs H Q
theorem qi (hc:γm):bN X υr (ie X.K):=by
 show 261
 show 85
 show 260;refine ωF
 ·rw[vE rv hv]
  exact JF q'
 ·have hl:g.toArray.size=bs.length:=by
   show 86
   show 34
  rw[hl,pY (λb:Bool=>b) υ bs];exact πO
theorem xp (hK:ζP) (hc:γm):bN X υr (ie K):=hK ▸ qi hc
theorem AA {tg l:Expr}{tl:TE} (hK:ζP) (hl:μl):PI X tg l (Bd K tl):=hK ▸ aL hl
end
section
variable {X:Cx}
end
variable {pos:Pos}
section
variable {X:Cx}{pins:List (Addr × Obj)}{σ:St}{H:Hp}{s:Shared}
inductive oV (Q:VK) (x:V) (H1:Hp):Prop
 | mk:∀(l:Addr) (as:List Addr) (n:Nat->Nat),x=.ref l->H1 l=some (.lst (as.map V.ref))->0 < as.length->((∀i p,as[i]?=some p->∃ys,H1 p=some (.lst ys)/\ys.length=n i))->(∀i p H',as[i]?=some p->ES (λi=>((n i:Nat):Int)) as.length i->a_ H1 H'->Q γE H')->oV Q x H1
def B1 (te:TE):TE:=λσ H Q=>te σ H λx H1=>oV Q x H1
theorem gO {as:Ξ}{x:V} (h:(as.map Ϙ)[i]?=some x):∃p,as[i]?=some p/\x=.ref p:=by
 rw[DO] at h
 cases e:as[i]? with
 | none=>rw[e] at h;cases h
 | some p=>rw[e] at h;cases h;exact⟨p,rfl,rfl⟩
theorem zc {e:Expr}{te:TE}{p0 lp kp:Pos} (hc:γm) (hg:Gl X "min") (hm:όi) (hg2:Gl X "len") (hm2:X.mg "len" = none) (he:δX)
  (hs:starEach [e] X.env=(υ,eval e π) :: starEach [] X.env:=by rfl) (hs2:backTo pos ζv=(υ,eval e π) :: backTo pos 62e6:=by rfl) (hs3:(backTo pos ζv).any (·.1)=false:=by rfl) :
  PE X (.Call όU [e] [#[some "key",.Name "len" lp,kp]] pos) (B1 te):=by
 intro j s σ H Q I h;refine K1 Θj
 refine callWith_kw ?_ hs2 hs3 rfl rfl
 refine w_ ((aa he ac hs) pos j s σ H (λvs H1=>match vs with
  | [x]=>oV Q x H1
  | _=>False) I h) ?_
 rintro us s1 ⟨vs,H1,I1,rv,q1⟩
 match vs,rv,q1 with
 | [x],rv,q1 =>
  obtain⟨u,rfl,rx⟩:=cg rv;obtain⟨l,as,n,rfl,hl,ne,hn,q⟩:=q1;obtain rfl:u=Ev l:=rx;refine kws_cons (cx I1 hg2 hm2 Fo (kws_nil ?_) ε ε)
  refine Gy (vT (K:=X.K) (mg:=X.mg) (base:=γX) (outer:=δp) (H:=H1) (kf:=λi=>((n i:Nat):Int)) (Q:=λu s'=>CE δp ϥ X.w H1 s1 Q u s') (I1.ok.hd hc) I1.env0 hl (by rw[o_];exact ne) (.inr ϒ) ΞJ (λi x v s' H' hx rx hb os bare un hok sm=>?_)) (λu s' ce=>I1.after ce) λ_ _ z=>z
  ·obtain⟨p,hp,rfl⟩:=gO hx
   obtain⟨ys,h1,h2⟩:=hn i p hp;obtain rfl:v=Ev p:=C;obtain⟨hz,D,m,ri,ho⟩:=e0.hok p _ (sm _ _ h1)
   have g:=ri.length
   have E:=jH;refine QO (items:=D.toArray) #[_,ho,rfl,m,rfl] ιL #[H3,s3.toks+1,?_,rfl,μC,Un.refl,e0.hok,a_.refl _]
   rw[Ey,← g,h2]
  ·rw[o_] at hb
   obtain⟨p,hp,rfl⟩:=gO hx;exact #[_,H',os,bare,un,hok,rx,q i p H' hp hb sm]
inductive xr (tb:TE) (Q:VK) (x:V) (H2:Hp):Prop
 | mk:∀(l:Addr) (xs:List V) (kf:Nat->Int),x=.ref l->H2 l=some (.lst xs)->0 < xs.length->((∀i y H',xs[i]?=some y->a_ H2 H'->tb [some y] H' λv H''=>v=.int ν3/\a_ H' H''))->(∀i y H',xs[i]?=some y->ES kf γ2 i->a_ H2 H'->Q y H')->xr tb Q x H2
def Dr (P:Addr) (lpos:Pos) (q:Str) (mk:ιE) (te tb:TE):TE:=λσ H Q=>te σ H λx H1=>IN P lpos q mk σ H1 λ_ H2=>xr tb Q x H2
theorem B2 {c P:Addr}{p:Str}{k:Nat}{e:Expr}{te tb:TE}{params:οm}{body:Expr}{scope:γ3}{lpos kp p0:Pos} (T:οQ) (hcl:closureFor γn X.env=pure []) (hc:γm) (hr:DC (k+3) X.A) (hg:Gl X "min") (hm:όi) (he:δX)
  (S:eC [p] [p] γn) (hfr:∀q∈scope.names,q.2≠.free)
  (hb:∀(pm cdv ctv u:θ),bindArgs (HJ ν1 ζl εO body γn [] pm cdv ctv) νc=pure [(p,u)])
  (hbody:∀(A:ϣ) (outer:γ7) (s:ν) (H:Hp) (fa c':Addr),DC k (A.deeper ΓJ)→PE (Kg ϥ X.w X.K X.mg γX [p] ΓJ A Δ s H) body tb)
  (h1:defaultsOf εO X.env=([],[]):=by rfl) (hs:starEach [e] X.env=(υ,eval e π) :: starEach [] X.env:=by rfl) (hs2:backTo pos ζv=(υ,eval e π) :: backTo pos 62e6:=by rfl) (hs3:(backTo pos ζv).any (·.1)=false:=by rfl) :
  PE X (.Call όU [e] [Θ3] pos) (Dr P lpos ζl Γ6 te tb):=by
 intro j s σ H Q I h;refine K1 Θj
 refine callWith_kw ?_ hs2 hs3 rfl rfl
 refine w_ ((aa he ac hs) pos j s σ H (λvs H1=>match vs with
  | [x]=>IN P lpos ζl Γ6 σ H1 (λ_ H2=>xr tb Q x H2)
  | _=>False) I h) ?_
 rintro us s1 ⟨vs,H1,I1,rv,q1⟩
 match vs,rv,q1 with
 | [x],rv,q1 =>
  obtain⟨u,rfl,rx⟩:=cg rv;refine kws_cons (OZ h1 (w_ ϊm λf s2 ⟨vf,H2,I2,rf,q2,fa,c',_,pm,ctv,G,O,D⟩=>kws_nil ?_));subst G;obtain rfl:f=Ev fa:=rf;obtain⟨l,xs,kf,rfl,hl,ne,J,q⟩:=q2;obtain rfl:u=Ev l:=rx;refine Gy (vT (K:=X.K) (mg:=X.mg) (base:=γX) (outer:=δp) (H:=H2) (kf:=kf) (Q:=λu s'=>CE δp ϥ X.w H2 s2 Q u s') (I2.ok.hd hc) I2.env0 hl ne (.inl ϒ) ΞJ (λi x v s' H' hx rx hb os bare un hok sm=>#[_,H',os,bare,un,hok,rx,q i x H' hx hb sm])) ΨH λ_ _ z=>z;refine KZ (KS (sP (N:=[p]) (ps:=[p]) (cv:=[]) (vs:=[x]) (us:=[v]) (σ0:=[some x]) (E:=E0) (Q:=λv g=>v=.int ν3/\a_ H3 g) S (k:=k+1) hr.in1 e0 (.cons C .nil) (sm _ _ O) (sm _ _ D) (hb _ _ _ _) #[λx z c e1=>(by cases e1),λx hx=>absurd rfl (hfr (x,.free) (HW hx)),λx c e=>(by cases e)] ⟨rfl,λi x v e1 e2=>?_⟩ (hbody _ _ _ _ _ _ (((hr.in1).deeper _).mono (IH k))) (J i x H3 hx sm)) λr s' hq=>?_)
  ·match i,e1,e2 with
   | 0,e1,e2=>exact .inl τf
  ·cases r with
   | error _=>exact False.elim hq
   | ok fl =>
    cases fl with
    | next=>exact False.elim hq
    | brk=>exact False.elim hq
    | cont=>exact False.elim hq
    | ret u =>
     obtain⟨v,g,os,bare,un,hok,rv,rfl,sm⟩:=hq;obtain⟨t,rfl⟩:=rv;exact #[g,t,rfl,os,bare,un,hok,sm]
end
section
variable {X:Cx}
end
section
variable {X:Cx}
end
variable {d:Addr}
section
variable {X:Cx}{pins:List (Addr × Obj)}{σ:St}{H:Hp}{s:Shared}
theorem Inv.thaw {o:Obj}{u:HO} (I:ρ) (hd:H d=some ηs) (h0:∀o u,X.H₀ d≠some ηs):Inv X pins σ (upd H d u) s:=by
 show 277
 refine #[I.ok,I.os,ε1,ωZ,ε5,μJ,?_,λy c e=>?_,λp hp=>?_,λa u' e=>?_,ηG]
 ·have z:=I.base.free b o e n h
  show 278
 ·have z:=I.base.tups b xs e
  show 139
 ·have z:=I.base.frzs b o u e
  rw[ae (λw=>h0 o u (by rw[<- w];exact e))];exact z
 ·obtain⟨m,z⟩:=I.base.tbls b ps e
  exact Δ9
 ·show 279
 ·show 280
 ·obtain⟨q1,q2,q3⟩:=I.pin p hp
  exact ΘO
 ·have st:∀{a u'},r_ ϥ X.w H Ψ a u'->r_ ϥ X.w (upd H d u) Ψ a u':=λx =>
   x.stay υv (λb q=>by rw[ae (λw=>by rw[w,hd] at q;cases q)];exact q) λb xs q=>by rw[ae (λw=>by rw[w,hd] at q;cases q)];exact q
  by_cases ha:a=d
  ·subst ha
   rw[ab] at e
   cases e;exact st (I.hok a _ hd).2
  ·rw[ae ha] at e
   exact st (I.hok a u' e)
inductive NH (H0 H H':Hp):Prop
 | no:H'=H->NH H0 H H'
 | one:∀d o u,H d=some (.frz o u)->(∀o u,H0 d≠some (.frz o u))->H'=upd H d u->NH H0 H H'
def Bl (H0:Hp) (t:TS):TS:=λD σ H=>t { D with nx:=λσ' H'=>∃H2,NH H0 H' H2/\D.nx σ' H2 } σ H
theorem B3 {st:Stmt}{t:TS} (h:θM):PS X st (Bl X.H₀ t):=by
 intro g s σ H D I hw;refine w_ ξd λf s1 q=>?_
 cases f with
 | next =>
  obtain⟨σ',H',I',H2,tw,q⟩:=q
  cases tw with
  | no e=>subst e;exact⟨σ',_,I',q⟩
  | one d o u e h0 e2=>subst e2;exact⟨σ',_,I'.thaw e h0,q⟩
 | brk=>exact q
 | cont=>exact q
 | ret v=>exact q
theorem KV.getv {kvs:δj}{vs:θs} (h:ζa):∀{i:Nat}{k:Key}{v:V},kvs[i]?=some (k,v)->∃u,vs[i]?=some (k,u)/\f_ v u:=by
 induction h with
 | nil=>intro i k v e;simp at e
 | cons r rs ih =>
  intro i k v e
  cases i with
  | zero =>
   rename_i p q _ _
   show 281
   show 282
   show 14;obtain⟨r1,r2⟩:=r;exact #[u',by rw[show k=k' from r1];rfl,r2]
  | succ i=>exact ih ηh
theorem Qj {G:TS->Prop}{tg iter:Expr}{body:ζ8}{wi:TI}{g:TG} (hp:ιC) (hc:γm) (hi:ζy) (hg:οj) (k:∃tb,FK X body tb/\G (Bl X.H₀ χi))
  (hs:∀x,foldedSetIterable iter π x=pure x:=by intro _;rfl):∃t,PS X τ0 t/\G t :=
 let ⟨_,hb,q⟩:=k
 #[_,B3 (xY hp hc hi hg hb hs),q]
end
section
variable {X:Cx}
open Classical in
end
section
variable {X:Cx}
end
section
variable {X:Cx}
def i0 (v d:Addr) (h:Heap):Prop:=h.IsItemsView v d
inductive vU (x:V) (xs:δ) (H:Hp) (Q:VK):Prop
 | mk:∀d kvs,x=.ref d->xs=[]->H d=some (.dK kvs)->(∀v,H v=none->Q (.ref v) (upd H v (.ext (i0 v d))))->vU x xs H Q
theorem zd:Mu X "dict.items" vU:=by
 intro g s σ H x xs u us Q I rx r h;obtain⟨d,C,rfl,rfl,e,q⟩:=h;obtain rfl:u=Ev d:=rx
 cases r;obtain⟨z,hd,vs,j,dd⟩:=Bk γb e;refine call_meetsIn Rp dd.typeIs PySem.F.entry_dict_items (PySem.F.args_dict_items_1 _) (meets_dict_items (bv ϥ X.w) d hd) #[#[vs,dd],?_];refine #[.ref Φ,_,I.laid τI Γ (show r_ ϥ X.w _ _ _ (.ext (i0 Φ d)) from υW),rfl,q _ ζt]
 ·exact ιi
 ·exact υq
 ·rintro h1 h2 ⟨o,e,r⟩ k
  exact #[o,k _ e,r]
theorem jF:PySem.entryFor PySem.table "dict_itemiterator.__iter__" = some PySem.Builtin.«dict_keyiterator.__iter__» :=
 PySem.entryFor_alias (id':="dict_keyiterator.__iter__") όV rfl 8e2 όV
theorem ft {s:ν}{it:Addr}{n ep:Nat}{ok ov:θ} (h:P1 Ψ it d i n ep ok ov):s.TypeIs ιk "dict_itemiterator":=by
 first | exact P1.typeIs h | exact PySem.Heap.IsItemIter.typeIs h | exact ώK
def LJ (d:Addr) (o:Obj) (kvs:δj):It where
 go i H:=H d=some θ2/\i < kvs.length
 yld i H x H':=∃T k v,H T=none/\x=.ref T/\kvs[i]?=some (k,v)/\H'=upd H T ύA
 stop i H:=H d=some θ2/\kvs.length<=i
theorem xt {P:Ϧ}{w:ϡ}{elts:εh}{x1}{tp:Pos}{kvs:δj}{o:Obj}{es:υG}{ep:Nat} (d it:Addr) (ho:ΩZ):Gi P w K θp (LJ d o kvs) [it] it (λi h=>∃ok ov,P1 h it d i χX ep ok ov) where
 mem:=by simp
 obj:=λi h st b hb=>by
  show 30
  subst e;obtain⟨ok,ov,e⟩:=st;exact #[_,e,λv z=>by have z':Data.fields _=Data.cell v:=z;cases z']
 keep:=λi h h' ⟨ok,ov,e⟩ k=>#[ok,ov,k it ό _ e]
 item:=by
  show 288
  show 88
  show 89
  cases g3
  have hl:=μy;obtain⟨u,hu,ru⟩:=g.getv ζJ;rw[hl] at st
  have lt:∀{c o},s.heap.get? c=some o->c≠s.heap.objs.size:=λe=>Ea εL;refine wpAny_pyNext_items_item st νN hu λO h' hk a1 a3 a4 Q=>?_;refine #[_,rfl,PySem.wpAny_letOwnedTupleGo_items a1 λU C sb=>?_]
  have D:s.heap.objs.size≠it:=(lt st).symm
  have kk:∀b u,b∉[it]->s.heap.get? b=some u->U.get? b=some u:=λb u hb e=>by
   have hb:b≠it:=λy=>hb (by simp[y])
   exact sb.extBut _ _ hb (Q b u hb e)
  rw[<- hl] at C
  refine⟨.ref Φ,upd H Φ (.tup [kV (kvs[i]).1,(kvs[i]).2]),I.turnedUp (t':=δ9) hf kk Γ ⟨by show 2<=δv;decide,[O,u],.cons (vQ hk) ύr,⟨_,sb.extBut _ _ D a3,rfl,_,rfl⟩⟩,rfl,
   ⟨_,_,_,I.hok.fresh Γ,rfl,s_ hi,rfl⟩,⟨_,_,C⟩,λb hb=>?_⟩
  show 30
  rw[e,ae D.symm];exact(hf it ό).1
 done:=by
  show 288
  show 88
  show 89
  cases g3
  show 284
  exact wpAny_pyNext_items_end γS st νN ύx λh' eb=>θe
 self:=λ_ _ _ _ _ ⟨_,_,st⟩ h=>PySem.wpAny_pyIter_slot (ft st) Re (PySem.wpAny_call_entry Re (ft st) jF (id (PySem.wpAny_pure #[_,rfl,_,_,ft st,PySem.F.slot_dict_itemiterator_next.lookup,h])) (PySem.F.args_dict_itemiterator_iter_1 _))
inductive sY (R:δD) (x:V) (H1:Hp):Prop
 | mk:∀v d kvs,x=.ref v->H1 v=some (.ext (i0 v d))->H1 d=some (.dK kvs)->(∀o,R (LJ d o kvs) (upd H1 d (.frz o (.dK kvs))))->sY R x H1
def CQ (td:TE):TI:=λσ H R=>td σ H λx H1=>sY R x H1
theorem AB {elts:εh}{x1}{tp:Pos}{l:Expr}{tl:TE} (hl:μl):PI X θp l (CQ tl):=by
 show 71;refine w_ τS λv s1 ⟨x,H1,I1,r1,q1⟩=>?_;obtain⟨a,d,D,e,ev,ea,q⟩:=q1;subst e
 cases r1;obtain⟨z,C,vs,j,o,es,ep,g1,g2,g3,g4,g5,g6⟩:=dm I1.hok (.inl ea)
 have hv:s1.heap.IsItemsView a d:=(I1.hok a _ ev).1
 show 285
 have hl:=j.length;refine wpAny_pyIter_items hv ρY ?_;refine #[γL,[γL],_,_,_,rfl,I2.kept (t':=εF) λb o e=>D_ _ e,xt d _ g3,#[_,_,by rw[hl];exact Fm _ rfl],λb hb=>?_,q o]
 show 55
 show 286
theorem ze {o:Obj}{kvs:δj}{g:TG}{tb:TS}{D:Fe}{σ:St}{H:Hp} (Pv:ζw) (h0:ζ9) (hl:∀i σ H,i<=kvs.length->Pv i σ H->H d=some θ2)
  (hs:∀i k v T σ H,kvs[i]?=some (k,v)->H T=none->Pv i σ H->g θT σ (upd H T ύA) λσ2 H2=>tb { D with nx:=Pv (i+1),ct:=Pv (i+1),bk:=D.nx } σ2 H2) (hd:∀σ H,Pv kvs.length σ H->D.nx σ H) :
  ∃W:Nat->Nat->St->Hp->Prop,ζ1/\∀i m σ H,W i m σ H →
   ((LJ d o kvs).stop i H/\D.nx σ H)\/((LJ d o kvs).go i H/\∃N:St->Hp->Prop,εt/\∀x H',(LJ d o kvs).yld i H x H'->g x σ H' λσ2 H2=>tb { D with nx:=N,ct:=N,bk:=D.nx } σ2 H2):=by
 refine #[λi m σ H=>m=kvs.length - i/\i<=kvs.length/\Pv i σ H,#[χX,by simp,EO _,h0],?_]
 rintro i m σ H ⟨rfl,hi,p⟩
 have q:=hl i σ H hi p
 by_cases hlt:i < kvs.length
 ·refine .inr #[#[q,hlt],Pv (i+1),λσ' H' p'=>#[kvs.length - (i+1),by omega,rfl,hlt,p'],λx H' y=>?_]
  obtain⟨T,k,v,hT,rfl,ek,rfl⟩:=y;exact hs i k v T σ H ek hT p
 ·have e:i=kvs.length:=by omega
  exact .inl #[#[q,by omega],hd σ H νf]
end
section
variable {X:Cx}{o:Expr}{lo hi:Option Expr}{pos p2:Pos}{to:TE}{tl th:TO}
inductive Bm (x:V) (l u:εB) (v:V) (H:Hp) (Q:ηA):Prop
 | mk:∀p b a c xs ys,x=.ref p->v=.ref b->l=some a->u=some c->H p=some (.lst xs)->H b=some (.lst ys)->p≠b->0<=a->a<=c->c<=xs.length->xs.length+ys.length<=sizeLine->Q (upd H p (.lst (xs.take a.toNat++ys++xs.drop c.toNat)))->Bm x l u v H Q
def Qg (to:TE) (tl th:TO):TG:=λv σ H Q=>to σ H λx H1=>tl σ H1 λl H2=>th σ H2 λu H3=>Bm x l u v H3 λH4=>Q σ H4
theorem AC (ho:οi) (hl:PO X lo tl) (hu:PO X hi th)
  (ha:∀v,assign ΘP π v=(do
   let ov ← holding [v] (eval o X.env)
   let iv ← holding [v,ov] (eval (.Slice lo hi none p2) X.env)
   standAt pos
   holding [v,ov,iv] ό4
   release [iv,v,ov] []):=by intro _;rfl):PG X ΘP (Qg to tl th):=by
 intro g s σ H v u Q I r h;rw[ha u];refine q_ Δ0;refine q_ (Gz (wpAny_Slice (w_ Ωu λvl s2 ⟨a,H2,I2,pl,q2⟩=>w_ Ωv λvu s3 ⟨c,H3,I3,pu,q3⟩=>?_)));rw[χ6];refine DY ?_
 have I4:Inv X g σ H3 { s3 with heap:=s3.heap.push { cls:=.type "slice",data:=.fields [vl,vu,.none].toArray } }:=I3.kept (t':=s3.toks) λb ob q=>D_ _ q
 obtain⟨p,b,a,c,xs,ys,rfl,rfl,rfl,rfl,hp,hb,ne,h0,j,hc,hz,q⟩:=q3
 cases r1
 cases r
 cases pl
 cases pu;refine q_ (MF (q_ (Gz ?_)));refine yu I4 hp hb ne (Qy ..) ϒ ϒ h0 j hc hz λs' I5=>?_;exact wpAny_release #[σ,_,I5,q]
end
end L2
namespace L2
open PySem PySem.Spec PySem.W PyProof.Rows
def E7 (H:Hp):List πa->List Addr->Prop
 | [],[]=>True
 | p :: ps,t :: ts=>H t=some (Fq (p.1:Int) p.2)/\E7 H ps ts
 | _,_=>False
theorem E7.length {H:Hp}:∀{ps:δh}{ts:Ξ},E7 H ps ts->ts.length=ps.length
 | [],[],_=>rfl
 | [],_ :: _,z=>z.elim
 | _ :: _,[],z=>z.elim
 | _ :: ps,_ :: ts,⟨_,r⟩=>by rw[F6,F6,E7.length r]
theorem E7.get {H:Hp}:∀{ps:δh}{ts:Ξ}{i:Nat},E7 H ps ts->i < ps.length->∃t,(ts.map Ev).getD i Jy=.ref t/\H t=some Θ4
 | [],[],_,_,hi=>absurd hi ι3
 | [],_ :: _,_,z,_=>z.elim
 | _ :: _,[],_,z,_=>z.elim
 | _ :: _,t :: _,0,z,_=>⟨t,rfl,z.1⟩
 | _ :: ps,_ :: ts,i+1,z,hi=>E7.get (ps:=ps) (ts:=ts) (i:=i) z.2 εx
theorem E7.tups {P:Ϧ}{w:ϡ}{H:Hp}{s:ν} (hok:υH):∀{ps:δh}{ts:Ξ},E7 H ps ts->∃fs:List Value,KatTups Ψ (ts.map Ev) fs/\fs.length=ps.length/\∀v∈fs,∃i t,v=HY i t
 | [],[],_=>Θx
 | [],_ :: _,z=>z.elim
 | _ :: _,[],z=>z.elim
 | _ :: ps,t :: ts,⟨z,r⟩=>by
  obtain⟨fs,h1,h2,h3⟩:=E7.tups hok r;show 269;refine ΓG
  rcases DH.mp hv with rfl | hv
  ·exact εo
  ·exact h3 v hv
section
variable {X:Cx}
inductive iy (K:n_) (xs:δ) (H:Hp) (Q:VK):Prop
 | mk:∀(p:Addr) (ts:List Addr) (ps:List (Nat × Nat)),xs=[.ref p]->b_ K H p (ts.map V.ref)->E7 H ps ts->(ps.map Prod.fst).Nodup->ps.length < 64->(∀(l:Addr) (ts':List Addr),H l=none->ts'.Perm ts->Q (.ref l) (upd H l (.lst (ts'.map V.ref))))->iy K xs H Q
theorem tf (hc:γm) (hu:X.A.in1.in1.units+64 < cLine):bN X ξm (iy X.K):=by
 intro a6 s σ H xs us Q I r h;obtain⟨p,ts,ns,rfl,hq,hK,nd,a7,q⟩:=h;show 59
 show 13;obtain⟨a8,r',pl,hz⟩:=I.list hq;obtain rfl:=qd r'
 have g:(ts.map Ev).length=ns.length:=by rw[o_,hK.length]
 have hl:=pl.isList
 have hg:=λi (hi:i < ns.length)=>hK.get hi;generalize aT:ts.map Ev=vs at g hg hl;refine Calls.call_function_entry kind_sorted plain_sorted χp (args_sorted1 _) ?_;unfold Builtin.«sorted»
 refine q_ (m:=checkCount "sorted" 1 1 _) δU
 refine q_ Θi
 refine q_ ΞI
 have Z:((s.heap.push γQ).update Φ ζr).objs.size=s.heap.objs.size+1:=by
  rw[Pf,χU]
 have D:(((s.heap.push γQ).update Φ ζr).push ζs).get? ϙ=some 26e6:=by
  rw[<- Z];exact Fm _ rfl
 have keep:∀b o,s.heap.get? b=some o→(((s.heap.push γQ).update Φ ζr).push ζs).get? b=some o:=λb o q=>by
  have Y:b < s.heap.objs.size:=DS q;rw[N8 _ _ _ (by rw[Z];exact Ea (Gp Y)),Ql _ _ _ _ (Ea Y),N8 _ _ _ (Ea Y)]
  exact q
 show wpAny _ _ _ _ _ { s with heap:=((s.heap.push γQ).update s.heap.objs.size ζr).push ζs }
 rw[Z]
 generalize (((s.heap.push (seqObj "list" #[] 0)).update s.heap.objs.size (Obj.mapSeq (· ++ vs.toArray))).push (seqObj "list" vs.toArray 0))=h2 at D keep
 refine q_ (Gz (QQ ώ7 #[_,D,rfl] ύv ?body (args_list_sort _)))
 show wpAny ω χC (Builtin.«list.sort» #[[.ref ϙ],[]]) _ _ _
 rw[list_sort_plain]
 have s1:=Kr h2 ϙ δd
 obtain⟨e1,a0⟩:∃e1,(h2.update (s.heap.objs.size+1) (Obj.mapSeq λ_=>(#[]:Array Value))).get? (s.heap.objs.size+1)=some (seqObj "list" #[] e1):=#[_,get?_update_seq D λ_=>#[]]
 refine q_ (listItems_at D rfl ?_);refine q_ (listUpdate_at D rfl ?_ 46e9 η3)
 refine q_ (seqEpoch_at a0 rfl ?_);refine q_ ΓY
 refine q_ υZ;refine Gz ?_
 have U:∀b o,s.heap.get? b=some o→(((h2.update ϙ δd).push ηb).push γQ).get? b=some o:=λb o q=>by
  show 274
 have G:(((h2.update ϙ δd).push ηb).push γQ).get? ϙ=some 61e2:=D_ _ (D_ _ a0)
 show wpAny ω χC _ _ _ { s with heap:=((h2.update ϙ δd).push ηb).push γQ }
 generalize (((h2.update (s.heap.objs.size+1) (Obj.mapSeq λ_=>(#[]:Array Value))).push (seqObj "tuple" vs.toArray 0)).push (seqObj "list" #[] 0))=h5 at U G
 show 11
 have fr:H ϙ=none:=I.hok.fresh θa
 have hok:Er ϥ X.w H h5:=I.hok.kept U
 by_cases h2:vs.toArray.size < 2
 case' pos =>
  rw[if_pos h2,if_pos h2];rw[Ey,g] at h2;refine q_ δU;rw[ύu];refine q_ δU;show 11
  have R:Pm γP (p_ γP).toArray:=χT
  have O:arrOf Δd=(p_ γP).toArray.map 137e0:=by
   have e:=kas_range (vs.toArray.zip δt);rw[show (vs.toArray.zip δt).size=ns.length by simp[g]] at e
   rw[e]
  have hf:failedOf Δd=none:=rfl;generalize SortSt.mk' general' (vs.toArray.zip vs.toArray) #[] 7 none=st at O hf;generalize (p_ ns.length).toArray=p' at R O
 case' neg =>
  rw[if_neg h2,if_neg h2];rw[Ey,g] at h2;obtain⟨fs,t1,t2,t3⟩:=hK.tups (s:={ s with heap:=h5 }) hok;rw[aT] at t1
  refine q_ Δ3
  ·obtain⟨i,t,rfl⟩:=t3 v hv
   exact Looks.of_pure rfl
  rw[show ΨG=true from rfl]
  have hz:∀i j,i < ns.length->j < ns.length->((ns.getD i (0,0)).1:Int)=((ns.getD j (0,0)).1:Int)->i=j:=λi j hi hj e=>by
   rw[t_,s_ hi,t_,s_ hj] at e
   have e2:174e5[i]'(by rw[o_];exact hi)=174e5[j]'(by rw[o_];exact hj):=by rw[Ku,Ku];exact O1 e
   exact(KC nd).mp e2
  have ask:(kas_sort ψh).kasWp (kas_ask ϥ X.w χC υX vs) (λp E=>E = { s with heap:=h5 }/\Pm ns.length p/\Up νA p ns.length) { s with heap:=h5 }:=by
   rw[g];refine E9.wp (lt:=GL νA) (n:=γP) ΩB _ ΔI
   obtain⟨t,e1,e2⟩:=hg i hi;obtain⟨u,e3,e4⟩:=hg j hj;show 273;refine vL (s:={ s with heap:=h5 }) hok e2 e4 γS hu ?_
   have e5:decide (((ns.getD i (0,0)).1:Int) < ((ns.getD j (0,0)).1:Int)\/((ns.getD i (0,0)).1:Int)=((ns.getD j (0,0)).1:Int)/\(ns.getD i (0,0)).2 < (ns.getD j (0,0)).2)=GL νA i j:=by
    show _=decide _
    rw[όR];refine #[λh=>h.elim id λh=>?_,.inl]
    have:=hz i j hi hj h.1;show 14;exact absurd h.2 γZ
   rw[e5];exact q
  refine q_ (Gy (kat_run (Q:=λad E=>∃p:Array Nat,arrOf ad=p.map Ξg/\failedOf ad=none/\E = { s with heap:=h5 }/\Pm ns.length p/\Up νA p ns.length) rfl 0e0 γ (λp' ad E a1 a2 a3 a4=>όe) ask) ?_ λ_ _ x=>x)
  rintro⟨⟨⟩,st⟩ E ⟨p',O,hf,rfl,R,hu⟩;show 11
 all_goals
  have an:=kat_snds (ks:=vs) (vs:=vs) rfl O
  have a5:=R.size
  have s2:=Kr h5 ϙ ΘN
  obtain⟨c2,J⟩:∃c2,(h5.update (s.heap.objs.size+1) (Obj.mapSeq λ_=>(arrOf st).map (·.2))).get? (s.heap.objs.size+1)=some (seqObj "list" ((arrOf st).map (·.2)) c2):=#[_,get?_update_seq G λ_=>(arrOf st).map (·.2)]
  refine q_ (seqEpoch_at G rfl ?_)
  refine q_ (listUpdate_at G rfl ?_ 30e3 (by
   show 271
   rw[an,Ey,o_,Ky,a5,ηY];omega))
  try rw[hf]
  simp only[bne_self_eq_false,Kt,if_false]
  have J:=J.trans (congrArg ΞZ an)
  have pl:p'.toList.Perm 185e6:=by simpa using N4.mp R.pm
  have pin:∀i∈p'.toList,i < ns.length:=λi hi=>EF.mp ϋH
  have eo:(p'.toList.map λi=>vs.getD i Jy)=(p'.toList.map λi=>ts.getD i 0).map Ev:=by
   rw[Fa];refine HR λi hi=>?_
   have aw:i < ts.length:=by rw[hK.length];exact pin i hi
   rw[<- aT,t_,DO,s_ aw]
   show _=Ev (ts.getD i 0)
   rw[t_,s_ aw];rfl
  rw[eo] at J;refine DY #[_,rfl,DY δW];refine #[.ref ϙ,_,I.laid (t':=δ9) όT θa (show r_ ϥ X.w _ _ _ (.lst ((p'.toList.map λi=>ts.getD i 0).map Ϙ)) from #[?_,_,c2,qe _,J]),rfl,q _ _ fr ?_]
  ·exact(s2.2 b (Ea (Gp (DS z)))).trans (U b o' z)
  ·rw[o_,o_,Ky,a5,ηY];omega
  ·have e0:(p_ γP).map ϊN=ts:=by
    rw[<- hK.length]
    apply GZ
    show 136
    show 141
    ·rw[F1 hi,s_ hi,HZ,t_,s_ hi]
     rfl
    ·rw[Fh δf,Fh γ]
     rfl
   have:=Qz ϊN pl
   rwa [e0] at this
end
end L2
namespace My
open PySem L2 PyProof.Rows
local macro_rules
 | `(tactic| exists $f:ident $a)=>`(tactic| (refine $f $a ?_;intro u_))
 | `(tactic| exists $f:ident)=>`(tactic| (refine $f ?_;intro u_))
def Dw (i : Nat) : Stmt := PySem.Challenge.pw_spareplank_k51_blocks_got_and_put.main.body.getD i ϊh
abbrev jO:Stmt:=aA θZ 0
abbrev cR:Stmt:=aA θZ 1
abbrev iz:Stmt:=aA θZ 2
abbrev ji:Stmt:=aA θZ 3
abbrev jP:Stmt:=aA θZ 4
abbrev jj:Stmt:=aA θZ 5
abbrev zg:Stmt:=Dw 35
abbrev jk:Stmt:=Dw 36
abbrev jQ:Stmt:=Dw 37
abbrev jR:Stmt:=Dw 38
abbrev qj:Stmt:=Dw 39
abbrev qk:Stmt:=Dw 40
abbrev ql:Stmt:=Dw 41
abbrev lr:Stmt:=Dw 42
abbrev jl:Stmt:=aA ι0 0
abbrev gq:Stmt:=aA ι0 2
abbrev gP:Stmt:=aA ι0 3
abbrev gQ:Stmt:=aA ι0 5
abbrev gR:Stmt:=aA ι0 6
abbrev gS:Stmt:=Dw 47
abbrev gT:Stmt:=Dw 48
abbrev jm:Stmt:=Dw 49
abbrev lu:Stmt:=aA ζK 0
abbrev lw:Stmt:=aA ζK 5
abbrev fv:Stmt:=aA ζK 12
abbrev jS:Stmt:=aA ζK 6
abbrev gr:Stmt:=aA ζK 8
abbrev gU:Stmt:=aA ζK 7
abbrev gu:Stmt:=aA ζK 1
abbrev iA:Stmt:=aA ζK 2
abbrev lx:Stmt:=Dw 2
abbrev jn:Stmt:=aA ε4 0
abbrev jT:Stmt:=aA ε4 1
abbrev jo:Stmt:=aA ε4 2
abbrev dU:Stmt:=aA ε4 3
abbrev iB:Stmt:=aA ε4 4
abbrev iC:Stmt:=aA ε4 5
abbrev fw:Stmt:=aA ε4 7
abbrev iD:Stmt:=aA ε4 9
abbrev gW:Stmt:=aA ε4 10
abbrev fz:Stmt:=aA ε4 11
abbrev gv:Stmt:=aA ε4 6
abbrev iE:Stmt:=aA ε4 8
abbrev qm:Stmt:=Dw 19
abbrev gY:Stmt:=Dw 20
abbrev qo:Stmt:=Dw 21
abbrev lz:Stmt:=Dw 22
abbrev nA:Stmt:=Dw 23
abbrev jp:Stmt:=Dw 24
abbrev gZ:Stmt:=Dw 25
abbrev tj:Stmt:=Dw 26
abbrev jU:Stmt:=Dw 27
abbrev lA:Stmt:=Dw 17
abbrev g0:Stmt:=Dw 43
abbrev jq:Stmt:=aA ι0 1
abbrev jV:Stmt:=aA μE 0
abbrev jr:Stmt:=aA μE 1
abbrev jt:Stmt:=aA μE 2
abbrev g7:Stmt:=aA μE 4
abbrev iF:Stmt:=aA μE 5
abbrev mj:Stmt:=aA (Dw 57) 0
abbrev lB:Stmt:=Dw 64
abbrev jW:Stmt:=Dw 65
abbrev iG:Stmt:=Dw 66
abbrev ju:Stmt:=Dw 67
abbrev jX:Stmt:=aA μF 0
abbrev gw:Stmt:=aA μF 1
abbrev gy:Stmt:=aA μF 3
abbrev gz:Stmt:=aA μF 5
abbrev dJ:Stmt:=aA μF 6
abbrev iH:Stmt:=Dw 71
abbrev lC:Stmt:=aA δ5 0
abbrev iI:Stmt:=aA δ5 9
abbrev jY:Stmt:=aA δ5 11
abbrev gA:Stmt:=aA δ5 12
abbrev iJ:Stmt:=aA δ5 13
abbrev lE:Stmt:=aA δ5 15
abbrev nB:Stmt:=aA δ5 16
abbrev lF:Stmt:=aA δ5 17
abbrev jv:Stmt:=aA δ5 18
abbrev fA:Stmt:=aA δ5 20
abbrev jZ:Stmt:=aA δ5 21
abbrev fB:Stmt:=aA δ5 22
abbrev fc:Stmt:=aA δ5 23
abbrev dX:Stmt:=aA δ5 24
abbrev fE:Stmt:=aA δ5 25
abbrev gB:Stmt:=Dw 29
abbrev nE:Stmt:=aA εj 0
abbrev lG:Stmt:=aA εj 1
abbrev fF:Stmt:=aA εj 2
abbrev iK:Stmt:=aA εj 3
abbrev gC:Stmt:=aA εj 4
abbrev qp:Stmt:=aA εj 6
abbrev qr:Stmt:=aA εj 7
abbrev gE:Stmt:=aA εj 8
abbrev dL:Stmt:=aA εj 9
abbrev iL:Stmt:=aA εj 10
abbrev fG:Stmt:=aA εj 11
abbrev qt:Stmt:=Dw 74
abbrev vV:Stmt:=Dw 75
abbrev qu:Stmt:=Dw 76
abbrev Bn:Stmt:=Dw 77
abbrev vW:Stmt:=Dw 78
abbrev vX:Stmt:=Dw 79
abbrev Bo:Stmt:=Dw 80
abbrev Bp:Stmt:=Dw 81
theorem Ov:ak ["self", "rule", "after"] ["self", "rule"] (ah jO):=Dx
theorem Lq:ak ["self", "symbol", "after"] ["self"] (ah cR):=Dx
theorem OT:ak ["self", "one", "twice"] ["self", "one"] (ah iz):=Dx
theorem Km:ak ["self", "one", "other", "product", "doubled", "digits"] ["self", "one", "other"] (ah ji):=Dx
theorem qZ:ak ["self", "one"] ["self", "one"] (ah jP):=Dx
theorem J_:ak ["self", "one", "many", "product", "square", "digits"] ["self", "one", "many"] (ah jj):=Dx
theorem OJ:ak ["many", "at", "some"] ["many", "at"] (ah zg):=Dx
theorem oW:ak ["field", "factor", "line"] ["field", "factor", "line"] (ah jk):=Dx
theorem q5:ak ["one", "other"] ["one", "other"] (ah jQ):=Dx
theorem OG:ak ["lines", "start", "place", "at"] ["lines", "start", "place"] (ah jR):=Dx
theorem OM:ak ["lines", "one", "other", "some"] ["lines", "one", "other"] (ah qj):=Dx
theorem Lw:ak ["field", "lines", "at", "place", "head", "some", "number", "line"] ["field", "lines", "at", "place"] (ah qk):=Dx
theorem JL:ak ["field", "lines", "known", "place", "some", "heads", "other", "found", "by"] ["field", "lines", "known", "place"] (ah ql):=Dx
theorem Ms:ak ["lines", "heads", "many", "place", "make", "head", "line"] ["lines", "heads", "many", "place"] (ah lr):=Dx
theorem Oz:ak ["self", "field", "many", "step"] ["self", "field", "many"] (ah jl):=Dx
theorem KJ:ak ["self", "block", "base", "some", "rest", "at"] ["self", "block"] (ah gq):=Dx
theorem Ly:ak ["self", "some", "base", "block", "symbol"] ["self", "some"] (ah gP):=Dx
theorem mm:ak ["self", "factor", "block"] ["self", "factor", "block"] (ah gQ):=Dx
theorem Ll:ak ["self", "factors", "some", "total", "factor", "block"] ["self", "factors", "some"] (ah gR):=Dx
theorem Ni:ak ["weights", "data", "some"] ["weights"] (ah gS):=Dx
theorem Mv:ak ["field", "weights", "some", "weight", "role"] ["field", "weights"] (ah gT):=Dx
theorem Nu:ak ["weights", "total", "line", "other"] ["weights", "total"] (ah jm):=Dx
theorem tz:ak ["self", "blocks", "weights"] ["self", "blocks", "weights"] (ah lu):=Dx
theorem tD:ak ["self", "known", "role"] ["self", "known", "role"] (ah lw):=Dx
theorem j0:ak ["self", "role"] ["self", "role"] (ah fv):=Dx
theorem rb:ak ["self", "known", "role"] ["self", "known", "role"] (ah jS):=Dx
theorem KO:ak ["self", "by", "row", "line", "factor", "equation", "told"] ["self", "by", "row"] (ah gr):=Dx
theorem OK:ak ["self", "row", "role", "told"] ["self", "row", "role"] (ah gU):=Dx
theorem kI:ak ["self"] ["self"] (ah gu):=Dx
theorem nF:ak ["self", "total", "role"] ["self", "total", "role"] (ah iA):=Dx
theorem OU:ak ["code", "known", "some", "role"] ["code", "known", "some"] (ah lx):=Dx
theorem oX:ak ["self", "code", "ask", "costs"] ["self", "code", "ask", "costs"] (ah jn):=Dx
theorem re:ak ["self", "role"] ["self", "role"] (ah jT):=Dx
theorem oY:ak ["self", "role"] ["self", "role"] (ah jo):=Dx
theorem OQ:ak ["self", "some", "role"] ["self", "some"] (ah dU):=Dx
theorem nG:ak ["self"] ["self"] (ah iB):=Dx
theorem nJ:ak ["self", "some"] ["self", "some"] (ah iC):=Dx
theorem j3:ak ["self", "some"] ["self", "some"] (ah fw):=Dx
theorem OE:ak ["self", "free"] ["self"] (ah iD):=Dx
theorem LF:ak ["self", "some", "order", "known", "way", "role"] ["self", "some"] (ah gW):=Dx
theorem j4:ak ["self", "role"] ["self", "role"] (ah fz):=Dx
theorem OC:ak ["self", "some", "known"] ["self", "some"] (ah gv):=Dx
theorem Oq:ak ["self", "some", "left"] ["self", "some"] (ah iE):=Dx
theorem xu:ak ["code", "totals", "role"] ["code", "totals", "role"] (ah qm):=Dx
theorem M0:ak ["asking", "news", "code", "totals"] ["asking", "news"] (ah gY):=Dx
theorem xy:ak ["code", "totals", "news"] ["code", "totals", "news"] (ah qo):=Dx
theorem tE:ak ["code", "totals", "news"] ["code", "totals", "news"] (ah lz):=Dx
theorem KG:ak ["asking", "rest", "change", "ways", "some", "price", "detours", "shorter"] ["asking", "rest", "change"] (ah nA):=Dx
theorem Lu:ak ["asking", "news", "total", "code", "line", "roles", "some"] ["asking", "news", "total"] (ah jp):=Dx
theorem Lo:ak ["asking", "news", "total", "code", "line", "roles", "some"] ["asking", "news", "total"] (ah gZ):=Dx
theorem Lr:ak ["asking", "news", "totals", "by_rest", "laid", "role", "total"] ["asking", "news", "totals", "by_rest"] (ah tj):=Dx
theorem JK:ak ["asking", "news", "code", "totals", "rest", "change", "way", "laid", "known"] ["asking", "news"] (ah jU):=Dx
theorem OD:ak ["asking", "role", "way"] ["asking", "role"] (ah lA):=Dx
theorem OH:ak ["data", "sums", "weights"] ["data", "sums"] (ah g0):=Dx
theorem oZ:ak ["self", "block"] ["self", "block"] (ah jq):=Dx
theorem rh:ak ["self", "held"] ["self", "held"] (ah jV):=Dx
theorem o3:ak ["self", "at"] ["self", "at"] (ah jr):=Dx
theorem o4:ak ["self"] ["self"] (ah jt):=Dx
theorem mn:ak ["self", "at"] ["self", "at"] (ah g7):=Dx
theorem nK:ak ["self", "at", "block"] ["self", "at", "block"] (ah iF):=Dx
theorem tF:ak ["planks", "shift"] ["planks", "shift"] (ah lB):=Dx
theorem rj:ak ["planks", "step"] ["planks", "step"] (ah jW):=Dx
theorem nM:ak ["data", "planks", "stripes"] ["data", "planks", "stripes"] (ah iG):=Dx
theorem OS:ak ["planks", "turns", "turn"] ["planks", "turns"] (ah ju):=Dx
theorem rm:ak ["self", "data", "planks", "stripes", "turns"] ["self", "data", "planks", "stripes", "turns"] (ah jX):=Dx
theorem kJ:ak ["self", "at"] ["self", "at"] (ah gw):=Dx
theorem Oy:ak ["self", "stripe", "role", "turn"] ["self", "stripe", "role"] (ah gy):=Dx
theorem kK:ak ["self", "stripe"] ["self", "stripe"] (ah gz):=Dx
theorem iM:ak ["self", "stripe"] ["self", "stripe"] (ah dJ):=Dx
theorem nN:ak ["planks", "stripes", "slots"] ["planks", "stripes", "slots"] (ah iH):=Dx
theorem tG:ak ["self", "planks", "stripes", "slots"] ["self", "planks", "stripes", "slots"] (ah lC):=Dx
theorem nO:ak ["self", "plank"] ["self", "plank"] (ah iI):=Dx
theorem rn:ak ["self", "plank", "stripe"] ["self", "plank", "stripe"] (ah jY):=Dx
theorem kL:ak ["self"] ["self"] (ah gA):=Dx
theorem Mw:ak ["self", "some", "slot", "note"] ["self"] (ah iJ):=Dx
theorem tH:ak ["self", "plank", "stripe"] ["self", "plank", "stripe"] (ah lE):=Dx
theorem uV:ak ["self", "plank", "stripe", "block"] ["self", "plank", "stripe", "block"] (ah nB):=Dx
theorem tI:ak ["self", "slot", "stripe", "pairs"] ["self", "slot", "stripe", "pairs"] (ah lF):=Dx
theorem o5:ak ["self", "slot"] ["self", "slot"] (ah jv):=Dx
theorem j5:ak ["self"] ["self"] (ah fA):=Dx
theorem rp:ak ["self", "event"] ["self", "event"] (ah jZ):=Dx
theorem j6:ak ["self", "slot"] ["self", "slot"] (ah fB):=Dx
theorem jG:ak ["self", "plank"] ["self", "plank"] (ah fc):=Dx
theorem i3:ak ["self", "stripe"] ["self", "stripe"] (ah dX):=Dx
theorem j7:ak ["self", "plank", "stripe"] ["self", "plank", "stripe"] (ah fE):=Dx
theorem kM:ak ["code", "shape", "rack"] ["code", "shape", "rack"] (ah gB):=Dx
theorem uW:ak ["self", "code", "shape", "rack"] ["self", "code", "shape", "rack"] (ah nE):=Dx
theorem OF:ak ["self", "stripes"] ["self"] (ah lG):=Dx
theorem j8:ak ["self"] ["self"] (ah fF):=Dx
theorem nQ:ak ["self"] ["self"] (ah iK):=Dx
theorem Mn:ak ["self", "stripe", "rack", "order", "costs"] ["self", "stripe"] (ah gC):=Dx
theorem Nc:ak ["self", "at", "place", "block"] ["self", "at"] (ah qp):=Dx
theorem LC:ak ["self", "at", "some", "plan", "stripe", "news", "first"] ["self", "at", "some"] (ah qr):=Dx
theorem OL:ak ["self", "at", "some", "block"] ["self", "at", "some"] (ah gE):=Dx
theorem Li:ak ["self", "at", "some", "news", "more", "block", "place"] ["self", "at", "some"] (ah dL):=Dx
theorem OR:ak ["self", "stripe", "news", "laid"] ["self", "stripe", "news"] (ah iL):=Dx
theorem JI:ak ["self", "group", "slot", "planned", "stripe", "pairs", "plank", "block"] ["self", "group"] (ah fG):=Dx
theorem xz:ak ["_law_script", "_law_k"] ["_law_script", "_law_k"] (ah qt):=Dx
theorem AD:ak ["_law_found", "_law_due"] ["_law_found", "_law_due"] (ah vV):=Dx
theorem HL:ak ["_law_script", "_law_cell", "_law_rule", "_law_many", "_law_sums", "_law_data", "_law_stripes", "_law_step"] ["_law_script"] (ah qu):=Dx
theorem II:ak ["_law_numbers_here", "_law_rule", "_law_many", "_law_data", "_law_sums", "_law_stripes", "_law_slots", "_law_step", "_law_code", "_law_shape"] ["_law_numbers_here"] (ah Bn):=Dx
theorem OB:ak ["_law_cell", "_law_k", "_law_limit_here", "_law_number"] ["_law_cell", "_law_k", "_law_limit_here"] (ah vW):=Dx
theorem KF:ak ["_law_numbers_here", "_law_top", "_law_limit_here", "_law_k"] ["_law_numbers_here"] (ah vX):=Dx
theorem OA:ak ["_law_row_here", "_law_truth", "_law_at", "_law_some", "_law_handed"] ["_law_row_here", "_law_truth", "_law_at", "_law_some"] (ah Bo):=Dx
theorem HD:ak ["_law_script", "_law_numbers_here", "_law_limit_here", "_law_row_here", "_law_rows", "_law_size", "_law_truth", "_law_cell", "_law_at", "_law_some", "_law_k"] ["_law_script"] (ah Bp):=Dx
set_option genInjectivity false in
structure A_ where
 (C_Field C_Blocks C_Code C_Asking C_Plank C_LostPlank C_Shape C_Rack C_Row f0 f1 f2 f3 f4 f5 f6 f7 f8 f9 f10 f11 f12 f13 f14 f15 f16 f17 f18 f19 f20 f21 f22 f23 f24 f25 f26 f27 f28 f29 f30 f31 f32 f33 f34 f35 f36 f37 f38 f39 f40 f41 f42 f43 f44 f45 f46 f47 f48 f49 f50 f51 f52 f53 f54 f55 f56 f57 f58 f59 f60 f61 f62 f63 f64 f65 f66 f67 f68 f69 f70 f71 f72 f73 f74 f75 f76 f77 f78 f79 f80 f81 f82 f83 f84 f85 f86 f87 f88 f89 f90 f91 f92 f93 f94 f95 f96 f97 f98 f99 f100 f101 f102 f103 f104 f105 c38 t38 c47 t47 c91 t91:Addr)
 (t_LEAST_RULE t_GREATEST_RULE t_MOST_SYMBOLS t_MOST_ROLES t_MOST_SUMS_codes t_LEAST_PLANKS t_MOST_PLANKS t_MOST_SUMS_shapes t_MOST_STRIPES t_MOST_TURNS t_MOST_SLOTS:Tok)
structure Nd (K:ι4) (mg:Ϡ) (a:A_):Prop where
 m_Field:mg "Field" = some (.ref γr)
 A06:FX K γr
 A90:i_ K γr "rule"
 A92:i_ K γr "width"
 A22:i_ K γr "last"
 Ab9:Mk K γr a.f0
 m_Blocks:mg "Blocks" = some (.ref γy)
 A08:FX K γy
 A31:i_ K γy "field"
 Ab0:i_ K γy "many"
 A52:i_ K γy "limit"
 Ac4:Mk K γy a.f14
 m_Code:mg "Code" = some (.ref γe)
 A02:FX K γe
 A28:i_ K γe "blocks"
 A50:i_ K γe "sums"
 A14:i_ K γe "data"
 A26:i_ K γe "roles"
 A39:i_ K γe "lines"
 Ab4:Mk K γe a.f22
 m_Asking:mg "Asking" = some (.ref ϧ)
 A00:FX K ϧ
 A13:i_ K ϧ "code"
 Aa3:i_ K ϧ "ask"
 A24:i_ K ϧ "costs"
 A32:i_ K ϧ "row"
 A80:i_ K ϧ "asked"
 Ad7:Mk K ϧ a.f31
 m_Plank:mg "Plank" = some όW
 A18:FX K δK
 A70:i_ K δK "held"
 Ab7:Mk K δK a.f55
 m_LostPlank:mg "LostPlank" = some ϊO
 Ae1:FX K ιq
 Ad9:i_ K ιq "held"
 Ae0:Mk K ιq a.f60
 m_Shape:mg "Shape" = some (.ref γs)
 A05:FX K γs
 A55:i_ K γs "data"
 A60:i_ K γs "planks"
structure Ng (K:ι4) (mg:Ϡ) (a:A_):Prop where
 A66:i_ K γs "stripes"
 A77:i_ K γs "size"
 A75:i_ K γs "turns"
 Ad5:Mk K γs a.f65
 m_Rack:mg "Rack" = some (.ref ϖ)
 A01:FX K ϖ
 A74:i_ K ϖ "planks"
 A81:i_ K ϖ "stripes"
 A61:i_ K ϖ "slots"
 A30:i_ K ϖ "shelf"
 A63:i_ K ϖ "slate"
 A68:i_ K ϖ "left"
 A64:i_ K ϖ "gone"
 A82:i_ K ϖ "done"
 Ab5:Mk K ϖ a.f71
 m_Row:mg "Row" = some (.ref γa)
 A04:FX K γa
 A58:i_ K γa "code"
 A25:i_ K γa "shape"
 A15:i_ K γa "rack"
 A97:Mk K γa a.f87
 x0:MD K γr "__init__" "Field.__init__" jO a.f0 ["self", "rule"]
 x1:MD K γr "doublings_of_one" "Field.doublings_of_one" cR a.f1 ["self"]
 x2:MD K γr "double" "Field.double" iz a.f2 ["self", "one"]
 x3:MD K γr "times" "Field.times" ji a.f3 ["self", "one", "other"]
 x4:MD K γr "back" "Field.back" jP a.f4 ["self", "one"]
 x5:MD K γr "power" "Field.power" jj a.f5 ["self", "one", "many"]
 x6:GD K mg "unit" zg a.f6 ["many", "at"]
 x7:GD K mg "scaled_line" jk a.f7 ["field", "factor", "line"]
 x8:GD K mg "sum_of_two" jQ a.f8 ["one", "other"]
 x9:GD K mg "first_with" jR a.f9 ["lines", "start", "place"]
 x10:GD K mg "swapped" qj a.f10 ["lines", "one", "other"]
 x11:GD K mg "cleared" qk a.f11 ["field", "lines", "at", "place"]
 x12:GD K mg "told_of" ql a.f12 ["field", "lines", "known", "place"]
 x13:GD K mg "free_make" lr a.f13 ["lines", "heads", "many", "place"]
 x14:MD K γy "__init__" "Blocks.__init__" jl a.f14 ["self", "field", "many"]
 x15:MD K γy "symbols" "Blocks.symbols" gq a.f15 ["self", "block"]
 x16:MD K γy "joined" "Blocks.joined" gP a.f16 ["self", "some"]
 x17:MD K γy "scaled" "Blocks.scaled" gQ a.f17 ["self", "factor", "block"]
 x18:MD K γy "summed" "Blocks.summed" gR a.f18 ["self", "factors", "some"]
structure Nb (K:ι4) (mg:Ϡ) (a:A_):Prop where
 x19:GD K mg "check_lengths" gS a.f19 ["weights"]
 x20:GD K mg "check_weights" gT a.f20 ["field", "weights"]
 x21:GD K mg "equation_of" jm a.f21 ["weights", "total"]
 x22:MD K γe "__init__" "Code.__init__" lu a.f22 ["self", "blocks", "weights"]
 x23:MD K γe "told" "Code.told" lw a.f23 ["self", "known", "role"]
 x24:MD K γe "check_role" "Code.check_role" fv a.f24 ["self", "role"]
 x25:MD K γe "fixes" "Code.fixes" jS a.f25 ["self", "known", "role"]
 x26:MD K γe "summed_by" "Code.summed_by" gr a.f26 ["self", "by", "row"]
 x27:MD K γe "reckoned" "Code.reckoned" gU a.f27 ["self", "row", "role"]
 x28:MD K γe "equations" "Code.equations" gu a.f28 ["self"]
 x29:MD K γe "touches" "Code.touches" iA a.f29 ["self", "total", "role"]
 x30:GD K mg "fixes_all" lx a.f30 ["code", "known", "some"]
 x31:MD K ϧ "__init__" "Asking.__init__" jn a.f31 ["self", "code", "ask", "costs"]
 x32:MD K ϧ "may" "Asking.may" jT a.f32 ["self", "role"]
 x33:MD K ϧ "take" "Asking.take" jo a.f33 ["self", "role"]
 x34:MD K ϧ "take_along" "Asking.take_along" dU a.f34 ["self", "some"]
 x35:MD K ϧ "known" "Asking.known" iB a.f35 ["self"]
 x36:MD K ϧ "fixes" "Asking.fixes" iC a.f36 ["self", "some"]
 x37:MD K ϧ "cost_sum" "Asking.cost_sum" fw a.f37 ["self", "some"]
 x38:MT K ϧ "order" "Asking.order" iD a.f38 ["self"] a.c38 εH
 x39:MD K ϧ "detour" "Asking.detour" gW a.f39 ["self", "some"]
 x40:MD K ϧ "block_of" "Asking.block_of" fz a.f40 ["self", "role"]
 x41:MD K ϧ "unfixed" "Asking.unfixed" gv a.f41 ["self", "some"]
 x42:MD K ϧ "price" "Asking.price" iE a.f42 ["self", "some"]
 x43:GD K mg "touched" qm a.f43 ["code", "totals", "role"]
 x44:GD K mg "sums_to_write" gY a.f44 ["asking", "news"]
 x45:GD K mg "rest_of" qo a.f45 ["code", "totals", "news"]
 x46:GD K mg "change_of" lz a.f46 ["code", "totals", "news"]
 x47:GT K mg "next_way" nA a.f47 ["asking", "rest", "change"] a.c47 γI
 x48:GD K mg "sum_by_rest" jp a.f48 ["asking", "news", "total"]
 x49:GD K mg "sum_by_change" gZ a.f49 ["asking", "news", "total"]
 x50:GD K mg "to_lay" tj a.f50 ["asking", "news", "totals", "by_rest"]
 x51:GD K mg "new_blocks" jU a.f51 ["asking", "news"]
 x52:GD K mg "read_role" lA a.f52 ["asking", "role"]
 x53:GD K mg "plain_weights" g0 a.f53 ["data", "sums"]
 x54:MD K γy "good" "Blocks.good" jq a.f54 ["self", "block"]
 x55:MD K δK "__init__" "Plank.__init__" jV a.f55 ["self", "held"]
 x56:MD K δK "there" "Plank.there" jr a.f56 ["self", "at"]
 x57:MD K δK "price" "Plank.price" jt a.f57 ["self"]
 x58:MD K δK "look_at" "Plank.look_at" g7 a.f58 ["self", "at"]
structure Nr (K:ι4) (mg:Ϡ) (a:A_):Prop where
 x59:MD K δK "lay_at" "Plank.lay_at" iF a.f59 ["self", "at", "block"]
 x60:MD K ιq "__init__" "LostPlank.__init__" mj a.f60 ["self", "many"]
 x61:GD K mg "even_turn" lB a.f61 ["planks", "shift"]
 x62:GD K mg "even_turns" jW a.f62 ["planks", "step"]
 x63:GD K mg "check_counts" iG a.f63 ["data", "planks", "stripes"]
 x64:GD K mg "check_turns" ju a.f64 ["planks", "turns"]
 x65:MD K γs "__init__" "Shape.__init__" jX a.f65 ["self", "data", "planks", "stripes", "turns"]
 x66:MD K γs "place_of" "Shape.place_of" gw a.f66 ["self", "at"]
 x67:MD K γs "plank_of" "Shape.plank_of" gy a.f67 ["self", "stripe", "role"]
 x68:MD K γs "order_of" "Shape.order_of" gz a.f68 ["self", "stripe"]
 x69:MD K γs "check_stripe" "Shape.check_stripe" dJ a.f69 ["self", "stripe"]
 x70:GD K mg "check_bounds" iH a.f70 ["planks", "stripes", "slots"]
 x71:MD K ϖ "__init__" "Rack.__init__" lC a.f71 ["self", "planks", "stripes", "slots"]
 x72:MD K ϖ "cost_of" "Rack.cost_of" iI a.f72 ["self", "plank"]
 x73:MD K ϖ "there" "Rack.there" jY a.f73 ["self", "plank", "stripe"]
 x74:MD K ϖ "has_power" "Rack.has_power" gA a.f74 ["self"]
 x75:MD K ϖ "intents" "Rack.intents" iJ a.f75 ["self"]
 x76:MD K ϖ "look" "Rack.look" lE a.f76 ["self", "plank", "stripe"]
 x77:MD K ϖ "lay" "Rack.lay" nB a.f77 ["self", "plank", "stripe", "block"]
 x78:MD K ϖ "note" "Rack.note" lF a.f78 ["self", "slot", "stripe", "pairs"]
 x79:MD K ϖ "strike" "Rack.strike" jv a.f79 ["self", "slot"]
 x80:MD K ϖ "need_write" "Rack.need_write" fA a.f80 ["self"]
 x81:MD K ϖ "spend" "Rack.spend" jZ a.f81 ["self", "event"]
 x82:MD K ϖ "check_slot" "Rack.check_slot" fB a.f82 ["self", "slot"]
 x83:MD K ϖ "check_plank" "Rack.check_plank" fc a.f83 ["self", "plank"]
 x84:MD K ϖ "check_stripe" "Rack.check_stripe" dX a.f84 ["self", "stripe"]
 x85:MD K ϖ "check_both" "Rack.check_both" fE a.f85 ["self", "plank", "stripe"]
 x86:GD K mg "check_together" gB a.f86 ["code", "shape", "rack"]
 x87:MD K γa "__init__" "Row.__init__" nE a.f87 ["self", "code", "shape", "rack"]
 x88:MD K γa "ready" "Row.ready" lG a.f88 ["self"]
 x89:MD K γa "check_power" "Row.check_power" fF a.f89 ["self"]
 x90:MD K γa "standing" "Row.standing" iK a.f90 ["self"]
 x91:MT K γa "asking" "Row.asking" gC a.f91 ["self", "stripe"] a.c91 εm
 x92:MD K γa "get" "Row.get" qp a.f92 ["self", "at"]
 x93:MD K γa "put" "Row.put" qr a.f93 ["self", "at", "some"]
 x94:MD K γa "check_news" "Row.check_news" gE a.f94 ["self", "at", "some"]
 x95:MD K γa "news_by_stripe" "Row.news_by_stripe" dL a.f95 ["self", "at", "some"]
 x96:MD K γa "pairs_of" "Row.pairs_of" iL a.f96 ["self", "stripe", "news"]
 x97:MD K γa "write_group" "Row.write_group" fG a.f97 ["self", "group"]
 x98:GD K mg "_law_cell_at" qt a.f98 ["_law_script", "_law_k"]
structure NG (K:ι4) (mg:Ϡ) (a:A_):Prop where
 x99:GD K mg "_law_whole" vV a.f99 ["_law_found", "_law_due"]
 x100:GD K mg "_law_numbers" qu a.f100 ["_law_script"]
 x101:GD K mg "_law_row" Bn a.f101 ["_law_numbers_here"]
 x102:GD K mg "_law_block" vW a.f102 ["_law_cell", "_law_k", "_law_limit_here"]
 x103:GD K mg "_law_limit" vX a.f103 ["_law_numbers_here"]
 x104:GD K mg "_law_put" Bo a.f104 ["_law_row_here", "_law_truth", "_law_at", "_law_some"]
 x105:GD K mg "law" Bp a.f105 ["_law_script"]
 ty_Plank:JZ K δK
 kn_Plank_LostPlank:W.kitOne K όW ϊO=some υ
 A59:mg "zip" = none
 A07:mg "range" = none
 A03:mg "len" = none
 A12:mg "list" = none
 A33:mg "enumerate" = none
 Ac2:mg "reversed" = none
 A53:mg "any" = none
 Ac3:mg "sum" = none
 A19:mg "sorted" = none
 Ac9:mg "all" = none
 A62:mg "min" = none
 A76:mg "isinstance" = none
 Ad3:mg "int" = none
 Ac0:mg "bool" = none
 Ab3:mg "LEAST_RULE" = some (.int 16 a.t_LEAST_RULE)
 Ac1:mg "GREATEST_RULE" = some (.int 511 a.t_GREATEST_RULE)
 Ab1:mg "MOST_SYMBOLS" = some (.int 16 a.t_MOST_SYMBOLS)
 Ad2:mg "MOST_ROLES" = some (.int 8 a.t_MOST_ROLES)
 Ad1:mg "MOST_SUMS_codes" = some (.int 2 a.t_MOST_SUMS_codes)
 A69:mg "LEAST_PLANKS" = some (.int 2 a.t_LEAST_PLANKS)
 A65:mg "MOST_PLANKS" = some (.int 8 a.t_MOST_PLANKS)
 Ac6:mg "MOST_SUMS_shapes" = some (.int 2 a.t_MOST_SUMS_shapes)
 Aa5:mg "MOST_STRIPES" = some (.int 32 a.t_MOST_STRIPES)
 Ab2:mg "MOST_TURNS" = some (.int 16 a.t_MOST_TURNS)
 Ad6:mg "MOST_SLOTS" = some (.int 8 a.t_MOST_SLOTS)
structure B_ (K:ι4) (mg:Ϡ) (a:A_):Prop extends Nd K mg a,Ng K mg a,Nb K mg a,Nr K mg a,NG K mg a
structure Tb (base:Heap) (mg:Ϡ) (a:A_):Prop where
 Ad0:base.BuiltinsAt mg εH
 Ab6:mainGlobals≠a.t38
 Ac7:base.BuiltinsAt mg γI
 Ab8:mainGlobals≠a.t47
 Ad4:base.BuiltinsAt mg εm
 Ac5:mainGlobals≠a.t91
 A40:a.t38≠a.t47
 Ad8:a.t38≠a.t91
 Ac8:a.t47≠a.t91
variable {P:Program}{wo:World}{K:n_}{mg:Str->Option Value}{base:Heap}{a:A_}
def ff (r w:Nat):List 14e6:=[("rule",.int r),("width",.int w),("last",.int ((2 ^ w - 1:Nat):Int))]
theorem B4 (r w:Nat):(ff r w).lookup ("rule" : Str)=some (.int r):=rfl
theorem eD (r w:Nat):(ff r w).lookup ("last" : Str)=some 149e4:=rfl
def DN (C:Addr) (H:Hp) (p:Addr) (r w:Nat):Prop:=∃dx,H p=some (.ins C dx (ff r w))
variable {H H':Hp}{p:Addr}{r w:Nat}
theorem DN.same {C:Addr} (h:DN C H p r w) (s:γD):DN C H' p r w:=let ⟨dx,e⟩:=h;όX
inductive i4 (a:A_) (vs:δ) (H:Hp) (Q:VK) (E_3:XK):Prop
 | mk:∀(p:Addr) (r w x:Nat),vs=[.ref p,.int x]->DN a.C_Field H p r w->x < 2 ^ w->Q (.int (GF.E8 r w x:Nat)) H->i4 a vs H Q E_3
theorem g8 (T:μ):C_ P wo K mg base 1 a.f2 ["self", "one"] (i4 a):=by
 refine T.x2.F.okA (k:=0) OT ξ
 ·obtain⟨p,r,w,x,rfl,⟨dx,hF⟩,hx,k⟩:=h
  show 0
  exists xc (au (i:=2) OT.nd rfl 0e3 όk)
  show 1;refine xi (am bU Ω γ1 ψ) ?_
  exists xl (ax (ay gb Ω γ1))
  show 2
  show 47
  refine #[_,rfl,_,_,rfl,rfl,.inl γW,?_]
  refine #[_,rfl,_,rfl,p,_,_,_,_,rfl,hF,γw,θb,eD r w,_,_,rfl,rfl,_,rfl,?_]
  have hp:0 < 2 ^ w:=Ib w;show 90
  ·have h':=of_decide_eq_true h
   refine #[_,rfl,_,rfl,p,_,_,_,_,rfl,hF,γw,T.A90,B4 r w,_,_,rfl,rfl,?_]
   have e:IC μ7 (r:Int)=((GF.E8 r w x:Nat):Int):=by
    have e0:μ7=((2 * x:Nat):Int):=by omega
    rw[e0,c5];unfold GF.E8;rw[if_pos γ]
   show Q (.int (IC μ7 (r:Int))) H
   rw[e];exact k
  ·have h':¬ (((2 ^ w - 1:Nat):Int) < 2 * (x:Int)):=λz=>h ξs
   show 22
   have e:μ7=((GF.E8 r w x:Nat):Int):=by
    unfold GF.E8;show 57
    omega
   show Q (.int μ7) H
   rw[e];exact k
inductive vY (a:A_) (vs:δ) (H:Hp) (Q:VK) (E_3:XK):Prop
 | mk:∀(p:Addr) (r w x y:Nat),vs=[.ref p,.int x,.int y]->DN a.C_Field H p r w->GF.Ef r w->x < 2 ^ w->Q (.int (GF.tm r w x y:Nat)) H->vY a vs H Q E_3
theorem c7 (T:μ):C_ P wo K mg base 2 a.f3 ["self", "one", "other"] (vY a):=by
 have j:C_ P wo K mg base 1 a.f2 ["self", "one"] (i4 a):=g8 T
 refine T.x3.F.okA (k:=1) Km ξ
 ·obtain⟨p,r,w,x,y,rfl,hF,R,hx,k⟩:=h
  show 0
  exists xc (au (i:=3) ι8 rfl 0e3 ai)
  exists xc (au (i:=4) ι8 rfl 0e3 Θ)
  exists xc (au (i:=5) ι8 rfl 0e3 Ω)
  show 289
  exists xl (au (i:=3) ι8 rfl 0e3 (ay gb ϊ γ6))
  show 2
  exists xc (au (i:=4) ι8 rfl 0e3 (av ο γw T.x2.me j hr.u T.x2.b .nil aj ζW))
  exists xl (au (i:=5) ι8 rfl 0e3 όl)
  show 5
  show 23
  refine ϊP
  refine⟨λm σ H'=>∃f d g:Nat,g=m/\σ=[some γE,some (.int x),some (.int y),some (.int f),some (.int d),some (.int g)]/\H'=H/\d < 2 ^ w/\f ^^^ GF.tm r w d g=GF.tm r w x y,
   ⟨_,0,x,y,rfl,rfl,rfl,hx,GN _⟩,?_⟩
  rintro m σ H' ⟨f,d,g,rfl,rfl,rfl,hd,C⟩;show 290
  ·have hg:0 < g:=by
    show 291
   have hm:ώM=((g % 2:Nat):Int):=by omega
   have J:((g:Int) / 2)=((g / 2:Nat):Int):=by omega
   have step:=GF.DM (r:=r) (w:=w) d g;refine ιA
   refine c_ ο3 ο3
   ·have D:g % 2=1:=by
     show 292
    refine Φq;show 293
    refine #[g / 2,Od hg ε,f ^^^ d,GF.E8 r w d,g / 2,rfl,?_,rfl,GF.EG R hd,?_]
    ·show [some (V.ref p),some (V.int x),some (V.int y),some (V.int (IC f d)),some ΨY,some ϊn]=_
     rw[c5,J]
    ·rw[<- C,step,if_pos D,Ie]
   ·have D:¬ g % 2=1:=by
     intro z
     apply h1
     apply decide_eq_true
     show V.int ώM=V.int 1
     congr 1
     omega
    show 293
    refine #[g / 2,Od hg ε,f,GF.E8 r w d,g / 2,rfl,?_,rfl,GF.EG R hd,?_]
    ·show [some (V.ref p),some (V.int x),some (V.int y),some (V.int f),some ΨY,some ϊn]=_
     rw[J]
    ·rw[<- C,step,if_neg D,GN]
  ·have hg:g=0:=by
    have:¬ ((0:Int) < g):=λz=>h ξs;omega
   subst hg;rw[εI,GO] at C;show 22
   show Q ώ9 H'
   rw[C];exact k
inductive ig (a:A_) (vs:δ) (H:Hp) (Q:VK) (E_3:XK):Prop
 | mk:∀(p:Addr) (r w:Nat),vs=[.ref p]->DN a.C_Field H p r w->GF.Good r w->Q (.int ((2 ^ w - 1:Nat):Int)) H->ig a vs H Q E_3
theorem fQ (T:μ):C_ P wo K mg base 2 a.f1 ["self"] (ig a):=by
 have g:C_ P wo K mg base 1 a.f2 ["self", "one"] (i4 a):=g8 T
 refine T.x1.F.okA (k:=1) Lq ξ
 ·obtain⟨p,r,w,rfl,hF,R,k⟩:=h
  show 294
  show 0
  exists xc (au (i:=1) Lq.nd rfl 0e3 (av ο γw T.x2.me g hr.u T.x2.b .nil aj π8))
  exists xc (au (i:=2) Lq.nd rfl 0e3 ai)
  show 1;refine xw ϗ (am dG Θ ai ψ) ?_
  exists xc (au (i:=1) Lq.nd rfl 0e3 (av ο γw T.x2.me g hr.u T.x2.b .nil aj γ9))
  exists xl (Cy (i:=2) Lq.nd rfl 0e3 ai Cz)
  show 5
  show 47
  refine #[_,rfl,p,dx,_,rfl,j,rfl,p,r,w,1,rfl,hF,GF.Fj R.w1,?_];refine #[λm σ H'=>∃n:Nat,m=2 ^ w - 1 - n/\σ=[some γE,some (.int (GF.it r w n:Nat)),some ζI]/\H'=H/\1<=n/\n<=2 ^ w - 1,#[_,1,rfl,rfl,rfl,y_ _,R.last1],?_];rintro m σ H' ⟨n,rfl,rfl,rfl,h1,hn⟩;show 48;refine c_ νD δF
  ·have C:GF.it r w n≠1:=by
    intro z;rw[z] at h;exact absurd h ε
   have G:n < 2 ^ w - 1:=Nat.lt_of_le_of_ne hn λz=>C (by rw[z];exact R.back)
   refine #[_,rfl,p,dx,_,rfl,j,rfl,_,rfl,p,r,w,_,rfl,hF,GF.HF R.rule R.w1 n,?_];refine #[_,rfl,_,_,rfl,rfl,?_];exact #[2 ^ w - 1 - (n+1),by omega,n+1,rfl,rfl,rfl,by omega,by omega]
  ·have he:GF.it r w n=1:=by
    refine Classical.byContradiction λz=>h ?_
    have:¬ 142e6:=λq=>z (by have:=V.int.inj q;omega)
    show (!decide Φa)=true
    rw[decide_eq_false this];rfl
   have D:n=2 ^ w - 1:=by
    refine Classical.byContradiction λz=>R.first n h1 γ he
   subst D;exact #[_,rfl,k]
inductive lH (a:A_) (vs:δ) (H:Hp) (Q:VK) (E_3:XK):Prop
 | mk:∀(p dx:Addr) (r w:Nat),vs=[.ref p,.int r]->H p=some (.ins a.C_Field dx [])->GF.Good r w->Q .non (upd H p (.ins a.C_Field dx (ff r w)))->lH a vs H Q E_3
theorem rq (T:μ):C_ P wo K mg base 3 a.f0 ["self", "rule"] (lH a):=by
 have g:C_ P wo K mg base 2 a.f1 ["self"] (ig a):=fQ T
 refine T.x0.F.okA (k:=2) Ov ξ
 ·obtain⟨p,dx,r,w,rfl,hp,R,k⟩:=h
  show 0
  show 1;refine xi (PW.pt (bb (am bn Θ (bx (v:=.int 16) rfl T.Ab3 ϒ) ψ) (bb (am bU Θ (bx (v:=.int 511) rfl T.Ac1 ϒ) ψ) (ba ΞL)))) ?_
  show 3
  show 2
  show 38
  exists xc (aM ο (ay eY (yq PySem.F.plainAttrs_int PyProof.Rows.slot_int_bit_length PyProof.Rows.type_int_bit_length yE Θ) ai) rfl)
  exists xc (aM ο (ay eY (ay CB ai γ1) ai) rfl)
  exists xc (au (i:=2) Ov.nd rfl 0e3 (bi ο γw T.x1.me g hr.u T.x1.b .nil aj))
  show 7;refine xi (am dG Ω γ1 ψ) ?_
  show 3
  show 2
  have D:=R.lo16
  have j:=R.hi511
  have C:=R.odd;show 16
  show 16
  refine ιA
  refine c_ Δe ι
  refine #[_,rfl,_,rfl,p,γr,dx,_,rfl,hp,γw,T.A90,ε,?_]
  refine #[_,rfl,rfl,_,rfl,rfl,_,_,rfl,rfl,_,rfl,p,γr,dx,_,rfl,ab,γw,T.A92,η9,?_]
  have ew:((Oo (r:Int):Nat):Int) - 1=(w:Int):=by
   rw[uR R.rule.lo R.rule.hi];omega
  show 11;rw[ew,aP];refine #[_,rfl,p,_,_,_,_,rfl,ab,γw,T.A92,rfl,_,_,rfl,rfl,#[by omega,by have:=R.w8;omega,by decide],_,_,rfl,rfl,?_]
  refine #[_,rfl,p,γr,dx,_,rfl,ab,γw,θb,ηa,?_]
  have el:(1:Int) * 2 ^ ((w:Int)).toNat - 1=((2 ^ w - 1:Nat):Int):=by
   have:((w:Int)).toNat=w:=by omega
   rw[this,Int.one_mul]
   have h1:0 < 2 ^ w:=Ib w
   have h2:((2 ^ w:Nat):Int)=(2:Int) ^ w:=by simp
   omega
  show 11;rw[el,aP]
  have hF:DN γr (upd H p (.ins γr dx (ff r w))) p r w:=#[dx,ab]
  have ef:DE "last" 149e4 (DE "width" (.int (w:Int)) (DE "rule" (.int (r:Int)) []))=ff r w:=rfl
  rw[ef];refine #[_,rfl,p,dx,_,rfl,ab,rfl,p,r,w,rfl,hF,R,?_];refine #[_,rfl,_,rfl,p,_,_,_,_,rfl,ab,γw,θb,eD r w,rfl,_,rfl,?_];refine c_ δF (λ_=>k);exact absurd h ό
variable {o:HO}
theorem a_.new (h:H p=none):a_ H (upd H p o):=λb u e=>by rw[ae (al e h)];exact e
def cell (ns:γz) (k:Nat):Int:=ns.getD k 0
theorem Iq {c:Bool}{A B:Prop} (hf:¬ c=true->B) (ht:c=true->A):if c=true then A else B:=by
 by_cases h:c=true
 ·rw[if_pos h];exact ht h
 ·rw[if_neg h];exact hf h
inductive zj (K:n_) (vs:δ) (H:Hp) (Q:VK) (E_3:XK):Prop
 | mk:∀(s:Addr) (ns:List Int) (k:Nat),vs=[.ref s,.int k]->b_ K H s (ns.map V.int)->Q (.int (cell ns k)) H->zj K vs H Q E_3
theorem fR (T:μ):C_ P wo K mg base 1 a.f98 ["_law_script", "_law_k"] (zj K):=by
 refine T.x98.F.okA (k:=0) xz ξ
 ·obtain⟨p,ns,k,rfl,hS,q⟩:=h
  show 0
  show 1;refine xi (am bn Θ ν9 ψ) ?_
  exists xl (ax ρu)
  show 2
  exists xl (ax ai)
  refine #[_,rfl,_,rfl,p,_,rfl,.inl hS,_,_,rfl,rfl,_,rfl,?_];show 90
  ·have hk:k < ns.length:=by
    have:=of_decide_eq_true h;show 295
   have e:15e2[k]?=some (V.int (cell ns k)):=by
    unfold cell;rw[DO,t_,s_ hk];rfl
   exact #[_,rfl,_,rfl,p,_,_,_,rfl,rfl,hS,aB e,q]
  ·have hk:ns.length<=k:=by
    have:¬ ((k:Int) < ((ns.map δN).length:Nat)):=λz=>h ξs;show 295
   have e:cell ns k=0:=by
    unfold cell;rw[t_,Fh hk];rfl
   show 135
def Iv:List Nat:=[19,25,37,59,67,103,137,203,285,355,425,501]
theorem CS:∀i,i < 12->∃j,j < 48/\GF.FD.getD j 19=Iv.getD i 0:=by decide
theorem AE (i:Nat) (h:i < 12):GF.Et (Iv.getD i 0) (Iv.getD i 0).log2:=by
 obtain⟨j,hj,e⟩:=CS i h
 have:=GF.GW (j:Int)
 have e2:GF.EZ (j:Int)=Iv.getD i 0:=by
  unfold GF.EZ;rw[<- e]
  congr 1
  omega
 rw[e2] at this;show 9
def rowV (row:η):List V:=row.map λ(n:Nat)=>V.int (n:Int)
variable {row:List Nat}{i:Nat}
theorem mo (h:ξJ):45e2[i]?=some (.int (row[i]:Nat)):=by
 show 39;rw[DO,s_ h];rfl
theorem ap (row:η):(rowV row).length=row.length:=o_ _
variable {v:V}
theorem bh (h:45e2[i]?=some v):∃x,row[i]?=some x/\v=.int (x:Nat):=by
 unfold rowV at h;rw[DO] at h
 cases q:row[i]? with
 | none=>rw[q] at h;cases h
 | some x=>rw[q] at h;exact⟨x,rfl,(DU h).symm⟩
theorem g9 (row:η) (x:Nat):rowV row++[.int (x:Nat)]=rowV (row++[x]):=by unfold rowV;rw[FM];rfl
theorem tJ (row:η) (f:Ϟ) (g:V->V) (h:∀n:Nat,g ξH=.int ((f n:Nat):Int)):(rowV row).map g=rowV (row.map f):=by
 show 39;rw[Fa,Fa]
 apply HR
 intro n _;exact h n
theorem tK (h:v∈rowV row):∃x∈row,v=.int (x:Nat):=by
 unfold rowV at h;obtain⟨x,hx,e⟩:=Fk.mp h;exact #[x,hx,e.symm]
theorem F5 (c:Int) {n:Nat} (h:ε6):∃y:Nat,y < n/\c % (n:Int)=(y:Int):=by
 show 142
 have h1:=Rj c hp
 have h2:=QF c (Int.ne_of_gt hp);exact #[(c % (n:Int)).toNat,by omega,by omega]
theorem CT {u:V} (h:u=v):¬ (!decide (u=v))=true:=by rw[decide_eq_true h];decide
variable {n j:Nat}
theorem cJ (h:j < n):IZ n (j:Int)=some j:=by
 unfold IZ;rw[if_pos γ,if_pos γ,Fu]
theorem zk {k:Nat} (h:k<=πe):F2 ιs υQ none=rowV (row.drop k):=by
 unfold F2;rw[HT.Im,HT.FJ,ap,Oj h];show 39;rw[<- Se,← NS]
 congr 1
 apply KD
 rw[JT];show 35
def bf (fp:Addr) (w n:Nat):List 14e6:=[("field",.ref fp),("many",.int n),("limit",.int ((γh ^ n:Nat):Int))]
theorem eE (fp:Addr) (w n:Nat):(bf fp w n).lookup ("field" : Str)=some 37e0:=rfl
theorem B5 (fp:Addr) (w n:Nat):(bf fp w n).lookup ("many" : Str)=some 28e2:=rfl
theorem AF (fp:Addr) (w n:Nat):(bf fp w n).lookup ("limit" : Str)=some (.int ((γh ^ n:Nat):Int)):=rfl
structure DV (a:A_) (H:Hp) (p fp:Addr) (r w n:Nat):Prop where
 ins:∃dx,H p=some (.ins γy dx (bf fp w n))
 fld:DN γr H fp r w
theorem DV.same {a:A_}{H H':Hp}{p fp:Addr}{r w n:Nat} (h:DV a H p fp r w n) (s:γD):DV a H' p fp r w n:=let ⟨dx,e⟩:=h.ins;#[όX,h.fld.same s]
inductive j9 (a:A_) (vs:δ) (H:Hp) (Q:VK) (E_3:XK):Prop
 | mk:∀(p dx fp:Addr) (r w n:Nat),vs=[.ref p,.ref fp,.int n]->H p=some (.ins a.C_Blocks dx [])->DN a.C_Field H fp r w->p≠fp->GF.Good r w->1<=n->n<=16->Q .non (upd H p (.ins a.C_Blocks dx (bf fp w n)))->j9 a vs H Q E_3
theorem o6 (T:μ):C_ P wo K mg base 1 a.f14 ["self", "field", "many"] (j9 a):=by
 refine T.x14.F.okA (k:=0) Oz ξ
 ·obtain⟨p,dx,fp,r,w,n,rfl,hp,hF,g,R,h1,D,q⟩:=h
  have G:=R.top16
  have C:=R.top256
  show 0
  show 1;refine xi (PW.pt (bb πw (ba (am bU Ω (bx (v:=.int 16) rfl T.Ab1 ϒ) ψ)))) ?_
  show 3
  show 2
  show 38
  show 61
  exists xc (aM ο ai rfl)
  show 7;refine xf ϗ rfl (aY rfl T.A07 γH) (ar (i:=3) Oz.nd rfl ζ) ?_
  exists xl (aM ο (ay cH γ1 (ay aW πj ai)) rfl)
  show 5;show 16
  show 16
  refine #[_,rfl,_,rfl,p,γy,dx,_,rfl,hp,γO,T.A31,ε,?_]
  refine #[_,rfl,_,rfl,p,γy,dx,_,rfl,ab,γO,T.Ab0,η9,?_]
  refine #[_,rfl,p,γy,dx,_,rfl,ab,γO,T.A52,ηa,?_]
  show 143
  have ef:∀v:V,DE "limit" v (DE "many" 65e3 (DE "field" 37e0 []))=[ΨZ,Ψ0,(("limit" : Str),v)]:=λv=>rfl
  rw[ef]
  refine #[_,rfl,_,rfl,by omega,by omega,let I_:Nat→L2.St→Hp→Prop:=λi σ H'=>L2.E1 λ(v:Option V)=>L2.A2 (σ=[some γE,some θ8,some ζI,v]) (H'=upd H p (.ins γy dx [ΨZ,Ψ0,(("limit" : Str),.int ((γh ^ i:Nat):Int))]));cb (lo:=0) (n:=n) I_ ϋL ?_ ?_]
  ·rintro i σ H' hi ⟨v,rfl,rfl⟩
   obtain⟨dF,j⟩:=hF
   show 144
   refine #[_,rfl,p,_,_,_,_,rfl,ab,γO,T.A52,rfl,_,rfl,fp,_,_,_,_,rfl,(by rw[ae g.symm];exact j),γw,θb,eD r w,_,_,rfl,rfl,_,_,rfl,rfl,.inr εZ,?_]
   refine #[_,rfl,p,γy,dx,_,rfl,ab,γO,T.A52,ιH,?_]
   show 22;rw[aP]
   have e2:((γh ^ i:Nat):Int) * νQ=((γh ^ (i+1):Nat):Int):=by
    rw[el,Hk,Ma]
   rw[<- e2];rfl
  ·rintro σ H' ⟨v,rfl,rfl⟩
   exact q
inductive qv (a:A_) (vs:δ) (H:Hp) (Q:VK) (E_3:XK):Prop
 | mk:∀(p fp:Addr) (r w n b:Nat),vs=[.ref p,.int b]->DV a H p fp r w n->GF.Good r w->n<=16->(∀D H',H D=none->a_ H H'->H' D=some (.lst (rowV (GF.DD w n b)))->Q (.ref D) H')->qv a vs H Q E_3
theorem kN (T:μ):C_ P wo K mg base 1 a.f15 ["self", "block"] (qv a):=by
 refine T.x15.F.okA (k:=0) KJ ξ
 ·obtain⟨p,fp,r,w,n,b,rfl,hB,R,J,q⟩:=h
  have O:=R.top16
  have G:=R.top256;show 296
  show 144
  show 0
  exists xc (au (i:=2) KJ.nd rfl 0e3 ΞM)
  exists xc (au (i:=3) KJ.nd rfl 0e3 η6)
  exists xc (au (i:=4) KJ.nd rfl 0e3 Θ)
  show 1;refine xf ϗ rfl 57e9 (ar (i:=5) KJ.nd rfl ζ) ?_
  exists xc (aF (cu Hr Hs Hv aZ ϊ (aa (ay bd γ6 Ω) ac)))
  exists xl (au (i:=4) KJ.nd rfl 0e3 (ay bO γ6 Ω))
  show 5
  show 23
  show 297;refine #[by decide,λD nD=>?_]
  have s1:=a_.new (o:=.lst []) nD;show 22
  refine⟨_,rfl,p,_,_,_,_,rfl,s1 _ _ j,γO,T.Ab0,B5 fp w n,_,rfl,by omega,by omega,let I_:Nat->L2.St->Hp->Prop:=λi σ H'=>L2.E3 λ(v:Option V) (row:List Nat) (c:Nat)=>L2.A5 (σ=[some γE,some (.int b),some Ωd,some γ4,some ψB,v]) δZ (H' D=some όm) (πe=i) (row++GF.DD w (n - i) c=GF.DD w n b);cb (lo:=0) (n:=n) I_
   ⟨none,[],b,rfl,s1,ab,rfl,rfl⟩ ?_ ?_⟩
  ·rintro i σ H' hi ⟨v,row,c,rfl,sm,hD,hl,g⟩
   have hp:(0:Int) < ((2 ^ w:Nat):Int):=by omega
   have em:((c:Int) % ((2 ^ w:Nat):Int))=((c % 2 ^ w:Nat):Int):=(P4 _ _).symm
   have ed:((c:Int) / ((2 ^ w:Nat):Int))=((c / 2 ^ w:Nat):Int):=(Pg _ _).symm;refine #[_,rfl,.inl ϊQ,_,rfl,_,rfl,_,_,rfl,rfl,p0 hp,D,_,_,rfl,rfl,hD,yA (by rw[ap];omega),?_]
   refine #[_,rfl,_,rfl,_,_,rfl,rfl,#[hp,by omega],?_]
   show 11;rw[em,ed,g9];refine #[_,row++[c % 2 ^ w],c / 2 ^ w,rfl,λb' o e=>by rw[ae (al e nD)];exact sm b' o e,ab,by rw[Fn,hl];rfl,?_]
   rw[<- g]
   have e1:n - i=(n - (i+1))+1:=by omega
   rw[e1,GF.DD,MW];rfl
  ·rintro σ H' ⟨v,row,c,rfl,sm,hD,hl,g⟩
   rw[JO,GF.DD,ML] at g;rw[g] at hD;exact #[_,rfl,q D H' nD sm hD]
inductive tL (K:n_) (a:A_) (vs:δ) (H:Hp) (Q:VK) (E_3:XK):Prop
 | mk:∀(p fp l:Addr) (r w n:Nat) (row:List Nat),vs=[.ref p,.ref l]->DV a H p fp r w n->GF.Good r w->b_ K H l (rowV row)->Q (.int ((GF.DR w row:Nat):Int)) H->tL K a vs H Q E_3
theorem mq (T:μ):C_ P wo K mg base 1 a.f16 ["self", "some"] (tL K a):=by
 refine T.x16.F.okA (k:=0) Ly ξ
 ·obtain⟨p,fp,l,r,w,n,row,rfl,hB,R,hL,q⟩:=h
  have G:=R.top16
  have D:=R.top256;show 296
  show 144
  show 0
  exists xc (au (i:=2) Ly.nd rfl 0e3 ΞM)
  exists xc (au (i:=3) Ly.nd rfl 0e3 ai)
  show 1;refine xf ϗ rfl (CI rfl T.Ac2 γ9) (ar (i:=4) Ly.nd rfl ζ) ?_
  exists xl (au (i:=3) Ly.nd rfl 0e3 (ay aW (ay cH ϊ Ω) γ6))
  show 5
  show 23
  show 297;refine #[_,rfl,l,_,rfl,hL,let I_:Nat->L2.St->Hp->Prop:=λi σ H'=>L2.E1 λ(v:Option V)=>L2.A2 (σ=[some γE,some ζp,some Ωd,some (.int ((GF.DR w (row.drop όY):Nat):Int)),v]) (H'=H);BM (K:=K) (a:=l) (xs:=rowV row) I_ #[none,?_,rfl] ?_ ?_ ?_]
  ·rw[QK,Rs]
   rfl
  ·rintro i σ H' _ ⟨v,_,rfl⟩
   exact hL
  ·rintro i v σ H' hi hx ⟨v0,rfl,rfl⟩
   rw[ap] at hi hx;obtain⟨y,hy,rfl⟩:=bh hx;refine #[_,rfl,_,rfl,_,_,rfl,rfl,.inr εZ,_,rfl,_,_,rfl,rfl,some χ0,?_,rfl]
   have ed:row.drop (row.length - (i+1))=y :: row.drop 178e6:=by
    have e1:row.length - (i+1)=row.length - 1 - i:=by omega
    have e2:row.length - i=row.length - 1 - i+1:=by omega
    rw[e1,e2]
    have g:row.length - 1 - i < row.length:=by omega
    rw[NN g]
    congr 1
    rw[s_ g] at hy;exact DU hy
   rw[ed,GF.DR,P2,Ma];rfl
  ·rintro σ H' ⟨v,rfl,rfl⟩
   rw[ap,JO,Q2];exact ώN
inductive tM (a:A_) (vs:δ) (H:Hp) (Q:VK) (E_3:XK):Prop
 | mk:∀(p fp:Addr) (r w n f b:Nat),vs=[.ref p,.int f,.int b]->DV a H p fp r w n->GF.Good r w->n<=16->f < 2 ^ w->(∀H',a_ H H'->Q (.int ((GF.DR w ((GF.DD w n b).map (GF.tm r w f)):Nat):Int)) H')->tM a vs H Q E_3
theorem mr (T:μ):C_ P wo K mg base 3 a.f17 ["self", "factor", "block"] (tM a):=by
 refine T.x17.F.okA (k:=2) mm ξ
 ·obtain⟨p,fp,r,w,n,f,b,rfl,hB,R,C,hf,q⟩:=h
  show 298;obtain⟨dF,G⟩:=hB.fld
  show 0
  exists xl (ax (av ο γO T.x16.me (mq T) hr.u T.x16.b .nil aj (aa (aS ΔD rfl (aL (av ο γO T.x15.me (kN T) hr.u T.x15.b .nil aj γH)) δz γ5 (λ_ _ _ _ _=>by exact(av Ξr γw π4 (c7 T) hr.u T.x3.b .nil aj τ4))) ac)))
  refine⟨_,rfl,p,dB,_,rfl,g,rfl,_,rfl,p,dB,_,rfl,g,rfl,_,rfl,p,fp,r,w,n,b,rfl,hB,R,C,λl H1 nl s1 hl=>?_⟩;refine⟨l,rfl,⟨_,b_.of hl⟩,λD nD=>?_⟩;refine fO (xs:=rowV (GF.DD w n b)) (f:=λv=>match v with | .int i=>.int ((GF.tm r w f i.toNat:Nat):Int) | v=>v) (cs:=[some (.int f),some (.ref p)]) (b_.of hl) nD rfl (DK (by rw[ap,GF.Ep];exact C) (by decide)) (λx H2 R2 hx s2 hR=>?_) (λH2 s2 hD=>?_)
  ·obtain⟨y,hy,rfl⟩:=tK hx
   have j:=s2 _ _ (s1 _ _ G);refine #[_,rfl,p,_,_,_,_,rfl,s2 _ _ (s1 _ _ g),γO,T.A31,eE fp w n,fp,dF,_,rfl,j,rfl,_,rfl,_,rfl,fp,r,w,f,y,rfl,#[dF,j],R.rule,hf,hR _ ϟ]
  ·rw[tJ (f:=GF.tm r w f) (h:=λn=>rfl)] at hD
   exact #[p,fp,D,r,w,n,_,rfl,hB.same ηq,R,b_.of hD,q _ ηq]
inductive tN (K:n_) (a:A_) (vs:δ) (H:Hp) (Q:VK) (E_3:XK):Prop
 | mk:∀(p fp lf lb:Addr) (r w n:Nat) (fs bs:List Nat),vs=[.ref p,.ref lf,.ref lb]->DV a H p fp r w n->GF.Good r w->n<=16->b_ K H lf (rowV fs)->b_ K H lb (rowV bs)->fs.length=bs.length->((∀f∈fs,f < 2 ^ w))->(∀H',a_ H H'->Q (.int ((GF.Em r w n (fs.zip bs):Nat):Int)) H')->tN K a vs H Q E_3
variable {b:Nat}
theorem AG {fs bs:η}{f:Nat} (hf:fs[i]?=some f) (hb:bs[i]?=some b):(fs.zip bs).take (i+1)=(fs.zip bs).take i++[(f,b)]:=by
 rw[K0]
 have:(fs.zip bs)[i]?=some (f,b):=by
  rw[List.zip,Qv,hf,hb]
 show 56
theorem dw (T:μ):C_ P wo K mg base 4 a.f18 ["self", "factors", "some"] (tN K a):=by
 refine T.x18.F.okA (k:=3) Ll ξ
 ·obtain⟨p,fp,lf,lb,r,w,n,fs,bs,rfl,hB,R,O,hf,hb,C,D,q⟩:=h
  show 0
  exists xc (au (i:=3) Ll.nd rfl 0e3 ai)
  show 1;refine xf ϗ rfl (mY rfl T.A59 ζS) (cO rfl (aK (ar (i:=4) Ll.nd rfl ζ) (aK (ar (i:=5) Ll.nd rfl ζ) bM))) ?_
  exists xl (au (i:=3) Ll.nd rfl 0e3 (ay gb ϊ (av ο γO T.x17.me (mr T) hr.u T.x17.b .nil aj νO)))
  show 5
  show 23
  refine #[_,rfl,_,rfl,lf,lb,_,_,rfl,hf,hb,let I_:Nat->L2.St->Hp->Prop:=λi σ H'=>L2.E2 λ(v4 v5:Option V)=>L2.A2 (σ=[some γE,some (.ref lf),some (.ref lb),some (.int ((GF.Em r w n ((fs.zip bs).take i):Nat):Int)),v4,v5]) δZ;vt (K:=K) (l1:=lf) (l2:=lb) (xs:=rowV fs) (ys:=rowV bs) I_ #[none,none,rfl,a_.refl _] ?_ (by rw[ap,ap];exact C) ?_ ?_]
  ·rintro i σ H' _ ⟨v4,v5,_,sm⟩
   exact #[sm.seq hf,sm.seq hb]
  ·rintro i u v T' σ H' hi hu hv hT ⟨v4,v5,rfl,sm⟩
   obtain⟨f,j,rfl⟩:=bh hu;obtain⟨b,G,rfl⟩:=bh hv
   have s1:=sm.trans (a_.new (o:=.tup [V.int (f:Nat),V.int (b:Nat)]) hT)
   have g:=hB.same s1;obtain⟨dB,J⟩:=ηH;show 49;refine #[_,rfl,_,rfl,p,dB,_,rfl,J,rfl,_,rfl,_,rfl,p,fp,r,w,n,f,b,rfl,g,R,O,D f (Ez j),λH2 s2=>?_];refine #[_,_,rfl,rfl,some ώ9,some (.int (b:Nat)),?_,s1.trans s2];rw[AG j G,GF.HP]
   show [_,_,_,some υw,_,_]=_
   rw[c5]
  ·rintro σ H' ⟨v4,v5,rfl,sm⟩
   have e:(fs.zip bs).take (rowV fs).length=fs.zip bs:=by
    rw[ap]
    apply KD
    rw[List.length_zip];omega
   rw[e];exact #[_,rfl,q H' sm]
structure Dy (H:Hp) (ps:Ξ) (M:Nat) (row:γR):Prop where
 len:ps.length=M
 on:∀(i:Nat) p,ps[i]?=some p->H p=some ϊo
variable {ps:List Addr}{M:Nat}
theorem Dy.same {row:γR} (h:ξS) (s:γD):Dy H' ps M row:=#[γU,λi p e=>s _ _ (h.on i p e)]
theorem Dy.get {row:γR} (h:ξS) {i:Nat} (hi:i < M):∃p,ps[i]?=some p/\H p=some 162e6:=by
 have hl:i < ps.length:=by rw[γU];exact hi
 exact #[ps[i],s_ hl,h.on i _ (s_ hl)]
theorem aR (h:ps[i]?=some p):(ps.map Ϙ)[i]?=some 9e2:=by rw[DO,h];rfl
theorem bL (h:ξJ):45e2[i]?=some 145e5:=by
 show 299
def dM (m at':Nat):List Nat:=(Ee m 0).set at' 1
theorem o7 (n c:Nat):(Ee n [V.int (c:Int)]).flatten=rowV (Ee n c):=by
 induction n with
 | zero=>rfl
 | succ n ih=>rw[HV,JN,ih,HV];rfl
theorem tO (row:η) (i x:Nat):(rowV row).set i πt=rowV (row.set i x):=by
 show 39;rw[ME]
def e_ (W:Nat) (T:ύ) (i:Nat):List Nat:=(p_ W).map (T i)
theorem aI (W:Nat) (T:ύ) (i:Nat):(e_ W T i).length=W:=by unfold e_;rw[o_,Eo]
variable {W:Nat}{T:Nat->Nat->Nat}
theorem bu {k:Nat} (h:k < W):(e_ W T i).getD k 0=T i k:=by
 unfold e_;rw[t_,DO,F1 h];rfl
theorem fS {U:ύ} (h:∀k,k < W->T i k=U j k):e_ W T i=e_ W U j:=HR λk hk=>h k οf
theorem fY (h:∀k,k < W->T i k < n):∀x∈e_ W T i,x < n:=λx hx=>by
 show 300;exact h k οf
theorem Dy.congr {row row':γR} (h:ξS) (e:∀i,i < M->row i=row' i):Dy H ps M row' :=
 ⟨γU,λi p hi=>by
  have:i < M:=by
   rw[<- h.len];exact(ET.mp hi).1
  rw[<- e i this]
  exact h.on i p hi⟩
theorem Dy.snoc {row:γR} (h:Dy H ps n row) (s:∀q∈ps,H' q=H q) (hp:H' p=some (.lst (rowV (row n)))):Dy H' οp (n+1) row:=by
 refine #[by rw[Fn,γU];rfl,λi q e=>?_]
 rw[MC] at e
 split at e
 ·rw[s q (Ez e)]
  exact h.on i q e
 ·rename_i hge
  cases ht:i - ps.length with
  | zero =>
   rw[ht] at e
   have:p=q:=by simpa using e
   show 14
   have:i=n:=by have:=γU;omega
   show 21;exact hp
  | succ m=>rw[ht] at e;simp at e
def FB (ks:δ4):List V:=ks.map V.bl
theorem kd (m i:Nat):(dM m i).length=m:=by unfold dM;rw[HQ,IG]
theorem ii (x y:η):rowV x++rowV y=rowV (x++y):=by unfold rowV;rw[FM]
theorem zl {f:γR} (h:(f i).length=W):e_ W (λi k=>(f i).getD k 0) i=f i:=by
 unfold e_
 apply L6
 ·rw[o_,Eo,h]
 ·intro k k1 k2
  simp[k2]
variable {N:Nat}{l:Nat->Nat->Nat}
theorem xA {k:Nat} (hk:k < N):(e_ N l i++dM M i).getD k 0=l i k:=by
 rw[t_,Ht τy,← t_,bu hk]
theorem uX (hj:j < M):(e_ N l i++dM M i).getD (N+j) 0=if j=i then 1 else 0:=by
 rw[t_,HU πr,aI,K7]
 unfold dM;rw[Og]
 by_cases z:i=j
 ·rw[if_pos z,if_pos ϋM,if_pos εn]
  rfl
 ·rw[if_neg z,if_neg υk,IE,if_pos hj]
  rfl
theorem Dy.upd {H:Hp}{ps:Ξ}{M:Nat}{row:γR}{d:Addr}{o:HO} (h:ξS) (n:d∉ps):Dy (upd H d o) ps M row :=
 ⟨γU,λi p e=>by
  have np:p≠d:=λz=>n ΨU
  rw[ae np]
  exact h.on i p e⟩
theorem uY:(!decide (V.int (n:Int)=ε9))=true:=by
 rw[decide_eq_false ζX]
 rfl
inductive zm (vs:δ) (H:Hp) (Q:VK) (E_3:XK):Prop
 | mk:∀(m i:Nat),vs=[.int m,.int i]->i < m->m<=30->(∀D H',H D=none->a_ H H'->H' D=some (.lst (rowV (dM m i)))->Q (.ref D) H')->zm vs H Q E_3
theorem vZ (T:μ):C_ P wo K mg base 1 a.f6 ["many", "at"] zm:=by
 refine T.x6.F.okA (k:=0) OJ ξ
 ·obtain⟨m,i,rfl,hi,hm,q⟩:=h
  show 0
  exists xc (au (i:=2) OJ.nd rfl 0e3 (ay gf ψY ο))
  exists xc (cG ai (c9 Ω Θ cp))
  show 47
  refine #[ε,λp1 n1=>#[_,rfl,p1,_,_,rfl,rfl,ab,by omega,by omega,?_,λp2 n2=>?_]]
  ·rw[Fu]
   show 1 * m<=sizeLine
   exact DK (by omega:1 * m<=30) ε
  have eR:(Ee ((m:Int)).toNat [V.int 0]).flatten=rowV (Ee m 0):=by rw[Fu];exact o7 m 0
  rw[eR];refine #[_,rfl,_,rfl,p2,_,_,i,rfl,rfl,ab,cJ (by rw[ap,IG];exact hi),?_]
  have g:=(a_.new (o:=.lst [V.int 0]) n1);refine #[_,rfl,q p2 _ (g.free n2) ?_ ?_]
  ·rw[aP]
   exact g.trans (a_.new n2)
  ·rw[ab]
   exact congrArg (λl=>some (HO.lst l)) (tO _ _ 1)
inductive wb (a:A_) (vs:δ) (H:Hp) (Q:VK) (E_3:XK):Prop
 | mk:∀(p:Addr) (r w x n:Nat),vs=[.ref p,.int x,.int n]->DN a.C_Field H p r w->GF.Good r w->x < 2 ^ w->Q (.int (GF.pw r w x n:Nat)) H->wb a vs H Q E_3
theorem o9 (T:μ):C_ P wo K mg base 3 a.f5 ["self", "one", "many"] (wb a):=by
 refine T.x5.F.okA (k:=2) J_ ξ
 ·obtain⟨p,r,w,x,n,rfl,hF,g,hx,q⟩:=h
  obtain⟨dx,C⟩:=id hF
  have O:=g.top16
  show 0
  exists xc (au (i:=3) ι9 rfl 0e3 ai)
  exists xc (au (i:=4) ι9 rfl 0e3 Θ)
  exists xc (au (i:=5) ι9 rfl 0e3 Ω)
  show 289
  exists xl (au (i:=3) ι9 rfl 0e3 (av ο γw π4 (c7 T) hr.u T.x3.b .nil aj ΨI))
  show 2
  exists xc (au (i:=4) ι9 rfl 0e3 (av ο γw π4 (c7 T) hr.u T.x3.b .nil aj (aa γ6 ζW)))
  exists xl (au (i:=5) ι9 rfl 0e3 όl)
  show 5
  show 23
  refine #[_,rfl,_,rfl,#[λm σ H'=>∃(y s d:Nat),d=m/\σ=[some γE,some (.int x),some ζI,some χ0,some (.int (s:Nat)),some (.int (d:Nat))]/\H'=H/\y < 2 ^ w/\s < 2 ^ w/\GF.tm r w y (GF.pw r w s d)=GF.pw r w x n,#[_,1,x,n,rfl,rfl,rfl,by omega,hx,GF.EW γi g.w1 (GF.Gc g hx n)],?_]]
  rintro m σ H' ⟨y,s,d,rfl,rfl,rfl,hy,hs,j⟩;show 290
  ·have hd:0 < d:=by
    show 291
   have G:((d:Int) / 2)=((d / 2:Nat):Int):=by omega
   have D:=GF.z_ γi (b:=s) hs;refine ιA
   refine c_ ο3 ο3
   ·have J:d % 2=1:=by
     show 292
    refine #[_,rfl,p,dx,_,rfl,C,rfl,_,rfl,_,rfl,p,r,w,y,s,rfl,hF,γi,hy,?_];show 301
    show 6
    rw[G];refine #[d / 2,Od hd ε,GF.tm r w y s,GF.tm r w s s,d / 2,rfl,rfl,rfl,GF.z_ γi hy,D,?_]
    have e:d=1+2 * (d / 2):=by omega
    show 302
    conv=>rhs;rw[e]
    rw[GF.GA g hs,GF.Iy s g hs,GF.DG γi g.w1 hy hs]
   ·have J:¬ d % 2=1:=by
     intro z
     apply h1
     apply decide_eq_true
     show V.int ((d:Int) % 2)=V.int 1
     congr 1
     omega
    show 301
    show 6
    rw[G];refine #[d / 2,Od hd ε,y,GF.tm r w s s,d / 2,rfl,rfl,rfl,hy,D,?_]
    have e:d=2 * (d / 2):=by omega
    show 302
    conv=>rhs;rw[e]
  ·have hd:d=0:=by
    have:¬ ((0:Int) < (d:Int)):=λz=>h ξs;omega
   subst hd
   have e:GF.pw r w s 0=1:=rfl;rw[e,GF.EH] at j;show 22
   show Q χ0 H'
   rw[j];exact q
inductive zn (a:A_) (vs:δ) (H:Hp) (Q:VK) (E_3:XK):Prop
 | mk:∀(p:Addr) (r w x:Nat),vs=[.ref p,.int x]->DN a.C_Field H p r w->GF.Good r w->0 < x->x < 2 ^ w->Q (.int (GF.pw r w x (2 ^ w - 1 - 1):Nat)) H->zn a vs H Q E_3
theorem rA (T:μ):C_ P wo K mg base 4 a.f4 ["self", "one"] (zn a):=by
 refine T.x4.F.okA (k:=3) qZ ξ
 ·obtain⟨p,r,w,x,rfl,hF,g,h0,hx,q⟩:=h
  show 294
  have C:=g.top16
  show 0
  show 303
  show 3
  show 2
  exists xl (ax (av ο γw T.x5.me (o9 T) hr.u T.x5.b .nil aj (aa Θ (aa (ay eY γ1 ai) ac))))
  show 48;refine c_ Δe ι
  have e:(((2 ^ w - 1:Nat):Int) - 1)=((2 ^ w - 1 - 1:Nat):Int):=by omega
  refine #[_,rfl,p,dx,_,rfl,j,rfl,_,rfl,_,rfl,p,_,_,_,_,rfl,j,γw,θb,eD r w,_,_,rfl,rfl,?_];show 6
  rw[e];exact #[p,r,w,x,_,rfl,hF,g,hx,q]
inductive ke (K:n_) (a:A_) (vs:δ) (H:Hp) (Q:VK) (E_3:XK):Prop
 | mk:∀(p l:Addr) (r w c:Nat) (row:List Nat),vs=[.ref p,.int c,.ref l]->DN a.C_Field H p r w->GF.Good r w->H l=some (.lst (rowV row))->((∀x∈row,x < 2 ^ w))->row.length<=100->(∀D H',H D=none->a_ H H'->H' D=some (.lst (rowV (row.map λs=>GF.tm r w s c)))->Q γ4 H')->ke K a vs H Q E_3
theorem eF (T:μ):C_ P wo K mg base 3 a.f7 ["field", "factor", "line"] (ke K a):=by
 refine T.x7.F.okA (k:=2) oW ξ
 ·obtain⟨p,l,r,w,c,row,rfl,hF,g,hl,C,j,q⟩:=h
  obtain⟨dx,G⟩:=id hF
  show 0
  exists xl (ax (aS ΔD rfl 40e6 δz γ5 (λ_ _ _ _ _=>by exact(av Θ γw π4 (c7 T) hr.u T.x3.b .nil aj τ5))))
  refine⟨_,rfl,l,rfl,⟨_,b_.of hl⟩,λD nD=>?_⟩;refine fO (xs:=rowV row) (f:=λv=>match v with | .int i=>.int ((GF.tm r w i.toNat c:Nat):Int) | v=>v) (cs:=[some (.int c),some (.ref p)]) (b_.of hl) nD rfl (DK (by rw[ap];exact j) (by decide)) (λx H2 R2 hx s2 hR=>?_) (λH2 s2 hD=>?_)
  ·obtain⟨y,hy,rfl⟩:=tK hx
   exact #[_,rfl,p,dx,_,rfl,s2 _ _ G,rfl,_,rfl,_,rfl,p,r,w,y,c,rfl,hF.same s2,γi,C y hy,hR _ ϟ]
  ·rw[tJ (f:=λs=>GF.tm r w s c) (h:=λn=>rfl)] at hD
   exact q D H2 nD s2 hD
inductive tP (K:n_) (vs:δ) (H:Hp) (Q:VK) (E_3:XK):Prop
 | mk:∀(l1 l2:Addr) (x y:List Nat),vs=[.ref l1,.ref l2]->H l1=some (.lst (rowV x))->H l2=some (.lst (rowV y))->x.length=y.length->x.length<=100->(∀D H',H D=none->a_ H H'->H' D=some (.lst (rowV (Px (λs t=>s ^^^ t) x y)))->Q γ4 H')->tP K vs H Q E_3
theorem jw (T:μ):C_ P wo K mg base 1 a.f8 ["one", "other"] (tP K):=by
 refine T.x8.F.okA (k:=0) q5 ξ
 ·obtain⟨l1,l2,x,y,rfl,h1,h2,hl,g,q⟩:=h
  show 0
  exists xl (ax (aS (g_.of (cap:=[]) (own:=["symbol", "another"]) γg) rfl (mY rfl T.A59 τ6) (λ_ _ _ _ _=>(oS (n:=2) (K:=K) rfl rfl (aK (ar (i:=0) (of_decide_eq_true γg) rfl ζ) (aK (ar (i:=1) (of_decide_eq_true γg) rfl ζ) bM)))) γ5 (λ_ _ _ _ _=>by exact(ay gb ο Θ))))
  refine #[_,rfl,_,rfl,l1,l2,_,_,rfl,b_.of h1,b_.of h2,λD nD=>?_];refine yL (xs:=rowV x) (ys:=rowV y) (f:=λi=>.int ((x.getD i 0 ^^^ y.getD i 0:Nat):Int)) (cs:=[]) (b_.of h1) (b_.of h2) (by rw[ap,ap,hl]) nD rfl (DK (by rw[ap];exact g) ε) (λi u v H2 R2 hu hv s2 hR=>?_) (λH2 s2 hD=>q D H2 nD s2 ?_)
  ·obtain⟨su,eu,rfl⟩:=bh hu
   obtain⟨sv,ev,rfl⟩:=bh hv;refine Φq;show 6
   rw[c5]
   have e1:x.getD i 0=su:=by rw[t_,eu];rfl
   have e2:y.getD i 0=sv:=by rw[t_,ev];rfl
   rw[e1,e2] at hR;show 50
  ·rw[hD]
   congr 2
   rw[ap]
   apply L6
   ·rw[o_,Eo,ap,List.length_zipWith,hl,Sl]
   ·intro i i1 i2
    rw[o_,Eo] at i1
    have j2:i < y.length:=by omega
    simp[rowV,i1,j2]
inductive wd (K:n_) (vs:δ) (H:Hp) (Q:VK) (E_3:XK):Prop
 | mk:∀(l:Addr) (st pl M:Nat) (ps:List Addr) (row:Nat->List Nat),vs=[.ref l,.int st,.int pl]->H l=some (.lst (ps.map V.ref))->Dy H ps M row->((∀i,i < M->pl < (row i).length))->st<=M->M<=8->((∀f,st<=f->f < M->(row f).getD pl 0≠0->Q (.int (f:Nat)) H))->(((∀i,st<=i->i < M->(row i).getD pl 0=0)->Q .non H))->wd K vs H Q E_3
theorem jx (T:μ):C_ P wo K mg base 1 a.f9 ["lines", "start", "place"] (wd K):=by
 refine T.x9.F.okA (k:=0) OG ξ
 ·obtain⟨l,st,pl,M,ps,row,rfl,hl,ht,hp,hs,hm,q1,q2⟩:=h
  show 0
  show 1;refine xf ϗ rfl (xW rfl T.A07 (aa Θ ΘJ)) (ar (i:=3) OG.nd rfl ζ) ?_;show 7;refine xi (am dG (aE aG (aE aG ο ϊ γ0) Ω γ0) ai ψ) ?_
  show 23
  show 17
  show 26
  have j:((ps.map Ϙ).length:Int)=(M:Nat):=by rw[o_,δq]
  refine #[_,rfl,_,rfl,l,_,rfl,.inl (b_.of hl),_,_,rfl,#[by omega,by omega,by omega,by omega],?_]
  have en:(((ps.map Ϙ).length:Int) - (st:Nat)).toNat=M - st:=by rw[j];omega
  rw[en];refine let I_:Nat->L2.St->Hp->Prop:=λi σ H'=>L2.A3 ((∃v:Option V,σ=[some ζp,some δL,some μs,v])) (H'=H) (∀k,st<=k->k < st+i->(row k).getD pl 0=0);cb (lo:=(st:Nat)) (n:=M - st) I_ #[η4,rfl,λk h1 h2=>by omega] ?_ ?_
  ·rintro i σ H' hi ⟨⟨v,rfl⟩,rfl,g⟩
   have ek:((st:Nat):Int)+(i:Nat)=((st+i:Nat):Int):=by omega
   obtain⟨p,ep,C⟩:=ht.get (i:=st+i) γ
   have D:=hp (st+i) γ
   rw[ek];refine #[_,rfl,_,rfl,l,_,_,_,rfl,rfl,b_.of hl,aB ζf,_,rfl,p,_,_,_,rfl,rfl,b_.of C,aB (bL D),rfl,_,rfl,?_];show 90
   ·refine δW
    refine q1 (st+i) γ γ λz=>?_
    rw[z] at h
    revert h
    decide
   ·refine #[ϒ,rfl,λk h1 h2=>?_]
    by_cases e:k=st+i
    ·rw[e]
     apply Decidable.byContradiction
     intro z
     apply h
     rw[decide_eq_false]
     ·rfl
     ·intro y
      have:=V.int.inj y;omega
    ·exact g k h1 γ
  ·rintro σ H' ⟨⟨v,rfl⟩,rfl,g⟩
   exact q2 λi h1 h2=>g i h1 γ
inductive qw (K:n_) (vs:δ) (H:Hp) (Q:VK) (E_3:XK):Prop
 | mk:∀(l:Addr) (h f M:Nat) (ps:List Addr) (row:Nat->List Nat),vs=[.ref l,.int h,.int f]->H l=some (.lst (ps.map V.ref))->Dy H ps M row->h < M->f < M->M<=8->(∀D H' ps',H D=none->a_ H H'->H' D=some (.lst (ps'.map V.ref))->Dy H' ps' M (λi=>if i=h then row f else if i=f then row h else row i)->(∀p∈ps',p∈ps)->Q γ4 H')->qw K vs H Q E_3
theorem xB (T:μ):C_ P wo K mg base 1 a.f10 ["lines", "one", "other"] (qw K):=by
 refine T.x10.F.okA (k:=0) OM ξ
 ·obtain⟨l,h,f,M,ps,row,rfl,hl,ht,hh,hf,hm,q⟩:=h
  show 0
  exists xc (au (i:=3) OM.nd rfl 0e3 (br bC rfl T.A12 γu ηW))
  exists xc (cG (aE aG ο Ω γ0) (c9 ϊ Θ cp))
  exists xc (cG ρu (c9 ϊ Ω cp))
  show 23
  obtain⟨p1,e1,J⟩:=ht.get hf;obtain⟨p2,e2,G⟩:=ht.get hh;refine #[_,rfl,l,_,rfl,.inl (b_.of hl),λD nD=>?_]
  have g:h < (ps.map Ϙ).length:=by rw[o_,δq];exact hh
  have C:f < (ps.map Ϙ).length:=by rw[o_,δq];exact hf
  have lD:l≠D:=al hl nD;refine #[_,rfl,_,rfl,l,_,_,_,rfl,rfl,b_.of (by rw[ae lD];exact hl),aB (aR e1),?_]
  refine #[_,rfl,_,rfl,D,_,_,h,rfl,rfl,ab,cJ g,?_];refine #[_,rfl,_,rfl,l,_,_,_,rfl,rfl,b_.of (by rw[aP,ae lD];exact hl),aB (aR e2),?_]
  refine #[_,rfl,_,rfl,D,_,_,f,rfl,rfl,ab,cJ (by rw[HQ];exact C),?_]
  rw[aP,aP]
  have j:(((ps.map Ϙ).set h (.ref p1)).set f (.ref p2))=138e9:=by rw[ME,ME]
  rw[j];refine #[_,rfl,q D _ _ nD οb ab #[by rw[HQ,HQ,δq],λi p ei=>?_] (λp hp=>?_)]
  rotate_left
  ·rcases QH hp with z | z
   ·rcases QH z with z | z
    ·exact z
    ·rw[z]
     exact Ez e1
   ·rw[z]
    exact Ez e2
  have on:=λi p e=>(a_.new (o:=.lst Ξz) nD) _ _ ώO;rw[Og,Og] at ei
  by_cases zf:f=i
  ·rw[if_pos zf,if_pos (by rw[HQ,δq];exact hf)] at ei
   subst zf
   show 304
   by_cases zh:f=h
   ·rw[if_pos zh]
    subst zh;exact on f p2 e2
   ·rw[if_neg zh,if_pos rfl]
    exact on h p2 e2
  ·rw[if_neg zf] at ei
   by_cases zh:h=i
   ·rw[if_pos zh,if_pos (by rw[δq];exact hh)] at ei
    subst zh
    show 304;show 25;exact on f p1 e1
   ·rw[if_neg zh] at ei
    rw[if_neg (λz=>zh εn),if_neg (λz=>zf εn)];exact on i p ei
inductive qx (K:n_) (a:A_) (vs:δ) (H:Hp) (Q:VK) (E_3:XK):Prop
 | mk:∀(fp l:Addr) (r w h pl M W:Nat) (ps:List Addr) (T:Nat->Nat->Nat),vs=[.ref fp,.ref l,.int h,.int pl]->DN a.C_Field H fp r w->GF.Good r w->H l=some (.lst (ps.map V.ref))->Dy H ps M (e_ W T)->((∀i k,i < M->k < W->T i k < 2 ^ w))->W<=30->pl < W->h < M->M<=8->T h pl≠0->(∀D H' ps',H D=none->a_ H H'->H' D=some (.lst (ps'.map V.ref))->Dy H' ps' M (e_ W (GF.Dz r w T h pl (GF.pw r w (T h pl) (2 ^ w - 1 - 1))))->(∀p∈ps',p∈ps\/H p=none)->Q (.ref D) H')->qx K a vs H Q E_3
theorem nR (T:μ):C_ P wo K mg base 5 a.f11 ["field", "lines", "at", "place"] (qx K a):=by
 refine T.x11.F.okA (k:=4) Lw ξ
 ·obtain⟨fp,l,r,w,h,pl,M,W,ps,t,rfl,hF,g,hl,ht,U,hW,O,hh,hm,h0,q⟩:=h
  obtain⟨dx,a7⟩:=id hF
  show 0
  exists xc (au (i:=4) Lw.nd rfl 0e3 (aH (eF T) hr.u rfl T.x7.m T.x7.k T.x7.b .nil aj (aa ο (aa (av ο γw T.x4.me (rA T) hr.u T.x4.b .nil aj (aa (aE aG ιF ϊ γ0) ac)) (aa ιF ac)))))
  exists xc (au (i:=5) Lw.nd rfl 0e3 η6)
  show 1;refine xf ϗ rfl 85e0 (cO rfl (aK (ar (i:=6) Lw.nd rfl ζ) (aK (ar (i:=7) Lw.nd rfl ζ) bM))) ?_;show 7;refine xi (am bT δ8 Ω ψ) ?_
  exists xl (aF (cu Hr Hs Hv aZ γf ζW))
  show 7;refine xi (am bT ΞA ai ψ) ?_
  exists xl (aF (cu Hr Hs Hv aZ γf ηn))
  exists xl (aF (cu Hr Hs Hv aZ γf (aa (aH (jw T) hr.u rfl T.x8.m T.x8.k T.x8.b .nil aj (aa ζk (aa (aH (eF T) hr.u rfl T.x7.m T.x7.k T.x7.b .nil aj (aa ο (aa ΞA ζW))) ac))) ac)))
  show 5;show 5;show 5
  exists xl (ax γf)
  obtain⟨ph,eh,aT⟩:=ht.get hh
  have a4:t h pl < 2 ^ w:=U h pl hh O
  have eg:(e_ W t h).getD pl 0=t h pl:=bu O
  have gt:=aB (bL (row:=e_ W t h) (i:=pl) ϊR)
  rw[eg] at gt;refine #[_,rfl,_,rfl,fp,dx,_,rfl,a7,rfl,_,rfl,_,rfl,l,_,_,_,rfl,rfl,b_.of hl,aB (aR eh),_,rfl,ph,_,_,_,rfl,rfl,b_.of aT,gt,?_];refine #[fp,r,w,t h pl,rfl,hF,g,by omega,a4,?_]
  generalize hc:GF.pw r w (t h pl) (2 ^ w - 1 - 1)=c at q;refine #[_,rfl,_,rfl,l,_,_,_,rfl,rfl,b_.of hl,aB (aR eh),?_];refine #[fp,ph,r,w,c,e_ W t h,rfl,hF,g,aT,fY λk hk=>U h k hh hk,by rw[aI];omega,λhd H1 a2 s1 a1=>?_]
  refine #[by decide,λD nD=>#[_,rfl,l,_,rfl,b_.of (68e3 _ _ (s1 _ _ hl)),?_]]
  have aw:(ps.map Ϙ).length=M:=by rw[o_,δq]
  refine let I_:Nat->L2.St->Hp->Prop:=λi σ H'=>L2.E3 λ(v u:Option V) (C:List Addr)=>L2.A6 (σ=[some θ8,some ζp,some (.int h),some μs,some (.ref hd),some γ4,v,u]) (a_ H1 H') (H' D=some ϊS) (Dy H' C i (e_ W ϊT)) (D∉C) (∀p∈C,p∈ps\/H p=none);iY I_
   #[none,none,[],rfl,a_.new nD,ab,#[rfl,λi p e=>by simp at e],by simp,by simp] ?_ ?_ ?_
  ·rintro i σ H' hi ⟨v,u,C,rfl,s2,_⟩
   exact b_.of (s2 _ _ (s1 _ _ hl))
  ·rintro i u Tt σ H' hi hu nT ⟨v,u',C,rfl,s2,hD,G,an,ad⟩
   rw[aw] at hi;show 145
   have eu:u=.ref p:=by
    show 305
   subst eu;refine Θ5
   have s3:a_ H' (upd H' Tt Ψh):=a_.new nT
   have a3:∀q∈C,H' q=upd H' Tt Ψh q:=λq hq=>by
    rw[ae];intro z;show 306;rw[z] at hj;rw[G.on j _ hj] at nT
    cases nT
   generalize (upd H' Tt (.tup [.int (i:Nat),.ref p]))=H2 at s3 a3
   have a0:H2 hd=some (.lst (rowV ((e_ W t h).map λs=>GF.tm r w s c))):=s3 _ _ (s2 _ _ a1)
   have Y:H2 p=some (.lst (rowV (e_ W t i))):=s3 _ _ (s2 _ _ (s1 _ _ hp))
   have J:H2 D=some 165e6:=s3 _ _ hD
   have Z:a_ H1 H2:=s2.trans s3
   have a9:t i pl < 2 ^ w:=U i pl hi O
   have i8:C.length < 8:=by rw[G.len];omega
   have fin:∀p' H3,a_ H2 H3->p'≠D->(p'∈ps\/H p'=none)->H3 p'=some (.lst (rowV (e_ W ϊT i)))->I_ (i+1) [some (V.ref fp),some ζp,some (.int h),some μs,some (.ref hd),some γ4,some μR,some γE] (upd H3 D (.lst (C.map V.ref++[.ref p']))):=λp' H3 s4 nz a5 a6=>by
    refine #[_,_,C++[p'],rfl,(Z.trans s4).up nD,?_,G.snoc (λq hq=>?_) ?_,?_,λq hq=>(Fw.mp hq).elim (ad q) λz=>by rw[Eu.mp z];exact a5]
    ·rw[ab,FM]
     rfl
    ·have nq:q≠D:=λz=>an (by rw[<- z];exact hq)
     rw[ae nq];show 306
     have e1:=G.on j _ hj;rw[e1,s4 _ _ (s3 _ _ e1)]
    ·rw[ae nz]
     exact a6
    ·intro z
     rcases Fw.mp z with z | z
     ·exact an z
     ·exact nz (Eu.mp z).symm
   have R:(C.map Ϙ).length < sizeLine:=Oi (by rw[o_];exact i8) ε
   show 307
   ·have z':i=h:=by
     have:=V.int.inj θo;omega
    refine Δ4;refine fin hd H2 ϟ (al a1 nD) (.inr a2) ?_;rw[a0,z']
    congr 3
    unfold e_;rw[Fa];exact HR λk _=>by unfold GF.Dz;show 25;rfl
   ·have z':i≠h:=λe=>z Ψi
    have gi:=aB (bL (row:=e_ W t i) (i:=pl) ϊR)
    rw[bu O] at gi;refine #[_,rfl,_,rfl,p,_,_,_,rfl,rfl,b_.of Y,gi,rfl,_,rfl,?_];refine c_ (λy=>?_) (λy=>?_)
    ·have y':t i pl=0:=by
      have:=V.int.inj ιd;omega
     refine Δ4;refine fin p H2 ϟ (al (s1 _ _ hp) nD) (.inl (Ez ep)) ?_;rw[Y]
     congr 3
     refine fS λk _=>?_;unfold GF.Dz;rw[if_neg z',y',εI,GO]
    ·refine #[_,rfl,.inl #[rfl,_,b_.of J],_,rfl,_,rfl,_,rfl,_,rfl,p,_,_,_,rfl,rfl,b_.of Y,gi,_,rfl,?_]
     refine #[fp,hd,r,w,t i pl,_,rfl,hF.same (s1.trans Z),g,a0,?_,?_,λd3 H3 n3 s4 h3=>?_]
     ·intro x hx
      show 300;exact GF.z_ γi (fY (λk hk=>U h k hh hk) k hk)
     ·rw[o_,aI]
      omega
     ·refine #[p,d3,_,_,rfl,s4 _ _ Y,h3,?_,?_,λd4 H4 n4 s5 h4=>?_]
      ·rw[o_,o_,aI,aI]
      ·rw[aI]
       omega
      ·have a8:=s5 _ _ (s4 _ _ J)
       refine #[D,_,_,rfl,rfl,a8,R,?_];refine fin d4 H4 (s4.trans s5) (λe=>?_) (.inr ((s1.trans (Z.trans s4)).free n4)) ?_
       ·rw[e,s4 _ _ J] at n4
        cases n4
       ·rw[h4]
        congr 3
        unfold e_;rw[Fa,Fa]
        apply L6
        ·simp
        ·intro k k1 k2
         simp[GF.Dz,z']
  ·rintro σ H' ⟨v,u,C,rfl,s2,hD,G,an,ad⟩
   rw[aw] at G;exact #[_,rfl,q D H' C χr ηq hD G ad]
inductive nU (K:n_) (vs:δ) (H:Hp) (Q:VK) (E_3:XK):Prop
 | mk:∀(l hl:Addr) (m pl M W:Nat) (ps:List Addr) (hs:List Nat) (T:Nat->Nat->Nat),vs=[.ref l,.ref hl,.int m,.int pl]->H l=some (.lst (ps.map V.ref))->Dy H ps M (e_ W T)->H hl=some (.lst (rowV hs))->hs.length<=M->pl < m->m<=30->m<=W->M<=8->((∀p∈hs,p < m))->(∀D H',H D=none->a_ H H'->H' D=some (.lst (rowV ((p_ m).map (GF.D0 T hs pl hs.length))))->Q (.ref D) H')->nU K vs H Q E_3
theorem tQ (T:μ):C_ P wo K mg base 2 a.f13 ["lines", "heads", "many", "place"] (nU K):=by
 refine T.x13.F.okA (k:=1) Ms ξ
 ·obtain⟨l,hl,m,pl,M,W,ps,hs,t,rfl,h1,ht,h2,R,O,hm,U,Y,G,q⟩:=h
  show 0
  exists xc (au (i:=4) Ms.nd rfl 0e3 (aH (vZ T) hr.u rfl T.x6.m T.x6.k T.x6.b .nil aj ω8))
  show 1;refine xf ϗ rfl (mY rfl T.A59 (aa Θ ηW)) (cO rfl (aK (ar (i:=5) Ms.nd rfl ζ) (aK (ar (i:=6) Ms.nd rfl ζ) bM))) ?_
  exists xl (cG (aE aG δ8 ϊ γ0) (c9 γ6 γf cp))
  show 5
  exists xl χD
  refine #[_,rfl,_,rfl,m,pl,rfl,O,hm,λD H1 nD s1 hD=>?_];refine #[_,rfl,_,rfl,hl,l,_,_,rfl,b_.of (s1 _ _ h2),b_.of (s1 _ _ h1),?_]
  have j:(rowV hs).length=hs.length:=ap hs
  refine let I_:Nat->L2.St->Hp->Prop:=λi σ H'=>L2.E2 λ(v u:Option V)=>L2.A3 (σ=[some ζp,some (.ref hl),some (.int m),some μs,some γ4,v,u]) δZ (H' D=some (.lst (rowV ((p_ m).map (GF.D0 t hs pl i)))));Ap (xs:=rowV hs) I_
   #[none,none,rfl,s1,?_] ?_ ?_ ?_ ?_
  ·rw[hD]
   congr 3
   unfold dM
   apply L6
   ·simp
   ·intro k k1 k2
    rw[Q_]
    simp[GF.D0]
    by_cases z:pl=k
    ·show 308
    ·show 309
  ·rintro i σ H' hi ⟨v,u,rfl,s2,g⟩
   exact #[b_.of (s2 _ _ h2),b_.of (s2 _ _ h1)]
  ·rw[j,o_,δq]
   exact R
  ·rintro i x y Tt σ H' hi hx hy nT ⟨v,u,rfl,s2,g⟩
   rw[j] at hi;refine Θ5;obtain⟨xh,C,rfl⟩:=bh hx;obtain⟨p,ep,hp⟩:=ht.get (i:=i) γ
   have ey:y=.ref p:=by
    rw[aR ep] at hy;exact(DU hy).symm
   subst ey
   have s3:a_ H' (upd H' Tt (.tup [.int (xh:Nat),.ref p])):=a_.new nT;generalize (upd H' Tt (.tup [.int (xh:Nat),.ref p]))=H2 at s3
   have gi:=aB (bL (row:=e_ W t i) (i:=pl) πr)
   rw[bu γ] at gi
   have J:xh < m:=G xh (Ez C);refine #[_,rfl,_,rfl,p,_,_,_,rfl,rfl,b_.of (s3 _ _ (s2 _ _ hp)),gi,?_];refine #[_,rfl,_,rfl,D,_,_,xh,rfl,rfl,s3 _ _ g,cJ (by rw[ap,o_,Eo];exact J),?_]
   refine #[_,_,rfl,(s2.trans s3).up nD,?_];rw[ab,tO]
   congr 3
   have eh:hs.getD i 0=xh:=by rw[t_,C];rfl
   apply L6
   ·simp
   ·intro k k1 k2
    rw[Q_]
    simp[GF.D0,C]
    by_cases z:xh=k
    ·show 308
    ·show 309
  ·rintro σ H' ⟨v,u,rfl,s2,g⟩
   rw[j] at g;exact #[_,rfl,q D H' nD s2 g]
structure Il (r w N M:Nat) (l:ύ) (ks:δ4) (pl:Nat) (by':η):Prop where
 len:by'.length=M
 lt:∀x∈by',x < 2 ^ w
 ok:∀k,k < N->ks[k]?=some false->GF.DP r w M (λj=>l j k) (λj=>by'.getD j 0)=if k=pl then 1 else 0
structure JX (r w N M:Nat) (l:ύ) (ks:δ4) (pl:Nat) (mk:η):Prop where
 len:mk.length=N
 lt:∀x∈mk,x < 2 ^ w
 one:mk.getD pl 0=1
 zero:∀k,k < N->ks[k]?=some true->mk.getD k 0=0
 ok:∀j,j < M->GF.DP r w N (l j) τM=0
def zo (H:Hp) (D:Addr) (r w N M:Nat) (l:Nat→Nat→Nat) (ks:δ4) (pl:Nat):Prop:=(∃e by',H D=some (.tup [.str "reckoned",.ref e])∧H e=some (.lst (rowV by'))∧Il r w N M l ks pl by') ∨ (∃e mk,H D=some (.tup [.str "free",.ref e])∧H e=some (.lst (rowV mk))∧JX r w N M l ks pl mk)
inductive zp (K:n_) (a:A_) (vs:δ) (H:Hp) (Q:VK) (E_3:XK):Prop
 | mk:∀(fp L kn:Addr) (r w N M pl:Nat) (pL:List Addr) (l:Nat->Nat->Nat) (ks:List Bool),vs=[.ref fp,.ref L,.ref kn,.int pl]->DN a.C_Field H fp r w->GF.Et r w->H L=some (.lst (pL.map V.ref))->Dy H pL M (e_ N l)->((∀i k,i < M->k < N->l i k < 2 ^ w))->H kn=some (.lst (FB ks))->ks.length=N->N<=12->M<=8->pl < N->ks[pl]?=some false->((∀D H',a_ H H'->H D=none->zo H' D r w N M l ks pl->(∀t e,H' D=some (.tup [t,.ref e])->H e=none)->Q (.ref D) H'))->zp K a vs H Q E_3
theorem xC (T:μ):C_ P wo K mg base 6 a.f12 ["field", "lines", "known", "place"] (zp K a):=by
 refine T.x12.F.okA (k:=5) JL ξ
 ·obtain⟨fp,L,kn,r,w,N,M,pl,pL,l,ks,rfl,hF,g,hL,ht,a4,cv,cc,hN,hM,Z,bm,q⟩:=h
  have q1:=λD e dc H' s n ne h1 h2 h3=>q D H' s n (.inl #[e,dc,h1,h2,h3]) (λt e' h=>by rw[h1] at h;cases h;exact ne)
  have q2:=λD e mk H' s n ne h1 h2 h3=>q D H' s n (.inr #[e,mk,h1,h2,h3]) (λt e' h=>by rw[h1] at h;cases h;exact ne)
  show 0
  show 1;refine xi (PW.pt (bb Ωf (bb (am dH ϊ εX ψ) (ba (aV (aE aG Ω ϊ γ0)))))) ?_
  show 3
  show 2
  exists xc (b9 (i:=4) ηI rfl 0e3 (g_.of (cap:=[1]) (own:=["at", "line"]) γg) rfl 85e0 ωI γ5 (λ_ _ _ _ _=>by exact(ay yr Ω (aH (vZ T) hr.u rfl T.x6.m T.x6.k T.x6.b .nil aj (aa (aC (qX (K:=K) rfl) rfl T.A03 Fo ηW) γ9)))))
  exists xc (au (i:=5) ηI rfl 0e3 η6)
  show 1;refine xf ϗ rfl (aY rfl T.A07 (aa εX ac)) (ar (i:=6) ηI rfl ζ) ?_;show 1;refine xi (PW.pt (bb (aV (aE aG Ω δ8 γ0)) (ba (am bT δ8 ϊ ψ)))) ?_
  exists xl uJ
  show 2
  exists xc (au (i:=7) ηI rfl 0e3 (aH (jx T) hr.u rfl T.x9.m T.x9.k T.x9.b .nil aj (aa γ6 Δz)))
  show 7;refine xi (am bV ζk aO ψ) ?_
  exists xc (au (i:=4) ηI rfl 0e3 (aH (nR T) hr.u rfl T.x11.m T.x11.k T.x11.b .nil aj (aa ο (aa (aH (xB T) hr.u rfl T.x10.m T.x10.k T.x10.b .nil aj (aa γ6 (aa ωn ηn))) Δz))))
  exists xl (aF (cu Hr Hs Hv aZ γf μS))
  show 17
  exists xc (au (i:=7) ηI rfl 0e3 (aH (jx T) hr.u rfl T.x9.m T.x9.k T.x9.b .nil aj (aa γ6 (aa ωn ηX))))
  show 1;refine xi (am io ζk aO ψ) ?_
  exists xl (ax (bS (aa eV (aa (aH (tQ T) hr.u rfl T.x13.m T.x13.k T.x13.b .nil aj (aa γ6 (aa γf (aa εX ηX)))) ac))))
  show 2
  exists xc (au (i:=8) ηI rfl 0e3 (lW oO (aE aG (aH (nR T) hr.u rfl T.x11.m T.x11.k T.x11.b .nil aj (aa ο (aa γ6 (aa ζk ηX)))) ζk γ0) (d9 εX) BF))
  exists xl (ax (bS (aa eV χ1)))
  have hS:b_ K H kn (FB ks):=b_.of cv
  have U:(FB ks).length=N:=by unfold FB;rw[o_,cc]
  have a5:∀{k:Nat}{b:Bool},ks[k]?=some b->(FB ks)[k]?=some 42e0:=λ{k b} e=>by unfold FB;rw[DO,e];rfl
  have aw:(pL.map Ϙ).length=M:=by rw[o_,δq]
  refine ϝ;refine c_ ζ6 ι
  ·have:=of_decide_eq_true z
   omega
  refine #[_,rfl,_,rfl,kn,_,rfl,.inl hS,_,_,rfl,rfl,_,rfl,?_];refine c_ ζ6 ι
  ·have:=of_decide_eq_true z
   rw[U] at this;omega
  refine #[_,rfl,_,rfl,kn,_,_,_,rfl,rfl,hS,aB (a5 bm),_,rfl,?_];show 51
  refine #[_,rfl,L,_,rfl,b_.of hL,λD nD=>?_];refine xg (xs:=pL.map Ϙ) (row:=λi=>rowV (e_ N l i++dM M i)) (cs:=[some η5]) η1 nD rfl (DK (by rw[aw];exact hM) (by decide:8<=δv)) ηc (λps H1 s1 hD Y dl dr=>?_)
  ·have hi:i < M:=by
    rw[<- aw];exact(ET.mp hu).1
   show 145
   have eu:u=.ref p:=by
    show 305
   subst eu;refine #[_,rfl,_,rfl,L,_,rfl,.inl (s2.seq η1),_,rfl,?_];show 6
   rw[aw];refine #[M,i,rfl,hi,by omega,λD3 H3 n3 s3 h3=>?_]
   refine #[p,D3,_,_,rfl,rfl,s3 _ _ (s2 _ _ hp),h3,?_,λD4 n4=>?_]
   ·rw[ap,ap,aI,kd]
    exact DK (by omega:N+M<=30) ε
   ·refine hR D4 _ (s3.free n4) (s3.trans (a_.new n4)) ?_
    rw[ab,ii]
  ·have b2:Dy H1 ps M (e_ (N+M) λi k=>(e_ N l i++dM M i).getD k 0):=by
    refine #[by rw[Y.len,aw],λi p e=>?_]
    rw[Y.on i p e,zl (by rw[Fn,aI,kd])]
   have tb:=GF.G4.start g a4 (T:=λi k=>(e_ N l i++dM M i).getD k 0) (λi k _ hk=>xA hk) (λi j hi hj=>uX hj);generalize (λi k=>(e_ N l i++dM M i).getD k 0)=t0 at b2 tb
   have df:=s1.seq hS;refine #[by decide,λHd nH=>#[_,rfl,kn,_,rfl,.inl ((a_.new nH).seq df),_,rfl,by rw[U];omega,by rw[U];omega,?_]]
   have en:(((FB ks).length:Nat):Int).toNat=N:=by rw[U];omega
   rw[en]
   refine let I_:Nat->L2.St->Hp->Prop:=λo σ H'=>L2.E6 λ(v6 v7:Option V) (S:Addr) (ps:List Addr) (hs:List Nat) (t:Nat->Nat->Nat)=>L2.OI (σ=[some θ8,some η5,some ψi,some μs,some (.ref S),some (.ref Hd),v6,v7,none]) δZ (H' S=some μV) (Dy H' ps M (e_ (N+M) t)) (GF.G4 r w N M l t) (GF.GU N M t hs (λk=>k < o/\ks[k]?=some false/\k≠pl)) (H' Hd=some (.lst (rowV hs))) (S≠Hd) (Hd∉ps) ((∀p∈hs,ks[p]?=some false/\p≠pl));cb (lo:=0) (n:=N) I_
    #[none,none,D,ps,[],t0,rfl,(s1.trans (a_.new nH)),by rw[ae (al hD nH)];exact hD,b2.same (a_.new nH),tb,GF.GU.start.weaken (λk z=>absurd z.1 (Hl k)),ab,al hD nH,Y.ne nH,by simp] ?_ ?_
   ·rintro o σ H' ho ⟨v6,v7,S,ps,hs,t,rfl,s2,C,G,tb,pv,hH,aT,an,O⟩
    have ek:(0:Int)+(o:Nat)=((o:Nat):Int):=by omega
    rw[ek];obtain⟨b,eb⟩:∃b,ks[o]?=some b:=#[_,s_ (by rw[cc];exact ho)]
    refine #[_,rfl,_,rfl,kn,_,_,_,rfl,rfl,s2.seq hS,aB (a5 eb),b,rfl,?_];refine c_ (λz=>GI ?_) ζ6
    ·exact⟨_,_,S,ps,hs,t,rfl,s2,C,G,tb,pv.weaken (λk y=>⟨by
      have nk:k≠o:=λe=>by
       rw[e,eb,z] at y;exact absurd (DU y.2.1) ε
      omega,y.2⟩),hH,aT,an,O⟩
    ·have c0:ks[o]?=some false:=by
      rw[eb]
      cases b
      ·rfl
      ·exact absurd rfl z
     show 307
     ·exact⟨_,_,S,ps,hs,t,rfl,s2,C,G,tb,pv.weaken (λk y=>⟨by
       have nk:k≠o:=λe=>y.2.2 (by
        have:=V.int.inj θo
        omega)
       omega,y.2⟩),hH,aT,an,O⟩
     ·have dd:o≠pl:=λe=>z Ψi
      show 310
      rw[ap];refine #[S,γv,o,M,ps,e_ (N+M) t,rfl,C,G,λi _=>by rw[aI];omega,pv.hl,hM,λf h1 h2 h3=>?_,λh0=>?_]
      ·rw[bu γ] at h3
       show 48;refine c_ ι (λz=>absurd uY z);refine #[_,rfl,_,rfl,_,rfl,Hd,_,rfl,.inl (b_.of hH),_,rfl,?_];show 6
       rw[ap];refine #[S,γv,f,M,ps,e_ (N+M) t,rfl,C,G,by omega,h2,hM,λD5 H5 b1 n5 s5 cy db cr=>?_]
       refine #[_,rfl,Hd,_,rfl,.inl (b_.of (s5 _ _ hH)),_,rfl,?_];show 6
       rw[ap]
       have b0:=tb.swap (h:=γv) (f:=f) γ h2
       have eT:GF.DZ t γv f γv o=t f o:=by unfold GF.DZ;show 25
       have ck:Dy H5 b1 M (e_ (N+M) (GF.DZ t γv f)):=db.congr λi _=>by
        unfold GF.DZ
        by_cases z1:i=hs.length
        ·rw[if_pos z1]
         exact fS λk _=>by rw[if_pos z1]
        ·rw[if_neg z1]
         by_cases z2:i=f
         ·rw[if_pos z2]
          exact fS λk _=>by rw[if_neg z1,if_pos z2]
         ·rw[if_neg z2]
          exact fS λk _=>by rw[if_neg z1,if_neg z2]
       refine #[fp,D5,r,w,γv,o,M,N+M,b1,GF.DZ t γv f,rfl,hF.same (s2.trans s5),δc,cy,ck,b0.lt,by omega,by omega,by omega,hM,by rw[eT];exact h3,λD6 H6 a0 n6 s6 a3 R a8=>?_]
       rw[eT] at R
       have t3:t f o < 2 ^ w:=tb.lt f o h2 γ
       have hc:=GF.Gc δc t3 θA
       show 311
       have c8:GF.pw r w (t f o) θA≠0:=λz=>by
        rw[z,εI] at J;exact absurd J ε
       have b6:=b0.clear g a4 (h:=hs.length) (p:=o) γ ho hc c8
       have b3:=pv.step g tb (p:=o) ho h1 h2 hc J;generalize GF.Dz r w (GF.DZ t hs.length f) hs.length o (GF.pw r w (t f o) (2 ^ w - 1 - 1))=t6 at R b6 b3
       have a6:=s5 _ _ hH
       have ce:=s6 _ _ a6
       have a2:Hd∉a0:=λz=>(a8 Hd z).elim (λy=>an (cr Hd y)) λy=>by rw[a6] at y;cases y
       have ch:D6≠Hd:=λz=>by rw[z,a6] at n6;cases n6
       refine #[_,rfl,.inl #[rfl,_,b_.of ce],_,rfl,Hd,_,_,rfl,rfl,ce,?_,?_]
       ·rw[ap]
        exact Oi (by omega:hs.length < 8) ε
       ·refine #[_,_,D6,a0,hs++[o],t6,rfl,(s2.trans (s5.trans s6)).up (s1.free nH),?_,R.upd a2,b6,b3.weaken ώP,?_,ch,a2,λp hp=>?_]
        ·rw[ae ch]
         exact a3
        ·by_cases z:k=o
         ·show 91
         ·exact .inl ϋN
        ·rw[ab,g9]
        ·rcases Fw.mp hp with y | y
         ·exact O p y
         ·rw[Eu.mp y]
          exact #[c0,dd]
      ·refine δe
       show 51
       refine #[_,_,S,ps,hs,t,rfl,s2,C,G,tb,(pv.skip (p:=o) λi h1 h2=>?_).weaken ώP,hH,aT,an,O]
       ·show 312
       ·by_cases z:k=o
        ·show 91
        ·exact .inl ϋN
   ·rintro σ H' ⟨v6,v7,S,ps,hs,t,rfl,s2,C,G,tb,pv,hH,aT,an,O⟩
    show 310
    rw[ap]
    have b4:=s2.seq hS
    have a9:∀p∈hs,p < N:=λp hp=>by
     obtain⟨j,hj⟩:=IV hp;exact pv.lt j p hj
    refine #[S,γv,pl,M,ps,e_ (N+M) t,rfl,C,G,λi _=>by rw[aI];omega,pv.hl,hM,λf h1 h2 h3=>?_,λh0=>?_]
    ·rw[bu γ] at h3
     show 48;refine c_ (λz=>absurd θo γJ) (λ_=>?_)
     refine #[_,rfl,_,rfl,_,rfl,_,rfl,?_];refine #[fp,S,r,w,f,pl,M,N+M,ps,t,rfl,hF.same s2,δc,C,G,tb.lt,by omega,by omega,h2,hM,h3,λD6 H6 a0 n6 s6 a3 R a8=>?_]
     have t3:t f pl < 2 ^ w:=tb.lt f pl h2 γ
     show 311;generalize dq:GF.pw r w (t f pl) (2 ^ w - 1 - 1)=c at R J;obtain⟨p6,e6,c3⟩:=R.get h2;refine #[_,rfl,D6,_,_,_,rfl,rfl,b_.of a3,aB (aR e6),_,rfl,kn,_,rfl,.inl (s6.seq b4),_,rfl,p6,_,rfl,b_.of c3,λD7 n7=>?_];rw[U,zk πr]
     have bt:=s2.trans (s6.trans (a_.new (o:=.lst (rowV ΘM)) n7));refine #[_,rfl,(show 2<=sizeLine by decide),λD8 n8=>?_]
     have a1:=bt.free n8;refine q1 D8 D7 ΘM _ (bt.trans (a_.new n8)) a1 ((s2.trans s6).free n7) ab (by rw[ae (al ab n8)];exact ab) ?_
     have c2:∀j,j < M->((e_ (N+M) (GF.Dz r w t f pl c) f).drop N).getD j 0=GF.tm r w (t f (N+j)) c:=λj hj=>by
      rw[t_,NL,← t_,bu γ]
      show 313
     have rk:=GF.GR g tb a4 pv h1 h2 Z J;refine #[by rw[JT,aI];omega,λx hx=>?_,λk hk e=>?_]
     ·have c1:=Pj hx
      obtain⟨k,hk,rfl⟩:=Fk.mp c1
      have cw:=EF.mp hk;show 313;exact GF.z_ γi (tb.lt f k h2 cw)
     ·rw[GF.El M (b:=λj=>l j k) (y:=λj=>GF.tm r w (t f (N+j)) c) λj hj=>#[rfl,c2 j hj]]
      by_cases z:k=pl
      ·rw[if_pos z,z]
       exact rk.1
      ·rw[if_neg z]
       exact rk.2 k hk #[hk,e,z]
    ·refine δe
     show 92;refine #[_,rfl,_,rfl,_,rfl,kn,_,rfl,.inl b4,_,rfl,?_];show 6
     rw[U];refine #[S,Hd,N,pl,M,N+M,ps,hs,t,rfl,C,G,hH,pv.hl,Z,by omega,by omega,hM,a9,λD7 H7 n7 s7 h7=>?_]
     refine #[(show 2<=sizeLine by decide),λD8 n8=>?_]
     have a1:=(s2.trans s7).free n8
     have a7:∀s,s < hs.length->hs.getD s 0∈hs:=λs ad=>Ez (GF.FG ad)
     have b5:∀s,s < hs.length->hs.getD s 0≠pl:=λs ad=>(O _ (a7 s ad)).2
     have hz:∀i,hs.length<=i->i < M->t i pl=0:=λi h1 h2=>by
      show 312
     have fr:=GF.Jb g tb pv Z b5 hz
     have gx:∀k,k < N->((p_ N).map Ω0).getD k 0=GF.D0 t hs pl γv k:=λk hk=>by
      rw[t_,DO,F1 hk];rfl
     refine q2 D8 D7 ((p_ N).map Ω0) _ ((s2.trans s7).trans (a_.new n8)) a1 (s2.free n7) ab (by rw[ae (al h7 n8)];exact h7) #[by rw[o_,Eo],λx hx=>?_,?_,λk hk e=>?_,λj hj=>?_]
     ·obtain⟨k,hk,rfl⟩:=Fk.mp hx
      exact GF.Ge g tb pv Z k _ Γ
     ·rw[gx pl Z]
      exact GF.FU _ Γ b5
     ·rw[gx k hk]
      refine GF.Fy ζ6 _ Γ λs ad z=>?_
      ·rw[z,bm] at e
       exact absurd (DU e) ε
      ·have:=(O _ (a7 s ad)).1
       rw[z,e] at this;exact absurd (DU this) ε
     ·exact(GF.El N λk hk=>#[rfl,gx k hk]).trans (fr j hj)
theorem tR {K:n_}{H:Hp}:∀{xs:δ}{ds:ζd},γ2=ds.length->(∀(i:Nat) v d,xs[i]?=some v->ds[i]?=some d->l_ K H v d)->DF K H xs ds
 | [],[],_,_=>by rw[DF]
 | v :: xs,d :: ds,hl,h=>by
  rw[DF];exact #[v,xs,rfl,h 0 v d rfl rfl,tR ϋb λi u e h1 h2=>h (i+1) u e ξi ξj]
 | [],_ :: _,hl,_=>by simp at hl
 | _ :: _,[],hl,_=>by simp at hl
theorem tS {n:Nat}:∀{ds:ζd},(∀d∈ds,Fc d<=n)->c6 ds<=n
 | [],_=>by rw[c6];exact EO _
 | d :: ds,h=>by
  rw[c6]
  have h1:=h d (F0)
  have h2:=tS (ds:=ds) λe he=>h e (Fv _ he);omega
theorem fZ (h:∀x∈row,x < n) (hi:ξJ):row.getD i 0 < n:=by
 show 257
inductive qy (vs:δ) (H:Hp) (Q:VK) (E_3:XK):Prop
 | mk:∀(L:Addr) (ps:List Addr) (M N:Nat) (l:Nat->Nat->Nat),vs=[.ref L]->H L=some (.lst (ps.map V.ref))->Dy H ps M (e_ N l)->1<=M->M<=2->1<=N->N+M<=8->Q .non H->qy vs H Q E_3
theorem mv (T:μ):C_ P wo K mg base 1 a.f19 ["weights"] qy:=by
 refine T.x19.F.okA (k:=0) Ni ξ
 ·obtain⟨L,ps,M,N,l,rfl,hL,ht,h1,h2,h3,h4,q⟩:=h
  show 93
  show 146
  obtain⟨C,e0,g⟩:=ht.get (i:=0) γ
  show 0
  show 1;refine xi (PW.pt (bb (am bn ν9 ai ψ) (ba (am bU ν9 (bx (v:=.int 2) rfl T.Ad1 ϒ) ψ)))) ?_
  show 3
  show 2
  exists xc (au (i:=1) Ni.nd rfl 0e3 (aC aD rfl T.A03 Fo ΘX))
  show 1;refine xi (PW.pt (bb πd (ba (am bU (ay aW Θ ν9) (bx (v:=.int 8) rfl T.Ad2 ϒ) ψ)))) ?_
  show 3
  show 27;refine xf ϗ rfl (aL ο) (ar (i:=2) Ni.nd rfl ζ) ?_;show 7;refine xi (am dG εX Θ ψ) ?_
  show 3
  show 17;show 314
  show 314
  refine #[_,rfl,L,_,_,_,rfl,rfl,b_.of hL,aB (j:=0) (aR e0),C,_,rfl,.inl οz,?_];show 6
  rw[er 0];show 24
  refine #[_,rfl,_,rfl,L,_,rfl,.inl η1,_,_,rfl,rfl,_,_,rfl,rfl,_,rfl,?_];refine c_ ρ9 ι
  refine #[_,rfl,L,rfl,θw,let I_:Nat->L2.St->Hp->Prop:=λi σ H'=>L2.A2 ((∃v2:Option V,σ=[some η5,some (.int (N:Nat)),v2])) (H'=H);bR (K:=K) (a:=L) (xs:=ps.map Ϙ) I_ Ωg ?_ ?_ ?_]
  ·rintro i σ H' _ ⟨_,rfl⟩
   exact b_.of hL
  ·rintro i v σ H' hv ⟨⟨v2,rfl⟩,rfl⟩
   show 315
   show 316
   cases DU hv;refine #[_,rfl,p,_,rfl,.inl (b_.of hp),_,rfl,rfl,_,rfl,?_];refine c_ (λy=>absurd y (CT (by rw[er]))) ρN
  ·rintro σ H' ⟨⟨v2,rfl⟩,rfl⟩
   exact q
inductive qz (a:A_) (vs:δ) (H:Hp) (Q:VK) (E_3:XK):Prop
 | mk:∀(fp L:Addr) (r w:Nat) (ps:List Addr) (M N:Nat) (l:Nat->Nat->Nat),vs=[.ref fp,.ref L]->DN a.C_Field H fp r w->GF.Good r w->H L=some (.lst (ps.map V.ref))->Dy H ps M (e_ N l)->((∀i k,i < M->k < N->l i k < 2 ^ w))->1<=M->M<=2->1<=N->N<=8->((∀i,i < M->∃k,k < N/\l i k≠0))->((∀k,k < N->∃i,i < M/\l i k≠0))->(∀H',a_ H H'->Q .non H')->qz a vs H Q E_3
theorem we {k:Nat} (hk:ώa) (h:row.getD k 0≠0):((row.map λn:Nat=>(n:Int)).any λi=>i != 0)=true:=by
 rw[LV];refine #[((row.getD k 0:Nat):Int),Fk.mpr #[row.getD k 0,?_,rfl],?_]
 ·rw[t_,s_ hk]
  exact GM hk
 ·simp only[bne_iff_ne,ne_eq]
  omega
theorem zq (row:η):rowV row=(row.map λn:Nat=>(n:Int)).map V.int:=by
 show 40
theorem mw (T:μ):C_ P wo K mg base 1 a.f20 ["field", "weights"] (qz a):=by
 refine T.x20.F.okA (k:=0) Mv ξ
 ·obtain⟨fp,L,r,w,ps,M,N,l,rfl,hF,g,hL,ht,Y,h1,h2,h3,h4,J,G,q⟩:=h
  obtain⟨dF,U⟩:=id hF
  have Z:=g.top16
  show 93
  show 146
  obtain⟨R,e0,O⟩:=ht.get (i:=0) γ
  show 0
  show 1;refine xf ϗ rfl 21e2 (ar (i:=2) Mv.nd rfl ζ) ?_;show 1;refine xf ϗ rfl 40e6 (ar (i:=3) Mv.nd rfl ζ) ?_;show 7;refine xi (PW.pt (bb Ωf (ba (am bU ϊ γ1 ψ)))) ?_
  show 3
  show 317;refine xi (bW (aV (aC (pZ rfl) rfl T.A53 οU γH))) ?_
  show 3
  show 317;refine xf ϗ rfl (aY rfl T.A07 (aa (aC aD rfl T.A03 Fo (aa ρH ac)) ac)) (ar (i:=4) Mv.nd rfl δ1) ?_;show 7
  refine xi (bW (aV (aC (pZ rfl) rfl T.A53 οU (aa (aS (g_.of (cap:=[4]) (own:=["some"]) γg) rfl 21e2 δS γ5 (λ_ _ _ _ _=>by exact(aE μO Θ ο γ0))) ac)))) ?_
  show 3
  show 17;refine #[_,rfl,L,rfl,θw,let I_:Nat->L2.St->Hp->Prop:=λi σ H'=>L2.A2 ΓR (H'=H);bR (K:=K) (a:=L) (xs:=ps.map Ϙ) I_ #[#[none,none,none,rfl],rfl] ?_ ?_ ?_]
  ·rintro i σ H' _ ⟨_,rfl⟩
   exact b_.of hL
  ·rintro i v σ H' hv ⟨⟨v2,v3,v4,rfl⟩,rfl⟩
   show 315
   show 316
   cases DU hv;refine #[_,rfl,p,rfl,#[_,b_.of hp],let I_:Nat->L2.St->Hp->Prop:=λj σ C=>L2.A2 ((∃v3:Option V,σ=[some θ8,some η5,some γE,v3,v4])) (C=H');bR (K:=K) (a:=p) (xs:=rowV οg) I_ #[ϒ,rfl] ?_ ?_ ?_]
   ·rintro j σ C _ ⟨_,rfl⟩
    exact b_.of hp
   ·rintro j u σ C hu ⟨⟨v3,rfl⟩,rfl⟩
    obtain⟨y,ey,rfl⟩:=bh hu
    have hy:y < 2 ^ w:=fY (λk hk=>Y i k hi hk) y (Ez ey);show 24
    refine #[_,rfl,_,rfl,fp,_,_,_,_,rfl,U,γw,θb,eD r w,_,_,rfl,rfl,_,rfl,?_];refine c_ (λz=>absurd θo γ) ρN
   ·rintro σ C ⟨⟨v3,rfl⟩,rfl⟩
    obtain⟨k,hk,hz⟩:=J i hi;refine #[_,rfl,p,_,rfl,(by rw[<- zq];exact b_.of hp),_,rfl,?_]
    rw[we (k:=k) τy (by rw[bu hk];exact hz)]
    refine c_ δA (λ_=>#[υI,rfl])
  ·rintro σ H' ⟨⟨v2,v3,v4,rfl⟩,rfl⟩
   refine #[_,rfl,L,_,_,_,rfl,rfl,b_.of hL,aB (j:=0) (aR e0),R,_,rfl,.inl ψj,_,rfl,by rw[er];omega,by rw[er];omega,?_]
   have en:(((rowV (e_ N l 0)).length:Nat):Int).toNat=N:=by rw[er];omega
   rw[en];refine let I_:Nat->L2.St->Hp->Prop:=λi σ C=>L2.A2 ΓR (a_ H' C);cb (lo:=0) (n:=N) I_ #[υI,a_.refl _] ?_ ?_
   ·rintro k σ C hk ⟨⟨v2,v3,v4,rfl⟩,s1⟩
    have ek:(0:Int)+(k:Nat)=((k:Nat):Int):=by omega
    rw[ek];refine #[_,rfl,L,rfl,#[_,b_.of (s1 _ _ hL)],λD nD=>?_];refine ci (xs:=ps.map Ϙ) (f:=λi=>.int ((l i k:Nat):Int)) (cs:=[some θB]) (b_.of (s1 _ _ hL)) nD rfl (by rw[el];exact DK h2 ε) ηc ηi
    ·have hi:i < M:=by rw[<- el];exact(ET.mp hu).1
     show 145;rw[aR ep] at hu
     cases DU hu
     have gi:=aB (bL (row:=e_ N l i) (i:=k) τy)
     rw[bu hk] at gi;exact #[_,rfl,_,rfl,p,_,_,_,rfl,rfl,b_.of (32e6 _ _ hp),gi,hR _ ϟ]
    ·rw[el] at hD
     have e:((p_ M).map λi=>V.int ((l i k:Nat):Int))=(((p_ M).map λi=>l i k).map λn:Nat=>(n:Int)).map V.int:=by
      rw[Fa,Fa];rfl
     rw[e] at hD;obtain⟨i,hi,hz⟩:=G k hk;refine ΦE
     have gd:((p_ M).map λi=>l i k).getD i 0=l i k:=by
      rw[t_,DO,F1 hi];rfl
     rw[we (k:=i) (by rw[o_,Eo];exact hi) (by rw[gd];exact hz)]
     refine c_ δA (λ_=>#[υI,s1.trans s2])
   ·rintro σ C ⟨⟨v2,v3,v4,rfl⟩,s1⟩
    exact q _ s1
def eqn (N:Nat) (l:ύ) (t k:Nat):Nat:=if k < N then l t k else if k - N=t then 1 else 0
theorem wf (N M:Nat) (l:ύ) (t:Nat):e_ (N+M) εQ t=e_ N l t++(p_ M).map λj=>if j=t then 1 else 0:=by
 unfold e_;rw[List.range_add,FM,Fa]
 congr 1
 ·exact HR λk hk=>by
   show 52;rw[if_pos οf]
 ·exact HR λk hk=>by
   show eqn N l t (N+k)=_
   show 52;rw[if_neg γ,K7]
inductive kh (K:n_) (vs:δ) (H:Hp) (Q:VK) (E_3:XK):Prop
 | mk:∀(L:Addr) (ps:List Addr) (M N t:Nat) (l:Nat->Nat->Nat),vs=[.ref L,.int t]->H L=some (.lst (ps.map V.ref))->Dy H ps M (e_ N l)->t < M->N+M<=8->(∀D H',H D=none->a_ H H'->H' D=some (.lst (rowV (e_ (N+M) (eqn N l) t)))->Q (.ref D) H')->kh K vs H Q E_3
theorem pc (T:μ):C_ P wo K mg base 1 a.f21 ["weights", "total"] (kh K):=by
 refine T.x21.F.okA (k:=0) Nu ξ
 ·obtain⟨L,ps,M,N,t,l,rfl,hL,ht,C,h8,q⟩:=h
  show 93
  obtain⟨p,ep,hp⟩:=ht.get C
  show 0
  exists xc (au (i:=2) Nu.nd rfl 0e3 (br bC rfl T.A12 γu (aa ρu ac)))
  show 1;refine xf ϗ rfl (aY rfl T.A07 ΘJ) (ar (i:=3) Nu.nd rfl ζ) ?_
  exists xl (aF (cu Hr Hs Hv aZ Ω (aa (iT (am bT ϊ Θ ψ) ai ai) ac)))
  show 5
  show 47
  refine #[_,rfl,_,rfl,L,_,_,_,rfl,rfl,b_.of hL,aB ζf,p,_,rfl,.inl (b_.of hp),λD nD=>?_]
  have sD:=a_.new (o:=.lst (rowV (e_ N l t))) nD
  have hD:(upd H D Ωh) D=some 155e7:=ab;generalize (upd H D (.lst (rowV (e_ N l t))))=H1 at sD hD;refine #[_,rfl,L,_,rfl,.inl (b_.of (sD _ _ hL)),_,rfl,by rw[el];omega,by rw[el];omega,?_]
  have en:(((ps.map Ϙ).length:Nat):Int).toNat=M:=by rw[el];omega
  rw[en];refine let I_:Nat->L2.St->Hp->Prop:=λj σ H'=>L2.A3 ((∃v3:Option V,σ=[some η5,some (.int t),some γ4,v3])) δZ (H' D=some (.lst (rowV ρf)));cb (lo:=0) (n:=M) I_ #[η4,sD,by rw[hD];simp] ?_ ?_
  ·rintro j σ H' hj ⟨⟨v3,rfl⟩,s1,h1⟩
   have ej:(0:Int)+(j:Nat)=((j:Nat):Int):=by omega
   rw[ej]
   have g:(rowV ρf).length < sizeLine:=by
    rw[ap,Fn,aI,o_,Eo];exact Oi (by omega:N+j < 9) ε
   have er:rowV (e_ N l t++(p_ (j+1)).map λj=>if j=t then 1 else 0)=rowV ρf++[.int ((if j=t then 1 else 0:Nat):Int)]:=by
    rw[KR,FM,← MW,← ii];rfl
   refine #[_,rfl,.inl #[rfl,_,b_.of h1],_,rfl,_,rfl,rfl,_,rfl,?_]
   by_cases z:j=t
   ·refine c_ ι (λy=>absurd (decide_eq_true (by rw[z])) y)
    rw[if_pos z] at er;exact Δ5
   ·refine c_ Δf ι
    rw[if_neg z] at er;exact Δ5
  ·rintro σ H' ⟨⟨v3,rfl⟩,s1,h1⟩
   refine #[_,rfl,q D H' nD s1 ?_];rw[h1,wf]
def cf (bp:Addr) (M N:Nat) (Lp:Addr):List 14e6:=[("blocks",.ref bp),("sums",.int M),("data",.int N),("roles",.int ((N+M:Nat):Int)),("lines",.ref Lp)]
theorem dC (bp:Addr) (M N:Nat) (Lp:Addr):(cf bp M N Lp).lookup ("blocks" : Str)=some (.ref bp):=rfl
theorem wg (bp:Addr) (M N:Nat) (Lp:Addr):(cf bp M N Lp).lookup ("sums" : Str)=some (.int M):=rfl
theorem dD (bp:Addr) (M N:Nat) (Lp:Addr):(cf bp M N Lp).lookup ("data" : Str)=some (.int N):=rfl
theorem eG (bp:Addr) (M N:Nat) (Lp:Addr):(cf bp M N Lp).lookup ("roles" : Str)=some (.int ((N+M:Nat):Int)):=rfl
theorem i5 (bp:Addr) (M N:Nat) (Lp:Addr):(cf bp M N Lp).lookup ("lines" : Str)=some (.ref Lp):=rfl
structure Gv (w M N:Nat) (l:ύ):Prop where
 m1:1<=M
 m2:M<=2
 n1:1<=N
 n8:N+M<=8
 lt:∀i k,i < M->k < N->l i k < 2 ^ w
 row:∀i,i < M->∃k,k < N/\l i k≠0
 col:∀k,k < N->∃i,i < M/\l i k≠0
theorem gF (W:ηu) (t16:16<=2 ^ w):∀i k,i < M->k < N+M->eqn N l i k < 2 ^ w:=λi k hi hk=>by
 show 52
 split
 ·exact W.lt i k hi (by assumption)
 ·split <;> omega
structure DB (a:A_) (H:Hp) (c bp fp:Addr) (r w n M N:Nat) (l:ύ):Prop where
 ins:∃dx Lp qs,H c=some (.ins γe dx ώb)/\H Lp=some τz/\Dy H qs M (e_ (N+M) εQ)
 blk:DV a H bp fp r w n
theorem DB.same {a:A_}{H H':Hp}{c bp fp:Addr}{r w n M N:Nat}{l:ύ} (h:ΨJ) (s:γD):DB a H' c bp fp r w n M N l :=
 let ⟨dx,Lp,qs,h1,h2,h3⟩:=h.ins
 #[#[dx,Lp,qs,s _ _ h1,s _ _ h2,h3.same s],h.blk.same s]
inductive nV (a:A_) (vs:δ) (H:Hp) (Q:VK) (E_3:XK):Prop
 | mk:∀(c dx bp fp L:Addr) (r w n M N:Nat) (ps:List Addr) (l:Nat->Nat->Nat),vs=[.ref c,.ref bp,.ref L]->H c=some (.ins a.C_Code dx [])->DV a H bp fp r w n->GF.Good r w->H L=some (.lst (ps.map V.ref))->Dy H ps M (e_ N l)->Gv w M N l->(∀H',(∀b o,b≠c->H b=some o->H' b=some o)->DB a H' c bp fp r w n M N l->Q .non H')->nV a vs H Q E_3
theorem tT (T:μ):C_ P wo K mg base 2 a.f22 ["self", "blocks", "weights"] (nV a):=by
 refine T.x22.F.okA (k:=1) tz ξ
 ·obtain⟨c,dx,bp,fp,L,r,w,n,M,N,ps,l,rfl,hc,hB,g,hL,ht,W,q⟩:=h
  obtain⟨dB,J⟩:=hB.ins
  show 93
  show 146
  obtain⟨ad,e0,a1⟩:=ht.get (i:=0) W.m1
  show 53
  show 0
  exists xc (aF (aH (mv T) hr.u rfl T.x19.m T.x19.k T.x19.b .nil aj γH))
  exists xc (aF (aH (mw T) hr.u rfl T.x20.m T.x20.k T.x20.b .nil aj (aa πj γH)))
  show 38
  exists xc (aM ο εX rfl)
  exists xc (aM ο (aC aD rfl T.A03 Fo (aa (aE aG Ω ai γ0) ac)) rfl)
  exists xc (aM ο (ay aW γ1 γ1) rfl)
  exists xl (aM ο (aS (g_.of (cap:=[2]) (own:=["total"]) γg) rfl 57e9 δS γ5 (λ_ _ _ _ _=>by exact(aH (pc T) hr.u rfl T.x21.m T.x21.k T.x21.b .nil aj τ6))) rfl)
  refine #[_,rfl,L,ps,M,N,l,rfl,hL,ht,W.m1,W.m2,W.n1,W.n8,?_];refine #[_,rfl,bp,_,_,_,_,rfl,J,γO,T.A31,eE fp w n,_,rfl,fp,L,r,w,ps,M,N,l,rfl,hB.fld,g,hL,ht,W.lt,W.m1,W.m2,W.n1,by omega,W.row,W.col,λH1 s1=>?_]
  have aT:=s1 _ _ hc
  have Z:bp≠c:=λz=>by
   rw[z,hc] at J
   have:=(HO.ins.inj (DU J)).2.2;unfold bf at this
   show 8
  obtain⟨dF,R⟩:=hB.fld
  have Y:fp≠c:=λz=>by
   rw[z,hc] at R
   have:=(HO.ins.inj (DU R)).2.2;unfold ff at this
   show 8
  have O:L≠c:=λz=>by rw[z,hc] at hL;cases hL
  have U:∀(i:Nat) p,ps[i]?=some p->p≠c:=λi p e z=>by
   have:=ht.on i p e;rw[z,hc] at this
   show 8
  refine #[_,rfl,_,rfl,c,γe,dx,_,rfl,aT,ϑ,ηJ,ε,?_]
  refine #[_,rfl,L,_,rfl,.inl (b_.of (by rw[ae O];exact s1 _ _ hL)),_,rfl,c,γe,dx,_,rfl,ab,ϑ,T.A50,η9,?_]
  refine #[_,rfl,L,_,_,_,rfl,rfl,b_.of (by rw[ae O,ae O];exact s1 _ _ hL),aB (j:=0) (aR e0),ad,_,rfl,.inl (b_.of (by rw[ae (U 0 _ e0),ae (U 0 _ e0)];exact s1 _ _ a1)),_,rfl,c,γe,dx,_,rfl,ab,ϑ,εJ,ηa,?_]
  refine #[_,rfl,c,_,_,_,_,rfl,ab,ϑ,εJ,rfl,_,rfl,c,_,_,_,_,rfl,ab,ϑ,T.A50,rfl,_,_,rfl,rfl,_,rfl,c,γe,dx,_,rfl,ab,ϑ,ηK,ιH,?_]
  show 11;rw[aP,aP,aP,el,er]
  have ef:DE "roles" (.int ((N:Int)+(M:Int))) (DE "data" (.int (N:Int)) (DE "sums" (.int (M:Int)) (DE "blocks" (.ref bp) [])))=[(("blocks" : Str),V.ref bp),(("sums" : Str),V.int M),(("data" : Str),V.int N),(("roles" : Str),V.int ((N+M:Nat):Int))]:=by
   rw[P2];rfl
  rw[ef]
  have C:115e2 c=some (.ins γe dx [(("blocks" : Str),V.ref bp),(("sums" : Str),V.int M),(("data" : Str),V.int N),(("roles" : Str),V.int ((N+M:Nat):Int))]):=ab
  have k2:∀b o,b≠c→H b=some o→115e2 b=some o:=λb o z e=>by rw[ae z];exact s1 _ _ e
  generalize (upd H1 c (.ins a.C_Code dx [(("blocks" : Str),V.ref bp),(("sums" : Str),V.int M),(("data" : Str),V.int N),(("roles" : Str),V.int ((N+M:Nat):Int))]))=H2 at C k2
  have aw:=k2 _ _ O hL
  have a0:Dy H2 ps M (e_ N l):=#[δq,λi p e=>k2 _ _ (U i p e) ώO];refine #[_,rfl,c,_,_,_,_,rfl,C,ϑ,T.A50,rfl,_,rfl,by omega,by omega,λD nD=>?_]
  rw[Fu];refine m3 (n:=M) (row:=λi=>rowV ϊ2) (cs:=[some η5]) nD rfl 144e3 (λi H3 R3 hi s3 hR=>?_) (λqs H3 s3 hD G hf a3=>?_)
  ·exact #[_,rfl,_,rfl,L,ps,M,N,i,l,rfl,s3 _ _ aw,a0.same s3,hi,W.n8,λD4 H4 n4 s4 h4=>hR D4 H4 n4 s4 h4]
  ·have a2:D≠c:=λz=>by rw[z,C] at nD;cases nD
   have an:∀(i:Nat) p,qs[i]?=some p->p≠c:=λi p e z=>by
    have:=hf p (Ez e);rw[z,C] at this
    show 8
   refine #[_,rfl,c,γe,dx,_,rfl,s3 _ _ C,ϑ,T.A39,νH,?_]
   refine q _ όn #[#[dx,D,qs,ab,?_,#[G.len,λi p e=>?_]],#[#[dB,?_],#[dF,?_]]]
   ·rw[ae z]
    show 318
   ·rw[ae a2]
    exact hD
   ·rw[ae (an i p e)]
    exact G.on i p e
   ·rw[ae Z]
    exact s3 _ _ (k2 _ _ Z J)
   ·rw[ae Y]
    exact s3 _ _ (k2 _ _ Y R)
def dN (r w n M N:Nat) (l:ύ) (bs:η):List Nat:=bs++(p_ M).map λt=>GF.Em r w n ϋj
def Gm (r w n M N:Nat) (l:ύ) (bs:η):Bool:=(p_ M).all λt=>decide (GF.Em r w n ((e_ (N+M) εQ t).zip bs)=0)
def FS:Option Nat->V
 | some b=>.int (b:Nat)
 | none=>.non
def Ej (os:Ϝ):List V:=os.map FS
theorem cq (os:Ϝ):(Ej os).length=os.length:=by unfold Ej;rw[o_]
variable {os:List (Option Nat)}
theorem bQ {k:Nat}{o:θK} (h:os[k]?=some o):(Ej os)[k]?=some (FS o):=by
 unfold Ej;rw[DO,h];rfl
inductive lJ (a:A_) (vs:δ) (H:Hp) (Q:VK) (E_3:XK):Prop
 | mk:∀(c bp fp:Addr) (r w n M N k:Nat) (l:Nat->Nat->Nat),vs=[.ref c,.int k]->DB a H c bp fp r w n M N l->k < N+M->Q .non H->lJ a vs H Q E_3
theorem fe (T:μ):C_ P wo K mg base 1 a.f24 ["self", "role"] (lJ a):=by
 refine T.x24.F.okA (k:=0) j0 ξ
 ·obtain⟨c,bp,fp,r,w,n,M,N,k,l,rfl,hC,hk,q⟩:=h
  obtain⟨dx,Lp,qs,h1,_,_⟩:=hC.ins
  show 0
  show 62
  show 3
  show 54
  refine #[_,rfl,_,rfl,c,_,_,_,_,rfl,h1,ϑ,ηK,eG bp M N Lp,_,_,rfl,rfl,_,rfl,?_];refine c_ γc ζ7
inductive wj (K:n_) (a:A_) (vs:δ) (H:Hp) (Q:VK) (E_3:XK):Prop
 | mk:∀(c bp fp kn:Addr) (r w n M N pl:Nat) (l:Nat->Nat->Nat) (ks:List Bool),vs=[.ref c,.ref kn,.int pl]->DB a H c bp fp r w n M N l->GF.Et r w->Gv w M N l->H kn=some (.lst (FB ks))->ks.length=N+M->pl < N+M->ks[pl]?=some false->(∀D H',a_ H H'->H D=none->zo H' D r w (N+M) M (eqn N l) ks pl->(∀t e,H' D=some (.tup [t,.ref e])->H e=none)->Q (.ref D) H')->wj K a vs H Q E_3
theorem ki (T:μ):C_ P wo K mg base 7 a.f23 ["self", "known", "role"] (wj K a):=by
 refine T.x23.F.okA (k:=6) tD ξ
 ·obtain⟨c,bp,fp,kn,r,w,n,M,N,pl,l,ks,rfl,hC,g,W,j,C,D,G,q⟩:=h
  obtain⟨dx,Lp,qs,h1,h2,h3⟩:=γT;obtain⟨dB,hB⟩:=hC.blk.ins
  show 53
  show 0
  exists xl (ax (aH (xC T) hr.u rfl T.x12.m T.x12.k T.x12.b .nil aj (aa θ0 (aa γ1 ζS))))
  refine #[_,rfl,c,_,_,_,_,rfl,h1,ϑ,ηJ,dC bp M N Lp,bp,_,_,_,_,rfl,hB,γO,T.A31,eE fp w n,_,rfl,c,_,_,_,_,rfl,h1,ϑ,T.A39,i5 bp M N Lp,_,rfl,_,rfl,?_];exact #[fp,Lp,kn,r,w,N+M,M,pl,qs,eqn N l,ks,rfl,hC.blk.fld,g,h2,h3,gF W g.toGood.top16,j,C,by omega,by have:=W.m2;omega,D,G,q]
def IK (r w M N:Nat) (l:ύ) (by':η) (k:Nat):Nat:=GF.DP r w M πg (λt=>by'.getD t 0)
def Gr (r w M N:Nat) (l:ύ) (by':η) (os:Ϝ):List 74e4:=((p_ (N+M)).filter λk=>(os.getD k none).isSome).map λk=>(IK r w M N l by' k,(os.getD k none).getD 0)
inductive nX (K:n_) (a:A_) (vs:δ) (H:Hp) (Q:VK) (E_3:XK):Prop
 | mk:∀(c bp fp bl rl:Addr) (r w n M N:Nat) (l:Nat->Nat->Nat) (by':List Nat) (os:List (Option Nat)),vs=[.ref c,.ref bl,.ref rl]->DB a H c bp fp r w n M N l->GF.Good r w->n<=16->Gv w M N l->H bl=some (.lst (rowV by'))->by'.length=M->H rl=some (.lst (Ej os))->os.length=N+M->(∀H',a_ H H'->Q (.int ((GF.Em r w n (Gr r w M N l by' os):Nat):Int)) H')->nX K a vs H Q E_3
theorem kO (T:μ):C_ P wo K mg base 5 a.f26 ["self", "by", "row"] (nX K a):=by
 refine T.x26.F.okA (k:=4) KO ξ
 ·obtain⟨c,bp,fp,bl,rl,r,w,n,M,N,l,j,os,rfl,hC,g,hn,W,ad,a2,an,bt,q⟩:=h
  obtain⟨dx,Lp,qs,h1,h2,h3⟩:=hC.ins
  show 53
  have aT:=g.top16
  show 319
  show 0
  exists xc (au (i:=3) KO.nd rfl 11e5 (ay gf ψY γ1))
  show 1;refine xf ϗ rfl (mY rfl T.A59 (aa Θ πi)) (cO rfl (aK (ar (i:=4) KO.nd rfl ζ) (aK (ar (i:=5) KO.nd rfl ζ) bM))) ?_
  exists xl (au (i:=3) KO.nd rfl 11e5 (aH (jw T) hr.u rfl T.x8.m T.x8.k T.x8.b .nil aj (aa ϊ (aa (aH (eF T) hr.u rfl T.x7.m T.x7.k T.x7.b .nil aj (aa θ0 νO)) ac))))
  show 5
  exists xc (b9 (i:=6) KO.nd rfl 0e3 Θ6 rfl 57e9 δS (λ_ _ _ _ _=>(cI (am bV (aE μO ο Θ γ0) aO ψ))) νE)
  exists xl (ax (av εv γO T.x18.me (dw T) hr.u T.x18.b .nil aj (aa (aS (g_.of (cap:=[3]) (own:=["role"]) γg) rfl (aL δ8) δS γ5 ωg) (aa (aS Θ6 rfl (aL δ8) δS γ5 ωg) ac))))
  refine #[(show 1<=sizeLine by decide),λp1 n1=>#[_,rfl,c,_,_,_,_,rfl,(a_.new n1) _ _ h1,ϑ,ηK,eG bp M N Lp,p1,_,_,rfl,rfl,ab,by omega,by omega,?_,λp2 n2=>?_]]
  ·rw[Fu]
   show 320
   show 321
  have eR:(Ee (((N+M:Nat):Int)).toNat [V.int 0]).flatten=rowV 110e3:=by
   rw[Fu]
   have:ψX=Ee (N+M) 0:=by
    show ((p_ (N+M)).map λ_=>0)=_
    rw[L0,Eo]
   show 21;exact o7 (N+M) 0
  rw[eR]
  have s1:=(a_.new (o:=.lst [V.int 0]) n1).trans (a_.new (o:=.lst (rowV ψX)) n2)
  have a3:(upd (upd H p1 υx) p2 Γf) p2=some 118e3:=ab;generalize (upd (upd H p1 (.lst [V.int 0])) p2 (.lst (rowV ((p_ (N+M)).map λk=>GF.DP r w 0 (λt=>eqn N l t k) (λt=>j.getD t 0)))))=H1 at s1 a3;refine #[_,rfl,_,rfl,c,_,_,_,_,rfl,s1 _ _ h1,ϑ,T.A39,i5 bp M N Lp,bl,Lp,_,_,rfl,b_.of (s1 _ _ ad),b_.of (s1 _ _ h2),let I_:Nat->L2.St->Hp->Prop:=λi σ H'=>L2.E3 λ(La:Addr) (v4 v5:Option V)=>L2.A3 (σ=[some γo,some (.ref bl),some οA,some (.ref La),v4,v5,none]) δZ (H' La=some (.lst (rowV ((p_ (N+M)).map λk=>GF.DP r w i πg ω4))));vt (K:=K) (l1:=bl) (l2:=Lp) (xs:=rowV j) (ys:=qs.map Ϙ) I_ #[p2,none,none,rfl,s1,a3] ?_ (by rw[ap,a2,el]) ?_ ?_]
  ·rintro i σ H' _ ⟨La,v4,v5,_,sm,_⟩
   exact #[b_.of (sm _ _ ad),b_.of (sm _ _ h2)]
  ·rintro i u v T' σ H' hi hu hv hT ⟨La,v4,v5,rfl,sm,J⟩
   obtain⟨f,a5,rfl⟩:=bh hu
   have aw:i < M:=by rw[<- el];exact(ET.mp hv).1
   obtain⟨p,ep,hp⟩:=h3.get aw;rw[aR ep] at hv
   cases DU hv
   have s2:=sm.trans ΘA
   have D:=132e8 _ _ J;show 49;generalize (upd H' T' (.tup [V.int (f:Nat),V.ref p]))=H2 at s2 D
   have O:=hC.same s2;show 322;refine #[_,rfl,_,rfl,c,_,_,_,_,rfl,s2 _ _ h1,ϑ,ηJ,dC bp M N Lp,bp,_,_,_,_,rfl,hB,γO,T.A31,eE fp w n,_,rfl,_,rfl,?_];refine #[fp,p,r,w,f,e_ (N+M) εQ i,rfl,O.blk.fld,g,s2 _ _ hp,fY λk hk=>gF W aT i k aw hk,by rw[aI];omega,λD3 H3 n3 s3 a9=>?_]
   refine #[La,D3,_,_,rfl,s3 _ _ D,a9,by rw[o_,Eo,o_,aI],by rw[o_,Eo];omega,λD4 H4 n4 s4 h4=>?_]
   refine #[D4,_,_,rfl,s2.trans ώR,?_];rw[h4];refine congrArg (λl=>some (HO.lst (rowV l))) ?_
   have ef:j.getD i 0=f:=by rw[t_,a5];rfl
   unfold e_
   apply GZ
   intro k;rw[Qv,DO,DO,DO,DO]
   cases (p_ (N+M))[k]? with
   | none=>rfl
   | some x =>
    rw[<- ef];rfl
  ·rintro σ H' ⟨La,v4,v5,rfl,sm,J⟩
   rw[ap,a2] at J
   have bm:=hC.same sm;refine #[_,rfl,c,_,_,_,_,rfl,sm _ _ h1,ϑ,ηK,eG bp M N Lp,_,rfl,by omega,by omega,λtl a8=>?_]
   rw[Fu]
   have a4:∀k,k < N+M->os[k]?=some 48e8:=λk hk=>by
    show 94
    rfl
   refine de (n:=N+M) (f:=λk=>.int ((k:Nat):Int)) (b:=λk=>(os.getD k none).isSome) (cs:=[some οA]) a8 rfl 63e5 ιQ Ψ1 (λH2 s2 a1=>?_)
   ·refine #[_,rfl,_,rfl,rl,_,_,_,rfl,rfl,b_.of (s2 _ _ (sm _ _ an)),aB (bQ (a4 k hk)),rfl,_,rfl,?_]
    have e:(!decide (FS μ2=ε9))=(os.getD k none).isSome:=by
     cases os.getD k none with
     | none=>rfl
     | some b=>exact by rw[decide_eq_false ζX];rfl
    show 323
   ·exact ζn
   have G:=sm.trans s2
   have O:=hC.same G;show 322
   have D:=s2 _ _ J;generalize Y:(p_ (N+M)).filter (λk=>(os.getD k none).isSome)=tks at a1
   have htk:∀k∈tks,k < N+M/\(os.getD k none).isSome=true:=λk hk=>by
    rw[<- Y] at hk
    have:=E5.mp hk;exact τa
   have C:H2 tl=some (.lst (rowV tks)):=by
    rw[a1];rfl
   have Z:tks.length<=8:=by
    rw[<- Y]
    have:=GP Φs μg;show 147
   refine #[_,rfl,c,_,_,_,_,rfl,G _ _ h1,ϑ,ηJ,dC bp M N Lp,bp,dB,_,rfl,hB,rfl,?_];refine #[_,rfl,tl,rfl,#[_,b_.of C],λD1 a7=>?_];refine ci (xs:=rowV tks) (f:=λi=>.int ((IK r w M N l j 65e6:Nat):Int)) (cs:=[some (.ref La)]) (b_.of C) a7 rfl 140e3 (λi u H3 R3 hu s3 hR=>?_) (λH3 s3 R=>?_)
   ·obtain⟨k,ek,rfl⟩:=bh hu
    have hk:=(htk k ζL).1
    show 324
    show 95
    have gi:=aB (bL (row:=(p_ (N+M)).map λk=>GF.DP r w M πg ω4) (i:=k) (by rw[o_,Eo];exact hk))
    rw[t_,DO,F1 hk] at gi;exact #[_,rfl,_,rfl,La,_,_,_,rfl,rfl,b_.of (s3 _ _ D),gi,hR _ ϟ]
   refine #[_,rfl,tl,rfl,#[_,b_.of (s3 _ _ C)],λD2 a6=>?_];refine ci (xs:=rowV tks) (f:=λi=>.int (((os.getD ξK none).getD 0:Nat):Int)) (cs:=[some οA]) (b_.of (s3 _ _ C)) a6 rfl 140e3 Ψj (λH4 s4 U=>?_)
   ·obtain⟨k,ek,rfl⟩:=bh hu
    have hk:=htk k ζL
    show 324
    show 95
    have ev:FS μ2=.int (((os.getD k none).getD 0:Nat):Int):=by
     cases hz:os.getD k none with
     | none=>rw[hz] at hk;show 325
     | some b=>rfl
    have gi:=aB (bQ (a4 k hk.1));show 96;exact #[_,rfl,_,rfl,rl,_,_,_,rfl,rfl,b_.of (s4 _ _ (s3 _ _ (G _ _ an))),gi,hR _ ϟ]
   rw[ap] at R U
   have e1:((p_ tks.length).map λi=>V.int ((IK r w M N l j 65e6:Nat):Int))=rowV (tks.map υy):=by
    show 39
    apply GZ
    show 97
    show 326
    ·rw[F1 hi,s_ hi]
     show 327
     show 98
    ·rw[Fh δf,Fh γ]
     rfl
   have e2:((p_ tks.length).map λi=>V.int (((os.getD ξK none).getD 0:Nat):Int))=rowV 135e2:=by
    show 39
    apply GZ
    show 97
    show 326
    ·rw[F1 hi,s_ hi]
     show 327
     show 98
    ·rw[Fh δf,Fh γ]
     rfl
   rw[e1] at R;rw[e2] at U
   have a0:=G.trans ώR;refine #[bp,fp,D1,D2,r,w,n,tks.map υy,tks.map Φt,rfl,(hC.same a0).blk,g,hn,b_.of (s4 _ _ R),b_.of U,by rw[o_,o_],λf hf=>?_,λH5 s5=>?_]
   ·obtain⟨k,hk,rfl⟩:=Fk.mp hf
    exact GF.FN γi M λt ht=>gF W aT t k ht (htk k hk).1
   ·have ez:(tks.map υy).zip ΘY=Gr r w M N l j os:=by
     unfold Gr;rw[Y,Pt,]
    rw[ez];exact q _ (a0.trans s5)
def knO (os:Ϝ):List Bool:=os.map Option.isSome
inductive nY (K:n_) (a:A_) (vs:δ) (H:Hp) (Q:VK) (E_3:XK):Prop
 | mk:∀(c bp fp rl:Addr) (r w n M N k:Nat) (l:Nat->Nat->Nat) (os:List (Option Nat)),vs=[.ref c,.ref rl,.int k]->DB a H c bp fp r w n M N l->GF.Et r w->n<=16->Gv w M N l->H rl=some (.lst (Ej os))->os.length=N+M->k < N+M->((∀b,os.getD k none=some b->Q (.int (b:Nat)) H))->((os.getD k none=none->∀H',a_ H H'->(∀by',Il r w (N+M) M (eqn N l) (knO os) k by'->Q (.int ((GF.Em r w n (Gr r w M N l by' os):Nat):Int)) H')/\∀mk,JX r w (N+M) M (eqn N l) (knO os) k mk->Q .non H'))->nY K a vs H Q E_3
theorem my (T:μ):C_ P wo K mg base 8 a.f27 ["self", "row", "role"] (nY K a):=by
 refine T.x27.F.okA (k:=7) OK ξ
 ·obtain⟨c,bp,fp,rl,r,w,n,M,N,k,l,os,rfl,hC,g,hn,W,j,R,hk,q1,q2⟩:=h
  show 99
  show 53
  have G:os[k]?=some 48e8:=by
   show 94
   rfl
  show 0
  exists xc ΓA
  show 1;refine xi (am bV ιF aO ψ) ?_
  exists xl (ax ιF)
  show 2
  exists xc (au (i:=3) OK.nd rfl 0e3 (av ο ϑ T.x23.me (ki T) hr.u T.x23.b .nil aj (aa (aS Θ7 rfl 21e2 θd γ5 Θ8) γH)))
  show 1;refine xi (am bT νa eV ψ) ?_
  show 26
  show 2
  exists xl (ax (av ο ϑ T.x26.me (kO T) hr.u T.x26.b .nil aj (aa νa γ9)))
  refine ΓL;refine #[_,rfl,_,rfl,rl,_,_,_,rfl,rfl,b_.of j,aB (bQ G),rfl,_,rfl,?_]
  cases hz:os.getD k none with
  | some b =>
   refine c_ ι ΓS
   rw[hz] at G;exact #[_,rfl,_,rfl,rl,_,_,_,rfl,rfl,b_.of j,aB (bQ G),q1 b hz]
  | none =>
   refine Io ?_
   have q2:=q2 hz;refine #[_,rfl,c,dx,_,rfl,h1,rfl,_,rfl,rl,rfl,ύB,λkn ad=>?_];refine ci (xs:=Ej os) (f:=λi=>.bl (os.getD i none).isSome) (cs:=[]) (b_.of j) ad rfl 125e3 ηc (λH2 s2 O=>?_)
   ·have hi:i < os.length:=by rw[<- cq];exact(ET.mp hu).1
    have aT:os[i]?=some 178e7:=by
     show 131;rfl
    rw[bQ aT] at hu
    show 328
    have e:(!decide (FS όZ=ε9))=(os.getD i none).isSome:=by
     cases os.getD i none with
     | none=>rfl
     | some b=>exact by rw[decide_eq_false ζX];rfl
    show 323
   rw[cq] at O
   have ek:Δp=FB 2e6:=by
    unfold FB knO
    apply GZ
    show 97
    show 329
    ·rw[F1 hi,s_ hi]
     show 330
     show 98
    ·rw[Fh δf,Fh γ]
     rfl
   rw[ek] at O
   have aw:(knO os).length=N+M:=by unfold knO;rw[o_,R]
   have Y:2e6[k]?=some false:=by
    unfold knO;rw[DO,G,hz];rfl
   refine #[_,rfl,c,bp,fp,kn,r,w,n,M,N,k,l,knO os,rfl,hC.same s2,g,W,O,aw,hk,Y,λD H3 s3 nD told _=>?_]
   have C:=s2.trans s3
   have q3:=λH' (s':a_ H3 H')=>q2 H' (C.trans s');rcases told with ⟨e,U,hD,he,J⟩ | ⟨e,mk,hD,he,J⟩
   ·refine ΔJ
    refine c_ (λz=>absurd (V.str.inj θo) ε) ι
    obtain⟨Z,a1,a0,an,_,_⟩:=(hC.same C).ins;refine #[_,rfl,c,Z,_,rfl,an,rfl,_,rfl,D,_,_,_,rfl,rfl,Ew.of hD,rfl,_,rfl,?_];exact #[c,bp,fp,e,rl,r,w,n,M,N,l,U,os,rfl,hC.same C,δc,hn,W,he,J.len,C _ _ j,R,λH4 s4=>(q3 H4 s4).1 U J]
   ·refine ΔJ
    refine c_ ι Ξh;exact(q3 H3 ϟ).2 mk J
def JJ (r w N:Nat) (l:ύ) (o k:Nat):Nat:=GF.tm r w χa ξT ^^^ GF.tm r w χb ξU
def eI (R:Nat) (ks:δ4) (pl:Nat):List Nat:=(p_ R).filter λk=>!94e1 && !decide (k=pl)
def Ik (r w M N:Nat) (l:ύ) (ks:δ4) (pl:Nat):Bool :=
 match eI (N+M) ks pl with
 | []=>true
 | o :: os=>if M=1 then false else (o :: os++[pl]).all λk=>decide (ϊU=(k=pl))
variable {ks:List Bool}
theorem i6 {R:Nat}{pl k:Nat} (h:k∈eI R ks pl):k < R/\ks.getD k false=false/\k≠pl:=by
 unfold eI at h
 have:=E5.mp h
 have h2:=this.2;rw[Gx,O4,O4] at h2;exact #[EF.mp ν8,h2.1,of_decide_eq_false h2.2]
theorem rL {k:Nat}{b:Bool} (hk:χc) (h:ks.getD k false=b):ks[k]?=some b:=by
 rw[s_ hk];rw[t_,s_ hk] at h;exact congrArg some h
theorem B6 (a x:Ϟ):GF.DP r w 2 a x=GF.tm r w (a 0) (x 0) ^^^ GF.tm r w (a 1) (x 1):=by
 show (0 ^^^ _) ^^^ _=_
 rw[GN]
theorem pd (W:ηu) {k:Nat} (hk:ι1):∃t,t < M/\eqn N l t k≠0:=by
 by_cases hjN:k < N
 ·obtain⟨t,ht,hz⟩:=W.col k hjN
  refine #[t,ht,?_];show 52;rw[if_pos hjN];exact hz
 ·refine #[k - N,by omega,?_]
  show 52;rw[if_neg hjN,if_pos rfl]
  decide
theorem zr {a:Nat} (h:a ^^^ b=0):a=b:=by
 have:=congrArg (λz=>z ^^^ b) h;show 216
variable {by':List Nat}
theorem AH {pl:Nat} (g:ψk) (W:Gv w 2 N l) (hks:ks.length=N+2) (hpl:pl < N+2) (hkp:τq) (f:Il r w (N+2) 2 εQ ks pl by') {o:Nat} (ho:o < N+2) (hko:ks.getD o false=υ) (hop:o≠pl) :
  ∀k,k < N+2->ks.getD k false=false->(JJ r w N l o k≠0 ↔ k=pl):=by
 have J:=g.toGood.top16
 have R:=g.toGood.rule
 have w1:=g.toGood.w1
 have s:∀t k,t < 2->k < N+2->eqn N l t k < 2 ^ w:=gF W J
 have b0:by'.getD 0 0 < 2 ^ w:=fZ f.lt τr
 have b1:by'.getD 1 0 < 2 ^ w:=fZ f.lt τr
 have hk:∀k,k < N+2->ks.getD k false=false->GF.tm r w χa (by'.getD 0 0) ^^^ GF.tm r w χb (by'.getD 1 0)=if k=pl then 1 else 0:=λk h1 h2=>by
  have:=f.ok k h1 (rL γ h2)
  rw[B6] at this;show 9
 have e0:=hk o ho hko;rw[if_neg hop] at e0
 have e0:=zr e0;generalize by'.getD 0 0=y0 at b0 hk e0
 generalize by'.getD 1 0=y1 at b1 hk e0
 have a0:=s 0 o ε ho
 have a1:=s 1 o ε ho
 have H:∃m,m < 2 ^ w/\m≠0/\y0=GF.tm r w m ξT/\y1=GF.tm r w m 66e6:=by
  have G:¬ (y0=0/\y1=0):=λz=>by
   have:=hk pl hpl hkp;rw[if_pos rfl,z.1,z.2,εI,εI] at this;exact absurd this ε
  obtain⟨t,ht,hz⟩:=pd W ho
  have C:∀{x y z:Nat},x < 2 ^ w->y < 2 ^ w->z < 2 ^ w->z≠0->GF.tm r w x z=GF.tm r w y z->x=y:=λ{x y z} hx hy D z0 e=>by
   rw[GF.DX R w1 hx D,GF.DX R w1 hy D] at e;exact GF.Kj g z0 D hx hy e
  by_cases z1:eqn N l 1 o=0
  ·have z0:eqn N l 0 o≠0:=by
    have h2:t=0\/t=1:=by omega
    rcases h2 with rfl | rfl
    ·exact hz
    ·exact absurd z1 hz
   have j:y0=0:=by
    rw[z1,GF.DQ] at e0;rcases(GF.Ek g a0 b0).mp e0 with z | z
    ·exact absurd z z0
    ·exact z
   have h:=GF.F8 g (MB z0) a0
   have il:=GF.Gc δc a0 θA;generalize GF.pw r w (eqn N l 0 o) (2 ^ w - 1 - 1)=v at h il;refine #[GF.tm r w y1 v,GF.z_ R b1,λz=>?_,?_,?_]
   ·rcases(GF.Ek g b1 il).mp z with z | z
    ·exact G #[j,z]
    ·rw[z,εI] at h
     exact absurd h ε
   ·rw[z1,εI,j]
   ·rw[GF.DG R w1 b1 il,GF.DX R w1 il a0,h,GF.EH]
  ·have h:=GF.F8 g (MB z1) a1
   have il:=GF.Gc δc a1 θA;generalize GF.pw r w (eqn N l 1 o) (2 ^ w - 1 - 1)=v at h il
   have j:y0=GF.tm r w ύ0 66e5:=by rw[GF.DG R w1 b0 il,GF.DX R w1 il a1,h,GF.EH]
   have E:y1=GF.tm r w ύ0 66e6:=by
    refine C b1 (GF.z_ R χs) a1 z1 ?_;rw[GF.DX R w1 b1 a1,← e0,GF.DG R w1 χs a0,GF.DX R w1 a0 a1,← GF.DG R w1 χs a1,← j,GF.DX R w1 a0 b0]
   refine #[GF.tm r w y0 v,GF.z_ R b0,λz=>?_,j,E];rw[z,GF.DQ] at j E;exact G #[j,E]
 obtain⟨m,ml,m0,rfl,rfl⟩:=H;intro k h1 h2
 have ek:=hk k h1 h2
 have c0:=s 0 k ε h1
 have c1:=s 1 k ε h1
 have et:GF.tm r w m (JJ r w N l o k)=if k=pl then 1 else 0:=by
  rw[<- ek];unfold JJ;rw[GF.Ec,← GF.DG R w1 ml c0,GF.DX R w1 ml c0,GF.DG R w1 c0 ml,← GF.DG R w1 ml c1,GF.DX R w1 ml c1,GF.DG R w1 c1 ml]
 have tl:JJ r w N l o k < 2 ^ w:=JP (GF.z_ R c0) (GF.z_ R c1)
 constructor
 ·intro z
  by_cases y:k=pl
  ·exact y
  ·rw[if_neg y] at et
   rcases(GF.Ek g ml tl).mp et with x | x
   ·exact absurd x m0
   ·exact absurd x z
 ·intro y z
  rw[if_pos y,z,εI] at et;exact absurd et ε
theorem n9 {R pl:Nat}{a x:Ϟ} (hpl:pl < R) (h:∀k,k < R->k≠pl->GF.tm r w (a k) (x k)=0):GF.DP r w R a x=GF.tm r w (a pl) (x pl):=by
 have g:∀n,n<=R->GF.DP r w n a x=if pl < n then GF.tm r w (a pl) (x pl) else 0:=by
  intro n
  induction n with
  | zero=>intro _;rw[if_neg ι3];rfl
  | succ n ih =>
   intro hn;rw[GF.DP,ih γ]
   by_cases z:n=pl
   ·subst z
    show 221
   ·rw[h n γ z,GO]
    by_cases y:pl < n
    ·show 222
    ·show 125
 rw[g R Γ,if_pos hpl]
theorem qA {pl:Nat} (g:ψk) (W:ηu) (hks:ώS) (hpl:pl < N+M) (hkp:τq) (f:Il r w (N+M) M εQ ks pl by'):Ik r w M N l ks pl=true:=by
 unfold Ik
 have s:=g.toGood.top16
 split
 ·rfl
 ·rename_i o os he
  show 331
  by_cases hM:M=1
  ·subst hM
   have b0:by'.getD 0 0 < 2 ^ w:=fZ f.lt τr
   have e1:=f.ok o ho.1 (rL γ ho.2.1)
   have e2:=f.ok pl hpl (rL γ hkp)
   rw[if_neg ho.2.2] at e1;rw[if_pos rfl] at e2
   have d1:∀a x:Nat->Nat,GF.DP r w 1 a x=GF.tm r w (a 0) (x 0):=λa x=>GN _;rw[d1] at e1 e2;obtain⟨t,ht,hz⟩:=pd W ho.1
   have t0:t=0:=by omega
   subst t0;rcases(GF.Ek g (gF W s 0 o (by decide) ho.1) b0).mp e1 with z | z
   ·exact absurd z hz
   ·rw[z,εI] at e2
    exact absurd e2 ε
  ·have j:M=2:=by have:=W.m1;have:=W.m2;omega
   subst j;rw[if_neg hM,Go]
   have h:=AH g W hks hpl hkp f ho.1 ho.2.1 ho.2.2;intro k hk
   apply decide_eq_true
   rcases Fw.mp hk with y | y
   ·have:=i6 (R:=N+2) (ks:=ks) (pl:=pl) (k:=k) (by rw[he];exact y)
    exact propext (h k ν8 this.2.1)
   ·rw[Eu.mp y]
    exact propext (h pl hpl hkp)
theorem qB {pl:Nat}{mk:η} (g:ψk) (W:ηu) (hks:ώS) (hpl:pl < N+M) (hkp:τq) (f:JX r w (N+M) M εQ ks pl mk):Ik r w M N l ks pl=false:=by
 unfold Ik
 have G:=g.toGood.top16
 have R:=g.toGood.rule
 have w1:=g.toGood.w1
 have C:∀k,k < N+M->mk.getD k 0 < 2 ^ w:=λk hk=>fZ f.lt (by rw[f.len];exact hk)
 have none_of:∀k,k < N+M->k≠pl->k∉eI (N+M) ks pl->mk.getD k 0=0:=λk hk j H=>by
  refine f.zero k hk (rL γ ?_)
  cases hb:ks.getD k false with
  | true=>rfl
  | false =>
   refine absurd ?_ H;unfold eI;refine E5.mpr #[EF.mpr hk,?_];rw[hb,decide_eq_false j];rfl
 split
 ·rename_i he
  obtain⟨t,ht,hz⟩:=pd W hpl
  have e:=f.ok t ht;rw[n9 hpl λk hk j=>by rw[none_of k hk j (by rw[he];simp),GF.m_],f.one,GF.EH] at e
  exact absurd e hz
 ·rename_i o os he
  show 331
  by_cases hM:M=1
  ·rw[if_pos hM]
  ·have E:M=2:=by have:=W.m1;have:=W.m2;omega
   subst E;rw[if_neg hM,List.all_eq_false]
   have h:∀t k,t < 2->k < N+2->eqn N l t k < 2 ^ w:=gF W G;refine Classical.byContradiction λD=>?_
   have s:∀k∈(o :: os++[pl]),ϊU=(k=pl):=λk hk=>Classical.byContradiction λz=>D #[k,hk,λy=>z ιd]
   have h0:GF.DP r w (N+2) (JJ r w N l o) τM=0:=by
    show GF.DP r w (N+2) (λk=>GF.tm r w χa ξT ^^^ GF.tm r w χb ξU) τM=0
    rw[GF.GE R (N+2) λk hk=>#[GF.z_ R (h 0 k ε hk),GF.z_ R (h 1 k ε hk)]]
    rw[GF.Ex R w1 (h 1 o ε ho.1) (N+2) λk hk=>#[h 0 k ε hk,C k hk],GF.Ex R w1 (h 0 o ε ho.1) (N+2) λk hk=>#[h 1 k ε hk,C k hk]]
    have e0:=f.ok 0 ε
    have e1:=f.ok 1 ε
    rw[e0,e1,GF.DQ,GF.DQ];rfl
   rw[n9 hpl λk hk j=>by
    by_cases hm:k∈eI (N+2) ks pl
    ·have:=s k (L9 _ (by rw[<- he];exact hm))
     have z:JJ r w N l o k=0:=Classical.byContradiction λy=>j (this.mp y);rw[z,GF.DQ]
    ·rw[none_of k hk j hm,εI],f.one,GF.EH] at h0
   have:=s pl (G0 _ (Eu.mpr rfl));exact absurd h0 (this.mpr rfl)
theorem tU {X:η} (hX:χt):Gm r w n M N l X=true ↔ ∀t,t < M->GF.DJ (N+M) ρk=0:=by
 have e:∀t,GF.Em r w n ((e_ (N+M) εQ t).zip X)=GF.DJ (N+M) 81e6:=λt=>by
  have h:=GF.EY (r:=r) (w:=w) (n:=n) (eqn N l t) (λj=>X.getD j 0) (N+M)
  have hx:=GF.G5 X;rw[hX] at hx;rw[<- hx] at h;exact h
 unfold Gm;rw[Go]
 constructor
 ·intro h t ht
  rw[<- e];exact of_decide_eq_true (h t (EF.mpr ht))
 ·intro h t ht
  apply decide_eq_true
  rw[e];exact h t (EF.mp ht)
def b8 (R:Nat) (os:Ϝ) (X:η):Prop:=∀j,j < R->∀b,os.getD j none=some b->X.getD j 0=b
theorem i7 (hj:ώT) (h:os.getD j none=none):2e6[j]?=some false:=by
 show 332
 have h:os[j]=none:=h;rw[h];rfl
theorem AI (hj:ώT) (h:os.getD j none=some b):2e6[j]?=some true:=by
 show 332
 have h:os[j]=some b:=h;rw[h];rfl
theorem Hi {k:Nat}{X:η} (g:μc) (W:ηu) (hos:os.length=N+M) (hX:χt) (hlt:Ω1) (hk:ι1) (hz:os.getD k none=none) (hm:ϊq) (ha:b8 (N+M) os X) (f:Il r w (N+M) M εQ ϋ k by') :
  GF.Em r w n (Gr r w M N l by' os)=X.getD k 0:=by
 have s:=g.top16
 have hm:=(tU hX).mp hm
 have h0:=GF.F_ γi g.w1 (n:=n) (m:=N+M) (e:=eqn N l) (x:=λj=>X.getD j 0) (y:=λt=>by'.getD t 0) M (λt j ht hj=>gF W s t j ht hj) (λt ht=>fZ f.lt (by rw[f.len];exact ht)) hm
 unfold Gr;rw[GF.EC Φs (IK r w M N l by') Φt]
 have h1:=GF.FI (λj=>if (os.getD j none).isSome=true then GF.sc r w n ϊV ((os.getD j none).getD 0) else 0) (λj=>GF.sc r w n Δq ωf) (N+M)
 rw[h0,GO] at h1;rw[<- h1,GF.FV hk λj hj h=>?_]
 ·have e:=f.ok k hk (i7 γ hz)
  rw[if_pos rfl] at e;rw[hz,e,GF.MX γi g.w1 (fZ hlt (by rw[hX];exact hk))]
  have:(if (none:θK).isSome=true then GF.sc r w n (IK r w M N l by' k) ((none:θK).getD 0) else 0)=0:=if_neg ε
  rw[this];exact GN _
 ·cases hb:os.getD j none with
  | none =>
   have e:=f.ok j hj (i7 γ hb)
   rw[if_neg h] at e;rw[e,ζQ,GO];exact if_neg ε
  | some b =>
   have:=ha j hj b hb
   show GF.sc r w n ϊV b ^^^ GF.sc r w n Δq ωf=0
   rw[this];exact JG _
def Ow (r w n R:Nat) (X mk:η) (c:Nat):List Nat:=(p_ R).map λj=>X.getD j 0 ^^^ GF.sc r w n (mk.getD j 0) c
def plainL (i k:Nat):Nat:=if i=0 then 1 else k+1
theorem zt (t16:16<=2 ^ w) (h1:1<=M) (h2:M<=2) (h3:1<=N) (h8:N+M<=8):Gv w M N ηV where
 m1:=h1
 m2:=h2
 n1:=h3
 n8:=h8
 lt i k hi hk:=by
  unfold plainL
  split <;> omega
 row i hi:=#[0,h3,by unfold plainL;split <;> decide]
 col k hk:=#[0,h1,by unfold plainL;rw[if_pos rfl];decide]
inductive wk (vs:δ) (H:Hp) (Q:VK) (E_3:XK):Prop
 | mk:∀(N M:Nat),vs=[.int N,.int M]->1<=M->M<=2->N<=8->(∀D H' ps,a_ H H'->H' D=some (.lst (List.map V.ref ps))->Dy H' ps M (e_ N plainL)->Q (.ref D) H')->wk vs H Q E_3
theorem mz (T:μ):C_ P wo K mg base 1 a.f53 ["data", "sums"] wk:=by
 refine T.x53.F.okA (k:=0) OH ξ
 ·obtain⟨N,M,rfl,Y,Z,hN,q⟩:=h
  show 0
  exists xc (au (i:=2) OH.nd rfl 0e3 (bo Ξi))
  show 303
  exists xl (aF (cu Hr Hs Hv aZ Ω (aa (br (jg rfl) rfl T.A12 γu (aa (br sJ rfl T.A07 γu (aa ai (aa (ay aW ο ai) ac))) ac)) ac)))
  show 2
  show 47
  refine #[(show 1<=sizeLine by decide),λp1 n1=>#[_,rfl,p1,_,_,rfl,rfl,ab,by omega,by omega,?_,λp2 n2=>#[(show 1<=sizeLine by decide),λD nD=>?_]]]
  ·rw[Fu]
   show 1 * N<=sizeLine
   exact DK (by omega:1 * N<=30) ε
  have e0:e_ N ηV 0=Ee N 1:=by
   unfold e_
   show ((p_ N).map λ_=>1)=_
   rw[L0,Eo]
  have eR:(Ee ((N:Int)).toNat [V.int 1]).flatten=rowV (e_ N ηV 0):=by
   rw[Fu,e0];exact o7 N 1
  rw[eR] at nD;rw[eR]
  have s1:=a_.new (o:=.lst [V.int 1]) n1
  have s2:=a_.new (o:=.lst τs) n2
  have s3:=a_.new (o:=.lst [V.ref p2]) nD
  have G:=s3 _ _ (ab (H:=upd H p1 ύ1) (a:=p2) (o:=.lst τs))
  have hD:(upd (upd (upd H p1 ύ1) p2 (.lst τs)) D όo) D=some 175e0:=ab
  have sD:=s1.trans χd
  have fD:H D=none:=(s1.trans s2).free nD;generalize (upd (upd (upd H p1 (.lst [V.int 1])) p2 (.lst (rowV (e_ N plainL 0)))) D (.lst [V.ref p2]))=H1 at G hD sD;show 48
  have hm:M=1\/M=2:=by omega
  rcases hm with rfl | rfl
  ·refine c_ (λz=>absurd (V.int.inj θo) ε) ι
   refine #[_,rfl,q D H1 [p2] sD hD ΩE]
   match i,e with
   | 0,e=>cases DU e;exact G
  ·refine c_ ι Ξh
   refine #[_,rfl,.inl ϊQ,_,rfl,_,_,rfl,rfl,_,_,rfl,λrg R=>#[rg,_,_,rfl,ab,by decide,by decide,by omega,by omega,λp3 n3=>?_]]
   have el:((p_ ((N:Int)+1 - 1).toNat).map λi:Nat=>V.int (1+(i:Int)))=rowV (e_ N ηV 1):=by
    have:((N:Int)+1 - 1).toNat=N:=by omega
    show 21;unfold rowV e_;rw[Fa];refine HR λi _=>?_
    show V.int (1+(i:Int))=V.int ((plainL 1 i:Nat):Int)
    unfold plainL;show 134
    congr 1
    omega
   show 6
   rw[el]
   have s4:=(a_.new (o:=.ext ϊr) R).trans (a_.new (o:=.lst (rowV (e_ N ηV 1))) n3)
   have j:(upd (upd H1 rg (.ext ϊr)) p3 Ψ2) p3=some 148e0:=ab;refine #[D,_,_,rfl,rfl,s4 _ _ hD,(show 1 < sizeLine by decide),?_]
   have g:=s4 _ _ G
   have C:=s4 _ _ hD
   have J:=sD.trans s4;generalize (upd (upd H1 rg (.ext (fP rg 1 ((N:Int)+1)))) p3 (.lst (rowV (e_ N plainL 1))))=H2 at j g C J
   have U:p2≠D:=λz=>by rw[z,C] at g;cases N with
    | zero=>simp[rowV,e_] at g
    | succ n=>simp[rowV,e_,Of] at g
   have O:p3≠D:=λz=>by rw[z,C] at j;cases N with
    | zero=>simp[rowV,e_] at j
    | succ n=>simp[rowV,e_,Of] at j
   refine #[_,rfl,q D _ [p2,p3] (J.up fD) (by rw[ab];rfl) ΩE]
   match i,e with
   | 0,e=>cases DU e;rw[ae U];exact g
   | 1,e=>cases DU e;rw[ae O];exact j
def ov:Option Int->V
 | none=>.non
 | some i=>.int i
def hf (l:Addr):List 14e6:=[("held",.ref l)]
inductive lL (K:n_) (vs:δ) (H:Hp) (Q:VK) (E_3:XK):Prop
 | mk:∀(p L C dx:Addr) (xs:List V),vs=[.ref p,.ref L]→H p=some (.ins C dx [])→FX K C→i_ K C "held" → H L=some (.lst xs)→(∀l,H l=none→Q .non (upd (upd H l (.lst xs)) p (.ins C dx (hf l))))→lL K vs H Q E_3
theorem rB (T:μ):C_ P wo K mg base 1 a.f55 ["self", "held"] (lL K):=by
 refine T.x55.F.okA (k:=0) rh ξ
 ·obtain⟨p,L,C,dx,xs,rfl,hp,cl,no,hL,q⟩:=h
  show 0
  exists xl (aM ο (br bC rfl T.A12 γu γ9) rfl)
  exact #[_,rfl,L,_,rfl,.inl η1,λl nl=>#[_,rfl,p,C,dx,_,rfl,a_.new nl _ _ hp,cl,no,ε,q l nl]]
inductive jy (vs:δ) (H:Hp) (Q:VK) (E_3:XK):Prop
 | mk:∀(p:Addr) (x:V),vs=[.ref p,x]->Q (.bl true) H->jy vs H Q E_3
theorem iN (T:μ):C_ P wo K mg base 1 a.f56 ["self", "at"] jy:=by
 refine T.x56.F.okA (k:=0) o3 ξ
 ·obtain⟨p,x,rfl,q⟩:=h
  show 0
  show 28
  exact q
inductive jz (vs:δ) (H:Hp) (Q:VK) (E_3:XK):Prop
 | mk:∀p:Addr,vs=[.ref p]->Q (.int 1) H->jz vs H Q E_3
theorem pf (T:μ):C_ P wo K mg base 1 a.f57 ["self"] jz:=by
 refine T.x57.F.okA (k:=0) o4 ξ
 ·obtain⟨p,rfl,q⟩:=h
  show 0
  exists xl (ax ai)
  exact q
inductive tV (K:n_) (vs:δ) (H:Hp) (Q:VK) (E_3:XK):Prop
 | mk:∀(p l C dx:Addr) (fs:List (Str × V)) (xs:List V) (i:Nat) (v:V),vs=[.ref p,.int i]→H p=some (.ins C dx fs)→FX K C→i_ K C "held" → fs.lookup ("held" : Str)=some (.ref l)→H l=some (.lst xs)→xs[i]?=some v→Q v H→tV K vs H Q E_3
theorem mB (T:μ):C_ P wo K mg base 1 a.f58 ["self", "at"] (tV K):=by
 refine T.x58.F.okA (k:=0) mn ξ
 ·obtain⟨p,l,C,dx,fs,xs,i,v,rfl,hp,cl,no,lk,hl,hv,q⟩:=h
  show 0
  exists xl Θ9
  exact #[_,rfl,p,_,_,_,_,rfl,hp,cl,no,lk,_,rfl,l,_,_,_,rfl,rfl,b_.of hl,aB hv,q]
inductive wm (K:n_) (vs:δ) (H:Hp) (Q:VK) (E_3:XK):Prop
 | mk:∀(p l C dx:Addr) (fs:List (Str × V)) (xs:List V) (i:Nat) (v:V),vs=[.ref p,.int i,v]→H p=some (.ins C dx fs)→FX K C→i_ K C "held" → fs.lookup ("held" : Str)=some (.ref l)→H l=some (.lst xs)→i < xs.length→Q .non (upd H l (.lst (xs.set i v)))→wm K vs H Q E_3
theorem oa (T:μ):C_ P wo K mg base 1 a.f59 ["self", "at", "block"] (wm K):=by
 refine T.x59.F.okA (k:=0) nK ξ
 ·obtain⟨p,l,C,dx,fs,xs,i,v,rfl,hp,cl,no,lk,hl,hi,q⟩:=h
  show 0
  exists xl (cG Ω νI)
  exact #[_,rfl,_,rfl,p,_,_,_,_,rfl,hp,cl,no,lk,_,rfl,l,_,_,_,rfl,rfl,hl,cJ hi,q]
structure Rk where
 rk:Addr
 sh:Addr
 sl:Addr
 dn:Addr
 ps:List Addr
 hs:List Addr
 P:Nat
 S:Nat
 L:Nat
def Rk.lists (R:Rk):List Addr:=R.dn :: R.sh :: R.sl :: R.hs
def rf (R:Rk):List 14e6:=[("planks",.int R.P),("stripes",.int R.S),("slots",.int R.L),("shelf",.ref R.sh),("slate",.ref R.sl),("left",.non),("gone",.bl υ),("done",.ref R.dn)]
theorem qC (R:Rk):(rf R).lookup ("planks" : Str)=some (.int R.P):=rfl
theorem og (R:Rk):(rf R).lookup ("stripes" : Str)=some (.int R.S):=rfl
theorem mC (R:Rk):(rf R).lookup ("slots" : Str)=some (.int R.L):=rfl
theorem eM (R:Rk):(rf R).lookup ("shelf" : Str)=some (.ref R.sh):=rfl
theorem mD (R:Rk):(rf R).lookup ("slate" : Str)=some (.ref R.sl):=rfl
theorem wn (R:Rk):(rf R).lookup ("left" : Str)=some .non:=rfl
theorem pi (R:Rk):(rf R).lookup ("gone" : Str)=some (.bl υ):=rfl
theorem wq (R:Rk):(rf R).lookup ("done" : Str)=some (.ref R.dn):=rfl
def aU (S:Nat) (f:ξD):List V:=(p_ S).map λj=>ov (f j)
variable {S:Nat}
theorem xD {f:ξD} (h:j < S):(aU S f)[j]?=some (ov (f j)):=by
 unfold aU;rw[DO,F1 h];rfl
theorem uZ (S:Nat) (f:ξD):(aU S f).length=S:=by unfold aU;rw[o_,Eo]
theorem u0 {f:ξD}{o:εB}:(aU S f).set j (ov o)=aU S (λk=>if k=j then o else f k):=by
 unfold aU
 apply GZ
 intro k;rw[Og,DO,DO,o_,Eo]
 by_cases hk:k < S
 ·rw[F1 hk]
  by_cases y:j=k
  ·subst y
   rw[if_pos rfl,if_pos hk]
   show _=some (ov (if j=j then o else f j))
   show 25
  ·rw[if_neg y]
   show _=some (ov (if k=j then o else f k))
   rw[if_neg (λz=>y εn)];rfl
 ·rw[Fh δf]
  by_cases y:j=k
  ·rw[if_pos y,if_neg γ]
   rfl
  ·rw[if_neg y]
   rfl
structure d_ (a:A_) (H:Hp) (R:Rk) (e:Nat) (ss:δ) (X:ηf):Prop where
 ins:∃dx,H R.rk=some (.ins ϖ dx (rf R))
 shelf:H R.sh=some (.lst (R.ps.map Ϙ))
 lp:R.ps.length=R.P
 lh:R.hs.length=R.P
 pl:∀(i:Nat) p,R.ps[i]?=some p->∃dp h,R.hs[i]?=some h/\H p=some πn
 hd:∀(i:Nat) h,R.hs[i]?=some h->H h=some ϊs
 dn:∃ds,H R.dn=some (.lst ds)/\ds.length=e
 sl:H R.sl=some (.lst ss)
 ls:ss.length=R.L
 l8:R.L<=8
 nd:R.lists.Nodup
 p8:R.P<=8
 s32:R.S<=32
def KB (ms:Ξ) (H H':Hp):Prop:=∀b o,b∉ms->H b=some o->H' b=some o
theorem KB.refl (ms:Ξ) (H:Hp):KB ms H H:=λ_ _ _ e=>e
variable {H1 H2:Hp}
theorem KB.trans {ms:Ξ} (h:χY) (k:KB ms H1 H2):KB ms H H2:=λb o n e=>k b o n (h b o n e)
theorem KB.same {ms:Ξ} (h:χY) (s:a_ H1 H2):KB ms H H2:=λb o n e=>s _ _ (h b o n e)
theorem KB.of {ms:Ξ} (s:a_ H H1):KB ms H H1:=λb o _ e=>s _ _ e
theorem KB.more {ms ns:Ξ} (h:χY) (m:∀b∈ms,b∈ns):KB ns H H1:=λb o n e=>h b o (λz=>n (m b z)) e
variable {e:Nat}{ss:List V}{X:Nat->Nat->Option Int}
theorem d_.keep {R:Rk}{ms:Ξ} (h:ζ3) (k:μh) (hm:∀b∈ms,∀C dx fs,H b≠some ω5) (hd:∀b∈R.lists,b∉ms):d_ a H' R e ss X where
 ins:=by
  obtain⟨dx,h1⟩:=h.ins;exact #[dx,k _ _ Ωi h1]
 shelf:=k _ _ (hd _ (Fv _ F0)) h.shelf
 lp:=h.lp
 lh:=h.lh
 pl i p ep:=by
  obtain⟨dp,l,hl,h1⟩:=h.pl i p ep;exact #[dp,l,hl,k _ _ Ωi h1]
 hd i l el:=k _ _ (hd _ (Fv _ (Fv _ ώc))) ώU
 dn:=by
  obtain⟨ds,h1,h2⟩:=h.dn;exact #[ds,k _ _ (hd _ F0) h1,h2]
 sl:=k _ _ (hd _ (Fv _ (Fv _ F0))) h.sl
 ls:=h.ls
 l8:=h.l8
 nd:=h.nd
 p8:=h.p8
 s32:=h.s32
theorem d_.same {R:Rk} (h:ζ3) (s:γD):d_ a H' R e ss X :=
 h.keep (KB.of (ms:=[]) s) (λb hb=>absurd hb Fl) (λb _ hb=>absurd hb Fl)
theorem NA (n:Nat):(Ee n [V.int 0]).flatten=aU n (λ_=>some 0):=by
 unfold aU
 show _=(p_ n).map λ_=>V.int 0
 rw[L0,Eo]
 induction n with
 | zero=>rfl
 | succ n ih=>rw[HV,JN,ih,HV];rfl
theorem NJ (n:Nat):(Ee n [ε9]).flatten=Ee n V.non:=by
 induction n with
 | zero=>rfl
 | succ n ih=>rw[HV,JN,ih,HV];rfl
inductive tW (vs:δ) (H:Hp) (Q:VK) (E_3:XK):Prop
 | mk:∀(p s l:Nat),vs=[.int p,.int s,.int l]->2<=p->p<=8->1<=s->s<=32->1<=l->l<=8->Q .non H->tW vs H Q E_3
theorem oh (T:μ):C_ P wo K mg base 1 a.f70 ["planks", "stripes", "slots"] tW:=by
 refine T.x70.F.okA (k:=0) nN ξ
 ·obtain⟨p,s,l,rfl,p1,p2,s1,s2,l1,l2,q⟩:=h
  show 0
  show 333
  show 3
  show 148;refine xi (PW.pt (bb πd (ba (am bU Θ Ξb ψ)))) ?_
  show 3
  show 27;refine xi (PW.pt (bb πw (ba (am bU Ω (bx (v:=.int 8) rfl T.Ad6 ϒ) ψ)))) ?_
  show 3
  show 54
  show 24
  show 24
  show 24
  show 24
  refine ϝ;show 63
inductive oj (a:A_) (vs:δ) (H:Hp) (Q:VK) (E_3:XK):Prop
 | mk:∀(rk dx:Addr) (p s l:Nat),vs=[.ref rk,.int p,.int s,.int l]->H rk=some (.ins a.C_Rack dx [])->2<=p->p<=8->1<=s->s<=32->1<=l->l<=8->(∀(R:Rk) H',R.rk=rk->R.P=p->R.S=s->R.L=l->(∀b o,b≠rk->H b=some o->H' b=some o)->d_ a H' R 0 (Ee l .non) (λ_ _=>some 0)->(∀b∈R.lists,H b=none)->Q .non H')->oj a vs H Q E_3
theorem tY (T:μ):C_ P wo K mg base 3 a.f71 ["self", "planks", "stripes", "slots"] (oj a):=by
 refine T.x71.F.okA (k:=2) tG ξ
 ·obtain⟨rk,dx,p,s',l,rfl,hc,p1,p2,s1,s2,l1,l2,q⟩:=h
  show 0
  exists xc (aF (aH (oh T) hr.u rfl T.x70.m T.x70.k T.x70.b .nil aj νw))
  show 38
  show 61
  exists xc τt
  exists xc (aM ο (aS (g_.of (cap:=[2]) (own:=["plank"]) γg) rfl (aY rfl T.A07 γ9) δS γ5 (λ_ _ _ _ _=>by exact(cZ T.Ab7 (rB T) hr.u rfl T.m_Plank T.x55.b .nil aj Ξi))) rfl)
  exists xc (aM ο (ay gf ύC ϊ) rfl)
  exists xc (aM ο aO rfl)
  exists xc ϋP
  exists xl ΩF
  refine #[_,rfl,_,rfl,_,rfl,p,s',l,rfl,p1,p2,s1,s2,l1,l2,?_];refine #[_,rfl,_,rfl,rk,ϖ,dx,_,rfl,hc,ϛ,T.A74,ε,?_]
  refine #[_,rfl,_,rfl,rk,ϖ,dx,_,rfl,ab,ϛ,T.A81,η9,?_]
  refine #[_,rfl,_,rfl,rk,ϖ,dx,_,rfl,ab,ϛ,T.A61,ηa,?_]
  show 143
  have ef:DE "slots" (.int (l:Int)) (DE "stripes" (.int (s':Int)) (DE "planks" (.int (p:Int)) []))=[ηR,ηQ,ηS]:=rfl
  rw[ef]
  have ad:78e2 rk=some (.ins ϖ dx [ηR,ηQ,ηS]):=ab
  have k2:∀b o,b≠rk→H b=some o→78e2 b=some o:=λb o z e=>by rw[ae z];exact e
  have f2:∀b,78e2 b=none→H b=none:=λb e=>by
   show 149
   ·show 150
   ·show 151
  generalize (upd H rk (.ins a.C_Rack dx [(("planks" : Str),V.int (p:Int)),(("stripes" : Str),V.int (s':Int)),(("slots" : Str),V.int (l:Int))]))=H2 at ad k2 f2
  refine ρh
  rw[Fu];refine yO (n:=p) (cs:=[some (.int s')]) (λi ys H5=>∃ps hs:List Addr,ys=ps.map V.ref/\ps.length=i/\hs.length=i/\(∀(j:Nat) b,ps[j]?=some b->∃dp h,hs[j]?=some h/\H5 b=some πn)/\(∀h∈hs,H5 h=some ν6/\H2 h=none/\h≠D)/\hs.Nodup) nD rfl (DK p2 ε) (λH3 _=>#[[],[],rfl,rfl,rfl,(λj b e=>by rw[List.getElem?_nil] at e;cases e),(λh hh=>absurd hh Fl),L_]) (λi ys H3 R3 hi s3 g z3 hR=>?_) (λys H3 s3 g z3=>?_)
  ·obtain⟨ps,hs,rfl,lp,lh,hp,hh,nd⟩:=z3
   refine #[(show 1<=sizeLine by decide),λq1 n1=>#[_,rfl,q1,_,_,rfl,rfl,ab,by omega,by omega,?_,λq2 n2=>?_]]
   ·rw[Fu]
    show 1 * s'<=sizeLine
    exact DK (by omega:1 * s'<=32) ε
   rw[Fu,NA]
   have sq:=(a_.new (o:=.lst [V.int 0]) n1).trans (a_.new (o:=.lst (aU s' λ_=>some 0)) n2)
   have a5:(upd (upd H3 q1 υx) q2 ν6) q2=some 55e4:=ab;generalize (upd (upd H3 q1 (.lst [V.int 0])) q2 (.lst (aU s' λ_=>some 0)))=H4 at sq a5;intro x dp nx b5 cc
   have sx:a_ H4 (upd (upd H4 dp ηT) x (.ins δK dp [])):=λy o e=>by
    rw[ae ψl,ae (al e b5)];exact e
   refine #[x,q2,δK,dp,_,rfl,ab,η7,T.A70,sx _ _ a5,λh nh=>ο4]
   have b3:H4 h=none:=sx.free nh
   have a4:a_ H4 78e3:=λy o e=>by
    rw[ae ψl];exact(a_.new nh) _ _ (sx _ _ e)
   have bt:h≠x:=λz=>by rw[z,ab] at nh;cases nh
   have aT:78e3 x=some 75e7:=ab
   have R:78e3 h=some 55e4:=by
    rw[ae bt];exact ab
   generalize (upd (upd (upd (upd H4 dp (.own x)) x (.ins a.C_Plank dp [])) h (.lst (aU s' λ_=>some 0))) x (.ins a.C_Plank dp (hf h)))=H6 at a4 aT R
   have a3:=sq.trans a4;refine hR ιv H6 a3 λH5 sb=>?_
   have an:∀b o,H3 b=none->H6 b=some o->b≠D:=λb o e _ z=>by rw[z,g] at e;cases e
   have bm:H3 x=none:=sq.free nx
   have O:H3 h=none:=sq.free b3;refine #[ps++[x],hs++[h],by rw[FM];rfl,by rw[Fn,lp];rfl,by rw[Fn,lh];rfl,λj b e=>?_,λb hb=>?_,?_]
   ·rw[MC] at e
    split at e
    ·obtain⟨dq,h',eh,hb⟩:=hp j b e
     have nb:b≠D:=λz=>by rw[z,g] at hb;cases hb
     refine #[dq,h',?_,sb _ _ nb (a3 _ _ hb)];rw[Ht γ]
     exact eh
    ·have ej:j - ps.length=0:=by
      have:=(ET.mp e).1
      have:j - ps.length < 1:=this;omega
     rw[ej] at e
     cases DU e;refine #[dp,h,?_,sb _ _ (an _ _ bm aT) aT];rw[HU γ,lh,← lp,ej]
     rfl
   ·rcases Fw.mp hb with y | y
    ·obtain⟨e1,e2,e3⟩:=hh b y
     exact #[sb _ _ e3 (a3 _ _ e1),e2,e3]
    ·rw[Eu.mp y]
     exact #[sb _ _ (an _ _ O R) R,s3.free O,an _ _ O R]
   ·refine KU.mpr #[nd,(HH.mpr #[Fl,L_]),λb hb c hc z=>?_]
    rw[Eu.mp hc] at z
    have:=(hh b hb).1;rw[z,O] at this
    show 8
  ·obtain⟨ps,hs,rfl,lp,lh,hp,hh,nd⟩:=z3
   have Y:=s3 _ _ ad
   have b0:D≠rk:=λz=>by rw[z,ad] at nD;cases nD
   refine #[_,rfl,rk,ϖ,dx,_,rfl,Y,ϛ,ηL,ιH,?_]
   have aw:78e0 rk=some (.ins ϖ dx [ηR,ηQ,ηS,ιm]):=ab
   have k4:∀b o,b≠rk→H3 b=some o→78e0 b=some o:=λb o z e=>by rw[ae z];exact e
   have f4:∀b,78e0 b=none→H3 b=none:=λb e=>by
    show 149
    ·show 150
    ·show 151
   generalize (upd H3 rk (HO.ins a.C_Rack dx (DE "shelf" (.ref D) [(("planks" : Str),V.int (p:Int)),(("stripes" : Str),V.int (s':Int)),(("slots" : Str),V.int (l:Int))])))=H4 at aw k4 f4
   refine #[(show 1<=sizeLine by decide),λq1 n1=>#[_,rfl,q1,_,_,rfl,rfl,ab,by omega,by omega,?_,λsl nsl=>?_]]
   ·rw[Fu]
    show 1 * l<=sizeLine
    exact DK (by omega:1 * l<=32) ε
   have sS:=(a_.new (o:=.lst [ε9]) n1).trans (a_.new (o:=.lst (Ee (l:Int).toNat [ε9]).flatten) nsl)
   have U:(upd (upd H4 q1 ώd) sl ΘQ) sl=some 134e4:=ab
   have C:H4 sl=none:=(a_.new (o:=.lst [ε9]) n1).free nsl;refine #[_,rfl,rk,ϖ,dx,_,rfl,sS _ _ aw,ϛ,T.A63,νH,?_]
   generalize (upd (upd H4 q1 (.lst [V.non])) sl (.lst (Ee (l:Int).toNat [V.non]).flatten))=H5 at sS U;refine #[_,rfl,rk,ϖ,dx,_,rfl,ab,ϛ,T.A68,(by show (5:Nat) < 1000;decide),?_]
   refine #[_,rfl,rk,ϖ,dx,_,rfl,ab,ϛ,T.A64,(by show (6:Nat) < 1000;decide),?_]
   rw[aP,aP]
   have b2:DE "gone" (V.bl υ) (DE "left" V.non (DE "slate" (V.ref sl) [ηR,ηQ,ηS,ιm]))=[ηR,ηQ,ηS,ιm,πo,πq,πm]:=rfl
   rw[b2]
   have a0:77e8 rk=some (.ins ϖ dx [ηR,ηQ,ηS,ιm,πo,πq,πm]):=ab
   have k6:∀b o,b≠rk→H5 b=some o→77e8 b=some o:=λb o z e=>by rw[ae z];exact e
   have f6:∀b,77e8 b=none→H5 b=none:=λb e=>by
    show 149
    ·show 150
    ·show 151
   generalize (upd H5 rk (HO.ins a.C_Rack dx [(("planks" : Str),V.int (p:Int)),(("stripes" : Str),V.int (s':Int)),(("slots" : Str),V.int (l:Int)),(("shelf" : Str),V.ref D),(("slate" : Str),V.ref sl),(("left" : Str),V.non),(("gone" : Str),V.bl false)]))=H6 at a0 k6 f6
   refine #[(show 0<=sizeLine by decide),λdn J=>?_]
   have sN:=a_.new (o:=.lst []) J
   have a6:(upd H6 dn εP) dn=some 22e7:=ab
   have b1:dn≠rk:=λz=>by rw[z,a0] at J;cases J
   refine #[_,rfl,rk,ϖ,dx,_,rfl,sN _ _ a0,ϛ,T.A82,(by show (7:Nat) < 1000;decide),?_]
   generalize (upd H6 dn (.lst []))=H7 at sN a6
   have hi:∀b o,b≠rk->H3 b=some o->H7 b=some o:=λb o z e=>sN _ _ (k6 _ _ z (sS _ _ (k4 _ _ z e)))
   have up:∀b o,b≠rk→H3 b=some o→(upd H7 rk (HO.ins ϖ dx (DE "done" (V.ref dn) [ηR,ηQ,ηS,ιm,πo,πq,πm]))) b=some o:=λb o z e=>by rw[ae z];exact hi b o z e
   have b4:∀h∈hs,h≠rk:=λh hm z=>by
    have:=(hh h hm).1;rw[z,Y] at this
    show 8
   have a1:sl≠rk:=λz=>by rw[z,aw] at C;cases C
   have Z:H3 sl=none:=f4 _ C
   have G:H5 dn=none:=f6 _ J
   have a9:H4 dn=none:=sS.free G
   have a2:H3 dn=none:=f4 _ a9;refine q #[rk,D,sl,dn,ps,hs,p,s',l] _ rfl rfl rfl rfl (λb o z e=>up b o z (s3 _ _ (k2 _ _ z e))) #[#[dx,ab],up _ _ b0 g,lp,lh,λj b e=>?_,λj h e=>?_,#[[],by rw[ae b1];exact a6,rfl],(by rw[ae a1];exact(sN _ _ (k6 _ _ a1 U)).trans (by rw[Fu,NJ])),IG,l2,?_,p2,s2] υP
   ·obtain⟨dp,h,eh,hb⟩:=hp j b e
    refine #[dp,h,eh,up _ _ ζ6 hb];rw[z,Y] at hb
    have e:=DU hb
    injection e with e1 e2 e3
    exact absurd (show (3:Nat)=1 from congrArg Kv e3) ε
   ·have hm:=Ez e
    exact up _ _ (b4 h hm) (hh h hm).1
   ·have a8:∀b o,H3 b=some o->dn≠b:=λb o e z=>by rw[<- z,a2] at e;cases e
    have a7:∀b o,H3 b=some o->sl≠b:=λb o e z=>by rw[<- z,Z] at e;cases e
    have b6:dn≠sl:=λz=>by rw[z,U] at G;cases G
    show (dn :: D :: sl :: hs).Nodup
    refine HH.mpr #[λz=>?_,HH.mpr #[λz=>?_,HH.mpr #[λz=>a7 sl _ (hh sl z).1 rfl,nd]]]
    ·rcases DH.mp z with y | y
     ·exact a8 _ _ g y
     ·rcases DH.mp y with y | y
      ·exact b6 y
      ·exact a8 _ _ (hh dn y).1 rfl
    ·rcases DH.mp z with y | y
     ·exact a7 _ _ g y.symm
     ·exact(hh D y).2.2 rfl
   ·have hb:b∈(dn :: D :: sl :: hs):=hb
    rcases DH.mp hb with y | y
    ·rw[y];exact f2 _ (s3.free a2)
    ·rcases DH.mp y with y | y
     ·rw[y];exact f2 _ nD
     ·rcases DH.mp y with y | y
      ·rw[y];exact f2 _ (s3.free Z)
      ·exact f2 _ (hh b y).2.1
theorem d_.lst_ne {R:Rk} (h:ζ3) {b:Addr}{xs:δ} (hb:H b=some γV):b≠R.rk/\∀p∈R.ps,b≠p:=by
 refine #[λz=>?_,λp hp z=>?_]
 ·obtain⟨dx,h1⟩:=h.ins
  rw[<- z,hb] at h1
  cases h1
 ·obtain⟨i,hi⟩:=IV hp
  obtain⟨dp,l,_,h1⟩:=h.pl i p hi;rw[<- z,hb] at h1
  cases h1
theorem d_.told {R:Rk}{e':Nat}{ds:δ} (h:ζ3) (k:KB [R.dn] H H') (hd:H' R.dn=some (.lst ds)) (hl:ds.length=e'):d_ a H' R e' ss X:=by
 obtain⟨j,g,_⟩:=h.dn
 have ne:=h.lst_ne g
 show 152
 have k':∀b o,b≠R.dn->H b=some o->H' b=some o:=λb o n e=>k b o ϊW e;refine #[?_,k' _ _ (λz=>nd.1 (by rw[<- z];exact F0)) h.shelf,h.lp,h.lh,λi p ep=>?_,λi l el=>?_,#[ds,hd,hl],?_,h.ls,h.l8,h.nd,h.p8,h.s32]
 ·obtain⟨dx,h1⟩:=h.ins
  exact #[dx,k' _ _ (λz=>ne.1 εn) h1]
 ·obtain⟨dp,l,hl,h1⟩:=h.pl i p ep
  exact #[dp,l,hl,k' _ _ ρO h1]
 ·exact k' _ _ (λz=>nd.1 (by rw[<- z];exact Fv _ ώc)) ώU
 ·exact k' _ _ (λz=>nd.1 (by rw[<- z];exact Fv _ F0)) h.sl
def Ga (X:ηf) (i j:Nat) (o:εB):Nat->Nat->Option Int:=λi' j'=>if i'=i/\j'=j then o else X i' j'
theorem d_.laid {R:Rk}{l:Addr}{o:εB} (h:ζ3) (hl:R.hs[i]?=some l):d_ a Θq R e ss (Ga X i j o):=by
 have C:=h.hd i l hl
 have ne:=h.lst_ne C
 show 152
 have s:=HH.mp nd.2
 have g:=HH.mp s.2
 have lm:=Ez hl;refine #[?_,?_,h.lp,h.lh,λk p ep=>?_,λk l' el=>?_,?_,?_,h.ls,h.l8,h.nd,h.p8,h.s32]
 ·obtain⟨dx,h1⟩:=h.ins
  exact Θd
 ·rw[ae (λz=>s.1 (by rw[z];exact Fv _ lm))]
  exact h.shelf
 ·obtain⟨dp,l',D,h1⟩:=h.pl k p ep
  exact #[dp,l',D,by rw[ae ρO];exact h1]
 ·by_cases y:k=i
  ·subst y
   rw[hl] at el
   cases DU el;rw[ab,u0];show 334
   funext j'
   unfold Ga
   by_cases z:j'=j
   ·rw[if_pos z,if_pos #[rfl,z]]
   ·rw[if_neg z,if_neg (λw=>z w.2)]
  ·have nl:l'≠l:=λz=>by
    rw[z] at el
    have hk:=(ET.mp el).1
    have hi:=(ET.mp hl).1;rw[s_ hk] at el;rw[s_ hi] at hl;exact y ((KC (h₀:=hk) (h₁:=hi) g.2).mp ((DU el).trans (DU hl).symm))
   rw[ae nl,h.hd k l' el];show 334
   funext j'
   unfold Ga;rw[if_neg (λw=>y w.1)]
 ·obtain⟨ds,h1,h2⟩:=h.dn
  exact #[ds,by rw[ae (λz=>nd.1 (by rw[z];exact Fv _ (Fv _ lm)))];exact h1,h2]
 ·rw[ae (λz=>g.1 (by rw[z];exact lm))];exact h.sl
theorem d_.isLst {R:Rk} (h:ζ3) {b:Addr} (hb:b∈R.lists):∃xs,H b=some 10e9:=by
 have hb:b∈(R.dn :: R.sh :: R.sl :: R.hs):=hb;rcases DH.mp hb with y | y
 ·obtain⟨ds,h1,_⟩:=h.dn
  exact #[ds,by rw[y];exact h1]
 ·rcases DH.mp y with y | y
  ·exact #[_,by rw[y];exact h.shelf]
  ·rcases DH.mp y with y | y
   ·exact #[_,by rw[y];exact h.sl]
   ·obtain⟨i,hi⟩:=IV y
    exact #[_,h.hd i b hi]
theorem d_.at {R:Rk} (h:ζ3) (hi:i < R.P):∃p dp l,R.ps[i]?=some p/\R.hs[i]?=some l/\H p=some (.ins a.C_Plank dp (hf l))/\H l=some 163e0:=by
 have ep:R.ps[i]?=some (R.ps[i]'(by rw[h.lp];exact hi)):=s_ (by rw[h.lp];exact hi)
 obtain⟨dp,l,hl,h1⟩:=h.pl i _ ep;exact #[_,dp,l,ep,hl,h1,h.hd i l hl]
inductive kj (a:A_) (vs:δ) (H:Hp) (Q:VK) (E_3:XK):Prop
 | mk:∀(R:Rk) (e i:Nat) (ss:List V) (X:Nat->Nat->Option Int),vs=[.ref R.rk,.int i]->d_ a H R e ss X->i < R.P->Q .non H->kj a vs H Q E_3
theorem dY (T:μ):C_ P wo K mg base 1 a.f83 ["self", "plank"] (kj a):=by
 refine T.x83.F.okA (k:=0) jG ξ
 ·obtain⟨R,e,i,ss,X,rfl,hR,hi,q⟩:=h
  show 153
  show 0
  show 62
  show 3
  show 54
  refine #[_,rfl,_,rfl,R.rk,_,_,_,_,rfl,h1,ϛ,T.A74,qC R,_,_,rfl,rfl,_,rfl,?_];show 63
inductive jA (a:A_) (vs:δ) (H:Hp) (Q:VK) (E_3:XK):Prop
 | mk:∀(R:Rk) (e j:Nat) (ss:List V) (X:Nat->Nat->Option Int),vs=[.ref R.rk,.int j]->d_ a H R e ss X->j < R.S->Q .non H->jA a vs H Q E_3
theorem dO (T:μ):C_ P wo K mg base 1 a.f84 ["self", "stripe"] (jA a):=by
 refine T.x84.F.okA (k:=0) i3 ξ
 ·obtain⟨R,e,i,ss,X,rfl,hR,hi,q⟩:=h
  show 153
  show 0
  show 62
  show 3
  show 54
  refine #[_,rfl,_,rfl,R.rk,_,_,_,_,rfl,h1,ϛ,T.A81,og R,_,_,rfl,rfl,_,rfl,?_];show 63
inductive lM (a:A_) (vs:δ) (H:Hp) (Q:VK) (E_3:XK):Prop
 | mk:∀(R:Rk) (e i j:Nat) (ss:List V) (X:Nat->Nat->Option Int),vs=[.ref R.rk,.int i,.int j]->d_ a H R e ss X->i < R.P->j < R.S->Q .non H->lM a vs H Q E_3
theorem cS (T:μ):C_ P wo K mg base 2 a.f85 ["self", "plank", "stripe"] (lM a):=by
 refine T.x85.F.okA (k:=1) j7 ξ
 ·obtain⟨R,e,i,j,ss,X,rfl,hR,hi,hj,q⟩:=h
  show 31
  show 0
  exists xc ΓB
  exists xl ΓC
  refine νh;exact #[_,rfl,R.rk,dx,_,rfl,h1,rfl,_,rfl,R,e,j,ss,X,rfl,hR,hj,q]
inductive zu (a:A_) (vs:δ) (H:Hp) (Q:VK) (E_3:XK):Prop
 | mk:∀(R:Rk) (e i j:Nat) (ss:List V) (X:Nat->Nat->Option Int),vs=[.ref R.rk,.int i,.int j]->d_ a H R e ss X->e < 9000->i < R.P->j < R.S->(∀H',KB [R.dn] H H'->d_ a H' R (e+1) ss X->Q (ov (X i j)) H')->zu a vs H Q E_3
theorem tZ (T:μ):C_ P wo K mg base 3 a.f76 ["self", "plank", "stripe"] (zu a):=by
 refine T.x76.F.okA (k:=2) tH ξ
 ·obtain⟨R,e,i,j,ss,X,rfl,hR,he,hi,hj,q⟩:=h
  show 31;obtain⟨ds,C,O⟩:=id hR.dn
  show 0
  exists xc πS
  show 1;refine xi ϊX ?_
  show 3
  show 2
  exists xc (aF (cu Hr Hs Hv aZ γ1 (aa (bS (aa eV ζS)) ac)))
  show 1;refine xi (aV ωX) ?_
  exists xl (ax (av ζZ η7 T.x58.me (mB T) hr.u T.x58.b .nil aj γH))
  show 2
  show 26
  refine πX;refine Δo;show 51
  refine #[_,rfl,R.rk,_,_,_,_,rfl,h1,ϛ,T.A82,wq R,.inl #[rfl,_,b_.of C],?_];refine #[_,rfl,_,rfl,(show 3<=sizeLine by decide),λtp D=>#[R.dn,_,_,rfl,rfl,a_.new D _ _ C,Fg (by omega:ύ2) ε,?_]]
  have kb:KB [R.dn] H 117e1:=λb o n e=>by
   rw[ae ρC]
   exact a_.new D _ _ e
  have J:117e1 R.dn=some (.lst (ds++[V.ref tp])):=ab
  have g:=hR.told (e':=e+1) kb J (by rw[Fn,O];rfl)
  generalize (upd (upd H tp (.tup [V.str (EM "look"),V.int (i:Int),V.int (j:Int)])) R.dn (.lst (ds++[V.ref tp])))=H1 at kb g
  obtain⟨U,G⟩:=id ηH;obtain⟨p,dp,l,ep,el,hp,hl⟩:=g.at hi;refine #[_,rfl,R.rk,_,_,_,_,rfl,G,ϛ,ηL,eM R,_,rfl,R.sh,_,_,_,rfl,rfl,b_.of g.shelf,aB ζf,p,dp,_,rfl,hp,rfl,_,rfl,p,_,rfl,_,rfl,?_];show 92;exact #[_,rfl,R.rk,_,_,_,_,rfl,G,ϛ,ηL,eM R,_,rfl,R.sh,_,_,_,rfl,rfl,b_.of g.shelf,aB ζf,p,dp,_,rfl,hp,rfl,_,rfl,p,l,δK,dp,_,_,j,_,rfl,hp,η7,T.A70,rfl,hl,xD hj,q _ kb g]
inductive zw (a:A_) (vs:δ) (H:Hp) (Q:VK) (E_3:XK):Prop
 | mk:∀(R:Rk) (e:Nat) (ss:List V) (X:Nat->Nat->Option Int),vs=[.ref R.rk]->d_ a H R e ss X->Q .non H->zw a vs H Q E_3
theorem cT (T:μ):C_ P wo K mg base 1 a.f80 ["self"] (zw a):=by
 refine T.x80.F.okA (k:=0) j5 ξ
 ·obtain⟨R,e,ss,X,rfl,hR,q⟩:=h
  show 31
  show 0
  show 1;refine xi (PW.pt (mL Φc (ky (am bn γ1 ai ψ)))) ?_
  exists xl ϋP
  show 27;refine xi ϊX ?_
  show 3
  show 2;show 335
  show 51
  refine Δo;exact c_ δA ζ7
inductive wt (a:A_) (vs:δ) (H:Hp) (Q:VK) (E_3:XK):Prop
 | mk:∀(R:Rk) (e:Nat) (ss:List V) (X:Nat->Nat->Option Int) (t:Addr),vs=[.ref R.rk,.ref t]->d_ a H R e ss X->e < 9000->(∀H',KB [R.dn] H H'->d_ a H' R (e+1) ss X->Q .non H')->wt a vs H Q E_3
theorem fu (T:μ):C_ P wo K mg base 1 a.f81 ["self", "event"] (wt a):=by
 refine T.x81.F.okA (k:=0) rp ξ
 ·obtain⟨R,e,ss,X,t,rfl,hR,he,q⟩:=h
  show 31;obtain⟨ds,g,j⟩:=id hR.dn
  show 0
  show 1;refine xi Φc ?_
  exists xl (ym ο ai CA)
  show 2
  exists xl ΔO
  show 335
  refine #[_,rfl,R.rk,_,_,_,_,rfl,h1,ϛ,T.A82,wq R,.inl #[rfl,_,b_.of g],_,rfl,R.dn,_,_,rfl,rfl,g,Fg (by omega:ύ2) ε,?_]
  have kb:KB [R.dn] H (upd H R.dn (.lst (ds++[V.ref t]))):=λb o n e=>by
   rw[ae ρC]
   exact e
  exact q _ kb (hR.told kb ab (by rw[Fn,j];rfl))
inductive Bq (a:A_) (vs:δ) (H:Hp) (Q:VK) (E_3:XK):Prop
 | mk:∀(R:Rk) (e i j:Nat) (ss:List V) (X:Nat->Nat->Option Int) (o:Option Int),vs=[.ref R.rk,.int i,.int j,ov o]->d_ a H R e ss X->e < 9000->i < R.P->j < R.S->(∀H',KB (R.dn :: R.hs) H H'->d_ a H' R (e+1) ss (Ga X i j o)->Q .non H')->Bq a vs H Q E_3
theorem u3 (T:μ):C_ P wo K mg base 3 a.f77 ["self", "plank", "stripe", "block"] (Bq a):=by
 refine T.x77.F.okA (k:=2) uV ξ
 ·obtain⟨R,e,i,j,ss,X,o,rfl,hR,he,hi,hj,q⟩:=h
  show 154
  show 0
  exists xc πS
  exists xc ρ3
  show 1;refine xi (aV (aC y9 rfl T.A76 υJ (aa ζZ (aa (bx (v:=.ref ιq) rfl T.m_LostPlank rfl) ac)))) ?_
  show 3
  show 2
  exists xc (aF (av ζZ η7 T.x59.me (oa T) hr.u T.x59.b .nil aj ω8))
  exists xl ωY
  refine πX;refine ρe;refine #[_,rfl,R.rk,_,_,_,_,rfl,h1,ϛ,ηL,eM R,_,rfl,R.sh,_,_,_,rfl,rfl,b_.of μA,aB ζf,_,_,_,_,rfl,T.ty_Plank.of η7 hp,T.kn_Plank_LostPlank,_,rfl,?_];show 51
  refine #[_,rfl,R.rk,_,_,_,_,rfl,h1,ϛ,ηL,eM R,_,rfl,R.sh,_,_,_,rfl,rfl,b_.of μA,aB ζf,p,dp,_,rfl,hp,rfl,_,rfl,_,rfl,p,l,δK,dp,_,_,j,_,rfl,hp,η7,T.A70,rfl,hl,by rw[uZ];exact hj,?_]
  have g:=hR.laid (j:=j) (o:=o) el
  have kl:KB (R.dn :: R.hs) H 131e8:=λb o n e=>by
   rw[ae (λz=>n (by rw[z];exact Fv _ (Ez el)))]
   exact e
  generalize (upd H l (.lst ((aU R.S (X i)).set j (ov o))))=H1 at g kl;obtain⟨J,G⟩:=id ηH;refine #[_,rfl,R.rk,J,_,rfl,G,rfl,_,rfl,_,rfl,(show 3<=sizeLine by decide),λtp D=>?_]
  have st:=a_.new (o:=.tup [V.str (EM "lay"),V.int (i:Int),V.int (j:Int)]) D
  refine #[R,e,ss,Ga X i j o,tp,rfl,g.same st,he,λH2 k2 C=>?_];exact q H2 ((kl.same st).trans (k2.more λb hb=>by rw[Eu.mp hb];exact F0)) C
theorem d_.slate {R:Rk}{ss':δ} (h:ζ3) (hl:ss'.length=R.L):d_ a (upd H R.sl (.lst ss')) R e ss' X:=by
 have ne:=h.lst_ne h.sl
 show 152
 have g:=HH.mp nd.2
 have j:=HH.mp g.2;refine #[?_,?_,h.lp,h.lh,λi p ep=>?_,λi l el=>?_,?_,ab,hl,h.l8,h.nd,h.p8,h.s32]
 ·obtain⟨dx,h1⟩:=h.ins
  exact Θd
 ·rw[ae (λz=>g.1 (by rw[z];exact F0))];exact h.shelf
 ·obtain⟨dp,l,hl,h1⟩:=h.pl i p ep
  exact #[dp,l,hl,by rw[ae ρO];exact h1]
 ·rw[ae (λz=>j.1 (by rw[<- z];exact Ez el))];exact h.hd i l el
 ·obtain⟨ds,h1,h2⟩:=h.dn
  exact #[ds,by rw[ae (λz=>nd.1 (by rw[z];exact Fv _ F0))];exact h1,h2]
inductive iO (a:A_) (vs:δ) (H:Hp) (Q:VK) (E_3:XK):Prop
 | mk:∀(R:Rk) (e i j:Nat) (ss:List V) (X:Nat->Nat->Option Int),vs=[.ref R.rk,.int i,.int j]->d_ a H R e ss X->i < R.P->j < R.S->Q (.bl true) H->iO a vs H Q E_3
theorem rC (T:μ):C_ P wo K mg base 3 a.f73 ["self", "plank", "stripe"] (iO a):=by
 refine T.x73.F.okA (k:=2) rn ξ
 ·obtain⟨R,e,i,j,ss,X,rfl,hR,hi,hj,q⟩:=h
  show 154
  show 0
  exists xc πS
  exists xl (ax ωX)
  refine πX;exact #[_,rfl,R.rk,_,_,_,_,rfl,h1,ϛ,ηL,eM R,_,rfl,R.sh,_,_,_,rfl,rfl,b_.of μA,aB ζf,p,dp,_,rfl,hp,rfl,_,rfl,p,_,rfl,q]
inductive gG (a:A_) (vs:δ) (H:Hp) (Q:VK) (E_3:XK):Prop
 | mk:∀(R:Rk) (e i:Nat) (ss:List V) (X:Nat->Nat->Option Int),vs=[.ref R.rk,.int i]->d_ a H R e ss X->i < R.P->Q (.int 1) H->gG a vs H Q E_3
theorem om (T:μ):C_ P wo K mg base 2 a.f72 ["self", "plank"] (gG a):=by
 refine T.x72.F.okA (k:=1) nO ξ
 ·obtain⟨R,e,i,ss,X,rfl,hR,hi,q⟩:=h
  show 154
  show 0
  exists xc ΓB
  exists xl (ax (bi ζZ η7 T.x57.me (pf T) hr.u T.x57.b .nil aj))
  refine νh;exact #[_,rfl,R.rk,_,_,_,_,rfl,h1,ϛ,ηL,eM R,_,rfl,R.sh,_,_,_,rfl,rfl,b_.of μA,aB ζf,p,dp,_,rfl,hp,rfl,p,rfl,q]
inductive fg (a:A_) (vs:δ) (H:Hp) (Q:VK) (E_3:XK):Prop
 | mk:∀(R:Rk) (e:Nat) (ss:List V) (X:Nat->Nat->Option Int),vs=[.ref R.rk]->d_ a H R e ss X->Q (.bl true) H->fg a vs H Q E_3
theorem kP (T:μ):C_ P wo K mg base 1 a.f74 ["self"] (fg a):=by
 refine T.x74.F.okA (k:=0) kL ξ
 ·obtain⟨R,e,ss,X,rfl,hR,q⟩:=h
  show 31
  show 0
  exists xl (ax (xR γ1))
  exact #[_,rfl,R.rk,_,_,_,_,rfl,h1,ϛ,T.A64,pi R,_,rfl,q]
inductive dZ (a:A_) (vs:δ) (H:Hp) (Q:VK) (E_3:XK):Prop
 | mk:∀(R:Rk) (e i:Nat) (ss:List V) (X:Nat->Nat->Option Int),vs=[.ref R.rk,.int i]->d_ a H R e ss X->i < R.L->Q .non H->dZ a vs H Q E_3
theorem fh (T:μ):C_ P wo K mg base 1 a.f82 ["self", "slot"] (dZ a):=by
 refine T.x82.F.okA (k:=0) j6 ξ
 ·obtain⟨R,e,i,ss,X,rfl,hR,hi,q⟩:=h
  show 153
  show 0
  show 62
  show 3
  show 54
  refine #[_,rfl,_,rfl,R.rk,_,_,_,_,rfl,h1,ϛ,T.A61,mC R,_,_,rfl,rfl,_,rfl,?_];show 63
theorem qD {R:Rk} (hR:ζ3) (s:a_ H H2):d_ a Φd R e (ss.set i v) X/\KB [R.dn,R.sl] H Φd :=
 ⟨(hR.same s).slate (by rw[HQ];exact hR.ls),λb o n z=>by
  rw[ae (λy=>n (by rw[y];exact Fv _ F0))]
  exact s _ _ z⟩
inductive jB (a:A_) (vs:δ) (H:Hp) (Q:VK) (E_3:XK):Prop
 | mk:∀(R:Rk) (e i st:Nat) (ss xs:List V) (pr:Addr) (X:Nat->Nat->Option Int),vs=[.ref R.rk,.int i,.int st,.ref pr]->d_ a H R e ss X->i < R.L->st < R.S->e < 9000->H pr=some (.lst xs)->(∀H' v,KB [R.dn,R.sl] H H'->d_ a H' R (e+1) (ss.set i v) X->Q .non H')->jB a vs H Q E_3
theorem t8 (T:μ):C_ P wo K mg base 2 a.f78 ["self", "slot", "stripe", "pairs"] (jB a):=by
 refine T.x78.F.okA (k:=1) tI ξ
 ·obtain⟨R,e,i,st,ss,xs,pr,X,rfl,hR,hi,O,he,Z,q⟩:=h
  show 31
  show 0
  exists xc ΓD
  exists xc ΓC
  exists xc ρ3
  exists xc (cG (bS (aa Ω (aa ρd ac))) νI)
  exists xl ωY
  refine νh;refine #[_,rfl,R.rk,dx,_,rfl,h1,rfl,_,rfl,R,e,st,ss,X,rfl,hR,O,?_];refine ρe;refine #[_,rfl,_,rfl,pr,_,rfl,.inl (b_.of Z),λpl G=>Θo]
  have g:=(a_.new (o:=.lst xs) G).trans (a_.new (o:=.tup [V.int (st:Int),V.ref pl]) nt);generalize (upd (upd H pl (.lst xs)) t (.tup [V.int (st:Int),V.ref pl]))=H2 at g;refine #[_,rfl,R.rk,_,_,_,_,rfl,g _ _ h1,ϛ,T.A63,mD R,_,rfl,R.sl,_,_,i,rfl,rfl,g _ _ hR.sl,cJ Ωj,?_]
  obtain⟨j,C⟩:=qD (i:=i) (v:=.ref t) hR g;generalize (upd H2 R.sl (.lst (ss.set i (.ref t))))=H3 at j C;obtain⟨U,D⟩:=id j.ins;refine #[_,rfl,R.rk,U,_,rfl,D,rfl,_,rfl,_,rfl,(show 3<=sizeLine by decide),λev Y=>?_]
  have s4:=a_.new (o:=.tup [V.str (EM "note"),V.int (i:Int),V.int (st:Int)]) Y
  exact #[R,e,_,X,ev,rfl,j.same s4,he,λH5 k5 J=>q H5 _ ((C.same s4).trans (k5.more λb hb=>by rw[Eu.mp hb];exact F0)) J]
inductive hE (a:A_) (vs:δ) (H:Hp) (Q:VK) (E_3:XK):Prop
 | mk:∀(R:Rk) (e i:Nat) (ss:List V) (X:Nat->Nat->Option Int),vs=[.ref R.rk,.int i]->d_ a H R e ss X->i < R.L->e < 9000->(∀H',KB [R.dn,R.sl] H H'->d_ a H' R (e+1) (ss.set i .non) X->Q .non H')->hE a vs H Q E_3
theorem pj (T:μ):C_ P wo K mg base 2 a.f79 ["self", "slot"] (hE a):=by
 refine T.x79.F.okA (k:=1) o5 ξ
 ·obtain⟨R,e,i,ss,X,rfl,hR,hi,he,q⟩:=h
  show 31
  show 0
  exists xc ΓD
  exists xc ρ3
  exists xc (cG aO νI)
  exists xl (aF (av ο ϛ T.x81.me (fu T) hr.u T.x81.b .nil aj (aa (bS (aa eV γ9)) ac)))
  refine νh;refine ρe;refine #[_,rfl,R.rk,_,_,_,_,rfl,h1,ϛ,T.A63,mD R,_,rfl,R.sl,_,_,i,rfl,rfl,hR.sl,cJ Ωj,?_]
  obtain⟨g,j⟩:=qD (i:=i) (v:=.non) hR ϟ;generalize (upd H R.sl (.lst (ss.set i .non)))=H3 at g j;obtain⟨G,C⟩:=id ηH;refine #[_,rfl,R.rk,G,_,rfl,C,rfl,_,rfl,(show 2<=sizeLine by decide),λev J=>?_]
  have s4:=a_.new (o:=.tup [V.str (EM "strike"),V.int (i:Int)]) J
  exact #[R,e,_,X,ev,rfl,g.same s4,he,λH5 k5 D=>q H5 ((j.same s4).trans (k5.more λb hb=>by rw[Eu.mp hb];exact F0)) D]
inductive gH (a:A_) (vs:δ) (H:Hp) (Q:VK) (E_3:XK):Prop
 | mk:∀(R:Rk) (e:Nat) (X:Nat->Nat->Option Int),vs=[.ref R.rk]->d_ a H R e (Ee R.L .non) X->(∀D H',a_ H H'->H' D=some (.lst [])->Q (.ref D) H')->gH a vs H Q E_3
theorem oo (T:μ):C_ P wo K mg base 1 a.f75 ["self"] (gH a):=by
 refine T.x75.F.okA (k:=0) Mw ξ
 ·obtain⟨R,e,X,rfl,hR,q⟩:=h
  show 31
  show 0
  exists xc (au (i:=1) Mw.nd rfl 0e3 η6)
  show 1;refine xf ϗ rfl (fX rfl T.A33 πi) (cO rfl (aK (ar (i:=2) Mw.nd rfl ζ) (aK (ar (i:=3) Mw.nd rfl ζ) bM))) ?_;show 7;refine xi (am bV ϊ aO ψ) ?_
  exists xl (aF (cu Hr Hs Hv aZ Θ (aa (bS (aa Ω (aa νa (aa (br bC rfl T.A12 γu ΘZ) ac)))) ac)))
  show 17
  exists xl (ax Θ)
  refine #[(show 0<=sizeLine by decide),λD nD=>?_]
  have sD:=a_.new (o:=.lst []) nD
  have hD:(upd H D εP) D=some 22e7:=ab;generalize (upd H D (.lst []))=H1 at sD hD;show 4
  refine #[_,rfl,R.rk,_,_,_,_,rfl,sD _ _ h1,ϛ,T.A63,mD R,R.sl,_,rfl,b_.of (sD _ _ hR.sl),?_];refine let I_:Nat->L2.St->Hp->Prop:=λk σ H'=>L2.E2 λ(v2 v3:Option V)=>L2.A3 (σ=[some ηU,some γ4,v2,v3]) δZ (H' D=some εP);iY I_ #[none,none,rfl,sD,hD] ?_ ?_ ?_
  ·rintro i σ H' _ ⟨_,_,_,s',_⟩
   exact b_.of (s' _ _ hR.sl)
  ·rintro k u T' σ H2 hk hu nT ⟨v2,v3,rfl,s2,j⟩
   have st:=a_.new (o:=.tup [V.int (k:Nat),u]) nT;show 49
   have s3:=s2.trans st
   have g:=st _ _ j;generalize (upd H2 T' (.tup [V.int (k:Nat),u]))=H3 at st s3 g;show 4
   show 48
   cases Rv (Ez hu);exact c_ δA (λ_=>#[_,_,rfl,s3,g])
  ·rintro σ H' ⟨v2,v3,rfl,s',C⟩
   exact #[_,rfl,q D H' s' C]
theorem qE (h:ξJ):45e2[i]?=some 145e5:=by
 show 299
def JW (d n st:Nat) (tp:Addr):List 14e6:=[("data",.int d),("planks",.int n),("stripes",.int st),("size",.int ((d * st:Nat):Int)),("turns",.ref tp)]
theorem mE (d n st:Nat) (tp:Addr):(JW d n st tp).lookup ("data" : Str)=some (.int d):=rfl
theorem i9 (d n st:Nat) (tp:Addr):(JW d n st tp).lookup ("planks" : Str)=some 28e2:=rfl
theorem lN (d n st:Nat) (tp:Addr):(JW d n st tp).lookup ("stripes" : Str)=some 16e1:=rfl
theorem t9 (d n st:Nat) (tp:Addr):(JW d n st tp).lookup ("size" : Str)=some (.int ((d * st:Nat):Int)):=rfl
theorem qF (d n st:Nat) (tp:Addr):(JW d n st tp).lookup ("turns" : Str)=some (.ref tp):=rfl
def b7 (n:Nat):List Int:=(p_ n).map λi:Nat=>(i:Int)
theorem xE (n:Nat):(b7 n).length=n:=by unfold b7;rw[o_,Eo]
theorem CU (n:Nat):((p_ ((n:Int) - 0).toNat).map λi:Nat=>V.int (0+(i:Int)))=(b7 n).map V.int:=by
 have e:((n:Int) - 0).toNat=n:=by omega
 unfold b7;rw[e,Fa]
 apply HR
 intro i _
 show V.int (0+(i:Int))=V.int (i:Int)
 rw[Oe]
theorem Br {ns:γz} (h:b_ K H p δC):l_ K H γE 160e5:=by
 rw[l_];exact #[p,_,rfl,h,sw _]
theorem Nz (ns:γz):Fc ϊ3<=60:=by
 rw[Fc,vC]
 decide
inductive ua (vs:δ) (H:Hp) (Q:VK) (E_3:XK):Prop
 | mk:∀d n st:Nat,vs=[.int d,.int n,.int st]->2<=n->n<=8->1<=d->d < n->n<=d+2->1<=st->st<=32->Q .non H->ua vs H Q E_3
theorem oq (T:μ):C_ P wo K mg base 1 a.f63 ["data", "planks", "stripes"] ua:=by
 refine T.x63.F.okA (k:=0) nM ξ
 ·obtain⟨d,n,st,rfl,h1,h2,h3,h4,h5,h6,h7,q⟩:=h
  show 0
  show 1;refine xi (PW.pt (bb (am bn Θ (bx (v:=.int 2) rfl T.A69 ϒ) ψ) (ba (am bU Θ (bx (v:=.int 8) rfl T.A65 ϒ) ψ)))) ?_
  show 3
  show 148;refine xi (PW.pt (bb (am bn ο ai ψ) (bb (am dH ο Θ ψ) (ba (am bU (ay eY Θ ο) (bx (v:=.int 2) rfl T.Ac6 ϒ) ψ))))) ?_
  show 3
  show 27;refine xi (PW.pt (bb πw (ba (am bU Ω Ξb ψ)))) ?_
  show 3
  show 2;show 16
  show 16
  show 16
  refine #[_,rfl,_,rfl,_,_,rfl,rfl,_,rfl,?_];show 155
  refine #[_,rfl,_,rfl,_,_,rfl,rfl,_,_,rfl,rfl,_,rfl,?_];show 155
  show 16
  show 16
  exact q
inductive wu (K:n_) (vs:δ) (H:Hp) (Q:VK) (E_3:XK):Prop
 | mk:∀(n m:Nat) (L:Addr) (ps:List Addr) (row:Nat->List Int),vs=[.int n,.ref L]->n<=8->1<=m->m<=16->H L=some (.lst (ps.map V.ref))->(x_ H ps m (λj=>(row j).map δN))->ΞB->(∀H',a_ H H'->Q .non H')->wu K vs H Q E_3
theorem pq (T:μ):C_ P wo K mg base 1 a.f64 ["planks", "turns"] (wu K):=by
 refine T.x64.F.okA (k:=0) OS ξ
 ·obtain⟨n,m,L,ps,row,rfl,h8,h1,R,hL,j,g,q⟩:=h
  have el:(ps.map Ϙ).length=m:=by rw[o_,j.len]
  show 0
  show 1;refine xi (PW.pt (bb (am bn νz ai ψ) (ba (am bU νz (bx (v:=.int 16) rfl T.Ab2 ϒ) ψ)))) ?_
  show 3
  show 27;refine xf ϗ rfl 21e2 (ar (i:=2) OS.nd rfl ζ) ?_;show 7;refine xi (am ώV (aC uT rfl T.A19 KE γH) (br (jg rfl) rfl T.A12 γu (aa (br sE rfl T.A07 γu ηW) ac)) ψ) ?_
  show 3
  show 17;show 336
  show 336
  refine #[_,rfl,L,rfl,θw,let I_:Nat->L2.St->Hp->Prop:=λi σ H'=>L2.E1 λ(v2:Option V)=>L2.A2 (σ=[some ζI,some η5,v2]) δZ;bR (K:=K) (a:=L) (xs:=ps.map Ϙ) I_ #[none,rfl,a_.refl _] ?_ ?_ ?_]
  ·rintro i σ H' _ ⟨v2,_,sm⟩
   exact b_.of (sm _ _ hL)
  ·rintro i v σ H' hv ⟨v2,rfl,sm⟩
   rw[DO] at hv
   cases hp:ps[i]? with
   | none=>rw[hp] at hv;cases hv
   | some p =>
    rw[hp] at hv
    cases hv
    have hi:i < m:=by rw[<- j.len];exact(ET.mp hp).1
    have J:=sm _ _ (j.on i p hp)
    have O:(row i).length=n:=by rw[(g i hi).length_eq,xE]
    refine #[_,rfl,p,row i,rfl,b_.of J,by omega,λl D nl G hs=>?_]
    have e1:D=b7 n:=sH G hs ψK;refine #[_,rfl,n,rfl,λr nr=>#[r,0,n,rfl,ab,by decide,by decide,by omega,by omega,λl2 C=>?_]]
    subst e1;rw[CU]
    have sF:=((a_.new (o:=.lst ϋQ) nl).trans (a_.new (o:=.ext (fP r 0 n)) nr)).trans (a_.new (o:=.lst ϋQ) C);refine #[_,_,Br (b_.of (((a_.new nr).trans (a_.new C)) _ _ ab)),Br (b_.of ab),rfl,rfl,ϒ,Nz _,_,rfl,?_]
    show if (!Ed _ _)=true then _ else _
    rw[gj];exact Io #[_,rfl,sm.trans sF]
  ·rintro σ H' ⟨v2,rfl,sm⟩
   exact q _ sm
inductive lO (a:A_) (vs:δ) (H:Hp) (Q:VK) (E_3:XK):Prop
 | mk:∀(p dx L:Addr) (d n st m:Nat) (ps:List Addr) (row:Nat->List Int),vs=[.ref p,.int d,.int n,.int st,.ref L]->H p=some (.ins a.C_Shape dx [])->2<=n->n<=8->1<=d->d < n->n<=d+2->1<=st->st<=32->1<=m->m<=16->H L=some (.lst (ps.map V.ref))->(x_ H ps m (λj=>(row j).map δN))->ΞB->(∀tp qs H',(∀b o,b≠p->H b=some o->H' b=some o)->H' p=some Φ0->H' tp=some τz->x_ H' qs m (λj=>(row j).map δN)->(∀q∈qs,H q=none)->H tp=none->tp∉qs->Q .non H')->lO a vs H Q E_3
theorem rD (T:μ):C_ P wo K mg base 2 a.f65 ["self", "data", "planks", "stripes", "turns"] (lO a):=by
 refine T.x65.F.okA (k:=1) rm ξ
 ·obtain⟨p,dx,L,d,n,st,m,ps,row,rfl,hp,h1,h2,h3,h4,h5,h6,h7,h8,h9,hL,D,U,q⟩:=h
  show 0
  exists xc (aF (aH (oq T) hr.u rfl T.x63.m T.x63.k T.x63.b .nil aj νw))
  exists xc (aF (aH (pq T) hr.u rfl T.x64.m T.x64.k T.x64.b .nil aj ΨK))
  show 38
  show 61
  exists xc τt
  exists xc (aM ο (ay cH Θ ϊ) rfl)
  exists xl (aM ο (aS (g_.of (cap:=[]) (own:=["turn"]) γg) rfl (aL γ6) θd γ5 Γc) rfl)
  refine #[_,rfl,_,rfl,_,rfl,d,n,st,rfl,h1,h2,h3,h4,h5,h6,h7,?_];refine #[_,rfl,_,rfl,n,m,L,ps,row,rfl,h2,h8,h9,hL,D,U,λH1 s1=>?_];refine #[_,rfl,_,rfl,p,γs,dx,_,rfl,s1 _ _ hp,γk,T.A55,ε,?_]
  refine #[_,rfl,_,rfl,p,γs,dx,_,rfl,ab,γk,T.A60,η9,?_]
  refine #[_,rfl,_,rfl,p,γs,dx,_,rfl,ab,γk,T.A66,ηa,?_]
  refine #[_,rfl,_,rfl,_,_,rfl,rfl,.inl εZ,_,rfl,p,γs,dx,_,rfl,ab,γk,T.A77,ιH,?_]
  show 11;rw[aP,aP,aP]
  have ef:DE "size" (.int ((d:Int) * (st:Int))) (DE "stripes" (.int (st:Int)) (DE "planks" 65e3 (DE "data" (.int (d:Int)) [])))=[ψU,ψT,ψS,ψR]:=by
   rw[Ma];rfl
  rw[ef]
  have ad:L≠p:=λz=>by rw[z,hp] at hL;cases hL
  have an:p∉ps:=λz=>by
   obtain⟨j,hj,e⟩:=Jz z
   have:=D.on j p ό9
   rw[hp] at this
   show 8
  have R:=(D.same s1).upd (o:=.ins γs dx [ψU,ψT,ψS,ψR]) an
  have O:56e4 L=some 54e3:=by rw[ae ad];exact s1 _ _ hL
  have C:56e4 p=some (.ins γs dx [ψU,ψT,ψS,ψR]):=ab
  have k2:∀b o,b≠p→H b=some o→56e4 b=some o:=λb o z e=>by rw[ae z];exact s1 _ _ e
  have J:∀b,56e4 b=none→H b=none:=λb e=>by
   have z:b≠p:=λz=>by rw[z,ab] at e;cases e
   show 156;exact s1.free e
  generalize upd H1 p _=H2 at R O C k2 J;refine #[_,rfl,L,rfl,υK,λtp G=>?_]
  have el:(ps.map Ϙ).length=m:=by rw[o_,D.len]
  refine m4 (xs:=ps.map Ϙ) (row:=λj=>(row j).map δN) (cs:=[]) ψj G rfl (by rw[el];exact DK h9 ε) (λi x H3 R3 hx s3 hR=>?_) (λqs H3 s3 hD g hf hd=>?_)
  ·rw[DO] at hx
   cases hq:ps[i]? with
   | none=>rw[hq] at hx;cases hx
   | some q =>
    rw[hq] at hx
    cases hx;exact #[_,rfl,q,_,rfl,.inl (b_.of (s3 _ _ (R.on i q hq))),λl nl=>hR l _ nl (a_.new nl) ab]
  ·rw[el] at g
   refine #[_,rfl,p,γs,dx,_,rfl,s3 _ _ C,γk,T.A75,νH,?_]
   have Z:p∉qs:=λz=>by have:=hf p z;rw[C] at this;show 8
   have Y:tp≠p:=λz=>by rw[z,C] at G;cases G
   refine q tp qs _ όn ab ?_ (g.upd Z) (λq' z=>J q' (hf q' z)) (J tp G) hd
   ·rw[ae z]
    show 318
   ·rw[ae Y]
    exact hD
def ca (n:Nat) (sh:Int):List Int:=(p_ n).map λ(p:Nat)=>((p:Int)+sh) % (n:Int)
inductive ow (vs:δ) (H:Hp) (Q:VK) (E_3:XK):Prop
 | mk:∀(n:Nat) (sh:Int),vs=[.int n,.int sh]->2<=n->n<=8->(∀D H',H D=none->a_ H H'->H' D=some (.lst ((ca n sh).map V.int))->Q (.ref D) H')->ow vs H Q E_3
theorem ub (T:μ):C_ P wo K mg base 1 a.f61 ["planks", "shift"] ow:=by
 refine T.x61.F.okA (k:=0) tF ξ
 ·obtain⟨n,sh,rfl,h2,h8,q⟩:=h
  show 142
  show 0
  exists xl (ax (aS ΔP rfl 148e1 δz γ5 (λ_ _ _ _ _=>by exact(ay bd (ay aW Ω Θ) ο))))
  refine ρh
  have ej:((n:Int)).toNat=n:=Fu n;rw[ej];refine lg (n:=n) (f:=λj=>.int (((j:Int)+sh) % (n:Int))) (cs:=[some ζI,some (.int sh)]) nD rfl 92e3 ΨL (λH1 sm hD=>q D H1 nD sm ?_)
  ·exact #[_,rfl,_,rfl,_,_,rfl,rfl,_,rfl,_,_,rfl,rfl,p0 hp,hR _ ϟ]
  ·rw[hD]
   unfold ca;rw[Fa];rfl
inductive lP (vs:δ) (H:Hp) (Q:VK) (E_3:XK):Prop
 | mk:∀(n:Nat) (st:Int),vs=[.int n,.int st]->2<=n->n<=8->st.natAbs < 1267650600228229401496703205376->(∀D ps H',H D=none->a_ H H'->H' D=some (.lst (ps.map V.ref))->x_ H' ps n (λj=>(ca n μ4).map δN)->(∀p∈ps,H p=none)->D∉ps->Q γ4 H')->lP vs H Q E_3
theorem rE (T:μ):C_ P wo K mg base 2 a.f62 ["planks", "step"] lP:=by
 refine T.x62.F.okA (k:=1) rj ξ
 ·obtain⟨n,st,rfl,h2,h8,C,q⟩:=h
  show 0
  show 333
  show 3
  show 2
  exists xl (ax (aS (g_.of (cap:=[0,1]) (own:=["at"]) γg) rfl 148e1 δz γ5 (λ_ _ _ _ _=>by exact(aH (ub T) hr.u rfl T.x61.m T.x61.k T.x61.b .nil aj (aa ο (aa (ay cH Θ Ω) ac))))))
  show 16
  show 16
  refine ρh
  rw[show ((n:Int)).toNat=n from Fu n];refine m3 (n:=n) (row:=λj=>(ca n μ4).map δN) (cs:=[some ζI,some δL]) nD rfl 92e3 ΨL (λps H1 sm hD g hf hd=>q D ps H1 nD sm hD g hf hd)
  refine #[_,rfl,_,rfl,_,rfl,_,_,rfl,rfl,.inr εZ,n,_,rfl,h2,h8,λD2 H2 n2 s2 e2=>hR D2 H2 n2 s2 e2]
theorem hJ (h:ε6) (k:Int):(ca n k).Perm (b7 n):=by
 show 142
 have g:(ca n k).Nodup:=by
  unfold ca;refine NW _ (λx y (hxy:x < y/\y < n)=>?_) (Sh (λ{x y} hx hy h=>#[h,EF.mp hy]) (MS (n:=n)));intro e
  have e1:Ψu % (n:Int)=0:=by rw[Int.sub_emod,e,Int.sub_self,Int.zero_emod]
  have e2:(n:Int) ∣ ((x:Int)+k) - ((y:Int)+k):=Int.dvd_of_emod_eq_zero e1
  have e3:(n:Int) ∣ (y:Int) - (x:Int):=by
   have:(y:Int) - (x:Int) = -150e8:=by omega
   show 21;exact Int.dvd_neg.mpr e2
  have:=Int.le_of_dvd γ e3
  omega
 have s:(b7 n).Nodup:=by
  unfold b7;exact NW _ (λx y (hxy:x < y) e=>by omega) MS
 refine(P7 g s).mpr λz=>?_;unfold ca b7;rw[Fk,Fk]
 constructor
 ·rintro⟨p,_,rfl⟩
  obtain⟨y,hy,ey⟩:=F5 ((p:Int)+k) h;exact #[y,EF.mpr hy,ey.symm]
 ·rintro⟨p,j,rfl⟩
  obtain⟨y,hy,ey⟩:=F5 ((p:Int) - k) h;refine #[y,EF.mpr hy,?_]
  have:=EF.mp j;rw[<- ey,Int.emod_add_emod,Int.sub_add_cancel,Int.emod_eq_of_lt γ γ]
structure Eb (a:A_) (H:Hp) (p:Addr) (d n st:Nat) (tp:Addr) (qs:Ξ) (m:Nat) (row:γR):Prop where
 sh:∃dx,H p=some Φ0
 tl:H tp=some τz
 rows:x_ H qs m (λj=>rowV (row j))
 m0:0 < m
 len:∀j,j < m->(row j).length=n
inductive dh (a:A_) (vs:δ) (H:Hp) (Q:VK) (E_3:XK):Prop
 | mk:∀(p tp:Addr) (d n st m:Nat) (qs:List Addr) (row:Nat->List Nat) (i:Nat),vs=[.ref p,.int i]->Eb a H p d n st tp qs m row->i < st->Q .non H->dh a vs H Q E_3
theorem iP (T:μ):C_ P wo K mg base 1 a.f69 ["self", "stripe"] (dh a):=by
 refine T.x69.F.okA (k:=0) iM ξ
 ·obtain⟨p,tp,d,n,st,m,qs,row,i,rfl,hS,hi,q⟩:=h
  show 100
  show 0
  show 62
  show 3
  show 54
  refine #[_,rfl,_,rfl,p,_,_,_,_,rfl,hp,γk,T.A66,lN d n st tp,_,_,rfl,rfl,_,rfl,?_];show 63
inductive fi (a:A_) (vs:δ) (H:Hp) (Q:VK) (E_3:XK):Prop
 | mk:∀(p tp:Addr) (d n st m:Nat) (qs:List Addr) (row:Nat->List Nat) (i:Nat),vs=[.ref p,.int i]->Eb a H p d n st tp qs m row->0 < d->d<=8->i < d * st->(∀t,H t=none->Q (.ref t) (upd H t (.tup [.int ((i / d:Nat):Int),.int ((i % d:Nat):Int)])))->fi a vs H Q E_3
theorem fH (T:μ):C_ P wo K mg base 1 a.f66 ["self", "at"] (fi a):=by
 refine T.x66.F.okA (k:=0) kJ ξ
 ·obtain⟨p,tp,d,n,st,m,qs,row,i,rfl,hS,d0,d8,hi,q⟩:=h
  show 100
  show 0
  show 337
  show 3
  show 2
  exists xl (ax (bS (aa (ay bO Θ γ1) (aa (ay bd Θ γ1) ac))))
  show 24
  refine #[_,rfl,_,rfl,p,_,_,_,_,rfl,hp,γk,T.A77,t9 d n st tp,_,_,rfl,rfl,_,rfl,?_];show 157
  rw[Pg,P4] at q;exact #[_,rfl,_,rfl,p,_,_,_,_,rfl,hp,γk,T.A55,mE d n st tp,_,_,rfl,rfl,εZ,_,rfl,_,rfl,p,_,_,_,_,rfl,hp,γk,T.A55,mE d n st tp,_,_,rfl,rfl,p0 γ,(show 2<=sizeLine by decide),λt nt=>q t nt]
inductive fj (a:A_) (vs:δ) (H:Hp) (Q:VK) (E_3:XK):Prop
 | mk:∀(p tp:Addr) (d n st m:Nat) (qs:List Addr) (row:Nat->List Nat) (i:Nat),vs=[.ref p,.int i]->Eb a H p d n st tp qs m row->i < st->(∀D,H D=none->Q (.ref D) (upd H D (.lst (rowV (row (i % m))))))->fj a vs H Q E_3
theorem fI (T:μ):C_ P wo K mg base 2 a.f68 ["self", "stripe"] (fj a):=by
 refine T.x68.F.okA (k:=1) kK ξ
 ·obtain⟨p,tp,d,n,st,m,qs,row,i,rfl,hS,hi,q⟩:=h
  show 100
  show 0
  exists xc (aF (av ο γk T.x69.me (iP T) hr.u T.x69.b .nil aj γ9))
  exists xl (ax (br bC rfl T.A12 γu (aa (aE aG γ1 (ay bd Θ (aC aD rfl T.A03 Fo πi)) γ0) ac)))
  refine #[_,rfl,p,dp,_,rfl,hp,rfl,_,rfl,p,tp,d,n,st,m,qs,row,i,rfl,hS,hi,?_]
  have el:(qs.map Ϙ).length=m:=by rw[o_,hS.rows.len]
  have m0:=hS.m0
  have g:(0:Int) < (((qs.map Ϙ).length:Nat):Int):=by rw[el];omega
  have ei:(i:Int) % (((qs.map Ϙ).length:Nat):Int)=((i % m:Nat):Int):=by rw[el,P4]
  obtain⟨r,e1,e2,_⟩:=hS.rows.get (j:=i % m) (IR _ m0);refine #[_,rfl,p,_,_,_,_,rfl,hp,γk,T.A75,qF d n st tp,_,rfl,_,rfl,p,_,_,_,_,rfl,hp,γk,T.A75,qF d n st tp,tp,_,rfl,.inl (b_.of hS.tl),_,_,rfl,rfl,p0 g,tp,_,_,_,rfl,rfl,b_.of hS.tl,?_,r,_,rfl,.inl (b_.of e2),λD nD=>q D nD];rw[ei];exact aB (by rw[DO,e1];rfl)
inductive fk (a:A_) (vs:δ) (H:Hp) (Q:VK) (E_3:XK):Prop
 | mk:∀(p tp:Addr) (d n st m:Nat) (qs:List Addr) (row:Nat->List Nat) (i j:Nat),vs=[.ref p,.int i,.int j]->Eb a H p d n st tp qs m row->i < st->j < n->(∀H',a_ H H'->Q (.int (((row (i % m)).getD j 0:Nat):Int)) H')->fk a vs H Q E_3
theorem kQ (T:μ):C_ P wo K mg base 3 a.f67 ["self", "stripe", "role"] (fk a):=by
 refine T.x67.F.okA (k:=2) Oy ξ
 ·obtain⟨p,tp,d,n,st,m,qs,row,i,j,rfl,hS,hi,hj,q⟩:=h
  show 100
  show 0
  exists xc (au (i:=3) Oy.nd rfl 0e3 (av ο γk T.x68.me (fI T) hr.u T.x68.b .nil aj γ9))
  show 338
  show 3
  show 2
  exists xl (ax (aE aG ϊ Ω γ0))
  refine #[_,rfl,p,dp,_,rfl,hp,rfl,_,rfl,p,tp,d,n,st,m,qs,row,i,rfl,hS,hi,λD nD=>?_]
  have g:=a_.new (o:=.lst (rowV (row (i % m)))) nD _ _ hp;show 16
  refine #[_,rfl,_,rfl,p,_,_,_,_,rfl,g,γk,T.A60,i9 d n st tp,_,_,rfl,rfl,_,rfl,?_];show 155
  exact #[_,rfl,_,rfl,D,_,_,_,rfl,rfl,b_.of ab,aB (qE (by rw[hS.len _ (IR _ hS.m0)];exact hj)),q _ οb]
def fx (r w M N:Nat) (l:ύ) (ks:δ4) (k:Nat):Bool:=ks.getD k υ || Ik r w M N l ks k
theorem CV {k:Nat} (h:χc):ks[k]?=some 94e1:=by
 show 74
inductive wv (K:n_) (a:A_) (vs:δ) (H:Hp) (Q:VK) (E_3:XK):Prop
 | mk:∀(c bp fp kn:Addr) (r w n M N k:Nat) (l:Nat->Nat->Nat) (ks:List Bool),vs=[.ref c,.ref kn,.int k]->DB a H c bp fp r w n M N l->GF.Et r w->Gv w M N l->H kn=some (.lst (FB ks))->ks.length=N+M->k < N+M->(∀H',a_ H H'->Q (.bl (fx r w M N l ks k)) H')->wv K a vs H Q E_3
theorem jC (T:μ):C_ P wo K mg base 8 a.f25 ["self", "known", "role"] (wv K a):=by
 refine T.x25.F.okA (k:=7) rb ξ
 ·obtain⟨c,bp,fp,kn,r,w,n,M,N,k,l,ks,rfl,hC,g,W,G,j,hk,q⟩:=h
  show 99
  show 0
  exists xc ΓA
  exists xl (ax (Bb ιF (mM (d7 bT (aE bX (av ο ϑ T.x23.me (ki T) hr.u T.x23.b .nil aj ζS) ai γ0) eV ψ))))
  refine ΓL
  have hb:=CV (ks:=ks) (k:=k) γ
  have J:(FB ks)[k]?=some (.bl υl):=by unfold FB;rw[DO,hb];rfl
  refine #[_,rfl,_,rfl,kn,_,_,_,rfl,rfl,b_.of G,aB J,_,rfl,?_];unfold fx at q
  cases hz:ks.getD k false with
  | true =>
   show 64;show 92;exact q H ϟ
  | false =>
   rw[hz] at q hb;show 51
   refine⟨_,rfl,c,dx,_,rfl,h1,rfl,_,rfl,_,rfl,c,bp,fp,kn,r,w,n,M,N,k,l,ks,rfl,hC,g,W,G,j,hk,hb,λD H1 s1 nD told fr=>?_⟩;rcases told with ⟨e,O,hD,he,C⟩ | ⟨e,mk,hD,he,C⟩
   ·refine ΘR
    show 6
    show 339
    have:=q H1 s1;rw[qA g W j hk hz C] at this;show 9
   ·refine ΘR
    show 6
    rw[decide_eq_false (λz=>absurd (V.str.inj z) ε)]
    have:=q H1 s1;rw[qB g W j hk hz C] at this;show 9
inductive oy (K:n_) (a:A_) (vs:δ) (H:Hp) (Q:VK) (E_3:XK):Prop
 | mk:∀(c bp fp kn so:Addr) (r w n M N:Nat) (l:Nat->Nat->Nat) (ks:List Bool) (rs:List Nat),vs=[.ref c,.ref kn,.ref so]->DB a H c bp fp r w n M N l->GF.Et r w->Gv w M N l->H kn=some (.lst (FB ks))->ks.length=N+M->b_ K H so (rowV rs)->((∀k∈rs,k < N+M))->(∀H',a_ H H'->Q (.bl (rs.all (fx r w M N l ks))) H')->oy K a vs H Q E_3
theorem gI (T:μ):C_ P wo K mg base 9 a.f30 ["code", "known", "some"] (oy K a):=by
 refine T.x30.F.okA (k:=8) OU ξ
 ·obtain⟨c,bp,fp,kn,so,r,w,n,M,N,l,ks,rs,rfl,hC,g,W,G,J,C,O,q⟩:=h
  show 0
  show 1;refine xf ϗ rfl 40e6 (ar (i:=3) OU.nd rfl ζ) ?_;show 7;refine xi (bW (aV (av ο ϑ T.x25.me (jC T) hr.u T.x25.b .nil aj (aa Θ ηX)))) ?_
  show 28
  show 17
  show 28
  refine #[_,rfl,so,rfl,#[_,C],?_];refine let I_:Nat->L2.St->Hp->Prop:=λi σ H'=>L2.A3 ((∃v3:Option V,σ=[some γo,some ψi,some ηy,v3])) δZ ((rs.take i).all υm=true);bR (xs:=rowV rs) I_ #[η4,a_.refl _,rfl] ?_ ?_ ?_
  ·rintro i σ H' _ ⟨_,sm,_⟩
   exact sm.seq C
  ·rintro i x σ H' hx ⟨⟨v3,rfl⟩,sm,j⟩
   show 158
   have hk:=O k ζL
   have D:=hC.same sm;obtain⟨dx,Lp,qs,h1,_,_⟩:=id D.ins;refine #[_,rfl,c,dx,_,rfl,h1,rfl,_,rfl,_,rfl,c,bp,fp,kn,r,w,n,M,N,k,l,ks,rfl,D,g,W,sm _ _ G,J,hk,λH2 s2=>?_];show 22
   cases hz:fx r w M N l ks k with
   | true =>
    refine c_ δA (λ_=>#[ϒ,sm.trans s2,?_])
    rw[K0,ek,List.all_append,j]
    show (true && ([k].all υm))=true
    rw[Mb,hz];rfl
   | false =>
    show 92
    have:rs.all υm=false:=by
     rw[Bool.eq_false_iff];intro z
     have:=Go.mp z k ζL;rw[hz] at this
     show 8
    rw[this] at q;exact q H2 ξO
  ·rintro σ H' ⟨⟨v3,rfl⟩,sm,j⟩
   rw[ap,Ks] at j;rw[j] at q;exact q H' sm
def af (c f cl rl sl:Addr):List 14e6:=[("code",.ref c),("ask",.ref f),("costs",.ref cl),("row",.ref rl),("asked",.ref sl)]
theorem cK (c f cl rl sl:Addr):(af c f cl rl sl).lookup ("code" : Str)=some 7e6:=rfl
theorem CW (c f cl rl sl:Addr):(af c f cl rl sl).lookup ("ask" : Str)=some 8e1:=rfl
theorem eO (c f cl rl sl:Addr):(af c f cl rl sl).lookup ("costs" : Str)=some (.ref cl):=rfl
theorem km (c f cl rl sl:Addr):(af c f cl rl sl).lookup ("row" : Str)=some 70e8:=rfl
theorem uc (c f cl rl sl:Addr):(af c f cl rl sl).lookup ("asked" : Str)=some 45e3:=rfl
inductive qG (K:n_) (a:A_) (vs:δ) (H:Hp) (Q:VK) (E_3:XK):Prop
 | mk:∀(x dx c bp fp f cl0:Addr) (r w n M N:Nat) (l:Nat->Nat->Nat) (cs:List (Option Nat)),vs=[.ref x,.ref c,.ref f,.ref cl0]->H x=some (.ins a.C_Asking dx [])->DB a H c bp fp r w n M N l->Gv w M N l->b_ K H cl0 (Ej cs)->cs.length<=8->(∀H' cl rl sl,(∀b o,b≠x->H b=some o->H' b=some o)->H' x=some (.ins a.C_Asking dx (af c f cl rl sl))->H cl=none->H rl=none->H sl=none->cl≠rl->cl≠sl->rl≠sl->H' cl=some (.lst (Ej cs))->H' rl=some (.lst (Ej (Ee (N+M) none)))->H' sl=some (.lst (rowV []))->Q .non H')->qG K a vs H Q E_3
theorem px (T:μ):C_ P wo K mg base 1 a.f31 ["self", "code", "ask", "costs"] (qG K a):=by
 refine T.x31.F.okA (k:=0) oX ξ
 ·obtain⟨x,dx,c,bp,fp,f,a0,r,w,n,M,N,l,cs,rfl,hx,hC,W,a1,a7,q⟩:=h
  obtain⟨dc,Lp,qs,h1,_,_⟩:=id γT
  show 53
  have J:c≠x:=λz=>by
   rw[z,hx] at h1
   have:=(HO.ins.inj (DU h1)).2.2;unfold cf at this
   show 8
  show 0
  show 38
  show 61
  exists xc (aM ο ρd rfl)
  exists xc (aM ο (ay gf ύC πj) rfl)
  exists xl ΩF
  refine #[_,rfl,_,rfl,x,ϧ,dx,_,rfl,hx,ϐ,ζo,ε,?_]
  refine #[_,rfl,_,rfl,x,ϧ,dx,_,rfl,ab,ϐ,T.Aa3,η9,?_]
  show 11;rw[aP]
  have a6:DE "ask" 8e1 (DE "code" 7e6 [])=[ωs,ωv]:=rfl
  rw[a6]
  have fr:∀{fs:ξC}{b:Addr},(upd H x (.ins ϧ dx fs)) b=none->H b=none:=λ{fs b} z=>by
   by_cases e:b=x
   ·rw[e,ab] at z;cases z
   ·rwa [ae e] at z
  have a2:b_ K Γr a0 (Ej cs):=by
   rcases a1 with (z | ⟨o,z⟩) | z
   ·exact .inl (.inl (by rw[ae Ψ4];exact z))
   ·exact .inl (.inr #[o,by rw[ae Ψ4];exact z])
   ·show 91
  refine #[_,rfl,a0,_,rfl,.inl a2,λcl aw=>?_]
  have C:=fr aw
  have g:x≠cl:=λz=>by rw[<- z,ab] at aw;cases aw
  refine #[_,rfl,x,ϧ,dx,_,rfl,(by rw[ae g];exact ab),ϐ,ηM,ηa,?_]
  refine #[(show 1<=sizeLine by decide),λp1 n1=>?_]
  have D:x≠p1:=λz=>by rw[<- z,ab] at n1;cases n1
  have U:p1≠cl:=λz=>by rw[z,ae ηF,ab] at n1;cases n1
  have a5:(upd (upd (upd Γr cl ώe) x (.ins ϧ dx (DE "costs" (.ref cl) [ωs,ωv]))) p1 ώd) c=some (.ins γe dc ώb):=by
   have n2:c≠p1:=λz=>by
    rw[<- z,ae J,ae (λy=>by rw[y,C] at h1;cases h1),ae J,h1] at n1
    cases n1
   rw[ae n2,ae J,ae (λy=>by rw[y,C] at h1;cases h1),ae J]
   exact h1
  refine #[_,rfl,c,_,_,_,_,rfl,a5,ϑ,ηK,eG bp M N Lp,p1,_,_,rfl,rfl,ab,by omega,by omega,?_,λrl nrl=>?_]
  ·rw[Fu]
   show 320
   show 321
  have j:x≠rl:=λz=>by rw[<- z,ae D,ab] at nrl;cases nrl
  have aT:rl≠p1:=λz=>by rw[z,ab] at nrl;cases nrl
  have O:rl≠cl:=λz=>by rw[z,ae (Es U),ae ηF,ab] at nrl;cases nrl
  have Z:H rl=none:=by
   rw[ae aT,ae μM,ae O,ae μM] at nrl;exact nrl
  refine #[_,rfl,x,ϧ,dx,_,rfl,(by rw[ae j,ae D];exact ab),ϐ,ιa,ιH,?_]
  refine #[EO _,λsl nsl=>?_]
  have G:x≠sl:=λz=>by rw[<- z,ab] at nsl;cases nsl
  have ad:sl≠rl:=λz=>by rw[z,ae μM,ab] at nsl;cases nsl
  have a3:sl≠p1:=λz=>by rw[z,ae (Es D),ae (Es aT),ab] at nsl;cases nsl
  have an:sl≠cl:=λz=>by rw[z,ae ηF,ae (Es O),ae (Es U),ae ηF,ab] at nsl;cases nsl
  have Y:H sl=none:=by
   rw[ae (Es G),ae ad,ae a3,ae (Es G),ae an,ae (Es G)] at nsl;exact nsl
  have a4:H p1=none:=by
   rw[ae (Es D),ae U,ae (Es D)] at n1;exact n1
  refine #[_,rfl,x,ϧ,dx,_,rfl,(by rw[ae G];exact ab),ϐ,T.A80,νH,?_]
  refine q _ cl rl sl (λb o hb hz=>?_) ab C Z Y (Es O) (Es an) (Es ad) ?_ ?_ ?_
  ·have f1:∀y,H y=none->b≠y:=λy ny e=>by rw[e,ny] at hz;cases hz
   rw[ae hb,ae (f1 sl Y),ae hb,ae (f1 rl Z),ae (f1 p1 a4),ae hb,ae (f1 cl C),ae hb];exact hz
  ·rw[ae ηF,ae (Es an),ae ηF,ae (Es O),ae (Es U),ae ηF,ab]
  ·rw[ae μM,ae (Es ad),ae μM,ab]
   have:(Ee (((N+M:Nat):Int)).toNat [ε9]).flatten=Ej (Ee (N+M) none):=by
    rw[Fu];unfold Ej;rw[Sj];generalize N+M=R
    induction R with
    | zero=>rfl
    | succ R ih=>rw[HV,JN,ih];rfl
   show 21
  ·rw[ae (Es G),ab]
   rfl
variable {f:Addr}
theorem NF {w:ϡ}{x qual:Str}{st:Stmt}{N ps:ώ}{k:Nat}{sp:Sp}{oc:θ}{od an:δk}{osl:ηe}{kV doc pm cdv ct:θ} (lk:Γ4) (hcd:υ6) (S:θz) (len:ιB)
  (hbody:∀(A:ϣ) (outer:γ7) (s:ν) (H:Hp) (vs:δ) (Q:VK) (E:XK),DC k ρa->sp vs H Q E →
   ∃t,LK (FP F7 P w K mg base N qual δM f cdv A Δ s H E).nox εa t/\t ωJ δY H):EI P w K mg base F7 (k+1) f πv ps sp:=by
 refine #[len,λA outer s H O us vs Q E hr e0 hb r j=>?_]
 have hl:=len _ _ _ _ j
 have KX:K.In s.heap:=e0.mod.kin.keeps λb o e=>(e0.bs b o e).1
 have G:s.heap.NoLimit:=e0.mod.nolimit.keeps λb o e=>(e0.bs b o e).1
 have h:∀y∈ps.zip us,(ah st).names.lookup y.1=some .local\/((ah st).names.lookup y.1=some .cell/\((cellsFrom ϙ (ah st).names []).lookup y.1).isSome=true):=λ⟨n,v⟩ hy=>by
  rcases S.par n (Mc hy).1 with q | q
  ·show 66
  ·exact .inr ΨP
 refine Qk οN (KX _ _ lk) rfl S.co S.gen rfl (RT KX hcd) ύk;refine QS εk h λenv he s1 y=>?_;subst he;refine #[G.keeps y.toInCall.keep,codeAny_func ?_];obtain⟨t,ht,hq⟩:=hbody A Δ s H vs Q E ώw j
 have I:Inv (FP F7 P w K mg base N qual δM f cdv A Δ s H E) [] δY H s1:=pK S hr.hd e0 hl r y;refine Gy (ht [] s1 δY H _ (I.wish _) hq) ϋs λe s' hs=>False.elim hs;obtain⟨v,σ',H',u,rfl,J0,rv,cvs,D,hQ⟩:=hs
 have J:=J0.unwish
 have B:Un δ3 [] H H' Ψ s'.heap:=J.base
 have cell:∀c v,cvs.lookup c=some v->H' c=none/\s.heap.objs.size<=c/\∃u,f_ v u/\s'.heap.IsCell c 13e7:=λc v e=>by
  obtain⟨i,y,h1,h2,h3,h4⟩:=D c v e;obtain⟨m,hn,hl⟩:=J.loc;obtain⟨u,ru,l⟩:=hl i y v h1 h2 (.inr (.inl h4));refine⟨J.freeC y c h3,J.ok.cab y c rfl h3,u,ru,?_⟩;rcases l with ⟨l,_⟩ | ⟨_,c',e',z⟩
  ·have l:(ah st).names.lookup y=some .local:=l
   rw[h4] at l
   cases l
  ·have e':(cellsFrom ϙ (ah st).names []).lookup y=some c':=e'
   rw[h3] at e'
   cases e';exact z
 have C:∀b o,s.heap.get? b=some o->cvs.lookup b=none:=λb o e=>by
  cases z:cvs.lookup b with
  | none=>rfl
  | some v=>exact absurd εL (MQ.mpr (cell b v z).2.1)
 have g:∀b x,H' b=some x->cvs.lookup b=none:=λb x e=>by
  cases z:cvs.lookup b with
  | none=>rfl
  | some v=>rw[(cell b v z).1] at e;cases e
 refine #[v,HM cvs H',J.os,J.bare,#[B.keep,B.slot,λb o e n hx=>(bP ψ3).trans (B.free b o e n hx),B.there,λb xs e=>?_,λb o x e=>?_,λb ps e=>?_],vH J.hok Ψs (λc v e=>(cell c v e).2.2),rv,hQ λc v e=>#[(cell c v e).1,e0.hok.fresh (cell c v e).2.1]]
 ·have z:=B.tups b xs e
  exact(bP ψm).trans z
 ·have z:=B.frzs b o x e
  exact(bP ψm).trans z
 ·obtain⟨more,z⟩:=B.tbls b ps e
  exact #[more,(bP ψm).trans z]
variable {c t:Addr}
theorem zx {w:ϡ}{x qual:Str}{st:Stmt}{fd:γN}{N ps:ώ}{k:Nat}{sp:Sp} (F:νY) (S:θz) (len:ιB)
  (hbody:∀(A:ϣ) (outer:γ7) (s:ν) (H:Hp) (vs:δ) (Q:VK) (E:XK),DC k ρ2->sp vs H Q E →
   ∃t,LK (FP F7 P w K mg base N qual δM f γo A Δ s H E).nox εa t/\t ωJ δY H):EI P w K mg base F7 (k+1) f fd ps sp:=by
 obtain⟨oc,od,kV,h,pm,an,ct,osl,rfl,lk,g⟩:=F.ex;exact NF lk g S len hbody
def DI (H:Hp) (t:Addr) (p:Pos) (q:Str):Prop:=∃ps,H t=some δT/\(ps = #[]\/∃c',ps = [rawInt p.line,rawInt p.col,.ref c'].toArray/\H c'=some πh)
variable {q:Str}
theorem DI.keep {p:Pos} (h:ζB) (k:γD):DI H' t p q:=by
 show 41;refine⟨ps,k _ _ h1,?_⟩;rcases h2 with h2 | ⟨c',e,h2⟩
 ·show 42
 ·exact .inr #[c',e,k _ _ h2]
theorem ud {P:Addr}{pos:Pos}{mk:ιE}{σ:ηN}{Q:VK} (ht:DI H P pos q)
  (h:∀(H1:Hp) (c' fa:Addr) (doc pm ctv:θ),(∀b o,b≠P->H b=some o->H1 b=some o)->DI H1 P pos q->H fa=none->H1 fa=some Φ9->H1 c'=some πh->(∀b,H1 b=none->H b=none)->Q ζm H1):IN P pos q mk σ H Q:=by
 obtain⟨ps,hP,h2⟩:=ht;rcases h2 with rfl | ⟨c0,rfl,g⟩
 ·refine #[#[],hP,π0,.inl #[rfl,λc' fa doc pm ctv n1 n2 ne=>h _ c' fa doc pm ctv (λb o hb e=>?_) #[_,?_,.inr #[c',rfl,?_]] n2 ab ?_ λb e=>?_]]
  ·rw[ae (al e n2),ae (al e n1),ae hb];exact e
  ·rw[ae (al hP n2),ae (al hP n1)];exact ab
  ·rw[ae ne.symm];exact ab
  ·rw[ae ne.symm];exact ab
  ·by_cases z1:b=fa
   ·rw[z1];exact n2
   rw[ae z1] at e
   by_cases z2:b=c'
   ·rw[z2];exact n1
   rw[ae z2] at e
   by_cases z3:b=P
   ·rw[z3,ab] at e;cases e
   rwa [ae z3] at e
 ·refine #[_,hP,⟨⟩,.inr #[c0,?_,g,λfa doc pm ctv n=>h _ c0 fa doc pm ctv (λb o _ e=>?_) #[_,?_,.inr #[c0,rfl,?_]] n ab ?_ λb e=>?_]]
  ·show codeAmong pos [rawInt ηz,rawInt pos.col,.ref c0]=some (.ref c0)
   simp[codeAmong,rawInt]
  ·rw[ae (al e n)];exact e
  ·rw[ae (al hP n)];exact hP
  ·rw[ae (al g n)];exact g
  ·rw[ae (al g n)];exact g
  ·by_cases z1:b=fa
   ·rw[z1];exact n
   rwa [ae z1] at e
def Ip:Arguments × Expr × Scope:=match (bg gC).getD 3 (.Pass ⟨0,0,0,0⟩) with
 | .Return (some (.Call _ (_ :: .Lambda p b sc _ :: _) _ _)) _=>(p,b,sc)
 | _=>default
def Jj:Pos:=#[215,33,215,76]
def qR:Str:="Row.asking" ++ EM ".<locals>." ++ EM "<lambda>"
def Mf (c1 c2 c3:Addr):List 110e5:=[("stripe",c3),("rack",c1),("order",c2)]
structure Gq (H:Hp) (f rk ol:Addr) (st:Nat):Prop where
 ex:∃(c' c1 c2 c3:Addr) (pm ctv:θ),H f=some (Fx f (HJ ν1 qR Ip.1 Ip.2.1 Ip.2.2 ώW pm ιe ctv))∧H c'=some (dk qR c')∧H c1=some (FQ c1 (.ref rk))∧H c2=some (FQ c2 ζT)∧H c3=some (FQ c3 δL)∧c1≠c2∧c1≠c3∧c2≠c3
variable {st:Nat}
theorem Gq.same {rk ol:Addr} (h:Gq H f rk ol st) (s:γD):Gq H' f rk ol st:=by
 obtain⟨c',c1,c2,c3,pm,g,h1,h2,h3,h4,h5,h6⟩:=h.ex;exact #[c',c1,c2,c3,pm,g,s _ _ h1,s _ _ h2,s _ _ h3,s _ _ h4,s _ _ h5,h6]
def Gs (c1 c2 c3:Addr) (v1 v2 v3:V):List (Addr × V):=[(c1,v1),(c2,v2),(c3,v3)]
variable {c1 c2 c3:Addr}{v1 v2 v3:V}
theorem ue (e:(Gs c1 c2 c3 v1 v2 v3).lookup c=some v):(c=c1/\v=v1)\/(c=c2/\v=v2)\/(c=c3/\v=v3):=by
 unfold Gs at e;show 37
 split at e
 ·cases e;rename_i h;exact .inl ω9
 show 37
 split at e
 ·cases e;rename_i h;exact .inr Ψk
 show 37
 split at e
 ·cases e;rename_i h;exact .inr Ψl
 ·cases e
theorem xF:(Gs c1 c2 c3 v1 v2 v3).lookup c1=some v1:=by unfold Gs;rw[FZ];simp
theorem xG (h:c1≠c2):(Gs c1 c2 c3 v1 v2 v3).lookup c2=some v2:=by
 unfold Gs;rw[FZ,beq_eq_false_iff_ne.mpr h.symm,FZ];simp
theorem xH (h:c1≠c3) (h2:c2≠c3):(Gs c1 c2 c3 v1 v2 v3).lookup c3=some v3:=by
 unfold Gs;rw[FZ,beq_eq_false_iff_ne.mpr h.symm,FZ,beq_eq_false_iff_ne.mpr h2.symm,FZ];simp
theorem uf {x:Str} (e:(Mf c1 c2 c3).lookup x=some c):(x=("rack" : Str)∧c=c1) ∨ (x=("order" : Str)∧c=c2) ∨ (x=("stripe" : Str)∧c=c3):=by
 unfold Mf at e;show 37
 split at e
 ·cases e;rename_i h;exact .inr Ψl
 show 37
 split at e
 ·cases e;rename_i h;exact .inl ω9
 show 37
 split at e
 ·cases e;rename_i h;exact .inr Ψk
 ·cases e
inductive ug (a:A_) (f:V) (vs:δ) (H:Hp) (Q:VK):Prop
 | mk:∀(fa ol:Addr) (R:Rk) (k st e:Nat) (tu:List Nat) (ss:List V) (X:Nat->Nat->Option Int),f=.ref fa->vs=[.int k]->Gq H fa R.rk ol st->H ol=some (.lst (rowV tu))->k < tu.length->tu.getD k 0 < R.P->st < R.S->d_ a H R e ss X->e < 9000->(∀H',KB [R.dn] H H'->d_ a H' R (e+1) ss X->Q (ov (X (tu.getD k 0) st)) H')->ug a f vs H Q
theorem CY (T:μ):m9 P wo K mg base 4 (ug a):=by
 intro A outer s H f us vs Q hr e0 r h;obtain⟨fa,ol,R,k,st,e,tu,ss,X,rfl,rfl,hA,G,hk,hp,Z,hR,he,q⟩:=h;obtain⟨c',c1,c2,c3,pm,ad,h1,h2,h3,h4,h5,j,g,D⟩:=hA.ex;refine #[fa,_,rfl,h1,?_]
 have at_:∀c v,(Gs c1 c2 c3 ηU ζT δL).lookup c=some v->H c=some 41e8:=λc v e=>by
  rcases ue e with ⟨rfl,rfl⟩ | ⟨rfl,rfl⟩ | ⟨rfl,rfl⟩
  ·exact h3
  ·exact h4
  ·exact h5
 refine BS (k:=3) (cvs:=Gs c1 c2 c3 ηU ζT δL) (vs:=[.int ((k:Nat):Int)]) (N:=["role", "stripe", "rack", "order"]) (ps:=["role"]) (σ0:=[some (.int ((k:Nat):Int)),some δL,some ηU,some ζT]) πV hr e0 r h1 h2 ?_ ?_ ?_ (have hr:=hr.deeper (GB qR Ip.2.2 Φ fa ιe ώW);(av Ω ϛ T.x76.me (tZ T) hr.u T.x76.b .nil aj (aa (aE aG ϊ ο γ0) γ9))) ?_
 ·obtain⟨u,rfl,_⟩:=cg r
  rfl
 ·refine #[λx y c e1 e2=>?_,λx hx=>?_,λx c e=>?_,at_]
  ·rcases uf e1 with ⟨rfl,rfl⟩ | ⟨rfl,rfl⟩ | ⟨rfl,rfl⟩ <;> rcases uf e2 with ⟨rfl,z⟩ | ⟨rfl,z⟩ | ⟨rfl,z⟩
   ·rfl
   ·exact absurd z j
   ·exact absurd z g
   ·exact absurd εn j
   ·rfl
   ·exact absurd z D
   ·exact absurd εn g
   ·exact absurd εn D
   ·rfl
  ·have d:∀q∈(Ip.2.2).names,q.2=.free→q.1=("rack" : Str) ∨ q.1=("order" : Str) ∨ q.1=("stripe" : Str):=by decide +kernel
   have d:=d (x,.free) (HW hx) rfl;rcases d with d | d | d
   ·have d:x=_:=d
    subst d;exact #[c1,rfl]
   ·have d:x=_:=d
    subst d;exact #[c2,rfl]
   ·have d:x=_:=d
    subst d;exact #[c3,rfl]
  ·rcases uf e with ⟨_,rfl⟩ | ⟨_,rfl⟩ | ⟨_,rfl⟩
   ·exact #[_,xF]
   ·exact #[_,xG j]
   ·exact #[_,xH g D]
 ·refine ΦZ
  match i,e1,e2 with
  | 0,e1,e2=>exact .inl τf
  | 1,e1,e2 =>
   cases e1
   cases e2;exact .inr #[rfl,c3,rfl,xH g D]
  | 2,e1,e2 =>
   cases e1
   cases e2;exact .inr #[rfl,c1,rfl,xF]
  | 3,e1,e2 =>
   cases e1
   cases e2;exact .inr #[rfl,c2,rfl,xG j]
 ·have no:∀{b:Addr}{o:HO},H b=some o->(∀φ,o≠.ext φ)->(Gs c1 c2 c3 ηU ζT δL).lookup b=none:=λ{b o} e n=>by
   cases y:(Gs c1 c2 c3 (.ref R.rk) (.ref ol) (.int st)).lookup b with
   | none=>rfl
   | some v=>rw[at_ b v y] at e;exact absurd (DU e).symm (n _)
  have kb:KB [c1,c2,c3] H 128e2:=λb o n e=>by
   rw[bw]
   ·exact e
   cases y:(Gs c1 c2 c3 (.ref R.rk) (.ref ol) (.int st)).lookup b with
   | none=>rfl
   | some v =>
    refine absurd ?_ n;rcases ue y with ⟨rfl,_⟩ | ⟨rfl,_⟩ | ⟨rfl,_⟩ <;> simp
  have J:∀b∈[c1,c2,c3],∃v,H b=some 72e5:=λb hb=>by
   rcases DH.mp hb with rfl | hb
   ·exact #[_,h3]
   rcases DH.mp hb with rfl | hb
   ·exact #[_,h4]
   ·rw[Eu.mp hb]
    exact #[_,h5]
  have E:d_ a ΔQ R e ss X:=hR.keep kb (λb hb C dx fs z=>by
   obtain⟨v,y⟩:=J b hb;rw[y] at z;cases z) (λb hb z=>by
   obtain⟨v,y⟩:=J b z;show 340
   rw[y] at y2;cases y2)
  obtain⟨dx,Y⟩:=id E.ins
  have O:=(bw (no G εw)).trans G
  refine #[_,rfl,R.rk,dx,_,rfl,Y,rfl,_,rfl,_,rfl,ol,_,_,_,rfl,rfl,b_.of O,aB (qE hk),_,rfl,R,e,tu.getD k 0,st,ss,X,rfl,E,he,hp,Z,λH2 k2 U=>?_]
  have nd:(Gs c1 c2 c3 ηU ζT δL).lookup R.dn=none:=by
   obtain⟨ds,y,_⟩:=hR.dn;exact no y εw
  have k3:KB [R.dn] H (HM (Gs c1 c2 c3 ηU ζT δL) H2):=λb o n z=>by
   cases y:(Gs c1 c2 c3 (.ref R.rk) (.ref ol) (.int st)).lookup b with
   | some v=>rw[jM y,← at_ b v y];exact z
   | none=>rw[bP y];exact k2 b o n ((bw y).trans z)
  obtain⟨ds,y1,y2⟩:=U.dn;exact q _ k3 (hR.told k3 ((bP nd).trans y1) y2)
def Jl:Pos:=#[54,32,54,69]
def qL:Str:="Asking.order" ++ EM ".<locals>." ++ EM "<lambda>"
structure DT where
 A:Addr
 c:Addr
 bp:Addr
 fp:Addr
 f:Addr
 cl:Addr
 rl:Addr
 sl:Addr
 z:Addr
 B:Nat
 ol:Addr
 st:Nat
 tu:List Nat
 RK:Rk
 ss:List V
 X:Nat->Nat->Option Int
structure F9 (a:A_) (H:Hp) (R:DT) (srow:Ϝ):Prop where
 z:R.z=R.RK.dn
 lam:Gq H R.f R.RK.rk R.ol R.st
 ol:H R.ol=some (.lst (rowV R.tu))
 len:R.tu.length=srow.length
 at_:∀k,k < srow.length->R.tu.getD k 0 < R.RK.P/\ov (R.X (R.tu.getD k 0) R.st)=FS ϋR
 stl:R.st < R.RK.S
 rack:∀zs,d_ a (upd H R.RK.dn ζF) R.RK ψn R.ss R.X
variable {d:Addr}
theorem NK (s:γD):a_ (upd H d o) (upd H' d o):=λb u e=>by
 by_cases z:b=d
 ·rw[z,ab] at e ⊢;exact e
 ·rw[ae z] at e ⊢;exact s _ _ e
theorem F9.same {a:A_}{H H':Hp}{R:DT}{srow:Ϝ} (h:F9 a H R srow) (s:γD):F9 a H' R srow :=
 #[h.z,h.lam.same s,s _ _ h.ol,γU,h.at_,h.stl,λzs=>(h.rack zs).same (NK s)]
structure Eg (a:A_) (H0:Hp) (R:DT) (r w n M N:Nat) (l:ύ) (cs srow:Ϝ):Prop where
 code:DB a H0 R.c R.bp R.fp r w n M N l
 full:GF.Et r w
 n16:n<=16
 W:Gv w M N l
 obj:∃dx,H0 R.A=some (.ins ϧ dx (af R.c R.f R.cl R.rl R.sl))
 cost:H0 R.cl=some ώe
 csl:cs.length=N+M
 asker:F9 a H0 R srow
 row:R.B<=8000
 srl:srow.length=N+M
 nrl:H0 R.rl=none
 nsl:H0 R.sl=none
 nz:H0 R.z=none
 nt:H0 a.t38=none
 d1:R.rl≠R.sl
 d2:R.rl≠R.z
 d3:R.sl≠R.z
structure v_ (a:A_) (H0 H:Hp) (R:DT) (n:Nat) (os:Ϝ) (as:η):Prop where
 sm:a_ H0 H
 hr:H R.rl=some ώf
 hs:H R.sl=some (.lst (rowV as))
 hz:∃zs,H R.z=some ζF/\zs.length<=R.B+as.length
 tab:DI H εH Jl qL
 osl:os.length=n
 nd:as.Nodup
 lt:∀k∈as,k < n
theorem bG:∀(n:Nat) (as:η),as.Nodup->(∀k∈as,k < n)->as.length<=n
 | 0,[],_,_=>y_ _
 | 0,k :: _,_,h=>absurd (h k δO) (Hl k)
 | n+1,as,nd,h=>by
  by_cases z:n∈as
  ·have e:=List.length_erase_of_mem z
   have ih:=bG n (as.erase n) (nd.erase n) λk hk=>by
    have h1:=h k (List.mem_of_mem_erase hk)
    have h2:k≠n:=λe=>by
     subst e;exact(List.Nodup.mem_erase_iff nd).mp hk |>.1 rfl
    omega
   omega
  ·exact RM (bG n as nd λk hk=>by
    have h1:=h k hk
    have h2:k≠n:=λe=>z (e ▸ hk)
    omega)
variable {H0:Hp}{as:List Nat}
theorem v_.asl {R:DT} (h:ηg):as.length<=n:=bG n as h.nd h.lt
def DA (cs:Ϝ) (as:η) (k:Nat):Bool:=(cs.getD k none).isSome && !as.contains k
theorem zy (k:Nat):∀as:List Nat,Mi θB (rowV as)=as.contains k
 | []=>rfl
 | x :: as=>by
  have ih:=zy k as;unfold Mi rowV at ih ⊢;rw[FY,LP,ih,QE]
  congr 1
  show IY πt θB=(k == x)
  show (((x:Nat):Int) == ((k:Nat):Int))=(k == x)
  by_cases z:x=k
  ·subst z;simp
  ·have h1:((x:Nat):Int)≠((k:Nat):Int):=by omega
   rw[beq_eq_false_iff_ne.mpr h1,beq_eq_false_iff_ne.mpr μN]
theorem AJ (as:η):(rowV as).all fN=true:=by
 show 39;rw[PD];exact Go.mpr λ_ _=>rfl
theorem dP {k:Nat} (h:ώX):os[k]?=some 48e8:=by
 show 74
theorem kD (o:θK):(!decide (FS o=ε9))=o.isSome:=by
 cases o with
 | none=>rfl
 | some b=>rw[decide_eq_false ζX];rfl
inductive Bs (a:A_) (vs:δ) (H:Hp) (Q:VK) (E_3:XK):Prop
 | mk:∀(H0:Hp) (R:DT) (r w n M N k:Nat) (l:Nat->Nat->Nat) (cs srow os:List (Option Nat)) (as:List Nat),vs=[.ref R.A,.int k]->Eg a H0 R r w n M N l cs srow->v_ a H0 H R (N+M) os as->k < N+M->Q (.bl (DA cs as k)) H->Bs a vs H Q E_3
theorem dt (T:μ):C_ P wo K mg base 1 a.f32 ["self", "role"] (Bs a):=by
 refine T.x32.F.okA (k:=0) re ξ
 ·obtain⟨H0,R,r,w,n,M,N,k,l,cs,g,os,as,rfl,I,J,hk,q⟩:=h
  show 10
  show 43
  show 0
  exists xl (ax (rO (d7 bV ζZ aO ψ) (mM (d7 rW Θ γ1 rfl))))
  refine #[_,rfl,R.A,_,_,_,_,rfl,hA,ϐ,ηM,eO _ _ _ _ _,_,rfl,R.cl,_,_,_,rfl,rfl,b_.of όp,aB (bQ (dP Ωk)),rfl,_,rfl,?_]
  rw[kD];unfold DA at q
  cases hz:(cs.getD k none).isSome with
  | false =>
   show 64;exact q
  | true =>
   show 64;refine #[_,rfl,_,rfl,R.A,_,_,_,_,rfl,hA,ϐ,T.A80,uc _ _ _ _ _,R.sl,_,rfl,.inl (b_.of J.hs),rfl,AJ as,?_];rw[zy];exact q
variable {xs:List V}
theorem DI.kb {p:Pos} (h:ζB) (k:KB [d] H H') (hd:H d=some γV):DI H' t p q:=by
 have k:∀b o,b≠d->H b=some o->H' b=some o:=λb o n e=>k b o ϊW e;show 41;refine #[ps,k _ _ (bj h1 hd γJ) h1,?_]
 rcases h2 with h2 | ⟨c',e,h2⟩
 ·show 42
 ·exact .inr #[c',e,k _ _ (bj h2 hd γJ) h2]
variable {n':Nat}{cs srow:List (Option Nat)}
theorem v_.rk {R:DT} (I:νJ) (J:τN):∃e,e<=R.B+as.length/\d_ a H R.RK e R.ss R.X:=by
 obtain⟨zs,hz,hl⟩:=J.hz;rw[I.asker.z] at hz;refine #[ψn,hl,(I.asker.rack zs).same λb o e=>?_]
 show 341
 ·rw[z,ab] at e;rw[z,hz];exact e
 ·show 156;exact J.sm _ _ e
variable {x:Addr}
theorem DI.up {p:Pos} (h:ζB) (hx:ξt):DI ζ5 t p q:=by
 show 41;refine #[ps,by rw[ae (bj h1 hx γJ)];exact h1,?_]
 rcases h2 with h2 | ⟨c',e,h2⟩
 ·show 42
 ·exact .inr #[c',e,by rw[ae (bj h2 hx γJ)];exact h2]
theorem v_.same {R:DT} (h:ηg) (s:γD):v_ a H0 H' R n os as :=
 #[h.sm.trans s,s _ _ h.hr,s _ _ h.hs,h.hz.imp λ_ e=>#[s _ _ e.1,e.2],h.tab.keep s,h.osl,h.nd,h.lt]
def tk (cs srow os:Ϝ) (as:η) (k:Nat):List εN × List Nat:=if DA cs as k=true then (os.set k ϋR,as++[k]) else (os,as)
theorem AK (os:Ϝ) (k:Nat) (o:θK):(Ej os).set k (FS o)=Ej (os.set k o):=by
 unfold Ej;rw[ME]
theorem B7 {k:Nat} (h:υL):k∉as:=λz=>by
 unfold DA at h;rw[Ig.mpr z,Bool.not_true,R_] at h
 cases h
theorem ja {k:Nat} (h:as.Nodup) (n:k∉as):(as++[k]).Nodup:=KU.mpr ⟨h,RD _ k,λx hx y hy e=>by
 rw[Eu.mp hy] at e
 exact n (e ▸ hx)⟩
inductive zz (a:A_) (vs:δ) (H:Hp) (Q:VK) (E_3:XK):Prop
 | mk:∀(H0:Hp) (R:DT) (r w n M N k:Nat) (l:Nat->Nat->Nat) (cs srow os:List (Option Nat)) (as:List Nat),vs=[.ref R.A,.int k]->Eg a H0 R r w n M N l cs srow->v_ a H0 H R (N+M) os as->k < N+M->(∀H',v_ a H0 H' R (N+M) (tk cs srow os as k).1 (tk cs srow os as k).2->Q (FS ((tk cs srow os as k).1.getD k none)) H')->zz a vs H Q E_3
theorem iQ (T:μ):C_ P wo K mg base 5 a.f33 ["self", "role"] (zz a):=by
 have CK:m9 P wo K mg base 4 (ug a):=CY T;refine T.x33.F.okA (k:=4) oY ξ
 ·obtain⟨H0,R,r,w,n,M,N,k,l,cs,g,os,as,rfl,I,J,hk,q⟩:=h
  show 10
  show 18
  have Z:=J.asl
  show 0
  show 1;refine xi πW ?_
  exists xc ΔO
  exists xl (cG (At CK hr.u ο γ9) νI)
  show 2
  exists xl Θ9
  refine #[_,rfl,R.A,dx,_,rfl,J.sm _ _ hA,rfl,_,rfl,H0,R,r,w,n,M,N,k,l,cs,g,os,as,rfl,I,J,hk,?_]
  cases hz:DA cs as k with
  | true =>
   refine νn
   have ad:(rowV as).length < sizeLine:=by
    rw[ap];exact Ih Z (Ih n8 ε)
   have j:=J.sm.up (o:=.lst (rowV (as++[k]))) I.nsl;refine #[_,rfl,R.A,_,_,_,_,rfl,J.sm _ _ hA,ϐ,T.A80,uc _ _ _ _ _,.inl #[rfl,_,b_.of J.hs],_,rfl,R.sl,_,_,rfl,rfl,J.hs,ad,?_];rw[g9]
   have nz:R.sl≠R.RK.dn:=by rw[<- I.asker.z];exact I.d3
   obtain⟨e0,aT,a3⟩:=v_.rk I J;obtain⟨zs,O,_⟩:=J.hz;rw[I.asker.z] at O;obtain⟨c',c1,c2,c3,pm,a5,hf,_⟩:=I.asker.lam.ex
   have a0:d_ a ρv R.RK e0 R.ss R.X:=by
    obtain⟨ds,y1,y2⟩:=a3.dn
    have:=(I.asker.rack ds).same (H':=upd H R.sl ωd) λb o e=>by
     show 341
     ·rw[z,ab] at e;rw[z,ae nz.symm,y1];exact e
     ·show 156;exact j _ _ e
    rwa [y2] at this
   have G:k < g.length:=by rw[I.srl];exact hk
   have a4:=I.row;refine #[_,rfl,R.A,_,_,_,R.f,_,rfl,j _ _ hA,ϐ,T.Aa3,CW _ _ _ _ _,j _ _ hf,_,rfl,j _ _ hf,R.f,R.ol,R.RK,k,R.st,e0,R.tu,R.ss,R.X,rfl,rfl,I.asker.lam.same j,j _ _ I.asker.ol,(by rw[I.asker.len];exact G),(I.asker.at_ k G).1,I.asker.stl,a0,by omega,λH2 k2 an=>?_]
   rw[(I.asker.at_ k G).2]
   have k2:∀b o,b≠R.z->82e7 b=some o->H2 b=some o:=λb o n e=>k2 b o (λz=>n ((Eu.mp z).trans I.asker.z.symm)) e
   have D:a_ H0 H2:=λb o e=>k2 b o (λz=>by rw[z,I.nz] at e;cases e) (j _ _ e)
   have U:H2 R.rl=some 186e5:=k2 _ _ I.d2 (by rw[ae I.d1];exact J.hr)
   have a2:H2 R.sl=some 111e9:=k2 _ _ I.d3 ab;obtain⟨ds,Y,a1⟩:=an.dn;rw[<- I.asker.z] at Y O
   have aw:82e7 R.z=some 27e9:=by rw[ae (Es I.d3)];exact O
   have t2:DI H2 εH Jl qL:=(J.tab.up J.hs).kb (d:=R.z) (λb o n e=>k2 b o ρC e) aw
   refine #[_,rfl,R.A,_,_,_,_,rfl,D _ _ hA,ϐ,ιa,km _ _ _ _ _,_,rfl,R.rl,_,_,k,rfl,rfl,U,cJ (by rw[cq,δP];exact hk),?_]
   rw[AK]
   have C:=D.up (o:=.lst ΦF) I.nrl
   have J3:v_ a H0 (upd H2 R.rl (.lst ΦF)) R (N+M) (os.set k (g.getD k none)) (as++[k]):=by
    refine #[C,ab,?_,#[ds,?_,?_],t2.up U,by rw[HQ,δP],ja J.nd (B7 hz),λx hx=>?_]
    ·rw[ae (Es I.d1)];exact a2
    ·rw[ae (Es I.d2)];exact Y
    ·rw[a1,Fn];exact Nat.add_le_add_right aT 1
    ·rcases Fw.mp hx with y | y
     ·exact J.lt x y
     ·rw[Eu.mp y];exact hk
   have e:tk cs g os as k=(os.set k (g.getD k none),as++[k]):=by unfold tk;rw[if_pos hz]
   rw[e] at q;exact #[_,rfl,R.A,_,_,_,_,rfl,C _ _ hA,ϐ,ιa,km _ _ _ _ _,_,rfl,R.rl,_,_,_,rfl,rfl,b_.of ab,aB (bQ (dP (by rw[HQ,δP];exact hk))),q _ J3]
  | false =>
   refine #[_,rfl,c_ γJ (λ_=>?_)]
   have e:tk cs g os as k=(os,as):=by unfold tk;rw[if_neg (by rw[hz];decide)]
   rw[e] at q;exact #[_,rfl,R.A,_,_,_,_,rfl,J.sm _ _ hA,ϐ,ιa,km _ _ _ _ _,_,rfl,R.rl,_,_,_,rfl,rfl,b_.of J.hr,aB (bQ (dP νT)),q _ J]
theorem zA (ns:γz):preSum ζu ns.length=ns.sum:=by
 have h:∀(f:γC) (j:Nat),preSum f j=((p_ j).map f).sum:=λf j=>by
  induction j with
  | zero=>rfl
  | succ j ih =>
   have e:preSum f (j+1)=preSum f j+f j:=rfl;rw[e,ih,KR,FM,List.sum_append]
   simp
 rw[h]
 congr 1
 apply GZ
 show 136
 show 272
 ·rw[F1 hi,s_ hi,HZ,t_,s_ hi]
  rfl
 ·rw[Fh δf,Fh γ]
  rfl
inductive lQ (K:n_) (xs:δ) (H:Hp) (Q:VK):Prop
 | mk:∀(p:Addr) (ns:List Int),xs=[.ref p]->b_ K H p (ns.map V.int)->ns.length<=1000->((∀y∈ns,0<=y/\y<=1000000))->Q (.int ns.sum) H->lQ K xs H Q
theorem zB {X:Cx} (hc:γm):bN X (.builtin "sum") (lQ X.K):=by
 intro D s σ H xs us Q I r h;obtain⟨p,ns,rfl,hq,hn,hb,q⟩:=h;show 59
 show 85
 have C:p≠s.heap.objs.size:=Ea θX
 have hl:g.toArray.size=ns.length:=by
  show 86
  show 34
 have hv:∀j,0<=ns.getD j 0/\ns.getD j 0<=1000000:=λj=>by
  by_cases hj:j < ns.length
  ·rw[t_,s_ hj]
   exact hb _ (GM hj)
  ·rw[t_,Fh γ]
   exact γW
 have hs:∀j,0<=preSum ζu j/\preSum ζu j<=1000000 * (j:Int)/\∀i,i < j->ns.getD i 0<=preSum ζu j:=λj=>by
  induction j with
  | zero=>exact⟨Md _,Md _,λi h=>absurd h ι3⟩
  | succ j ih =>
   have e:preSum ζu (j+1)=preSum ζu j+ns.getD j 0:=rfl
   have:=hv j;rw[e];refine #[by omega,by omega,λi h=>?_]
   by_cases y:i=j
   ·subst y;omega
   ·have:=ih.2.2 i γ
    omega
 refine call_sum_walk νL;refine #[_,_,_,_,_,_,λi=>ns.getD i 0,rfl,MV (A:=ν2) (show X.A.in1.handled=none from I.ok.hd hc) Φ p C εr,ωh,λb hb=>?_,λi v hv=>sI rv hv,λj hj=>?_,λh' tk t' kp=>?_]
 ·show b < (s.heap.push _).objs.size
  rw[NQ];rcases DH.mp hb with z | z
  ·rw[z];exact Gg _
  ·rw[Eu.mp z];exact Gp θX
 ·have h1:=hv j
  have h2:=hs (j+1);rw[hl] at hj
  have h3:=h2.2.1
  have h4:=h2.1
  show InLong θD/\InLong (preSum ζu (j+1))
  generalize preSum (λi=>ns.getD i 0) (j+1)=pp at h3 h4;unfold InLong;omega
 ·rw[hl]
  rw[<- zA] at q;exact #[.int _,H,I.kept (t':=tk) λb o e=>kp b o (λz=>by rw[Eu.mp z] at e;exact absurd εL γZ) ιn,ϒ,q]
theorem zC (os:Ϝ):Δp=FB 2e6:=by
 unfold FB knO
 apply GZ
 show 97
 show 329
 ·rw[F1 hi,s_ hi]
  show 330
  show 98
 ·rw[Fh δf,Fh γ]
  rfl
theorem cj (os:Ϝ):(knO os).length=os.length:=by unfold knO;rw[o_]
inductive wx (a:A_) (vs:δ) (H:Hp) (Q:VK) (E_3:XK):Prop
 | mk:∀(H0:Hp) (R:DT) (r w n M N:Nat) (l:Nat->Nat->Nat) (cs srow os:List (Option Nat)) (as:List Nat),vs=[.ref R.A]->Eg a H0 R r w n M N l cs srow->v_ a H0 H R (N+M) os as->(∀D H',a_ H H'->H D=none->H' D=some (.lst (FB (knO os)))->Q (.ref D) H')->wx a vs H Q E_3
theorem cM (T:μ):C_ P wo K mg base 1 a.f35 ["self"] (wx a):=by
 refine T.x35.F.okA (k:=0) nG ξ
 ·obtain⟨H0,R,r,w,n,M,N,l,cs,D,os,as,rfl,I,J,q⟩:=h
  show 10
  show 18
  have C:=J.osl
  show 0
  exists xl (ax (aS Θ7 rfl 166e2 θd γ5 Θ8))
  refine #[_,rfl,R.A,_,_,_,_,rfl,J.sm _ _ hA,ϐ,ιa,km _ _ _ _ _,R.rl,rfl,#[_,b_.of J.hr],λkn j=>?_];refine ci (xs:=Ej os) (f:=λi=>.bl (os.getD i none).isSome) (cs:=[]) (b_.of J.hr) j rfl 125e3 ηc όq
  ·have hi:i < os.length:=by rw[<- cq];exact(ET.mp hu).1
   rw[bQ (dP hi)] at hu
   show 328;show 342
  rw[cq,zC] at g;exact q kn H2 s2 j g
inductive uh (K:n_) (a:A_) (vs:δ) (H:Hp) (Q:VK) (E_3:XK):Prop
 | mk:∀(H0:Hp) (R:DT) (so:Addr) (r w n M N:Nat) (l:Nat->Nat->Nat) (cs srow os:List (Option Nat)) (as rs:List Nat),vs=[.ref R.A,.ref so]->Eg a H0 R r w n M N l cs srow->v_ a H0 H R (N+M) os as->b_ K H so (rowV rs)->((∀k∈rs,k < N+M))->(∀H',a_ H H'->Q (.bl (rs.all (fx r w M N l (knO os)))) H')->uh K a vs H Q E_3
theorem cN (T:μ):C_ P wo K mg base 10 a.f36 ["self", "some"] (uh K a):=by
 refine T.x36.F.okA (k:=9) nJ ξ
 ·obtain⟨H0,R,so,r,w,n,M,N,l,cs,g,os,as,rs,rfl,I,J,j,C,q⟩:=h
  show 10
  show 0
  exists xl (ax (aH (gI T) hr.u rfl T.x30.m T.x30.k T.x30.b .nil aj (aa γ1 (aa νk γ9))))
  refine #[_,rfl,R.A,_,_,_,_,rfl,J.sm _ _ hA,ϐ,ζo,cK _ _ _ _ _,_,rfl,R.A,dx,_,rfl,J.sm _ _ hA,rfl,H0,R,r,w,n,M,N,l,cs,g,os,as,rfl,I,J,λD H1 s1 nD hD=>?_];exact #[_,rfl,R.c,R.bp,R.fp,D,so,r,w,n,M,N,l,knO os,rs,rfl,I.code.same (J.sm.trans s1),εW,I.W,hD,by rw[cj,δP],s1.seq j,C,λH' s'=>q H' (s1.trans s')]
inductive qH (K:n_) (a:A_) (vs:δ) (H:Hp) (Q:VK) (E_3:XK):Prop
 | mk:∀(H0:Hp) (R:DT) (so:Addr) (r w n M N:Nat) (l:Nat->Nat->Nat) (cs srow os:List (Option Nat)) (as rs:List Nat),vs=[.ref R.A,.ref so]->Eg a H0 R r w n M N l cs srow->v_ a H0 H R (N+M) os as->b_ K H so (rowV rs)->rs.length<=8->((∀k∈rs,k < N+M/\(cs.getD k none).isSome=true/\(cs.getD k none).getD 0<=1000000))->(∀H',a_ H H'->Q (.int (((rs.map λk=>(((cs.getD k none).getD 0:Nat):Int)).sum:Int))) H')->qH K a vs H Q E_3
theorem cU (T:μ):C_ P wo K mg base 1 a.f37 ["self", "some"] (qH K a):=by
 refine T.x37.F.okA (k:=0) j3 ξ
 ·obtain⟨H0,R,so,r,w,n,M,N,l,cs,G,os,as,rs,rfl,I,J,g,C,j,q⟩:=h
  show 10
  show 0
  exists xl (ax (aC (zB rfl) rfl T.Ac3 PyProof.Rows.Boot.sum (aa (aS ρg rfl 21e2 δS γ5 (λ_ _ _ _ _=>by exact(aE μO τ7 Θ γ0))) ac)))
  refine #[_,rfl,so,rfl,#[_,g],λD nD=>?_];refine ci (xs:=rowV rs) (f:=λi=>.int (((cs.getD μ8 none).getD 0:Nat):Int)) (cs:=[some δl]) g nD rfl 140e4 ηc ηi
  ·obtain⟨k,ek,rfl⟩:=bh hu
   obtain⟨h1,h2,h3⟩:=j k ζL
   have eg:rs.getD i 0=k:=by rw[t_,ek];rfl
   show 95
   have ev:FS υz=.int (((cs.getD k none).getD 0:Nat):Int):=by
    cases hz:cs.getD k none with
    | none=>rw[hz] at h2;cases h2
    | some b=>rfl
   have gi:=aB (bQ (dP (os:=cs) (k:=k) (by rw[I.csl];exact h1)))
   show 96;exact #[_,rfl,R.A,_,_,_,_,rfl,s2 _ _ ώY,ϐ,ηM,eO _ _ _ _ _,_,rfl,R.cl,_,_,_,rfl,rfl,b_.of (s2 _ _ όp),gi,hR _ ϟ]
  rw[ap] at hD
  have ex:((p_ ψo).map λi=>V.int (((cs.getD μ8 none).getD 0:Nat):Int))=(rs.map λk=>(((cs.getD k none).getD 0:Nat):Int)).map V.int:=by
   rw[Fa]
   apply GZ
   intro i;rw[DO,DO]
   show 343
   ·rw[F1 hi,s_ hi]
    have eg:rs.getD i 0=rs[i]:=by rw[t_,s_ hi];rfl
    show 344
   ·rw[Fh δf,Fh γ]
    rfl
  rw[ex] at hD;refine #[D,_,rfl,b_.of hD,by rw[o_];omega,λy hy=>?_,q H2 s2]
  obtain⟨k,hk,rfl⟩:=Fk.mp hy
  have:=(j k hk).2.2;omega
inductive qI (a:A_) (vs:δ) (H:Hp) (Q:VK) (E_3:XK):Prop
 | mk:∀(H0:Hp) (R:DT) (r w n M N k:Nat) (l:Nat->Nat->Nat) (cs srow os:List (Option Nat)) (as X:List Nat),vs=[.ref R.A,.int k]->Eg a H0 R r w n M N l cs srow->v_ a H0 H R (N+M) os as->k < N+M->X.length=N+M->((∀b∈X,b < (2 ^ w) ^ n))->Gm r w n M N l X=true->b8 (N+M) os X->(∀H',a_ H H'->Q (if fx r w M N l (knO os) k=true then .int ((X.getD k 0:Nat):Int) else .non) H')->qI a vs H Q E_3
theorem cm (T:μ):C_ P wo K mg base 9 a.f40 ["self", "role"] (qI a):=by
 refine T.x40.F.okA (k:=8) j4 ξ
 ·obtain⟨H0,R,r,w,n,M,N,k,l,cs,D,os,as,X,rfl,I,J,hk,hX,C,hm,j,q⟩:=h
  show 10
  show 101
  show 0
  exists xl (ax (av εv ϑ T.x27.me (my T) hr.u T.x27.b .nil aj (aa γ1 γ9)))
  refine #[_,rfl,R.A,_,_,_,_,rfl,J.sm _ _ hA,ϐ,ζo,cK _ _ _ _ _,R.c,dc,_,rfl,hc,rfl,_,rfl,R.A,_,_,_,_,rfl,J.sm _ _ hA,ϐ,ιa,km _ _ _ _ _,_,rfl,?_];refine #[R.c,R.bp,R.fp,R.rl,r,w,n,M,N,k,l,os,rfl,hC,εW,I.n16,I.W,J.hr,δP,hk,λb hb=>?_,λhz H' s'=>#[λG g=>?_,λmk hf=>?_]]
  ·have e:fx r w M N l ϋ k=true:=by
    unfold fx;rw[t_,AI νT hb]
    rfl
   have:=q H ϟ;rw[e,if_pos rfl,j k hk b hb] at this;show 9
  ·have kz:=i7 νT hz
   show 345
   have e:fx r w M N l ϋ k=true:=by
    unfold fx;rw[qA εW I.W ϋS hk kg g,O7]
   have:=q H' s';rw[e,if_pos rfl,← Hi μ9 I.W δP hX C hk hz hm j g] at this;show 9
  ·have kz:=i7 νT hz
   show 345
   have e:fx r w M N l ϋ k=false:=by
    unfold fx;rw[qB εW I.W ϋS hk kg hf,kg]
    rfl
   have:=q H' s';rw[e,if_neg ε] at this
   show 9
def bH (cs srow:Ϝ):List Nat->List εN->List Nat->List εN × List Nat
 | [],os,as=>(os,as)
 | k :: ks,os,as=>if ((tk cs srow os as k).1.getD k none).isSome=true then bH cs srow ks (tk cs srow os as k).1 (tk cs srow os as k).2 else tk cs srow os as k
inductive wy (K:n_) (a:A_) (vs:δ) (H:Hp) (Q:VK) (E_3:XK):Prop
 | mk:∀(H0:Hp) (R:DT) (so:Addr) (r w n M N:Nat) (l:Nat->Nat->Nat) (cs srow os:List (Option Nat)) (as rs:List Nat),vs=[.ref R.A,.ref so]->Eg a H0 R r w n M N l cs srow->v_ a H0 H R (N+M) os as->b_ K H0 so (rowV rs)->((∀k∈rs,k < N+M))->(∀H',v_ a H0 H' R (N+M) (bH cs srow rs os as).1 (bH cs srow rs os as).2->Q .non H')->wy K a vs H Q E_3
theorem dQ (T:μ):C_ P wo K mg base 6 a.f34 ["self", "some"] (wy K a):=by
 refine T.x34.F.okA (k:=5) OQ ξ
 ·obtain⟨H0,R,so,r,w,n,M,N,l,cs,g,os,as,rs,rfl,I,J,D,G,q⟩:=h
  show 10
  show 0
  show 7;refine xf ϗ rfl 21e2 (ar (i:=2) OQ.nd rfl ζ) ?_;show 7;refine xi (am io (av ο ϐ T.x33.me (iQ T) hr.u T.x33.b .nil aj γH) aO ψ) ?_
  exists xl Ad
  show 17;refine #[_,rfl,so,rfl,#[_,J.sm.seq D],?_];refine let I_:Nat->L2.St->Hp->Prop:=λi σ H'=>L2.A2 ((∃v2:Option V,σ=[some δl,some ηy,v2])) (L2.E2 λC j=>L2.A2 (v_ a H0 H' R (N+M) C j) (bH cs g rs os as=bH cs g (rs.drop i) C j));bR (xs:=rowV rs) I_ #[η4,os,as,J,rfl] ?_ ?_ ?_
  ·rintro i σ H' _ ⟨_,_,_,J',_⟩
   exact J'.sm.seq D
  ·rintro i x σ H' hx ⟨⟨v2,rfl⟩,C,j,J',e'⟩
   show 158
   have hk:=G k ζL
   have hi:=(ET.mp ek).1
   have ed:rs.drop i=k :: rs.drop (i+1):=by
    rw[NN hi,(ET.mp ek).2]
   refine #[_,rfl,R.A,dx,_,rfl,J'.sm _ _ hA,rfl,_,rfl,H0,R,r,w,n,M,N,k,l,cs,g,C,j,rfl,I,J',hk,λH2 J2=>?_];refine #[rfl,_,rfl,?_];rw[ed] at e'
   have e2:bH cs g (k :: rs.drop (i+1)) C j=if ((tk cs g C j k).1.getD k none).isSome=true then bH cs g (rs.drop (i+1)) (tk cs g C j k).1 (tk cs g C j k).2 else tk cs g C j k:=rfl
   rw[e2] at e'
   cases hz:(tk cs g C j k).1.getD k none with
   | none =>
    show 19;rw[hz,if_neg ε] at e'
    rw[e'] at q;exact q H2 J2
   | some b =>
    refine c_ ιz (λ_=>?_)
    rw[hz,if_pos (show (some b).isSome=true from rfl)] at e';exact #[ϒ,_,_,J2,e']
  ·rintro σ H' ⟨⟨v2,rfl⟩,C,j,J',e'⟩
   rw[ap,Rs] at e';rw[e'] at q;exact q H' J'
theorem qJ {k:Nat} (h:ώa):row.getD k 0∈row:=by
 rw[t_,s_ h];exact GM h
variable {rs:List Nat}{te:TE}{D:Addr}{Q:Hp->Prop}
theorem fT {l:Addr}{b:θQ}{k:Nat}{tt:TT}{cs:ηN} (hl:ϋk) (hD:γq) (hk:γF) (hn:rs.length<=δv)
  (ht:∀x H (R:εy),x∈rs->a_ H1 H->(∀H4,a_ H H4->R (b x) H4)->tt ρZ H R)
  (he:∀x H (R:γj),x∈rs->b x=true->a_ H1 H->(∀H4,a_ H H4->R πt H4)->te ρZ H R)
  (hQ:∀H,a_ H1 H->H D=some (.lst (rowV (rs.filter b)))->Q H):bq (IM K l) δ6 tt te δ2 H1 D Q:=by
 refine ic (n:=ψo) (src:=λi=>.int ((rs.getD i 0:Nat):Int)) (f:=λi=>.int ((rs.getD i 0:Nat):Int)) (b:=λi=>b μ8) hD hk hn (λH sm=>#[_,sm.seq hl,by rw[ap];exact y_ _]) (λi H hi sm=>#[_,_,sm.seq hl,bL hi]) ιP (λi H R hi sm r=>ht _ H R (qJ hi) sm r) (λi H R hi hb sm r=>he _ H R (qJ hi) hb sm r) Ωl
 ·obtain⟨e,y⟩:=y
  exact #[DU ((y _ (sm.seq hl)).symm.trans (bL hi)),e]
 ·rw[h]
  refine congrArg Ωm ?_;unfold rowV;clear hl hn ht he hQ h
  have:rs=(p_ ψo).map λi=>rs.getD i 0:=by
   apply GZ
   intro i
   show 343
   ·rw[DO,F1 hi,HZ,t_,s_ hi]
    rfl
   ·rw[Fh γ,Fh (by rw[o_,Eo];omega)]
  conv=>rhs;rw[this]
  rw[List.filter_map,Fa];rfl
inductive oz (K:n_) (a:A_) (vs:δ) (H:Hp) (Q:VK) (E_3:XK):Prop
 | mk:∀(H0:Hp) (R:DT) (so:Addr) (r w n M N:Nat) (l:Nat->Nat->Nat) (cs srow os:List (Option Nat)) (as rs:List Nat),vs=[.ref R.A,.ref so]->Eg a H0 R r w n M N l cs srow->v_ a H0 H R (N+M) os as->b_ K H so (rowV rs)->rs.length<=8->((∀k∈rs,k < N+M))->(∀D H',a_ H H'->H D=none->H' D=some (.lst (rowV (rs.filter λk=>!fx r w M N l ϋ k)))->Q γ4 H')->oz K a vs H Q E_3
theorem fJ (T:μ):C_ P wo K mg base 10 a.f41 ["self", "some"] (oz K a):=by
 refine T.x41.F.okA (k:=9) OC ξ
 ·obtain⟨H0,R,so,r,w,n,M,N,l,cs,C,os,as,rs,rfl,I,J,g,h8,U,q⟩:=h
  show 10
  show 43
  show 0
  exists xc (au (i:=2) OC.nd rfl 11e5 νk)
  exists xl (ax (aS ΔR rfl 21e2 δz (λ_ _ _ _ _=>(cI (bW (aV (av Ξr ϑ T.x25.me (jC T) hr.u T.x25.b .nil aj τ4))))) νF))
  refine #[_,rfl,R.A,dx,_,rfl,hA,rfl,H0,R,r,w,n,M,N,l,cs,C,os,as,rfl,I,J,λkn H1 s1 Y G=>?_];refine #[_,rfl,so,rfl,#[_,s1.seq g],λD nD=>?_];refine fT (rs:=rs) (b:=λk=>!fx r w M N l ϋ k) (cs:=[some ψi,some δl]) (s1.seq g) nD rfl 92e3 (λx Hx Rx hx sx hR=>?_) (λx Hx Rx hx _ sx hR=>ζn) ηi
  ·have j:=J.sm.trans ώZ
   obtain⟨O,Lp,qs,hc,_⟩:=I.code.ins;refine #[_,rfl,R.A,_,_,_,_,rfl,191e1 _ _ hA,ϐ,ζo,cK _ _ _ _ _,R.c,O,_,rfl,j _ _ hc,rfl,_,rfl,_,rfl,R.c,R.bp,R.fp,kn,r,w,n,M,N,x,l,knO os,rfl,I.code.same j,εW,I.W,sx _ _ G,by rw[cj,δP],U x hx,λH' s'=>?_]
   exact υ4
  ·exact q D H2 ηq χr hD
def jb (cs:Ϝ) (rs:η):Int:=(rs.map λk=>(((cs.getD k none).getD 0:Nat):Int)).sum
def ui (cs:Ϝ) (as ls:η):V:=if ls.all εU=true then .int (jb cs ls) else .non
inductive uj (K:n_) (a:A_) (vs:δ) (H:Hp) (Q:VK) (E_3:XK):Prop
 | mk:∀(H0:Hp) (R:DT) (so:Addr) (r w n M N:Nat) (l:Nat->Nat->Nat) (cs srow os:List (Option Nat)) (as rs:List Nat),vs=[.ref R.A,.ref so]->Eg a H0 R r w n M N l cs srow->v_ a H0 H R (N+M) os as->b_ K H so (rowV rs)->rs.length<=8->((∀k∈rs,k < N+M))->((∀k,(cs.getD k none).getD 0<=1000000))->(∀H',a_ H H'->Q (ui cs as (rs.filter λk=>!fx r w M N l ϋ k)) H')->uj K a vs H Q E_3
theorem oA (T:μ):C_ P wo K mg base 11 a.f42 ["self", "some"] (uj K a):=by
 refine T.x42.F.okA (k:=10) Oq ξ
 ·obtain⟨H0,R,so,r,w,n,M,N,l,cs,j,os,as,rs,rfl,I,J,U,h8,O,Y,q⟩:=h
  show 10
  show 43
  show 0
  exists xc (au (i:=2) Oq.nd rfl 0e3 (av ο ϐ T.x41.me (fJ T) hr.u T.x41.b .nil aj γ9))
  show 1
  refine xi (bW (aV (aC (yN rfl) rfl T.Ac9 boot_all (aa (aS ρg rfl 40e6 δS γ5 (λ_ _ _ _ _=>by exact(av ο ϐ T.x32.me (dt T) hr.u T.x32.b .nil aj γ9))) ac)))) ?_
  show 26
  show 2
  exists xl (ax ΓN)
  refine #[_,rfl,R.A,dx,_,rfl,hA,rfl,_,rfl,H0,R,so,r,w,n,M,N,l,cs,j,os,as,rs,rfl,I,J,U,h8,O,λL H1 s1 nL hL=>?_]
  have G:∀k∈(rs.filter λk=>!fx r w M N l ϋ k),k < N+M:=λk hk=>O k (E5.mp hk).1
  have C:(rs.filter λk=>!fx r w M N l ϋ k).length<=8:=DK μB h8;generalize (rs.filter λk=>!fx r w M N l (knO os) k)=ls at q hL G C;refine #[_,rfl,L,rfl,θw,λD nD=>?_];refine ci (xs:=rowV ls) (f:=λi=>.bl Ωn) (cs:=[some δl]) η1 nD rfl 140e4 ηc ηi
  ·obtain⟨k,ek,rfl⟩:=bh hu
   have eg:ls.getD i 0=k:=by rw[t_,ek];rfl
   show 95
   have g:=s1.trans s2;refine #[_,rfl,R.A,dx,_,rfl,g _ _ hA,rfl,_,rfl,H0,R,r,w,n,M,N,k,l,cs,j,os,as,rfl,I,J.same g,G k ζL,?_];show 50
  rw[ap] at hD
  have ex:((p_ ls.length).map λi=>V.bl Ωn)=(ls.map εU).map V.bl:=by
   rw[Fa]
   apply GZ
   intro i;rw[DO,DO]
   by_cases hi:i < ls.length
   ·rw[F1 hi,s_ hi]
    have eg:ls.getD i 0=ls[i]:=by rw[t_,s_ hi];rfl
    show 344
   ·rw[Fh δf,Fh γ]
    rfl
  rw[ex] at hD
  have g:=s1.trans s2;refine ΦE
  have ea:((ls.map εU).all λb=>b)=ls.all 23e2:=by rw[PD];rfl
  rw[ea];unfold ui at q
  cases hz:ls.all (DA cs as) with
  | false =>
   show 64;show 19;exact q H2 g
  | true =>
   show 64;show 32
   refine #[_,rfl,R.A,dx,_,rfl,g _ _ hA,rfl,_,rfl,H0,R,L,r,w,n,M,N,l,cs,j,os,as,ls,rfl,I,J.same g,b_.of (s2 _ _ hL),C,λk hk=>#[G k hk,?_,Y k],λH' s'=>q H' (g.trans s')]
   have:=Go.mp hz k hk;unfold DA at this;exact(Gx _ _ ▸ this).1
def GS (cs:Ϝ) (k:Nat):Int:=(((cs.getD k none).getD 0:Nat):Int)
inductive wz (a:A_) (vs:δ) (H:Hp) (Q:VK) (E_3:XK):Prop
 | mk:∀(H0:Hp) (R:DT) (r w n M N:Nat) (l:Nat->Nat->Nat) (cs srow os:List (Option Nat)) (as:List Nat),vs=[.ref R.A]->Eg a H0 R r w n M N l cs srow->v_ a H0 H R (N+M) os as->(∀D H' ms,v_ a H0 H' R (N+M) os as->(∀b o,b≠a.t38->H b=some o->H' b=some o)->H D=none->H' D=some (.lst (rowV ms))->ms.Perm ((p_ (N+M)).filter (DA cs as))->ms.Pairwise (F4 (GS cs))->Q (.ref D) H')->wz a vs H Q E_3
theorem oB (T:μ) (B:εf):C_ P wo K mg base 5 a.f38 ["self"] (wz a):=by
 refine T.x38.F.okA (k:=4) OE ρD
 ·obtain⟨H0,R,r,w,n,M,N,l,cs,G,os,as,rfl,I,J,q⟩:=h
  show 10
  show 18
  show 101
  show 0
  exists xc (b9 (i:=1) OE.nd rfl 0e3 ρg rfl (aY rfl T.A07 Φu) δS (λ_ _ _ _ _=>(cI πW)) νE)
  exists xl (ax (Ax (k:=0) (p:="role") (y:="self") (j:=0) (T.x38.F.tab B.Ad0 B.Ab6) rfl hr.u rfl T.A19 Θ πV rfl 8e2 rfl rfl rfl rfl 171e9 (λ_ _ _ _ _ _ hr=>(bS (aa (aE μO ωq ο γ0) ηW)))))
  refine #[_,rfl,R.A,_,_,_,_,rfl,J.sm _ _ hA,ϐ,ζo,cK _ _ _ _ _,R.c,_,_,_,_,rfl,hc,ϑ,ηK,eG R.bp M N Lp,_,rfl,by omega,by omega,λfl Z=>?_]
  rw[Fu];refine de (n:=N+M) (f:=λk=>.int ((k:Nat):Int)) (b:=DA cs as) (cs:=[some δl]) Z rfl 63e5 ιQ Ψ1 όr
  ·refine #[_,rfl,R.A,dx,_,rfl,s2 _ _ ώY,rfl,_,rfl,H0,R,r,w,n,M,N,k,l,cs,G,os,as,rfl,I,J.same s2,hk,?_]
   exact ζn
  ·exact ζn
  have J2:=J.same s2
  have C:H2 fl=some (.lst (rowV ΦQ)):=U;show 22;refine ud (q:=qL) (pos:=Jl) J2.tab λH3 c' fa aT pm aw k3 t3 n3 an ad Y=>?_
  have ht:∀{b:Addr}{xs:δ},H2 b=some γV->b≠a.t38:=λ{b xs} e=>by
   obtain⟨ps,hp,_⟩:=J2.tab;exact bj e hp γJ
  have h0:∀{b:Addr}{o:HO},H0 b=some o->b≠a.t38:=λ{b o} e=>al e I.nt
  have J3:v_ a H0 H3 R (N+M) os as:=#[λb o e=>k3 b o (h0 e) (J2.sm b o e),k3 _ _ (ht J2.hr) J2.hr,k3 _ _ (ht J2.hs) J2.hs,J2.hz.imp λ_ e=>#[k3 _ _ (ht e.1) e.1,e.2],t3,J2.osl,J2.nd,J2.lt];refine #[fl,(p_ (N+M)).filter εU,GS cs,8,.ref R.A,rfl,b_.of (k3 _ _ (ht C) C),IT _ Kx,λk hk=>?_,?_,rfl,λk H' hk sm=>?_,λD H' ms n1 n2 sm pm pw=>?_]
  ·have:=EF.mp (E5.mp hk).1
   omega
  ·have:=GP εU μg
   show 147
  ·have O:=EF.mp (E5.mp hk).1
   have g:=(E5.mp hk).2
   have J':=J3.same sm
   have ev:FS υz=.int (GS cs k):=by
    unfold DA at g;unfold GS
    cases hz:cs.getD k none with
    | none=>rw[hz] at g;cases g
    | some b=>rfl
   have gi:=aB (bQ (dP (os:=cs) (k:=k) (by rw[I.csl];exact O)))
   show 96;exact #[_,rfl,R.A,_,_,_,_,rfl,J'.sm _ _ hA,ϐ,ηM,eO _ _ _ _ _,_,rfl,R.cl,_,_,_,rfl,rfl,b_.of (J'.sm _ _ ν4),gi,_,rfl,(by show 2<=δv;decide),λp np=>#[p,rfl,ab,a_.new np]]
  ·have s4:a_ H3 47e8:=sm.up n1
   refine q D _ ms (J3.same s4) (λb o hb e=>s4 b o (k3 b o hb (s2 b o e))) ?_ ab pm pw;exact s2.free (Y D n1)
def Gn (ks:δ4):List Nat->List Bool
 | []=>ks
 | k :: way=>Gn ύD way
theorem AL (ks:δ4) (k:Nat):∀way,Gn ks (way++[k])=(Gn ks way).set k true:=λway=>by
 induction way generalizing ks with
 | nil=>rfl
 | cons x way ih=>exact ih _
theorem oC (ks:δ4):∀way,(Gn ks way).length=ks.length:=λway=>by
 induction way generalizing ks with
 | nil=>rfl
 | cons x way ih =>
  show (Gn υM way).length=_
  rw[ih,HQ]
theorem B8 (ks:δ4) (k:Nat):(FB ks).set k (.bl true)=FB 182e7:=by
 unfold FB;rw[ME]
theorem hU {ms:η}{k:Nat} (h:ms[j]?=some k):ms.take (j+1)=ms.take j++[k]:=by
 rw[K0,h];rfl
def jc (r w M N:Nat) (l:ύ) (ks:δ4) (rs ms:η) (j:Nat):Prop :=
 j<=ms.length/\rs.all ωo=true/\∀i,i < j->rs.all Φ1=false
def mF (r w M N:Nat) (l:ύ) (ks:δ4) (rs ms:η):Prop:=∀i,i<=ms.length->rs.all Φ1=false
inductive uk (a:A_) (vs:δ) (H:Hp) (Q:VK) (E_3:XK):Prop
 | mk:∀(H0:Hp) (R:DT) (so:Addr) (r w n M N:Nat) (l:Nat->Nat->Nat) (cs srow os:List (Option Nat)) (as rs:List Nat),vs=[.ref R.A,.ref so]->Eg a H0 R r w n M N l cs srow->v_ a H0 H R (N+M) os as->H so=some (.lst (rowV rs))->((∀k∈rs,k < N+M))->(∀H' ms,v_ a H0 H' R (N+M) os as->(∀b o,b≠a.t38->H b=some o->H' b=some o)->ms.Perm ((p_ (N+M)).filter (DA cs as))->ms.Pairwise (F4 (GS cs))->(∀D j,jc r w M N l (knO os) rs ms j->H D=none->H' D=some (.lst (rowV (ms.take j)))->Q (.ref D) H')/\(mF r w M N l (knO os) rs ms->Q .non H'))->uk a vs H Q E_3
theorem dy (T:μ) (B:εf):C_ P wo K mg base 10 a.f39 ["self", "some"] (uk a):=by
 refine T.x39.F.okA (k:=9) LF ξ
 ·obtain⟨H0,R,so,r,w,n,M,N,l,cs,Z,os,as,rs,rfl,I,J,aw,a5,q⟩:=h
  show 10
  show 18
  have a8:so≠a.t38:=by
   show 346;exact bj aw hp γJ
  show 0
  exists xc (au (i:=2) LF.nd rfl 0e3 (bi ο ϐ T.x38.me (oB T B) hr.u T.x38.b .nil aj))
  exists xc (au (i:=3) LF.nd rfl 0e3 νk)
  exists xc (au (i:=4) LF.nd rfl 0e3 η6)
  show 1;refine xw ϗ (bW (aV (aH (gI T) hr.u rfl T.x30.m T.x30.k T.x30.b .nil aj (aa γ1 (aa ϊ γ9))))) ?_;show 1;refine xi (am bT ΞP εX ψ) ?_
  show 26
  show 2
  exists xc (au (i:=5) LF.nd rfl 0e3 (aE aG Ω ΞP γ0))
  exists xc (cG dj (c9 ϊ γf cp))
  exists xl (aF (cu Hr Hs Hv aZ γ6 ω0))
  show 5
  exists xl χD
  refine #[_,rfl,R.A,dx,_,rfl,J.sm _ _ hA,rfl,H0,R,r,w,n,M,N,l,cs,Z,os,as,rfl,I,J,λD1 H1 ms J1 k1 a9 an pm pw=>?_]
  have q:=λH' (s:a_ H1 H')=>q H' ms (J1.same s) (λb o hb e=>s b o (k1 b o hb e)) pm pw
  have a2:=k1 _ _ a8 aw
  have ml:ms.length<=8:=by
   rw[ο2]
   show 347;omega
  have a7:∀k∈ms,k < N+M:=λk hk=>EF.mp (E5.mp (pm.mem_iff.mp hk)).1;refine #[_,rfl,R.A,dx,_,rfl,J1.sm _ _ hA,rfl,H0,R,r,w,n,M,N,l,cs,Z,os,as,rfl,I,J1,λD2 H2 s2 a4 a0=>?_];refine #[EO _,λD3 aT=>?_]
  have Y:D2≠D3:=al a0 aT
  have C:H1 D3=none:=s2.free aT
  have a6:∀D,H1 D=none->H D=none:=λD e=>by
   cases z:H D with
   | none=>rfl
   | some o =>
    by_cases y:D=a.t38
    ·obtain⟨ps,hp,_⟩:=J1.tab
     rw[y,hp] at e;cases e
    ·rw[k1 D o y z] at e;cases e
  have ad:89e4 D3=some (.lst (rowV (ms.take 0))):=ab
  have U:89e4 D2=some (.lst (FB (Gn ϋ (ms.take 0)))):=by rw[ae Y];exact a0
  have s3:a_ H1 89e4:=s2.up C;generalize (upd H2 D3 (.lst []))=H3 at ad U s3
  refine⟨λm σ H'=>∃(j:Nat) (v5:εi),m=ms.length - j/\j<=ms.length/\σ=[some δl,some ηy,some (.ref D1),some (.ref D2),some (.ref D3),v5]/\a_ H1 H'/\H' D2=some (.lst (FB (Gn ϋ ζY)))/\H' D3=some τb/\∀i,i < j->rs.all (fx r w M N l (Gn ϋ (ms.take i)))=υ,
   ⟨_,0,none,rfl,EO _,rfl,s3,U,ad,λi hi=>absurd hi (Hl i)⟩,?_⟩
  rintro m σ H' ⟨j,v5,rfl,hj,rfl,sm,h2,h3,O⟩
  have J':=J1.same sm;refine #[_,rfl,R.A,_,_,_,_,rfl,J'.sm _ _ hA,ϐ,ζo,cK _ _ _ _ _,_,rfl,_,rfl,?_];refine #[R.c,R.bp,R.fp,D2,so,r,w,n,M,N,l,Gn ϋ ζY,rs,rfl,I.code.same J'.sm,εW,I.W,h2,by rw[oC,cj,δP],b_.of (sm _ _ a2),a5,λH4 s4=>?_]
  show 22
  have g:=sm.trans s4
  cases hz:rs.all (fx r w M N l (Gn (knO os) (ms.take j))) with
  | true =>
   show 32
   exact #[_,rfl,(q H4 g).1 D3 j #[hj,hz,O] (a6 D3 C) (s4 _ _ h3)]
  | false =>
   refine c_ ρI γY;refine #[_,rfl,D3,_,rfl,.inl ϋl,_,rfl,D1,_,rfl,.inl (b_.of (g _ _ an)),rfl,_,rfl,?_]
   have e1:(rowV ζY).length=j:=by rw[ap,Hu];omega
   rw[e1,ap]
   by_cases hjm:j=ms.length
   ·refine c_ ι (λy=>absurd (decide_eq_true (by rw[hjm])) y)
    refine(q H4 g).2 λi hi=>?_
    by_cases y:i=j
    ·rw[y];exact hz
    ·exact O i γ
   ·refine c_ Δf ι
    have G:j < ms.length:=by omega
    have gk:ms[j]?=some ms[j]:=s_ G
    have hk:=a7 _ (GM G)
    have ek:(rowV ms)[j]?=some (.int (ms[j]:Nat)):=mo G;refine #[_,rfl,_,rfl,D3,_,rfl,.inl ϋl,?_];rw[e1];refine #[D1,_,_,_,rfl,rfl,b_.of (g _ _ an),aB ek,?_];refine #[_,rfl,_,rfl,D2,_,_,ms[j],rfl,rfl,s4 _ _ h2,cJ (by unfold FB;rw[o_,oC,cj,δP];exact hk),?_]
    rw[B8,← AL,← hU gk]
    have a1:(upd H4 D2 (.lst (FB (Gn ϋ (ms.take (j+1)))))) D3=some 86e9:=by
     rw[ae (Es Y)];exact s4 _ _ h3
    have a3:(rowV ζY).length < sizeLine:=by
     rw[e1];exact Fg (by omega:j < 8) ε
    refine #[_,rfl,.inl #[rfl,_,b_.of a1],_,rfl,D3,_,_,rfl,rfl,a1,a3,?_];rw[g9,← hU gk];refine #[ms.length - (j+1),by omega,j+1,_,rfl,G,rfl,(g.up a4).up C,?_,ab,λi hi=>?_]
    ·rw[ae Y];exact ab
    ·by_cases y:i=j
     ·rw[y];exact hz
     ·exact O i γ
def Ka (cs:Ϝ) (rs:η):Int:=(rs.map λk=>GS cs k).sum
theorem Eg.ext {R:DT} (I:νJ) (nD:H0 D=none) (h1:R.rl≠D) (h2:R.sl≠D) (h3:R.z≠D) (h4:a.t38≠D):Eg a ο5 R r w n M N l cs srow:=by
 have s:=a_.new (o:=o) nD;show 348
theorem v_.ext {R:DT} (J:ηg) (hD:χZ):v_ a ο5 H R n os as :=
 ⟨λb u e=>by
  by_cases z:b=D
  ·rw[z,ab] at e
   cases e;rw[z];exact hD
  ·rw[ae z] at e
   exact J.sm b u e,J.hr,J.hs,J.hz,ιb,δP,J.nd,J.lt⟩
theorem v_.rebs {H0':Hp}{R:DT} (J:v_ a H0' H R n os as) (s:a_ H0 H0'):v_ a H0 H R n os as:=#[s.trans J.sm,J.hr,J.hs,J.hz,ιb,δP,J.nd,J.lt]
theorem v_.away {R:DT} (J:ηg) (nD:οO):R.rl≠D/\R.sl≠D/\R.z≠D/\a.t38≠D:=by
 show 346;exact #[al J.hr nD,al J.hs nD,J.hz.elim λ_ e=>al e.1 nD,al hp nD]
theorem um {R:Nat}{X:η}{k:Nat} (hl:os.length=R) (hs:b8 R srow X) (ho:b8 R os X) (hk:k < R):b8 R (tk cs srow os as k).1 X:=by
 unfold tk
 split
 ·intro j hj b hb
  by_cases z:j=k
  ·subst z
   rw[t_,Me γ] at hb
   exact hs j hj b hb
  ·rw[t_,K8 μN,← t_] at hb
   exact ho j hj b hb
 ·exact ho
theorem CZ {k:Nat}:(tk cs srow os as k).1.length=os.length:=by
 unfold tk
 split
 ·exact HQ
 ·rfl
theorem py {k:Nat} (h:υL):(tk cs srow os as k).2.length=as.length+1:=by
 unfold tk;rw[if_pos h];exact Fn
theorem Bt {k:Nat}:as.length<=(tk cs srow os as k).2.length:=by
 unfold tk
 split
 ·rw[Fn];exact KA _ _
 ·show 35
theorem im {R:Nat}{cs srow:Ϝ}{X:η} (hs:b8 R srow X):∀(ks:η) (os:Ϝ) (as:η),πf=R->(∀k∈ks,k < R)->b8 R os X->b8 R (bH cs srow ks os as).1 X
 | [],_,_,_,_,h=>h
 | k :: ks,os,as,hl,hk,h=>by
  have h1:=um (cs:=cs) (as:=as) hl hs h ύ3;unfold bH
  split
  ·exact im hs ks _ _ (by rw[CZ,hl]) Ψ5 h1
  ·exact h1
theorem uo {cs srow:Ϝ}:∀(ks:η) (os:Ϝ) (as:η),as.length<=(bH cs srow ks os as).2.length
 | [],_,_=>y_ _
 | k :: ks,os,as=>by
  unfold bH
  split
  ·exact DK Bt (uo ks _ _)
  ·exact Bt
theorem oE {k:Nat}{ks:η} (h:υL):as.length+1<=(bH cs srow (k :: ks) os as).2.length:=by
 unfold bH
 split
 ·rw[<- py (srow:=srow) (os:=os) h]
  exact uo ks _ _
 ·rw[py h]
  show 35
theorem ur {F:ηA}{G:Prop} (Pz:ηA) (h:ϊZ) (key:ύE):G:=h key
section
variable (r w M N:Nat) (l:Nat->Nat->Nat) (cs srow:List (Option Nat)) (k:Nat)
inductive IJ:List εN->List Nat->List εN->List Nat->Bool->Prop
 | fixed {os as:_}:fx r w M N l (knO os) k=true->IJ os as os as true
 | none {os as ms:_}:fx r w M N l (knO os) k=false->ms.Perm ((p_ (N+M)).filter (DA cs as))->ms.Pairwise (F4 (GS cs))->mF r w M N l (knO os) [k] ms->IJ os as os as false
 | own {os as ms j os' as' b:_}:fx r w M N l (knO os) k=false->ms.Perm ((p_ (N+M)).filter (DA cs as))->ms.Pairwise (F4 (GS cs))->jc r w M N l (knO os) [k] ms j->DA cs as k=true->GS cs k<=Ka cs (ms.take j)->IJ (tk cs srow os as k).1 (tk cs srow os as k).2 os' as' b->IJ os as os' as' b
 | way {os as ms j os' as' b:_}:fx r w M N l (knO os) k=false->ms.Perm ((p_ (N+M)).filter (DA cs as))->ms.Pairwise (F4 (GS cs))->jc r w M N l (knO os) [k] ms j->¬ (DA cs as k=true/\GS cs k<=Ka cs (ms.take j))->IJ (bH cs srow (ms.take j) os as).1 (bH cs srow (ms.take j) os as).2 os' as' b->IJ os as os' as' b
end
inductive zD (a:A_) (vs:δ) (H:Hp) (Q:VK) (E_3:XK):Prop
 | mk:∀(H0:Hp) (R:DT) (r w n M N k:Nat) (l:Nat->Nat->Nat) (cs srow os:List (Option Nat)) (as X:List Nat),vs=[.ref R.A,.int k]->Eg a H0 R r w n M N l cs srow->v_ a H0 H R (N+M) os as->k < N+M->((∀j,(cs.getD j none).getD 0<=1000000))->X.length=N+M->((∀b∈X,b < (2 ^ w) ^ n))->Gm r w n M N l X=true->b8 (N+M) srow X->b8 (N+M) os X->(∀H' os' as' b,IJ r w M N l cs srow k os as os' as' b->b8 (N+M) os' X->v_ a H0 H' R (N+M) os' as'->Q (if b=true then .int ((X.getD k 0:Nat):Int) else .non) H')->zD a vs H Q E_3
theorem ut (T:μ) (B:εf):C_ P wo K mg base 11 a.f52 ["asking", "role"] (zD a):=by
 refine T.x52.F.okA (k:=10) OD ξ
 ·obtain⟨H0,R,r,w,n,M,N,k,l,cs,srow,os,as,X,rfl,I,J,hk,b1,hX,bt,hm,an,a9,q⟩:=h
  show 10
  show 18
  show 0
  show 1;refine xw ϗ (bW (aV (av ο ϐ T.x36.me (cN T) hr.u T.x36.b .nil aj Ψv))) ?_
  exists xc (au (i:=2) OD.nd rfl 0e3 (av ο ϐ ψL ψM hr.u T.x39.b .nil aj Ψv))
  show 1;refine xi (am io Ω aO ψ) ?_
  show 26
  show 27;refine xi (PW.pt (mL πW (ky (am rH ζZ ΓN ψ)))) ?_
  exists xl (aF (av ο ϐ T.x33.me (iQ T) hr.u T.x33.b .nil aj γ9))
  exists xl (aF (av ο ϐ T.x34.me (dQ T) hr.u T.x34.b .nil aj γH))
  show 5;show 5
  exists xl (ax (av ο ϐ T.x40.me (cm T) hr.u T.x40.b .nil aj γ9))
  refine⟨λm σ H'=>∃(g:Ϝ) (C:η) (v2:εi),m=(N+M) - C.length/\σ=[some δl,some θB,v2]/\v_ a H0 H' R (N+M) g C/\b8 (N+M) g X/\∀Z O b,IJ r w M N l cs srow k g C Z O b->IJ r w M N l cs srow k os as Z O b,
   ⟨_,os,as,none,rfl,rfl,J,a9,λ_ _ _ h=>h⟩,?_⟩
  rintro m σ H1 ⟨g,C,v2,rfl,rfl,J1,G,U⟩;refine #[_,rfl,R.A,dx,_,rfl,J1.sm _ _ hA,rfl,_,rfl,Ψm,λp1 n1=>?_]
  have J2:=J1.same (a_.new (o:=.lst [V.int (k:Nat)]) n1)
  have a5:(upd H1 p1 ϊ4) p1=some 175e4:=ab;generalize (upd H1 p1 (.lst [V.int (k:Nat)]))=H2 at J2 a5
  have a0:∀j∈[k],j < N+M:=λj hj=>by rw[Eu.mp hj];exact hk
  refine #[H0,R,p1,r,w,n,M,N,l,cs,srow,g,C,[k],rfl,I,J2,b_.of a5,a0,λH3 s3=>?_]
  have J3:=J2.same s3;show 22
  have aw:[k].all ιY=fx r w M N l μX k:=by
   rw[Mb,Q4,Oa]
  rw[aw]
  cases hz:fx r w M N l (knO g) k with
  | true =>
   show 32
   refine #[_,rfl,R.A,dx,_,rfl,J3.sm _ _ hA,rfl,_,rfl,H0,R,r,w,n,M,N,k,l,cs,srow,g,C,X,rfl,I,J3,hk,hX,bt,hm,G,λH4 s4=>?_];rw[hz];exact q H4 g C true (U _ _ _ (.fixed hz)) G (J3.same s4)
  | false =>
   refine c_ ρI γY;refine #[_,rfl,R.A,dx,_,rfl,J3.sm _ _ hA,rfl,_,rfl,Ψm,λp2 n2=>?_]
   have J4:=J3.same (a_.new (o:=.lst [V.int (k:Nat)]) n2)
   have a6:(upd H3 p2 ϊ4) p2=some 175e4:=ab;generalize (upd H3 p2 (.lst [V.int (k:Nat)]))=H4 at J4 a6;refine #[H0,R,p2,r,w,n,M,N,l,cs,srow,g,C,[k],rfl,I,J4,a6,a0,λH5 ms J5 k5 pm pw=>#[λD j hd nD hD=>?_,λhd=>?_]]
   ·have ad:H0 D=none:=J4.sm.free nD
    obtain⟨a1,a2,a3,a4⟩:=J4.away nD
    have Y:∀x∈ms.take j,x < N+M/\DA cs C x=true:=λx hx=>by
     have:=E5.mp (pm.mem_iff.mp (L5 hx));exact τa
    have bm:(ms.take j).length<=8:=by
     have h1:=GP (DA cs C) μg;rw[Eo,← pm.length_eq] at h1;rw[Hu];omega
    have b0:∀x∈ms.take j,x < N+M/\(cs.getD x none).isSome=true/\(cs.getD x none).getD 0<=1000000:=λx hx=>by
     obtain⟨h1,h2⟩:=Y x hx;unfold DA at h2;exact #[h1,(Gx _ _ ▸ h2).1,b1 x]
    show 349
    refine #[_,rfl,R.A,dx,_,rfl,J5.sm _ _ hA,rfl,_,rfl,H0,R,r,w,n,M,N,k,l,cs,srow,g,C,rfl,I,J5,hk,?_]
    have b2:=J5.asl
    refine ur (λH6=>a_ H5 H6/\¬ (DA cs C k=true/\GS cs k<=Ka cs ζY)) (λaT=>by
     cases hy:DA cs C k with
     | true =>
      refine νn
      have ev:FS υz=.int (GS cs k):=by
       unfold DA at hy;unfold GS
       cases hv:cs.getD k none with
       | none=>rw[hv] at hy;cases hy
       | some b=>rfl
      have gi:=aB (bQ (dP (os:=cs) (k:=k) Ωk))
      show 96;refine #[_,rfl,R.A,_,_,_,_,rfl,J5.sm _ _ hA,ϐ,ηM,eO _ _ _ _ _,_,rfl,R.cl,_,_,_,rfl,rfl,b_.of (J5.sm _ _ ν4),gi,_,rfl,R.A,dx,_,rfl,J5.sm _ _ hA,rfl,_,rfl,H0,R,D,r,w,n,M,N,l,cs,srow,g,C,ms.take j,rfl,I,J5,b_.of hD,bm,b0,λH6 s6=>?_];refine #[_,_,rfl,rfl,_,rfl,?_];refine Iq (λhc=>?_) (λhc=>?_)
      ·exact aT H6 #[s6,λz=>hc (decide_eq_true z.2)]
      ·have J6:=J5.same s6
       refine #[_,rfl,R.A,dx,_,rfl,J6.sm _ _ hA,rfl,_,rfl,H0,R,r,w,n,M,N,k,l,cs,srow,g,C,rfl,I,J6,hk,λH7 J7=>?_];refine #[(N+M) - (tk cs srow g C k).2.length,?_,_,_,_,rfl,rfl,J7,um J1.osl an G hk,λZ O b h=>U _ _ _ (.own hz pm pw hd hy (of_decide_eq_true hc) h)]
       have:=J7.asl;rw[py hy] at this ⊢;omega
     | false =>
      refine νj
      show 32
      exact aT H5 ⟨a_.refl _,λz=>absurd z.1 (by rw[hy];decide)⟩) ?_
    rintro H6 ⟨s6,a7⟩
    have J6:=J5.same s6;refine #[_,rfl,R.A,dx,_,rfl,J6.sm _ _ hA,rfl,_,rfl,?_];refine #[upd H0 D τb,R,D,r,w,n,M,N,l,cs,srow,g,C,ms.take j,rfl,I.ext ad a1 a2 a3 a4,J6.ext (s6 _ _ hD),b_.of ab,λx hx=>(Y x hx).1,λH7 J7=>?_]
    have J8:=J7.rebs (a_.new ad);refine #[(N+M) - (bH cs srow ζY g C).2.length,?_,_,_,_,rfl,rfl,J8,im an _ _ _ J1.osl (λx hx=>(Y x hx).1) G,λZ O b h=>U _ _ _ (.way hz pm pw hd a7 h)]
    have a8:∃m0 rest,ms.take j=m0 :: rest:=by
     cases e:ms.take j with
     | nil =>
      have:=hd.2.1;rw[e] at this
      have h2:[k].all ιY=true:=this;rw[aw,hz] at h2
      cases h2
     | cons m0 rest=>exact⟨m0,rest,rfl⟩
    obtain⟨m0,rest,e0⟩:=a8
    have h1:=oE (srow:=srow) (ks:=rest) (os:=g) (Y m0 ΨM).2
    have h2:=J8.asl;show 350
   ·refine δe
    show 19
    have:=q H5 g C υ (U _ _ _ (.none hz pm pw hd)) G J5;rw[if_neg ε] at this
    show 9
theorem cD {l:Addr}{f:Nat->V}{k:Nat}{cs:ηN} (hl:ϋk) (hD:γq) (hk:γF) (hn:rs.length<=1000)
  (he:∀x H (R:γj),x∈rs->a_ H1 H->Ψc->te ρZ H R)
  (hQ:∀H,a_ H1 H->H D=some (.lst (rs.map f))->Q H):bq (IM K l) δ6 bz te δ2 H1 D Q:=by
 refine ci (xs:=rowV rs) (f:=λi=>f μ8) hl hD hk (by rw[ap];exact DK hn ε) (λi u H R hu sm hR=>?_) Ωl
 ·obtain⟨x,ex,rfl⟩:=bh hu
  have eg:rs.getD i 0=x:=by rw[t_,ex];rfl
  rw[eg] at hR;exact he x H R (Ez ex) sm hR
 ·rw[h,ap]
  refine congrArg Ωm ?_
  apply GZ
  intro i;rw[DO,DO]
  by_cases hi:i < rs.length
  ·rw[F1 hi,s_ hi,HZ,t_,s_ hi]
   rfl
  ·rw[Fh δf,Fh γ]
   rfl
def EA (l:ύ) (t k:Nat):Bool:=decide (l t k≠0)
def aX (nk:η) (nb:Ϟ):List (Key × V):=nk.map λk=>(Sum.inl ((k:Nat):Int),V.int ((nb k:Nat):Int))
def j_ (N:Nat) (nk:η):List Nat:=(p_ N).filter λk=>nk.contains k
variable {nk:List Nat}
theorem bJ {k:Nat} (lt:θx):k∈j_ N nk ↔ k∈nk:=by
 unfold j_;rw[E5,EF,Ig];exact #[λh=>h.2,λh=>#[lt k h,h]]
theorem cV:(j_ N nk).length<=N:=by
 have:=GP (λk=>nk.contains k) (p_ N)
 rwa [Eo] at this
theorem dR (nk:η) (nb:Ϟ):(aX nk nb).map (·.1)=(nk.map λk=>((k:Nat):Int)).map Sum.inl:=by
 unfold aX;rw[Fa,Fa];rfl
theorem cW (nd:nk.Nodup) (lt:θx) {ns:γz} (p:ns.Perm (nk.map λk=>((k:Nat):Int))) (s:ns.Pairwise λx y=>x<=y):ns.map V.int=rowV 12e1:=by
 have e:ns=(j_ N nk).map λk=>((k:Nat):Int):=by
  refine Oh (le:=λx y=>x<=y) ΦX s ?_ (p.trans (Qz _ ?_))
  ·rw[PB]
   exact(IT _ MS).imp λh=>by omega
  ·refine(P7 nd οB).mpr λk=>?_
   exact(bJ lt).symm
 rw[e];show 40
theorem cX (nk:η) (nb:Ϟ) (k:Nat):Fi (aX nk nb) ΩG=if k∈nk then some (.int ((nb k:Nat):Int)) else none:=by
 unfold aX
 induction nk with
 | nil=>rfl
 | cons x nk ih =>
  rw[FY]
  by_cases e:x=k
  ·subst e
   rw[gm rfl,if_pos F0]
  ·rw[gp (λy=>e (by have:=Sum.inl.inj y;omega)),ih]
   show 102
   ·rw[if_pos m,if_pos (Fv _ m)]
   ·rw[if_neg m,if_neg (λy=>by rcases DH.mp y with y | y;exact e y.symm;exact m y)]
inductive qK (a:A_) (vs:δ) (H:Hp) (Q:VK) (E_3:XK):Prop
 | mk:∀(c bp fp:Addr) (r w n M N t k:Nat) (l:Nat->Nat->Nat),vs=[.ref c,.int t,.int k]->DB a H c bp fp r w n M N l->t < M->k < N->Q (.bl (EA l t k)) H->qK a vs H Q E_3
theorem hV (T:μ):C_ P wo K mg base 1 a.f29 ["self", "total", "role"] (qK a):=by
 refine T.x29.F.okA (k:=0) nF ξ
 ·obtain⟨c,bp,fp,r,w,n,M,N,t,k,l,rfl,hC,ht,hk,q⟩:=h
  show 99
  show 0
  show 337
  show 3
  show 2;show 338
  show 3
  show 2
  exists xl (ax (d7 dG (aE aG ζZ Ω γ0) ai ψ))
  show 24
  refine #[_,rfl,_,rfl,c,_,_,_,_,rfl,h1,ϑ,T.A50,wg bp M N Lp,_,_,rfl,rfl,_,rfl,?_];show 157
  show 24
  refine #[_,rfl,_,rfl,c,_,_,_,_,rfl,h1,ϑ,εJ,dD bp M N Lp,_,_,rfl,rfl,_,rfl,?_];show 157
  obtain⟨p,ep,hp⟩:=h3.get ht
  have gi:=aB ρ6
  rw[bu (by omega:ι1),show eqn N l t k=l t k by unfold eqn;rw[if_pos hk]] at gi
  refine #[_,rfl,c,_,_,_,_,rfl,h1,ϑ,T.A39,i5 bp M N Lp,_,rfl,Lp,_,_,_,rfl,rfl,b_.of h2,aB ζf,_,rfl,p,_,_,_,rfl,rfl,b_.of hp,gi,rfl,?_]
  have ed:(!decide (V.int ((l t k:Nat):Int)=V.int 0))=EA l t k:=by
   unfold EA
   by_cases x:l t k=0
   ·rw[x];rfl
   ·show 351
  rw[ed];exact q
inductive qM (K:n_) (a:A_) (vs:δ) (H:Hp) (Q:VK) (E_3:XK):Prop
 | mk:∀(c bp fp tl:Addr) (r w n M N k:Nat) (l:Nat->Nat->Nat) (ts:List Nat),vs=[.ref c,.ref tl,.int k]->DB a H c bp fp r w n M N l->b_ K H tl (rowV ts)->ts.length<=8->((∀t∈ts,t < M))->k < N->(∀H',a_ H H'->Q (.bl (ts.any λt=>EA l t k)) H')->qM K a vs H Q E_3
theorem oF (T:μ):C_ P wo K mg base 2 a.f43 ["code", "totals", "role"] (qM K a):=by
 refine T.x43.F.okA (k:=1) xu ξ
 ·obtain⟨c,bp,fp,tl,r,w,n,M,N,k,l,ts,rfl,hC,g,h8,j,hk,q⟩:=h
  show 0
  exists xl (ax (aC (qi rfl) rfl T.A53 οU (aa (aS (g_.of (cap:=[2,0]) (own:=["total"]) γg) rfl 21e2 δz γ5 (λ_ _ _ _ _=>by exact(av Θ ϑ T.x29.me (hV T) hr.u T.x29.b .nil aj τ5))) ac)))
  refine #[_,rfl,tl,rfl,#[_,g],λD nD=>?_];refine cD (f:=λt=>.bl (EA l t k)) (cs:=[some θB,some γo]) g nD rfl 0e0 τ8 ηi
  ·obtain⟨dx,Lp,qs,h1,h2,h3⟩:=id γT
   exact #[_,rfl,c,dx,_,rfl,sx _ _ h1,rfl,_,rfl,_,rfl,c,bp,fp,r,w,n,M,N,t,k,l,rfl,hC.same sx,j t ht,hk,hR _ ϟ]
  ·refine #[D,ts.map λt=>EA l t k,rfl,b_.of (by rw[hD,Fa];rfl),?_]
   rw[RI];exact q H2 s2
def EJ (M N:Nat) (l:ύ) (cs:Ϝ) (rs:η):List Nat:=((p_ M).filter λt=>(cs.getD (N+t) none).isSome).filter λt=>rs.any ψN
def bD (N:Nat) (l:ύ) (ts nk:η):List Nat:=(p_ N).filter λk=>!nk.contains k && ts.any λt=>EA l t k
def EQ (N:Nat) (l:ύ) (ts rs:η):List Nat:=(rs.filter λk=>ts.any λt=>EA l t k)++ts.map λt=>N+t
theorem kE {t:Nat} (h:t∈EJ M N l cs rs):t < M:=EF.mp (E5.mp (E5.mp h).1).1
theorem AM:(EJ M N l cs rs).length<=M:=by
 have h1:=GP (λt=>rs.any ψN) Θa
 have h2:=GP ΞC (p_ M);rw[Eo] at h2;exact DK h1 h2
inductive zE (a:A_) (vs:δ) (H:Hp) (Q:VK) (E_3:XK):Prop
 | mk:∀(H0:Hp) (R:DT) (nd:Addr) (r w n M N:Nat) (l:Nat->Nat->Nat) (cs srow os:List (Option Nat)) (as nk:List Nat) (nb:Nat->Nat),vs=[.ref R.A,.ref nd]->Eg a H0 R r w n M N l cs srow->v_ a H0 H R (N+M) os as->H nd=some (.dK (aX nk nb))->nk.Nodup->((∀k∈nk,k < N))->(∀D H',a_ H H'->H D=none->H' D=some (.lst (rowV (EJ M N l cs (j_ N nk))))->Q (.ref D) H')->zE a vs H Q E_3
theorem mG (T:μ):C_ P wo K mg base 2 a.f44 ["asking", "news"] (zE a):=by
 refine T.x44.F.okA (k:=1) M0 ξ
 ·obtain⟨H0,R,nd,r,w,n,M,N,l,cs,an,os,as,nk,nb,rfl,I,J,G,C,g,q⟩:=h
  show 10
  show 43
  show 101
  show 18
  show 0
  exists xc (au (i:=2) M0.nd rfl 11e5 γ1)
  exists xc (b9 (i:=3) M0.nd rfl 0e3 (g_.of (cap:=[0,2]) (own:=["total"]) γg) rfl (aY rfl T.A07 (aa (ao Ω rfl) ac)) δz (λ_ _ _ _ _=>(cI (am bV (aE μO τ7 (ay aW ωq Ω) γ0) aO ψ))) νF)
  exists xl (ax (Aq (EU.of (cap:=[2,1]) (y:="total") γg) rfl (aL ϊ) (λ_ _ _ _ _=>(ar (i:=2) (of_decide_eq_true γg) rfl 11e5 (Or.inl (beq_self_eq_true _)))) (λ_ _ _ _ _=>by exact(cI (aV (aC (xp (K:=K) rfl rfl) rfl T.A53 οU (aa (aS ΔR rfl (AA (K:=K) rfl ωm) δz γ5 (λ_ _ _ _ _=>by exact(av Θ ϑ T.x29.me (hV T) hr.u T.x29.b .nil aj τ4))) ac))))) νF))
  refine ρ7;refine #[_,rfl,R.c,_,_,_,_,rfl,hc,ϑ,T.A50,wg R.bp M N Lp,_,rfl,by omega,by omega,λtl Z=>?_]
  rw[Fu];refine de (n:=M) (f:=λk=>.int ((k:Nat):Int)) (b:=λt=>(cs.getD (N+t) none).isSome) (cs:=[some δl,some μi]) Z rfl 144e3 (λt H2 R2 ht s2 hR=>?_) (λt H2 R2 ht hb s2 hR=>ζn) (λH2 s2 j=>?_)
  ·have gi:=aB (bQ (dP (os:=cs) (k:=N+t) ϊt))
   refine #[_,rfl,R.A,_,_,_,_,rfl,s2 _ _ hA,ϐ,ηM,eO _ _ _ _ _,_,rfl,R.c,_,_,_,_,rfl,s2 _ _ hc,ϑ,εJ,dD R.bp M N Lp,_,rfl,_,_,rfl,rfl,R.cl,_,_,_,rfl,congrArg δN (show (N:Int)+(t:Int)=((N+t:Nat):Int) by omega),b_.of ((J.sm.trans s2) _ _ ν4),gi,rfl,_,rfl,?_]
   show 342
  have j:H2 tl=some (.lst (rowV Θa)):=j
  have ad:((p_ M).filter λt=>(cs.getD (N+t) none).isSome).length<=M:=by
   have:=GP ΞC (p_ M)
   rwa [Eo] at this
  refine #[_,rfl,tl,rfl,ύB,λD nD=>?_];refine fT (rs:=(p_ M).filter λt=>(cs.getD (N+t) none).isSome) (b:=λt=>(j_ N nk).any ψN) (cs:=[some μi,some ζb]) (b_.of j) nD rfl (DK (by omega:_<=8) ε) τ8 (λt Hx Rx ht _ sx hR=>ζn) (λH3 s3 hD=>?_)
  ·have U:=EF.mp (E5.mp ht).1
   have sx:=s2.trans sx
   have nl:nk.length<=8:=DK (bG N nk C g) γ
   refine #[_,rfl,nd,_,nk.map λk=>((k:Nat):Int),rfl,sx _ _ G,dR nk nb,by rw[o_];omega,λL ns nL pm pw=>?_]
   rw[cW C g pm pw]
   show 352
   have hL:=ab (H:=Hx) (a:=L) (o:=.lst εd);generalize (upd Hx L (.lst (rowV (j_ N nk))))=Hy at sL hL;refine #[L,rfl,θw,λD2 O=>?_];refine cD (f:=λk=>.bl (EA l t k)) (cs:=[some (.int (t:Nat)),some μi]) η1 O rfl 172e0 (λk Hz Rz hk sz hR=>?_) (λH4 s4 Y=>?_)
   ·have sz:=(sx.trans sL).trans sz
    exact #[_,rfl,R.c,dc,_,rfl,sz _ _ hc,rfl,_,rfl,_,rfl,R.c,R.bp,R.fp,r,w,n,M,N,t,k,l,rfl,hC.same sz,U,g k ώg,hR _ ϟ]
   ·refine #[D2,(j_ N nk).map λk=>EA l t k,rfl,b_.of (by rw[Y,Fa];rfl),_,rfl,?_]
    rw[RI];exact hR _ (sL.trans s4)
  ·exact q D H3 χd (s2.free nD) hD
inductive uu (K:n_) (a:A_) (vs:δ) (H:Hp) (Q:VK) (E_3:XK):Prop
 | mk:∀(c bp fp tl nd:Addr) (r w n M N:Nat) (l:Nat->Nat->Nat) (ts nk:List Nat) (nb:Nat->Nat),vs=[.ref c,.ref tl,.ref nd]->DB a H c bp fp r w n M N l->N<=8->b_ K H tl (rowV ts)->ts.length<=8->((∀t∈ts,t < M))->H nd=some (.dK (aX nk nb))->(∀D H',a_ H H'->H D=none->H' D=some (.lst (rowV (bD N l ts nk)))->Q (.ref D) H')->uu K a vs H Q E_3
theorem xI (T:μ):C_ P wo K mg base 3 a.f45 ["code", "totals", "news"] (uu K a):=by
 refine T.x45.F.okA (k:=2) xy ξ
 ·obtain⟨c,bp,fp,tl,nd,r,w,n,M,N,l,ts,nk,nb,rfl,hC,n8,j,h8,C,g,q⟩:=h
  show 353
  show 0
  exists xl (ax (aS (g_.of (cap:=[2,0,1]) (own:=["role"]) γg) rfl 57e9 Γp (λ_ _ _ _ _=>(cI (PW.pt (mL (rN (qh εc ϊ ο)) (ky (aV (aH (oF T) hr.u rfl T.x43.m T.x43.k T.x43.b .nil aj νw))))))) (λ_ _ _ _ _=>by exact ϊ)))
  refine #[_,rfl,c,_,_,_,_,rfl,hc,ϑ,εJ,dD bp M N Lp,_,rfl,by omega,by omega,λD nD=>?_]
  rw[Fu];refine de (n:=N) (f:=λk=>.int ((k:Nat):Int)) (b:=λk=>!nk.contains k && ts.any λt=>EA l t k) (cs:=[some ζb,some γo,some οC]) nD rfl 63e5 ιQ ρb (λH2 s2 hD=>q D H2 s2 nD hD)
  refine #[_,rfl,_,rfl,nd,_,rfl,Fd.k (k:=Sum.inl ((k:Nat):Int)) (s2 _ _ g),_,rfl,?_];rw[cX]
  show 102
  ·rw[if_pos m]
   rw[show nk.contains k=true from Ig.mpr m] at hR;exact c_ (λy=>absurd y ζX) (λ_=>hR _ (a_.refl _))
  ·rw[if_neg m]
   rw[show nk.contains k=false from by
    cases e:nk.contains k with
    | false=>rfl
    | true=>exact absurd ψp m] at hR
   show 19;exact #[_,rfl,_,rfl,_,rfl,c,bp,fp,tl,r,w,n,M,N,k,l,ts,rfl,hC.same s2,s2.seq j,h8,C,hk,λH' s'=>υ4]
inductive oG (a:A_) (vs:δ) (H:Hp) (Q:VK) (E_3:XK):Prop
 | mk:∀(c bp fp tl nd:Addr) (r w n M N:Nat) (l:Nat->Nat->Nat) (ts nk:List Nat) (nb:Nat->Nat),vs=[.ref c,.ref tl,.ref nd]->DB a H c bp fp r w n M N l->N<=8->H tl=some (.lst (rowV ts))->ts.length<=8->((∀t∈ts,t < M))->H nd=some (.dK (aX nk nb))->nk.Nodup->((∀k∈nk,k < N))->(∀D H',a_ H H'->H D=none->H' D=some (.lst (rowV (EQ N l ts (j_ N nk))))->Q (.ref D) H')->oG a vs H Q E_3
theorem uv (T:μ):C_ P wo K mg base 3 a.f46 ["code", "totals", "news"] (oG a):=by
 refine T.x46.F.okA (k:=2) tE ξ
 ·obtain⟨c,bp,fp,tl,nd,r,w,n,M,N,l,ts,nk,nb,rfl,hC,n8,G,h8,R,O,J,g,q⟩:=h
  show 353
  have nl:nk.length<=8:=DK (bG N nk J g) n8
  show 0
  exists xl (ax (ay yr (aS ΔP rfl (aL (aC (cQ rfl) rfl T.A19 KE γH)) δz (λ_ _ _ _ _=>(cI (aV (aH (oF T) hr.u rfl T.x43.m T.x43.k T.x43.b .nil aj (aa ο ζS))))) νF) (aS (g_.of (cap:=[0]) (own:=["total"]) γg) rfl 21e2 δS γ5 (λ_ _ _ _ _=>by exact(ay aW τ7 Θ)))))
  refine #[_,rfl,nd,_,nk.map λk=>((k:Nat):Int),rfl,O,dR nk nb,by rw[o_];omega,λL ns nL pm pw=>?_]
  rw[cW J g pm pw]
  show 352
  have hL:=ab (H:=H) (a:=L) (o:=.lst εd);generalize (upd H L (.lst (rowV (j_ N nk))))=H1 at sL hL;refine #[L,rfl,θw,λD nD=>?_];refine fT (rs:=j_ N nk) (b:=λk=>ts.any λt=>EA l t k) (cs:=[some γo,some οC]) η1 nD rfl (DK cV ξp) ιR (λk Hx Rx hk _ sx hR=>ζn) ηi
  ·have sx:=sL.trans sx
   exact #[_,rfl,_,rfl,_,rfl,c,bp,fp,tl,r,w,n,M,N,k,l,ts,rfl,hC.same sx,b_.of (sx _ _ G),h8,R,g k ώg,λH' s'=>υ4]
  have C:=sL.trans s2;refine #[_,rfl,tl,rfl,#[_,b_.of (C _ _ G)],λD2 U=>?_];refine cD (f:=λt=>.int ((N+t:Nat):Int)) (cs:=[some γo]) (b_.of (C _ _ G)) U rfl 0e0 τ8 (λH3 s3 j=>?_)
  ·refine #[_,rfl,c,_,_,_,_,rfl,(C.trans sx) _ _ hc,ϑ,εJ,dD bp M N Lp,_,rfl,_,_,rfl,rfl,?_]
   have e:V.int ((N:Int)+(t:Int))=V.int ((N+t:Nat):Int):=congrArg δN γ
   rw[<- e] at hR;show 50
  have j:H3 D2=some (.lst (rowV (ts.map λt=>N+t))):=by rw[j];show 40
  refine #[D,D2,_,_,rfl,rfl,s3 _ _ hD,j,?_,λp np=>?_]
  ·rw[ap,ap,o_]
   have:=GP ΦG δ7
   have:=cV (N:=N) (nk:=nk);exact DK (by omega:_<=16) ε
  refine q p _ (((sL.trans s2).trans s3).up ?_) ?_ ?_
  ·show 354
  ·show 354
  ·rw[ab,ii]
   rfl
def Gj {α:Type} (f:μG):List α->Option α
 | []=>none
 | x :: xs=>match Gj f xs with
  | none=>some x
  | some y=>if f y < f x then some y else some x
theorem hZ {α:Type}{f:μG}{d:α}:∀{xs:δH},0 < xs.length->∃i x,xs[i]?=some x/\Gj f xs=some x/\ES Ωo γ2 i
 | [],h=>absurd h (Gf 0)
 | x :: xs,_=>by
  by_cases hx:0 < xs.length
  ·obtain⟨i,y,h1,h2,h3⟩:=hZ (f:=f) (d:=d) hx
   have ei:xs.getD i d=y:=by rw[t_,h1];rfl
   unfold Gj;rw[h2];show 11
   by_cases z:f y < f x
   ·rw[if_pos z]
    refine #[i+1,y,h1,rfl,λj hj=>?_]
    cases j with
    | zero =>
     show f πB<=f x/\_
     rw[ei];exact #[by omega,λ_=>by show f πB < f x;rw[ei];exact z]
    | succ j =>
     have:=h3 j υ2
     exact #[ν8,λe=>this.2 γ]
   ·rw[if_neg z]
    refine Δg
    cases j with
    | zero=>exact Md _
    | succ j =>
     have:=(h3 j υ2).1
     show f x<=f ϐ0
     have h4:f πB<=f 191e2:=this;rw[ei] at h4;omega
  ·have e:xs=[]:=Qw γ
   subst e;refine Δg;obtain rfl:j=0:=by simpa using hj
   exact Md _
theorem zF {kf:γC} (hi:i < n) (hj:j < n) (h1:ES kf n i) (h2:ES kf n j):i=j:=by
 have a:=h1 j hj
 have b:=h2 i hi;rcases Nat.lt_trichotomy i j with z | z | z
 ·have:=b.2 z;omega
 ·exact z
 ·have:=a.2 z;omega
theorem wA {α:Type}{f:μG}{d:α}{xs:δH}{x:α} (h:ώL) (l:ES Ωo γ2 i):Gj f xs=some x:=by
 have hi:=(ET.mp h).1;obtain⟨j,y,h1,h2,h3⟩:=hZ (f:=f) (d:=d) (xs:=xs) γ
 obtain rfl:=zF hi (ET.mp h1).1 l h3;rw[h] at h1;rw[h2,← h1]
theorem uw {α:Type}{f:μG}{xs:δH}{x:α} (h:Gj f xs=some x):x∈xs:=by
 cases xs with
 | nil=>cases h
 | cons y ys =>
  show 355
  cases h2;exact Ez h1
theorem zG {α:Type}{f:μG}{xs:δH} (h:Gj f xs=none):xs=[]:=by
 cases xs with
 | nil=>rfl
 | cons y ys =>
  show 355
  cases h2
section
variable (r w M N:Nat) (l:Nat->Nat->Nat) (cs:List (Option Nat)) (as:List Nat) (ks:List Bool) (ms:List Nat)
def G_ (L:η):List Nat:=L.filter λk=>!fx r w M N l ks k
def bE (L:η):List 112e0:=if (G_ r w M N l ks L).all εU=true then [(jb cs (G_ r w M N l ks L),G_ r w M N l ks L)] else []
def F3 (L:η):Option 56e1:=((p_ χe).find? λj=>L.all ωo).map λj=>ms.take j
def du (L L':η):List 56e1:=(F3 r w M N l ks ms L).toList++(F3 r w M N l ks ms L').toList
def ia (L L':η):List 112e0:=bE r w M N l cs as ks L++bE r w M N l cs as ks L'++((Gj (λd=>((d.length:Nat):Int)) (du r w M N l ks ms L L')).toList.map λd=>(jb cs d,d))
def fU (L L':η):Option 56e1:=(Gj (λp=>p.1) (ia r w M N l cs as ks ms L L')).map (·.2)
end
variable {L:List Nat}
theorem wB {ms:η} (h:jc r w M N l ks L ms j):F3 r w M N l ks ms L=some 29e8:=by
 unfold F3
 have:(p_ χe).find? Θe=some j:=by
  rw[List.find?_range_eq_some];exact #[h.2.1,EF.mpr (Nat.lt_succ_of_le h.1),λi hi=>by rw[h.2.2 i hi];rfl]
 show 56
theorem wC {ms:η} (h:mF r w M N l ks L ms):F3 r w M N l ks ms L=none:=by
 unfold F3
 have:(p_ χe).find? Θe=none:=by
  rw[List.find?_eq_none];intro i hi;rw[h i (Nat.le_of_lt_succ (EF.mp hi))]
  decide
 show 56
theorem AN {ck:γC}{m:Nat} (h1:F4 ck m n) (h2:F4 ck n m):m=n:=by
 unfold F4 at h1 h2;omega
theorem zH {ck:γC}{f:θQ}{R:Nat}{ms ms':η} (p1:ms.Perm όt) (w1:ms.Pairwise θY) (p2:ms'.Perm όt) (w2:ms'.Pairwise θY):ms'=ms:=Oh (le:=F4 ck) (λ_ _ _ _ h1 h2=>AN h1 h2) w2 w1 (p2.trans p1.symm)
variable {way:List Nat}
theorem ux {ms:η} (h:F3 r w M N l ks ms L=some way):∃j,way=ms.take j:=by
 unfold F3 at h;rw[Sc] at h;obtain⟨j,_,e⟩:=h;exact #[j,e.symm]
def bc (xs:Ξ) (H:Hp):Hp:=λb=>if b∈xs then none else H b
theorem je (xs:Ξ) (H:Hp):a_ ψq H:=λb o e=>by
 unfold bc at e
 split at e
 ·cases e
 ·exact e
theorem cn {xs:Ξ}{b:Addr} (h:b∈xs):bc xs H b=none:=by unfold bc;rw[if_pos h]
theorem bF {xs:Ξ}{b:Addr} (h:b∉xs):bc xs H b=H b:=by unfold bc;rw[if_neg h]
variable {G:Hp}
theorem xJ {xs:Ξ} (s:a_ G H) (h:∀x∈xs,G x=none):a_ G 107e0:=λb o e=>by
 rw[bF (λz=>by rw[h b z] at e;cases e)]
 exact s b o e
theorem AO (ks:δ4) (k:Nat) (hk:χc):∀way:List Nat,(Gn ks way).getD k false=(ks.getD k υ || way.contains k):=λway=>by
 induction way generalizing ks with
 | nil=>show ks.getD k false=_;simp
 | cons x way ih =>
  show (Gn υM way).getD k false=_
  rw[ih υM (by rw[HQ];exact hk),QE]
  by_cases z:x=k
  ·subst z
   rw[t_,Me hk]
   simp
  ·rw[t_,K8 z,← t_,beq_eq_false_iff_ne.mpr μN,Mz]
theorem v_.up {a:A_}{H0 H:Hp}{R:DT}{n:Nat}{os:Ϝ}{as:η}{x:Addr}{xs:δ}{o:HO} (J:ηg) (n0:H0 x=none) (hx:ξt) (h1:R.rl≠x) (h2:R.sl≠x) (h3:R.z≠x):v_ a H0 ζ5 R n os as :=
 #[J.sm.up n0,by rw[ae h1];exact J.hr,by rw[ae h2];exact J.hs,by rw[ae h3];exact J.hz,J.tab.up hx,δP,J.nd,J.lt]
theorem AQ (R k:Nat):(Ee R (none:θK)).getD k none=none:=by
 rw[t_,IE]
 split <;> rfl
theorem qN (R:Nat) (X:η):b8 R (Ee R none) X:=λj _ b hb=>by
 rw[AQ] at hb
 cases hb
theorem DI.kp {t':Addr}{p:Pos}{ps:γx} (h:ζB) (ne:t≠t') (ht:H t'=some δT) (k:∀b o,b≠t'->H b=some o->H' b=some o):DI H' t p q:=by
 obtain⟨g,h1,h2⟩:=h;refine⟨g,k _ _ ne h1,?_⟩;rcases h2 with h2 | ⟨c',e,h2⟩
 ·show 42
 ·exact .inr #[c',e,k _ _ (bj h2 ht γJ) h2]
theorem DI.hide {p:Pos}{xs:Ξ} (h:ζB) (ht:t∉xs) (hx:∀x∈xs,(∃ys,H x=some γB)\/∃ps,H x=some δT):DI ψq t p q:=by
 show 41;refine #[ps,by rw[bF ht];exact h1,?_]
 rcases h2 with h2 | ⟨c',e,h2⟩
 ·show 42
 ·refine .inr #[c',e,?_]
  rw[bF λz=>?_]
  ·exact h2
  ·rcases hx c' z with ⟨ys,y⟩ | ⟨ys,y⟩
   ·show 356
   ·show 356
def Gh:Pos:=#[147,25,147,43]
def qW:Str:="next_way" ++ EM ".<locals>." ++ EM "<lambda>"
def Kp (H H':Hp):Prop:=∀b o,(∀ps,o≠HO.tbl ps)->H b=some o->H' b=some o
theorem Kp.of (s:γD):Kp H H':=λb o _ e=>s b o e
theorem Kp.tab {ps:γx} (h:ϋV) (k:Ξj):Kp H H':=λb o n e=>k b o (bj e h (n _)) e
theorem dS:∀ps,HO.lst xs≠.tbl ps:=λ_ y=>by cases y
theorem uz:∀ps,HO.tup xs≠.tbl ps:=λ_ y=>by cases y
def EV (Hb H:Hp) (W:Addr) (ws:τu):Prop:=∃ts:List Addr,H W=some ιZ/\ts.length=ws.length/\∀(i:Nat) (t:Addr) (cw:ύF),ts[i]?=some t->ws[i]?=some cw->∃D,H t=some (.tup [.int cw.1,.ref D])/\H D=some (.lst (rowV cw.2))/\Hb D=none/\D≠W
variable {Hb:Hp}
theorem EV.keep {W:Addr}{ws:τu} (h:EV Hb H W ws) (k:π5):EV Hb H' W ws:=by
 show 357;refine #[ts,k _ _ dS h1,h2,λi t cw e1 e2=>?_];obtain⟨D,a1,a2,a3⟩:=h3 i t cw e1 e2;exact #[D,k _ _ uz a1,k _ _ dS a2,a3]
theorem EV.push {W:Addr}{ws:τu}{c:Int} (h:EV Hb H W ws) (hp:H p=some (.tup [.int c,.ref D])) (hD:H D=some όu) (hb:Hb D=none) (dW:D≠W):∃ts:List Addr,H W=some ιZ/\ts.length=ws.length/\EV Hb (upd H W (.lst (ts.map V.ref++[.ref p]))) W (ws++[(c,way)]):=by
 show 357;refine #[ts,h1,h2,ts++[p],by rw[ab,FM];rfl,by rw[Fn,Fn,h2];rfl,λi t cw e1 e2=>?_]
 have ht:∀{t:Addr}{x y:V},H t=some (.tup [x,y])->t≠W:=λ{t x y} e=>bj e h1 ζX
 show 141
 ·rw[Ht hi] at e1
  rw[Ht γ] at e2
  obtain⟨D',a1,a2,a3,a4⟩:=h3 i t cw e1 e2;exact #[D',by rw[ae (ht a1)];exact a1,by rw[ae a4];exact a2,a3,a4]
 ·rw[HU γ] at e1
  rw[HU γ,← h2] at e2
  cases z:i - ts.length with
  | zero =>
   rw[z] at e1 e2
   cases DU e1
   cases DU e2;exact #[D,by rw[ae (ht hp)];exact hp,by rw[ae dW];exact hD,hb,dW]
  | succ m=>rw[z] at e1;cases e1
def G7 (Hb H:Hp) (W:Addr) (v:V) (o:Option (List Nat)):Prop:=match o with
 | none=>v=.non
 | some way=>∃D,v=.ref D/\H D=some όu/\Hb D=none/\D≠W
theorem G7.keep {W:Addr}{o:όv} (h:G7 Hb H W v o) (k:π5):G7 Hb H' W v o:=by
 cases o with
 | none=>exact h
 | some way =>
  obtain⟨D,a1,a2,a3⟩:=h;exact #[D,a1,k _ _ dS a2,a3]
theorem zI {a:Addr}{b:θQ}{k:Nat}{tt:TT}{cs:ηN} (hl:H1 a=some δa) (hD:γq) (hk:γF) (hn:xs.length<=1000)
  (ht:∀i H (R:εy),i < xs.length->a_ H1 H->ρU->tt Ψ6 H R)
  (he:∀i H (R:γj),i < xs.length->b i=true->a_ H1 H->(∀H4,a_ H H4->R πy H4)->te Ψ6 H R)
  (hQ:∀H,a_ H1 H->H D=some (.lst (((p_ γ2).filter b).map λi=>xs.getD i .non))->Q H):bq (KQ K a) δ6 tt te δ2 H1 D Q:=by
 have g:∀i,i < xs.length->xs[i]?=some 76e8:=λi hi=>by rw[t_,s_ hi];rfl
 refine ic (n:=γ2) (src:=λi=>xs.getD i .non) hD hk (DK hn ε) (λH sm=>#[_,Ew.of χE,y_ _]) (λi H hi sm=>#[_,_,Ew.of χE,g i hi]) ιP ht he hQ
 obtain⟨e,y⟩:=y;exact #[DU ((y _ (Ew.of χE)).symm.trans ψK),e]
def C0 (Hb H:Hp) (W:Addr) (as:Ξ) (ds:List νd):Prop:=as.length=ds.length/\∀(i:Nat) (p:Addr) (d:η),as[i]?=some p->ds[i]?=some d->H p=some ύG/\Hb p=none/\p≠W
theorem B9 {W:Addr}{o1 o2:όv} (h1:G7 Hb H W v1 o1) (h2:G7 Hb H W v2 o2):∃as:List Addr,(((p_ 2).filter λi=>!decide ΨN).map λi=>[v1,v2].getD i .non)=as.map V.ref/\C0 Hb H W as (o1.toList++o2.toList):=by
 have n0:∀D,(!decide (V.ref D=ε9))=true:=λD=>by rw[decide_eq_false ζX];rfl
 cases o1 with
 | none =>
  have h1:v1=.non:=h1;subst h1
  cases o2 with
  | none =>
   show 358;exact #[[],rfl,rfl,λi p d e=>by simp at e]
  | some d2 =>
   show 359;refine #[[D2],?_,rfl,λi p d e1 e2=>?_]
   ·rfl
   ·match i,e1,e2 with
    | 0,e1,e2=>cases e1;cases e2;exact a2
    | i+1,e1,_=>cases e1
 | some d1 =>
  obtain⟨D1,rfl,a1⟩:=h1
  cases o2 with
  | none =>
   show 358;refine #[[D1],?_,rfl,λi p d e1 e2=>?_]
   ·rfl
   ·match i,e1,e2 with
    | 0,e1,e2=>cases e1;cases e2;exact a1
    | i+1,e1,_=>cases e1
  | some d2 =>
   show 359;refine #[[D1,D2],?_,rfl,λi p d e1 e2=>?_]
   ·rfl
   ·match i,e1,e2 with
    | 0,e1,e2=>cases e1;cases e2;exact a1
    | 1,e1,e2=>cases e1;cases e2;exact a2
    | i+2,e1,_=>cases e1
theorem zJ {F:V->Prop}{G:Prop} (Pz:V->Prop) (h:(∀v,Pz v->F v)->G) (key:∀v,Pz v->F v):G:=h key
theorem Ds {F:Option V->Hp->Prop}{G:Prop} (Pz:ηA) (h:(∀v H,Pz H->F v H)->G) (key:∀v H,Pz H->F v H):G:=h key
theorem v_.kpw {R:DT}{ps:γx} (J:ηg) (ne:a.t38≠t) (n0:H0 t=none) (ht:ϋV) (k:Ξj):v_ a H0 H' R n os as :=
 #[λb o e=>k b o (λz=>by rw[z,n0] at e;cases e) (J.sm b o e),k _ _ (bj J.hr ht (λz=>by cases z)) J.hr,k _ _ (bj J.hs ht (λz=>by cases z)) J.hs,J.hz.imp λ_ e=>⟨k _ _ (bj e.1 ht (λz=>by cases z)) e.1,e.2⟩,J.tab.kp ne ht k,J.osl,J.nd,J.lt]
inductive zK (a:A_) (vs:δ) (H:Hp) (Q:VK) (E_3:XK):Prop
 | mk:∀(H0:Hp) (R:DT) (RS CH:Addr) (r w n M N:Nat) (l:Nat->Nat->Nat) (cs srow os:List (Option Nat)) (as rest chg:List Nat),vs=[.ref R.A,.ref RS,.ref CH]->Eg a H0 R r w n M N l cs srow->v_ a H0 H R (N+M) os as->DI H a.t47 Gh qW->H0 a.t47=none->H0 RS=some (.lst (rowV rest))->H0 CH=some (.lst (rowV chg))->rest.length<=8->((∀k∈rest,k < N+M))->chg.length<=8->((∀k∈chg,k < N+M))->((∀k,(cs.getD k none).getD 0<=1000000))->(∀H' ms,v_ a H0 H' R (N+M) os as->DI H' a.t47 Gh qW->ms.Perm ((p_ (N+M)).filter (DA cs as))->ms.Pairwise (F4 (GS cs))->(∀D way,fU r w M N l cs as (knO os) ms rest chg=some way->H D=none->H' D=some (.lst (rowV way))->Q (.ref D) H')/\(fU r w M N l cs as (knO os) ms rest chg=none->Q .non H'))->zK a vs H Q E_3
theorem u4 (T:μ) (B:εf):C_ P wo K mg base 12 a.f47 ["asking", "rest", "change"] (zK a):=by
 refine T.x47.F.okA (k:=11) KG ρD
 ·obtain⟨H0,R,RS,CH,r,w,n,M,N,l,cs,O,os,as,rest,g,rfl,I,J,TW,dl,b6,b5,r8,a4,c8,b0,cr,q⟩:=h
  show 10
  show 0
  exists xc (au (i:=3) KG.nd rfl 0e3 η6)
  show 1;refine xf ϗ rfl (xV (bS ζS)) (ar (i:=4) KG.nd rfl ζ) ?_
  exists xc (au (i:=5) KG.nd rfl 0e3 (av ο ϐ T.x42.me (oA T) hr.u T.x42.b .nil aj ζW))
  show 7;refine xi (am bV γf aO ψ) ?_
  exists xl (aF (cu Hr Hs Hv aZ ϊ (aa (bS (aa γf (aa (av ο ϐ T.x41.me (fJ T) hr.u T.x41.b .nil aj ζW) ac))) ac)))
  show 17
  exists xc (b9 (i:=6) KG.nd rfl 0e3 (g_.of (cap:=[]) (own:=["way"]) γg) rfl (xV (bS (aa (av ο ϐ ψL ψM hr.u T.x39.b .nil aj γ9) (aa (av ο ϐ ψL ψM hr.u T.x39.b .nil aj γH) ac)))) θd (λ_ _ _ _ _=>(cI (am bV ο aO ψ))) (λ_ _ _ _ _=>by exact ο))
  show 1;refine xi (am bU (aC aD rfl T.A03 Fo μS) ai ψ) ?_
  exists xc (au (i:=7) KG.nd rfl 0e3 (zc rfl rfl T.A62 rfl T.A03 δ8))
  exists xl (aF (cu Hr Hs Hv aZ ϊ (aa (bS (aa (av ο ϐ T.x37.me (cU T) hr.u T.x37.b .nil aj ηn) ηn)) ac)))
  show 148;refine xi (am bT ρA ai ψ) ?_
  show 26
  show 2
  exists xl (ax (aE bX (B2 (k:=0) (p:="way") (T.x47.F.tab B.Ac7 B.Ab8) rfl rfl hr.u rfl T.A62 ϊ πV γu ϋT (λ_ _ _ _ _ _ hr=>ΘB)) ai γ0))
  refine #[EO _,λW nW=>?_]
  have sW:=a_.new (o:=.lst []) nW
  have w0:EV H (upd H W εP) W []:=#[[],ab,rfl,λi t cw e=>by simp at e]
  generalize (upd H W (.lst []))=H1 at sW w0;refine #[_,rfl,_,rfl,(show 2<=sizeLine by decide),λtp ec=>?_]
  have sT:=a_.new (o:=.tup [.ref RS,.ref CH]) ec
  have a5:=ab (H:=H1) (a:=tp) (o:=.tup [.ref RS,.ref CH])
  have w1:=w0.keep (Kp.of sT)
  have s1:=sW.trans sT;generalize (upd H1 tp (.tup [.ref RS,.ref CH]))=H2 at sT a5 w1 s1;refine #[tp,rfl,#[_,Ew.of a5],?_];refine let I_:Nat->L2.St->Hp->Prop:=λi σ H'=>L2.A4 ((∃v4 v5:Option V,σ=[some δl,some (.ref RS),some (.ref CH),some (.ref W),v4,v5,none,none])) δZ (H' tp=some (.tup [.ref RS,.ref CH])) (EV H H' W (([rest,g].take i).flatMap ιM));Bz (xs:=[.ref RS,.ref CH]) I_ #[θr,s1,a5,w1] ?_ ?_ ?_
  ·rintro i σ H' _ ⟨_,_,h,_⟩
   exact Ew.of h
  ·rintro i x σ H' hx ⟨⟨v4,v5,rfl⟩,sm,ht,ww⟩
   obtain⟨LA,L,hL,L8,ck,rfl,eL⟩:∃LA L,H0 LA=some (.lst (rowV L))/\L.length<=8/\(∀k∈L,k < N+M)/\x=.ref LA/\[rest,g][i]?=some L:=by
    match i,hx with
    | 0,hx=>cases hx;exact⟨RS,rest,b6,r8,a4,rfl,rfl⟩
    | 1,hx=>cases hx;exact⟨CH,g,b5,c8,b0,rfl,rfl⟩
    | i+2,hx=>cases hx
   have J1:=J.same sm;refine #[_,rfl,R.A,dx,_,rfl,J1.sm _ _ hA,rfl,_,rfl,H0,R,LA,r,w,n,M,N,l,cs,O,os,as,L,rfl,I,J1,b_.of (J1.sm _ _ hL),L8,ck,cr,λH3 s3=>?_]
   have ef:([rest,g].take (i+1)).flatMap ιM=([rest,g].take i).flatMap ιM++bE r w M N l cs as ϋ L:=by
    rw[K0,eL,List.flatMap_append]
    simp
   have wl:(([rest,g].take i).flatMap ιM).length<=2:=by
    have c1:∀L,(bE r w M N l cs as ϋ L).length<=1:=λL=>by
     unfold bE
     split
     ·show 35
     ·exact EO _
    have hi:=(ET.mp eL).1
    match i,hi with
    | 0,_=>exact EO _
    | 1,_=>simpa using DK (c1 rest) ε
   have b1:=sm.trans s3
   have J3:=J1.same s3
   have w3:=ww.keep (Kp.of s3);unfold ui
   cases hz:(L.filter λk=>!fx r w M N l (knO os) k).all (DA cs as) with
   | false =>
    show 134
    refine #[_,rfl,rfl,_,rfl,c_ δQ ι]
    have e0:bE r w M N l cs as ϋ L=[]:=by unfold bE G_;rw[hz,if_neg ε]
    exact #[εo,b1,s3 _ _ ht,by rw[ef,e0,ML];exact w3]
   | true =>
    show 25;refine #[_,rfl,rfl,_,rfl,c_ ι ΓS]
    have e1:bE r w M N l cs as ϋ L=[(jb cs (L.filter λk=>!fx r w M N l ϋ k),L.filter λk=>!fx r w M N l ϋ k)]:=by unfold bE G_;rw[hz,if_pos rfl]
    obtain⟨eo,cy,_⟩:=id w3;refine #[_,rfl,.inl #[rfl,_,b_.of cy],_,rfl,_,rfl,R.A,dx,_,rfl,J3.sm _ _ hA,rfl,_,rfl,H0,R,LA,r,w,n,M,N,l,cs,O,os,as,L,rfl,I,J3,b_.of (J3.sm _ _ hL),L8,ck,λD H4 s4 nD hD=>?_];refine #[(show 2<=sizeLine by decide),λp np=>?_]
    have s5:=a_.new (o:=.tup [.int Θb,.ref D]) np
    have hp:=ab (H:=H4) (a:=p) (o:=.tup [.int Θb,.ref D]);generalize (upd H4 p (.tup [.int (jb cs (L.filter λk=>!fx r w M N l (knO os) k)),.ref D]))=H5 at s5 hp
    have aT:=s4.trans s5;obtain⟨ts,hW,hl,w6⟩:=(w3.keep (Kp.of aT)).push hp (s5 _ _ hD) (b1.free nD) (al cy nD).symm;refine #[W,_,_,rfl,rfl,hW,?_,εo,(b1.trans aT).up nW,?_,by rw[ef,e1];exact w6]
    ·rw[o_,hl]
     exact Ih wl ε
    ·rw[ae (bj (aT _ _ (s3 _ _ ht)) hW γJ)]
     exact aT _ _ (s3 _ _ ht)
  ·rintro σ H' ⟨⟨v4,v5,rfl⟩,sm,_,ww⟩
   have J1:=J.same sm
   have b3:=TW.keep sm
   have ew:([rest,g].take [V.ref RS,V.ref CH].length).flatMap ιM=bE r w M N l cs as ϋ rest++bE r w M N l cs as ϋ g:=by simp
   rw[ew] at ww;show 4
   refine #[_,rfl,R.A,dx,_,rfl,J1.sm _ _ hA,rfl,_,rfl,H0,R,RS,r,w,n,M,N,l,cs,O,os,as,rest,rfl,I,J1,J1.sm _ _ b6,a4,λHa ms Ja ka pm pw=>?_]
   have q:=λH' Jx Tx=>q H' ms Jx Tx pm pw;obtain⟨ey,b2,_⟩:=id J1.tab
   have df:=Kp.tab b2 ka
   have wa:=ww.keep df
   have b4:∀{D:Addr},H' D=none->H D=none:=λ{D} e=>sm.free e
   have dq:=ww.choose_spec.1;obtain⟨eu,eh,_⟩:=id b3
   have ds:=b3.kp (Es B.A40) b2 ka
   refine zJ (λv=>G7 H Ha W v (F3 r w M N l ϋ ms rest)) (λC=>by
    refine Ξs
    ·obtain⟨v,hv⟩:∃v,v=V.ref D:=ϒ
     rw[<- hv];exact C v (by rw[wB hd];exact #[D,hv,hD,b4 nD,(al dq nD).symm])
    ·exact C .non ϋm) ?_
   intro v1 a3;refine #[_,rfl,R.A,dx,_,rfl,Ja.sm _ _ hA,rfl,_,rfl,H0,R,CH,r,w,n,M,N,l,cs,O,os,as,g,rfl,I,Ja,Ja.sm _ _ b5,b0,λHc em Jc kc eb d0=>?_]
   cases zH pm pw eb d0;obtain⟨eq,ad,_⟩:=id Ja.tab
   have c2:=Kp.tab ad kc
   have wc:=wa.keep c2
   have a3:=a3.keep c2
   have dF:∀{D:Addr},Ha D=none->H D=none:=λ{D} e=>by
    cases z:H' D with
    | none=>exact b4 z
    | some o =>
     by_cases y:D=a.t38
     ·rw[y,ad] at e;cases e
     ·rw[ka D o y z] at e;cases e
   have dB:=wa.choose_spec.1
   have d4:=ds.kp (Es B.A40) ad kc
   refine zJ (λv=>G7 H Hc W v (F3 r w M N l ϋ ms g)) (λC=>by
    refine Ξs
    ·obtain⟨v,hv⟩:∃v,v=V.ref D:=ϒ
     rw[<- hv];exact C v (by rw[wB hd];exact #[D,hv,hD,dF nD,(al dB nD).symm])
    ·exact C .non ϋm) ?_
   intro v2 cc;obtain⟨U,a6,an⟩:=B9 a3 cc;refine #[(show 2<=sizeLine by decide),λtq dV=>?_]
   have sq:=a_.new (o:=.tup [v1,v2]) dV
   have bt:=ab (H:=Hc) (a:=tq) (o:=.tup [v1,v2]);generalize (upd Hc tq (.tup [v1,v2]))=Hd at sq bt;refine #[tq,rfl,#[_,Ew.of bt],λDL d8=>?_];refine zI (b:=λi=>!decide ΨN) (cs:=[]) bt d8 rfl (show 2<=1000 by decide) (λi Hx Rx hi sx hR=>#[_,rfl,rfl,_,rfl,hR _ ϟ]) (λi Hx Rx hi _ sx hR=>ζn) (λHe se a2=>?_)
   have a2:He DL=some (.lst (U.map Ϙ)):=by rw[a2,← a6];rfl
   have a0:=sq.trans se
   have We:=wc.keep (Kp.of a0)
   have Je:=Jc.same a0
   have ce:=d4.keep a0
   have Y:=an.1
   have ch:∀(i:Nat) (p:Addr) (d:η),U[i]?=some p->(du r w M N l ϋ ms rest g)[i]?=some d->He p=some ύG/\H p=none/\p≠W:=λi p d e1 e2=>by
    obtain⟨h1,h2⟩:=an.2 i p d e1 e2;exact #[a0 _ _ h1,h2]
   have Y:U.length=(du r w M N l ϋ ms rest g).length:=Y
   have db:∀d∈du r w M N l ϋ ms rest g,∃j,d=ms.take j:=λd hd=>by
    unfold du at hd;rcases Fw.mp hd with y | y
    ·exact ux οD
    ·exact ux οD
   have dc:(bE r w M N l cs as ϋ rest++bE r w M N l cs as ϋ g).length<=2:=by
    have c1:∀L,(bE r w M N l cs as ϋ L).length<=1:=λL=>by
     unfold bE
     split
     ·show 35
     ·exact EO _
    rw[Fn];exact Nat.add_le_add (c1 rest) (c1 g)
   clear a3 cc an a6;show 4
   refine #[_,rfl,DL,_,rfl,.inl (b_.of a2),_,_,rfl,rfl,_,rfl,?_]
   refine Ds (λHf=>v_ a H0 Hf R (N+M) os as/\DI Hf γI Gh qW/\EV H Hf W (ia r w M N l cs as ϋ ms rest g)) (λC=>by
    by_cases hz:0 < U.length
    ·refine c_ ι (λy=>absurd (decide_eq_true ϋW) y)
     refine #[_,rfl,DL,U,λi=>((du r w M N l ϋ ms rest g).getD i []).length,rfl,a2,hz,λi p hp=>?_,λi p Hm hp hl Z=>?_]
     ·have hi:i < (du r w M N l ϋ ms rest g).length:=by rw[<- Y];exact(ET.mp hp).1
      obtain⟨h1,_⟩:=ch i p _ hp ζJ;exact #[_,h1,by rw[ap];show _=((du r w M N l ϋ ms rest g).getD i []).length;rw[t_,s_ hi];rfl]
     have hi:i < (du r w M N l ϋ ms rest g).length:=by rw[<- Y];exact(ET.mp hp).1
     obtain⟨d,ed⟩:∃d,(du r w M N l (knO os) ms rest g)[i]?=some d:=#[_,s_ hi];obtain⟨h1,h2,h3⟩:=ch i p d hp ed;rw[Y] at hl
     have ep:=wA (f:=λd:List Nat=>((d.length:Nat):Int)) (d:=[]) ed hl;obtain⟨jd,c3⟩:=db d (Ez ed)
     have Jm:=Je.same Z
     have Wm:=We.keep (Kp.of Z)
     have ml:ms.length<=8:=by
      rw[ο2]
      show 347
      have:=I.W.n8;omega
     have dr:d.length<=8:=by rw[c3,Hu];omega
     have dW:∀k∈d,k < N+M/\(cs.getD k none).isSome=true/\(cs.getD k none).getD 0<=1000000:=λk hk=>by
      rw[c3] at hk
      have:=E5.mp ΩH
      have h2:=this.2;unfold DA at h2;exact #[EF.mp ν8,(Gx _ _ ▸ h2).1,cr k]
     obtain⟨eH,ea,_⟩:=id Wm;refine #[_,rfl,.inl #[rfl,_,b_.of ea],_,rfl,R.A,dx,_,rfl,Jm.sm _ _ hA,rfl,_,rfl,H0,R,p,r,w,n,M,N,l,cs,O,os,as,d,rfl,I,Jm,b_.of (Z _ _ h1),dr,dW,λHn sn=>?_];refine #[_,rfl,(show 2<=sizeLine by decide),λpt eg=>?_]
     have so:=a_.new (o:=.tup [.int Δs,.ref p]) eg
     have c0:=ab (H:=Hn) (a:=pt) (o:=.tup [.int Δs,.ref p]);generalize (upd Hn pt (.tup [.int ((d.map λk=>(((cs.getD k none).getD 0:Nat):Int)).sum),.ref p]))=Ho at so c0
     have a1:=sn.trans so;obtain⟨ts,hW,G,wp⟩:=(Wm.keep (Kp.of a1)).push c0 ((Z.trans a1) _ _ h1) h2 h3;refine #[W,_,_,rfl,rfl,hW,?_,?_]
     ·rw[o_,G]
      exact Ih dc ε
     have Jo:=(Jm.same a1).up (x:=W) (o:=.lst Ω2) (J.sm.free nW) hW (al J.hr nW) (al J.hs nW) (J.hz.elim λ_ e=>al e.1 nW)
     have To:=(ce.keep (Z.trans a1)).up (o:=.lst Ω2) hW;generalize (upd Ho W (.lst (ts.map V.ref++[.ref pt])))=Hq at wp Jo To;show 4
     obtain⟨o,ho⟩:∃o:Option V,o=some (V.ref p):=ϒ;rw[<- ho];refine C o Hq #[Jo,To,?_];unfold ia;rw[ep];exact wp
    ·refine c_ (λy=>absurd ιd ϋW) ι
     unfold Bc;show 4
     have e0:du r w M N l ϋ ms rest g=[]:=Qw γ
     refine C none He #[Je,ce,?_];unfold ia;rw[e0]
     simpa[Gj] using We) ?_
   rintro v7 Hf ⟨Jf,a8,Wf⟩;obtain⟨ts,cv,G,bm⟩:=id Wf;refine #[_,rfl,W,_,rfl,.inl (b_.of cv),rfl,_,rfl,?_];rw[o_,G]
   cases hws:ia r w M N l cs as (knO os) ms rest g with
   | nil =>
    show 19;exact(q Hf Jf a8).2 (by unfold fU;rw[hws];rfl)
   | cons w0 ws0 =>
    refine c_ (λy=>absurd ωp ϋr) ι
    rw[hws] at G bm;show 22;refine ud (q:=qW) (pos:=Gh) a8 λHg c' fa es er en kg tg ng ek ej ez=>?_;obtain⟨el,a9,_⟩:=id a8
    have aw:=Kp.tab a9 kg
    have Jg:=Jf.kpw B.A40 dl a9 kg
    have dd:=aw _ _ dS cv;refine #[W,ts.map Ϙ,λi=>((w0 :: ws0).getD i (0,[])).1,rfl,dd,by rw[o_,G];exact P6 _,λi y Hh hy sh=>?_,λi y Hh hy hl sh=>?_]
    ·obtain⟨t,et,rfl⟩:=gO hy
     show 360
     obtain⟨D,h1,h2,h3,h4⟩:=bm i t _ et ζJ
     have e:((w0 :: ws0).getD i (0,[])).1=(w0 :: ws0)[i].1:=by rw[t_,s_ hi];rfl
     rw[<- e] at h1;exact #[_,rfl,t,_,_,_,rfl,rfl,Ew.of ΩI,aB (j:=0) rfl,rfl,a_.refl _]
    ·obtain⟨t,et,rfl⟩:=gO hy
     rw[o_,G] at hl
     show 360
     have ei:=s_ hi;obtain⟨D,h1,h2,h3,h4⟩:=bm i t _ et ei;refine #[t,_,_,_,rfl,rfl,Ew.of ΩI,aB (j:=1) rfl,?_];refine(q Hh (Jg.same sh) (tg.keep sh)).1 D _ ?_ h3 (sh _ _ (aw _ _ dS h2));unfold fU;rw[hws,wA (d:=((0:Int),([]:List Nat))) ei hl];rfl
inductive Bu (a:A_) (vs:δ) (H:Hp) (Q:VK) (E_3:XK):Prop
 | mk:∀(c bp fp:Addr) (r w n M N:Nat) (l:Nat->Nat->Nat),vs=[.ref c]->DB a H c bp fp r w n M N l->M<=8->(∀D qs H',H D=none->a_ H H'->H' D=some (.lst (List.map V.ref qs))->Dy H' qs M (e_ (N+M) (eqn N l))->(∀p∈qs,H p=none)->D∉qs->Q (.ref D) H')->Bu a vs H Q E_3
theorem fK (T:μ):C_ P wo K mg base 1 a.f28 ["self"] (Bu a):=by
 refine T.x28.F.okA (k:=0) kI ξ
 ·obtain⟨c,bp,fp,r,w,n,M,N,l,rfl,hC,m8,q⟩:=h
  show 99
  show 319
  show 0
  exists xl (ax (aS (g_.of (cap:=[]) (own:=["line"]) γg) rfl 166e2 θd γ5 Γc))
  refine #[_,rfl,c,_,_,_,_,rfl,h1,ϑ,T.A39,i5 bp M N Lp,Lp,rfl,#[_,b_.of h2],λD nD=>?_];refine m4 (xs:=qs.map Ϙ) (row:=λi=>rowV ϊ2) (cs:=[]) (b_.of h2) nD rfl (by rw[el];exact DK m8 ε) Ψj (λgs H7 s4 hG g j C=>?_)
  ·obtain⟨p,ep,hp⟩:=h3.get (i:=i) (by rw[<- el];exact(ET.mp hu).1)
   rw[aR ep] at hu
   cases DU hu;exact #[_,rfl,p,_,rfl,.inl (b_.of (s4 _ _ hp)),λd nd=>hR d _ nd (a_.new nd) ab]
  ·rw[el] at g
   exact q D gs H7 nD s4 hG #[g.len,λi p e=>g.on i p e] j C
theorem uA (F:Ϟ) (N:Nat):∀M,GF.DJ (N+M) F=GF.DJ N F ^^^ GF.DJ M ύ4
 | 0=>(GO _).symm
 | M+1=>by
  show GF.DJ (N+M) F ^^^ F (N+M)=GF.DJ N F ^^^ (GF.DJ M ύ4 ^^^ F (N+M))
  rw[uA F N M,Ie]
def cE (r w n N:Nat) (l:ύ) (t:Nat) (nv:Ϟ):Nat:=GF.DJ N λk=>GF.sc r w n (l t k) (nv k)
def newV (nk:η) (nb:Ϟ) (X:η) (k:Nat):Nat:=if k∈nk then nb k else X.getD k 0
theorem zL {t:Nat}{X:η} (g:μc) (hX:χt) (hlt:Ω1) (h:ϊq) (ht:t < M):X.getD (N+t) 0=cE r w n N l t λk=>X.getD k 0:=by
 have e:=(tU hX).mp h t ht;rw[uA] at e
 have e1:GF.DJ N ρk=cE r w n N l t λk=>X.getD k 0:=GF.D9 N λk hk=>by
  show 52;rw[if_pos hk]
 have e2:GF.DJ M (λi=>GF.sc r w n (eqn N l t (N+i)) (X.getD (N+i) 0))=X.getD (N+t) 0:=by
  rw[GF.FV ht λi hi ne=>?_]
  ·unfold eqn
   rw[if_neg γ,if_pos γ]
   refine GF.MX γi g.w1 (hlt _ ?_);show 94
   exact GM _
  ·unfold eqn
   rw[if_neg γ,if_neg γ,ζQ]
 rw[e1,e2] at e;exact(zr e).symm
theorem AR {t:Nat}{nv:Ϟ}:GF.Em r w n ((((p_ N).filter λk=>EA l t k).map λk=>l t k).zip (((p_ N).filter λk=>EA l t k).map nv))=cE r w n N l t nv:=by
 rw[Pt,GF.EC];refine GF.D9 N λk hk=>?_
 by_cases z:l t k=0
 ·rw[if_neg (by unfold EA;rw[decide_eq_false (by simpa using z)];decide),z,ζQ]
 ·rw[if_pos (by unfold EA;exact decide_eq_true z)]
variable {nb:Nat->Nat}
theorem Ca {t:Nat}{X:η} (g:μc) (hl:∀k,k < N->l t k < 2 ^ w):(cE r w n N l t λk=>X.getD k 0) ^^^ GF.Em r w n ((((j_ N nk).filter λk=>EA l t k).map λk=>l t k).zip ΓT)=cE r w n N l t 40e0:=by
 unfold j_;rw[List.filter_filter,Pt,GF.EC];unfold cE;rw[<- GF.FI];refine GF.D9 N λk hk=>?_;show 65
 show 102
 ·rw[if_pos m]
  have mc:nk.contains k=true:=Ig.mpr m
  by_cases z:l t k=0
  ·rw[z,ζQ,ζQ,ζQ]
   split <;> rfl
  ·rw[if_pos (by rw[mc,Oa];unfold EA;exact decide_eq_true z),GF.ON γi (hl k hk),← Ie,JG,GN]
 ·rw[if_neg m,if_neg (λy=>m (Ig.mp (Gx _ _ ▸ y).2)),GO]
theorem zM {t k:Nat} (hk:k < N):(!decide (V.int ((eqn N l t k:Nat):Int)=V.int 0))=EA l t k:=by
 unfold EA eqn;rw[if_pos hk]
 by_cases x:l t k=0
 ·rw[x];rfl
 ·show 351
structure Mh (r w n M N:Nat) (l:ύ) (os:Ϝ) (X:η):Prop where
 len:X.length=N+M
 lt:∀b∈X,b < γh ^ n
 ism:Gm r w n M N l X=true
 ag:b8 (N+M) os X
inductive zN (a:A_) (vs:δ) (H:Hp) (Q:VK) (E_3:XK):Prop
 | mk:∀(H0:Hp) (R:DT) (nd:Addr) (r w n M N t:Nat) (l:Nat->Nat->Nat) (cs srow os:List (Option Nat)) (as X nk:List Nat) (nb:Nat->Nat),vs=[.ref R.A,.ref nd,.int t]->Eg a H0 R r w n M N l cs srow->v_ a H0 H R (N+M) os as->H nd=some (.dK (aX nk nb))->t < M->Mh r w n M N l os X->((∀k,k < N->EA l t k=true->k∉nk->fx r w M N l (knO os) k=true))->(∀H',a_ H H'->Q (.int ((cE r w n N l t (newV nk nb X):Nat):Int)) H')->zN a vs H Q E_3
theorem pz (T:μ):C_ P wo K mg base 10 a.f48 ["asking", "news", "total"] (zN a):=by
 refine T.x48.F.okA (k:=9) Lu ξ
 ·obtain⟨H0,R,nd,r,w,n,M,N,t,l,cs,aT,os,as,X,nk,nb,rfl,I,J,U,ht,mx,a1,q⟩:=h
  show 10
  show 43
  show 361
  show 18
  show 0
  exists xc (au (i:=3) Lu.nd rfl 0e3 γ1)
  exists xc (au (i:=4) Lu.nd rfl 11e5 Γl)
  exists xc (b9 (i:=5) Lu.nd rfl 0e3 ωi rfl (aY rfl T.A07 ΩJ) δS Γi νE)
  exists xc (b9 (i:=6) Lu.nd rfl 0e3 ΔS rfl 77e5 δz γ5 (λ_ _ _ _ _=>by exact(iT (rN (yZ εc Ω ο)) ΘS ΓO)))
  exists xl (ax ωE)
  refine ρ7;refine #[_,rfl,R.c,dc,_,rfl,hc,rfl,R.c,R.bp,R.fp,r,w,n,M,N,l,rfl,hC,by omega,λEL es H1 a6 s1 a4 aw _ _=>?_]
  obtain⟨lp,a2,an⟩:=aw.get ht;refine #[_,rfl,EL,_,_,_,rfl,rfl,b_.of a4,aB (aR a2),?_]
  have gi:∀k,k < N->JH Ψ7 (k:Int)=some 146e9:=λk hk=>by
   have:=aB ρ6
   rwa [bu (by omega:ι1)] at this
  refine #[_,rfl,R.c,_,_,_,_,rfl,s1 _ _ hc,ϑ,εJ,dD R.bp M N Lp,_,rfl,by omega,by omega,λrl nrl=>?_]
  rw[Fu];refine de (n:=N) (f:=λk=>.int ((k:Nat):Int)) (b:=λk=>EA l t k) (cs:=[some οE]) nrl rfl 144e7 ιQ ρb όq
  ·refine #[_,rfl,_,rfl,lp,_,_,_,rfl,rfl,b_.of (s2 _ _ an),gi k hk,rfl,_,rfl,?_]
   rw[zM hk];show 50
  have g:H2 rl=some (.lst (rowV ΦH)):=g
  have a5:((p_ N).filter λk=>EA l t k).length<=8:=by
   have:=GP (λk=>EA l t k) (p_ N);show 147
  have j:∀k∈ΦH,k < N/\EA l t k=true:=λk hk=>#[EF.mp (E5.mp hk).1,(E5.mp hk).2]
  have Y:=s1.trans s2;refine #[_,rfl,rl,rfl,ύH,λso a0=>?_];refine cD (f:=λk=>.int ((newV nk nb X k:Nat):Int)) (cs:=[some ζb,some δl]) οz a0 rfl 0e0 ιR (λH3 s3 D=>?_)
  ·obtain⟨C,Z⟩:=j k hk
   have sx:=Y.trans sx;refine #[_,rfl,_,rfl,nd,_,rfl,Fd.k (k:=Sum.inl ((k:Nat):Int)) (sx _ _ U),_,rfl,?_];rw[cX];unfold newV at hR
   show 102
   ·rw[if_pos m] at hR
    rw[if_pos m];show 19
    have dg:=Fd.k (k:=Sum.inl ((k:Nat):Int)) (sx _ _ U);rw[cX,if_pos m] at dg;exact #[_,rfl,_,rfl,nd,_,rfl,dg,hR _ ϟ]
   ·rw[if_neg m] at hR
    rw[if_neg m];show 32
    refine ωL
    rw[if_pos (a1 k C Z m)];exact hR _ s'
  have G:=Y.trans s3
  have D:H3 so=some (.lst (rowV (((p_ N).filter λk=>EA l t k).map θC))):=by rw[D];show 40
  refine #[_,rfl,R.c,_,_,_,_,rfl,G _ _ hc,ϑ,ηJ,dC R.bp M N Lp,R.bp,dB,_,rfl,G _ _ hB,rfl,?_];refine #[_,rfl,rl,rfl,#[_,b_.of (s3 _ _ g)],λfl a3=>?_];refine cD (f:=λk=>.int ((l t k:Nat):Int)) (cs:=[some οE]) (b_.of (s3 _ _ g)) a3 rfl 0e0 ιR (λH4 s4 O=>?_)
  ·obtain⟨C,Z⟩:=j k hk
   have g2:=gi k C;rw[show eqn N l t k=l t k by unfold eqn;rw[if_pos C]] at g2
   exact #[_,rfl,_,rfl,lp,_,_,_,rfl,rfl,b_.of ((s2.trans (s3.trans sx)) _ _ an),g2,hR _ ϟ]
  have O:H4 fl=some (.lst (rowV (((p_ N).filter λk=>EA l t k).map λk=>l t k))):=by rw[O];show 40
  have ad:=G.trans s4;refine #[_,rfl,R.bp,R.fp,fl,so,r,w,n,_,_,rfl,hC.blk.same ad,μ9,I.n16,b_.of O,b_.of (s4 _ _ D),by rw[o_,o_],λf hf=>?_,λH' s'=>?_]
  ·obtain⟨k,hk,rfl⟩:=Fk.mp hf
   exact I.W.lt t k ht (j k hk).1
  ·rw[AR]
   exact q H' (ad.trans s')
inductive zO (a:A_) (vs:δ) (H:Hp) (Q:VK) (E_3:XK):Prop
 | mk:∀(H0:Hp) (R:DT) (nd:Addr) (r w n M N t:Nat) (l:Nat->Nat->Nat) (cs srow os:List (Option Nat)) (as X nk:List Nat) (nb:Nat->Nat),vs=[.ref R.A,.ref nd,.int t]->Eg a H0 R r w n M N l cs srow->v_ a H0 H R (N+M) os as->H nd=some (.dK (aX nk nb))->nk.Nodup->((∀k∈nk,k < N))->t < M->Mh r w n M N l os X->((∀k∈nk,EA l t k=true->fx r w M N l (knO os) k=true))->fx r w M N l (knO os) (N+t)=true->(∀H',a_ H H'->Q (.int ((cE r w n N l t (newV nk nb X):Nat):Int)) H')->zO a vs H Q E_3
theorem mH (T:μ):C_ P wo K mg base 10 a.f49 ["asking", "news", "total"] (zO a):=by
 refine T.x49.F.okA (k:=9) Lo ξ
 ·obtain⟨H0,R,nd,r,w,n,M,N,t,l,cs,aT,os,as,X,nk,nb,rfl,I,J,a1,a3,j,ht,mx,a9,a7,q⟩:=h
  show 10
  show 43
  show 361
  show 18
  have nl:nk.length<=8:=DK (bG N nk a3 j) γ
  show 0
  exists xc (au (i:=3) Lo.nd rfl 0e3 γ1)
  exists xc (au (i:=4) Lo.nd rfl 11e5 Γl)
  exists xc (b9 (i:=5) Lo.nd rfl 0e3 ωi rfl 131e9 δS Γi νE)
  exists xc (b9 (i:=6) Lo.nd rfl 0e3 ΔS rfl 77e5 δz γ5 (λ_ _ _ _ _=>by exact(ay gb ΓO ΘS)))
  exists xl (ax (ay gb (av ο ϐ T.x40.me (cm T) hr.u T.x40.b .nil aj (aa (ay aW πk Ω) ac)) ωE))
  refine ρ7;refine #[_,rfl,R.c,dc,_,rfl,hc,rfl,R.c,R.bp,R.fp,r,w,n,M,N,l,rfl,hC,by omega,λEL es H1 b3 s1 b0 a5 _ _=>?_]
  obtain⟨lp,bm,Z⟩:=a5.get ht;refine #[_,rfl,EL,_,_,_,rfl,rfl,b_.of b0,aB (aR bm),?_]
  have gi:∀k,k < N->JH Ψ7 (k:Int)=some 146e9:=λk hk=>by
   have:=aB ρ6
   rwa [bu (by omega:ι1)] at this
  refine #[_,rfl,nd,_,nk.map λk=>((k:Nat):Int),rfl,s1 _ _ a1,dR nk nb,by rw[o_];omega,λsl ns nsl pm pw=>?_]
  rw[cW a3 j pm pw]
  show 159
  have ad:=ab (H:=H1) (a:=sl) (o:=.lst εd);generalize (upd H1 sl (.lst (rowV (j_ N nk))))=H1' at sS ad
  have s1:=s1.trans sS
  have Z:=sS _ _ Z
  have G:∀k∈j_ N nk,k < N/\k∈nk:=λk hk=>#[j k ((bJ j).mp hk),(bJ j).mp hk];refine #[sl,rfl,#[_,b_.of ad],λrl nrl=>?_];refine fT (rs:=j_ N nk) (b:=λk=>EA l t k) (cs:=[some οE]) (b_.of ad) nrl rfl (DK cV Φv) ιQ ρb όr
  ·have g:=(G k hk).1
   refine #[_,rfl,_,rfl,lp,_,_,_,rfl,rfl,b_.of (s2 _ _ Z),gi k g,rfl,_,rfl,?_];rw[zM g];show 50
  have b1:((j_ N nk).filter λk=>EA l t k).length<=8:=DK μB ϋU
  have O:∀k∈((j_ N nk).filter λk=>EA l t k),k < N/\k∈nk/\EA l t k=true:=λk hk=>#[(G k (E5.mp hk).1).1,(G k (E5.mp hk).1).2,(E5.mp hk).2]
  have a2:=s1.trans s2;refine #[_,rfl,rl,rfl,#[_,b_.of U],λso a6=>?_];refine cD (f:=λk=>.int ((X.getD k 0 ^^^ nb k:Nat):Int)) (cs:=[some ζb,some δl]) (b_.of U) a6 rfl 0e0 ιR (λH3 s3 an=>?_)
  ·obtain⟨g,a0,a8⟩:=O k hk
   have sx:=a2.trans sx;refine ωL
   rw[if_pos (a9 k a0 a8)]
   have dg:=Fd.k (k:=Sum.inl ((k:Nat):Int)) ((sx.trans s') _ _ a1);rw[cX,if_pos a0] at dg;refine #[_,rfl,_,rfl,nd,_,rfl,dg,_,_,rfl,rfl,?_]
   show Rx υw H'
   rw[c5];exact hR _ s'
  have Y:=a2.trans s3
  have an:H3 so=some (.lst (rowV ΓT)):=by rw[an];show 40
  refine #[_,rfl,R.A,dx,_,rfl,Y _ _ hA,rfl,_,rfl,R.c,_,_,_,_,rfl,Y _ _ hc,ϑ,εJ,dD R.bp M N Lp,_,rfl,_,_,rfl,rfl,?_];refine #[H0,R,r,w,n,M,N,N+t,l,cs,aT,os,as,X,congrArg (λz=>[V.ref R.A,V.int z]) (show (N:Int)+(t:Int)=((N+t:Nat):Int) by omega),I,J.same Y,by omega,mx.len,mx.lt,mx.ism,mx.ag,λb2 C=>?_]
  rw[if_pos a7]
  have D:=Y.trans C;refine #[_,rfl,R.c,_,_,_,_,rfl,D _ _ hc,ϑ,ηJ,dC R.bp M N Lp,R.bp,dB,_,rfl,D _ _ hB,rfl,?_];refine #[_,rfl,rl,rfl,#[_,b_.of ϋ0],λfl bt=>?_];refine cD (f:=λk=>.int ((l t k:Nat):Int)) (cs:=[some οE]) (b_.of ϋ0) bt rfl 0e0 ιR (λH4 s4 aw=>?_)
  ·have g:=(O k hk).1
   have g2:=gi k g;rw[show eqn N l t k=l t k by unfold eqn;rw[if_pos g]] at g2
   exact #[_,rfl,_,rfl,lp,_,_,_,rfl,rfl,b_.of ((s2.trans ((s3.trans C).trans sx)) _ _ Z),g2,hR _ ϟ]
  have aw:H4 fl=some (.lst (rowV (((j_ N nk).filter λk=>EA l t k).map λk=>l t k))):=by rw[aw];show 40
  have a4:=D.trans s4;refine #[_,rfl,R.bp,R.fp,fl,so,r,w,n,_,_,rfl,hC.blk.same a4,μ9,I.n16,b_.of aw,b_.of ((C.trans s4) _ _ an),by rw[o_,o_],λf hf=>?_,λH' s'=>?_]
  ·obtain⟨k,hk,rfl⟩:=Fk.mp hf
   exact I.W.lt t k ht (O k hk).1
  ·refine #[_,_,rfl,rfl,?_]
   show Q υw H'
   rw[c5,zL μ9 mx.len mx.lt mx.ism ht,Ca μ9 λk hk=>I.W.lt t k ht hk];exact q H' (a4.trans s')
def bA (N:Nat) (cs:Ϝ) (ts nk:η):List Nat:=ν5++ts.map λt=>N+t
def laidV (r w n N:Nat) (l:ύ) (nk:η) (nb:Ϟ) (X:η) (k:Nat):Nat:=if k < N then nb k else cE r w n N l (k - N) θC
theorem ib {ks:η}{f:Ϟ}{k:Nat} (h:k∉ks):FH (aX ks f) ΩG (.int ((f k:Nat):Int))=aX (ks++[k]) f:=by
 rw[sU _ (by rw[cX,if_neg h])]
 unfold aX;rw[FM];rfl
theorem ko (ks:η) (f:Ϟ):(aX ks f).length=ks.length:=by unfold aX;rw[o_]
theorem mI {xs:η} (nd:xs.Nodup) {i k:Nat} (e:xs[i]?=some k):k∉xs.take i:=λh=>by
 have hi:=ET.mp e
 have n2:(xs.take i++xs.drop i).Nodup:=by rw[List.take_append_drop];exact nd
 refine(KU.mp n2).2.2 k h k ?_ rfl;rw[NN hi.1,hi.2];exact F0
inductive wD (a:A_) (vs:δ) (H:Hp) (Q:VK) (E_3:XK):Prop
 | mk:∀(H0:Hp) (R:DT) (nd tl:Addr) (b:Bool) (r w n M N:Nat) (l:Nat->Nat->Nat) (cs srow os:List (Option Nat)) (as X nk ts:List Nat) (nb:Nat->Nat),vs=[.ref R.A,.ref nd,.ref tl,.bl b]->Eg a H0 R r w n M N l cs srow->v_ a H0 H R (N+M) os as->H nd=some (.dK (aX nk nb))->nk.Nodup->((∀k∈nk,k < N))->H tl=some (.lst (rowV ts))->ts.Nodup->((∀t∈ts,t < M))->Mh r w n M N l os X->((b=true->∀t∈ts,∀k,k < N->EA l t k=true->k∉nk->fx r w M N l (knO os) k=true))->((b=false->∀t∈ts,(∀k∈nk,EA l t k=true->fx r w M N l (knO os) k=true)/\fx r w M N l (knO os) (N+t)=true))->(∀D H',a_ H H'->H D=none->H' D=some (.dK (aX (bA N cs ts nk) (laidV r w n N l nk nb X)))->Q (.ref D) H')->wD a vs H Q E_3
theorem zP (T:μ):C_ P wo K mg base 11 a.f50 ["asking", "news", "totals", "by_rest"] (wD a):=by
 refine T.x50.F.okA (k:=10) Lr ξ
 ·obtain⟨H0,R,nd,tl,b,r,w,n,M,N,l,cs,Z,os,as,X,nk,ts,nb,rfl,I,J,C,Y,j,a0,a1,an,mx,a6,a3,q⟩:=h
  show 10
  show 43
  show 101
  show 18
  have nl:nk.length<=8:=DK (bG N nk Y j) γ
  have a7:ts.length<=M:=bG M ts a1 an
  show 0
  exists xc (au (i:=4) Lr.nd rfl 0e3 mh)
  show 1;refine xf ϗ rfl 131e9 (ar (i:=5) Lr.nd rfl ζ) ?_;show 7;refine xi (am bV (aE aG γ1 γf γ0) aO ψ) ?_
  exists xl (kC εc γ6 γf (iw εc Θ γf γ0) rfl)
  show 2;show 103;refine xf ϗ rfl 40e6 (ar (i:=6) Lr.nd rfl ζ) ?_
  exists xc (au (i:=5) Lr.nd rfl 0e3 (ay aW θ0 δ8))
  exists xl (kC εc γ6 γf (iT (aV ϊ) (aH (pz T) hr.u rfl T.x48.m T.x48.k T.x48.b .nil aj Ξk) (aH (mH T) hr.u rfl T.x49.m T.x49.k T.x49.b .nil aj Ξk)) rfl)
  show 5
  exists xl χD
  refine λD nD=>?_
  show 362
  have hD:=ab (H:=H) (a:=D) (o:=.dK []);show 363;refine #[_,rfl,nd,_,nk.map λk=>((k:Nat):Int),rfl,sD _ _ C,dR nk nb,by rw[o_];omega,λsl ns nsl pm pw=>?_]
  rw[cW Y j pm pw]
  show 159
  have O:=ab (H:=H1) (a:=sl) (o:=.lst εd)
  have a4:sl≠D:=(al hD nsl).symm;generalize (upd H1 sl (.lst (rowV (j_ N nk))))=H2 at sS O
  have a5:=sS _ _ hD
  have s2:=sD.trans sS;refine #[sl,rfl,υK,?_];refine let I_:Nat->L2.St->Hp->Prop:=λi σ H'=>L2.A4 ((∃v5:Option V,σ=[some δl,some ζb,some οC,some θW,some γ4,v5,none])) δZ (H' sl=some (.lst εd)) (H' D=some (.dK (aX (((j_ N nk).take i).filter λk=>(cs.getD k none).isSome) νR)));bR (xs:=rowV δ7) I_ #[η4,s2,O,a5] ?_ ?_ ?_
  ·rintro i σ H' _ ⟨_,_,h,_⟩
   exact b_.of h
  ·rintro i x σ H' hx ⟨⟨v5,rfl⟩,sm,aw,g⟩
   show 158
   have ad:=(bJ j).mp ζL
   have a2:=j k ad
   have gi:=aB (bQ (dP (os:=cs) (k:=k) ϊt))
   have sx:=sm;refine #[_,rfl,R.A,_,_,_,_,rfl,sx _ _ hA,ϐ,ηM,eO _ _ _ _ _,_,rfl,R.cl,_,_,_,rfl,rfl,b_.of ((J.sm.trans sx) _ _ ν4),gi,rfl,_,rfl,?_];rw[kD]
   have et:((j_ N nk).take (i+1)).filter ρJ=((j_ N nk).take i).filter ρJ++(if (cs.getD k none).isSome=true then [k] else []):=by
    rw[hU ek,Pn]
    congr 1
    by_cases z:(cs.getD k none).isSome=true
    ·rw[if_pos z,P0 (p:=λk=>(cs.getD k none).isSome) z,L4]
    ·rw[if_neg z,OV (p:=λk=>(cs.getD k none).isSome) z,L4]
   cases hz:(cs.getD k none).isSome with
   | false =>
    show 32
    exact #[ϒ,sm,aw,by rw[et,hz,if_neg ε,ML];exact g]
   | true =>
    show 19
    have dg:=Fd.k (k:=Sum.inl ((k:Nat):Int)) (sx _ _ C);rw[cX,if_pos ad] at dg
    have G:k∉((j_ N nk).take i).filter λk=>(cs.getD k none).isSome:=λy=>mI (IT _ Kx:(j_ N nk).Nodup) ek (E5.mp y).1;refine #[_,rfl,_,rfl,nd,_,rfl,dg,_,rfl,_,rfl,D,_,rfl,GC.k (k:=Sum.inl ((k:Nat):Int)) g ?_,?_]
    ·rw[ko]
     exact Ih (DK μB (DK (by rw[Hu];exact RX _ _) (DK cV (by omega:N<=8)))) ε
    refine #[ϒ,sm.up nD,by rw[ae a4];exact aw,?_]
    rw[ab,et,hz,if_pos rfl]
    have ev:laidV r w n N l nk nb X k=nb k:=by unfold laidV;rw[if_pos a2]
    rw[<- ib G,ev]
  ·rintro σ H' ⟨⟨v5,rfl⟩,sm,_,g⟩
   rw[ap,Ks] at g;refine #[_,rfl,tl,rfl,#[_,b_.of χB],?_];refine let I_:Nat->L2.St->Hp->Prop:=λi σ H'=>L2.A3 ((∃v5 v6:Option V,σ=[some δl,some ζb,some οC,some θW,some γ4,v5,v6])) δZ (H' D=some (.dK (aX πU νR)));bR (xs:=rowV ts) I_ #[εo,sm,by rw[g];simp] ?_ ?_ ?_
   ·rintro i σ H' _ ⟨_,sm,_⟩
    exact b_.of χB
   ·rintro i x σ H' hx ⟨⟨v5,v6,rfl⟩,sm,g⟩
    obtain⟨t,et,rfl⟩:=bh hx
    have U:=Ez et
    have aT:=an t U;refine #[_,rfl,R.A,_,_,_,_,rfl,sm _ _ hA,ϐ,ζo,cK _ _ _ _ _,R.c,_,_,_,_,rfl,sm _ _ hc,ϑ,εJ,dD R.bp M N Lp,_,rfl,_,_,rfl,rfl,?_]
    have G:N+t∉ν5++(ts.take i).map λt=>N+t:=λy=>by
     rcases Fw.mp y with y | y
     ·have:=j _ ((bJ j).mp (E5.mp y).1)
      omega
     ·obtain⟨t',h1,h2⟩:=Fk.mp y
      have:t'=t:=by omega
      show 14;exact mI a1 et h1
    have len:(aX πU νR).length < sizeLine:=by
     rw[ko,Fn,o_]
     have h1:=GP ρJ δ7
     show 364
     have h3:(ts.take i).length<=ts.length:=by rw[Hu];exact RX _ _
     exact Ih (by omega:_<=8) ε
    have ev:laidV r w n N l nk nb X (N+t)=cE r w n N l t 40e0:=by unfold laidV;rw[if_neg γ,K7]
    have fin:∀H2,a_ H' H2->a_ H (upd H2 D (.dK (aX (ν5++(ts.take (i+1)).map λt=>N+t) νR))):=λH2 s2=>(sm.trans s2).up nD
    have ed:πU++[N+t]=ν5++(ts.take (i+1)).map λt=>N+t:=by
     rw[hU et,FM,MW];rfl
    show 6
    rw[show (N:Int)+(t:Int)=((N+t:Nat):Int) by omega]
    refine ϊP
    cases b with
    | true =>
     show 19;refine #[_,rfl,_,rfl,_,rfl,H0,R,nd,r,w,n,M,N,t,l,cs,Z,os,as,X,nk,nb,rfl,I,J.same sm,sm _ _ C,aT,mx,a6 rfl t U,λH2 s2=>?_];show 365
    | false =>
     show 32
     obtain⟨f1,f2⟩:=a3 rfl t U;refine #[_,rfl,_,rfl,_,rfl,H0,R,nd,r,w,n,M,N,t,l,cs,Z,os,as,X,nk,nb,rfl,I,J.same sm,sm _ _ C,Y,j,aT,mx,f1,f2,λH2 s2=>?_];show 365
   ·rintro σ H' ⟨⟨v5,v6,rfl⟩,sm,g⟩
    rw[ap,Ks] at g;exact #[_,rfl,q D H' sm nD g]
section
variable (r w M N:Nat) (l:Nat->Nat->Nat) (cs srow:List (Option Nat)) (L L':List Nat)
inductive JM:List εN->List Nat->List εN->List Nat->Bool->Prop
 | done {os as:_}:(L.all (fx r w M N l (knO os)) || L'.all (fx r w M N l (knO os)))=true->JM os as os as true
 | none {os as ms:_}:L.all (fx r w M N l (knO os))=false->L'.all (fx r w M N l (knO os))=false->ms.Perm ((p_ (N+M)).filter (DA cs as))->ms.Pairwise (F4 (GS cs))->fU r w M N l cs as (knO os) ms L L'=none->JM os as os as false
 | step {os as ms way os' as' b:_}:L.all (fx r w M N l (knO os))=false->L'.all (fx r w M N l (knO os))=false->ms.Perm ((p_ (N+M)).filter (DA cs as))->ms.Pairwise (F4 (GS cs))->fU r w M N l cs as (knO os) ms L L'=some way->JM (bH cs srow way os as).1 (bH cs srow way os as).2 os' as' b->JM os as os' as' b
end
theorem uB {ms L':η} (h1:L.all ιV=υ) (h2:L'.all ιV=υ) (pm:ms.Perm ΦQ) (hL:όw) (hL':ϋX) (h:fU r w M N l cs as ϋ ms L L'=some way):(∀k∈way,k < N+M/\DA cs as k=true)/\∃k rest,way=k :: rest:=by
 have kw:Gn ϋ []=knO os:=rfl
 have g:∀{L:η}{p:ύF},L.all ιV=false->(∀k∈L,k < N+M)->p∈bE r w M N l cs as ϋ L->(∀k∈p.2,k < N+M/\DA cs as k=true)/\∃k rest,p.2=k :: rest:=λ{L p} h1 hL h=>by
  unfold bE at h
  split at h
  ·next hz =>
   rw[Eu.mp h];refine #[λk hk=>#[hL k (E5.mp hk).1,Go.mp hz k hk],?_]
   cases e:G_ r w M N l (knO os) L with
   | cons k rest=>exact ύ5
   | nil =>
    have:L.all ιV=true:=Go.mpr λk hk=>by
     cases hf:fx r w M N l (knO os) k with
     | true=>rfl
     | false =>
      have:k∈G_ r w M N l ϋ L:=E5.mpr #[hk,by rw[hf];rfl]
      rw[e] at this
      show 8
    rw[h1] at this
    show 8
  ·cases h
 have C:∀{L d:η},L.all ιV=false->F3 r w M N l ϋ ms L=some d->(∀k∈d,k < N+M/\DA cs as k=true)/\∃k rest,d=k :: rest:=λ{L d} h1 h=>by
  unfold F3 at h
  cases hf:(p_ (ms.length+1)).find? λj=>L.all (fx r w M N l (Gn (knO os) (ms.take j))) with
  | none=>rw[hf] at h;cases h
  | some j =>
   rw[hf] at h
   have hd:ms.take j=d:=DU h;subst hd;refine #[λk hk=>?_,?_]
   ·have:=E5.mp ΩH
    exact τa
   ·cases e:ms.take j with
    | cons k rest=>exact ύ5
    | nil =>
     have:=List.find?_some hf;rw[e,kw,h1] at this
     show 8
 unfold fU at h
 cases hp:Gj (λp=>p.1) (ia r w M N l cs as (knO os) ms L L') with
 | none=>rw[hp] at h;cases h
 | some p =>
  rw[hp] at h
  have hd:p.2=way:=DU h;subst hd
  have hm:=uw hp;unfold ia at hm;rcases Fw.mp hm with hm | hm
  ·rcases Fw.mp hm with hm | hm
   ·exact g h1 hL hm
   ·exact g h2 hL' hm
  ·obtain⟨d,hd,rfl⟩:=Fk.mp hm
   have s:=uw (MI.mp hd);unfold du at s;rcases Fw.mp s with y | y
   ·exact C h1 οD
   ·exact C h2 οD
def IQ (os:Ϝ) (L:η):List Bool:=(p_ πf).map λk=>(os.getD k none).isSome || L.contains k
variable {ts:List Nat}
theorem FO {k:Nat}:k∈bD N l ts nk ↔ k < N/\k∉nk/\∃t∈ts,EA l t k=true:=by
 unfold bD;rw[E5,EF,Gx,O4,LV];refine #[λ⟨a,b,c⟩=>#[a,λz=>?_,c],λ⟨a,b,c⟩=>#[a,?_,c]]
 ·rw[Ig.mpr z] at b
  cases b
 ·cases z:nk.contains k with
  | false=>rfl
  | true=>exact absurd (Ig.mp z) b
theorem wE (ht:ύ6):∀k∈EQ N l ts δ7,k < N+M:=λk hk=>by
 unfold EQ at hk;rcases Fw.mp hk with h | h
 ·have:=EF.mp (E5.mp (E5.mp h).1).1
  omega
 ·obtain⟨t,h1,rfl⟩:=Fk.mp h
  have:=ht t h1;omega
theorem v_.has {R:DT} (J:ηg) (hD:χZ):a_ H0 67e7:=λb u e=>by
 by_cases z:b=D
 ·subst z
  rw[ab,← hD];exact J.sm b u e
 ·rw[ae z];exact e
theorem Eg.extH {R:DT} (I:νJ) (J:τN) (hD:χZ) (h1:R.rl≠D) (h2:R.sl≠D) (h3:R.z≠D) (h4:a.t38≠D):Eg a ο5 R r w n M N l cs srow:=by
 have s:=J.has hD;show 348
theorem AT {R:DT}{p:Pos} (I:νJ) (J:τN) (h:ζB) (ne:a.t38≠t):∃H1,a_ H0 H1/\Eg a H1 R r w n M N l cs srow/\v_ a H1 H R n' os as/\DI H1 t p q:=by
 show 41
 have I1:=I.extH J h1 (bj J.hr h1 γJ) (bj J.hs h1 (λy=>by cases y)) (J.hz.elim λ_ e=>bj e.1 h1 (λy=>by cases y)) ne
 have J1:=J.ext h1
 have s1:=J.has h1;rcases h2 with h2 | ⟨c',e,h2⟩
 ·exact #[_,s1,I1,J1,ps,ab,.inl h2]
 ·obtain⟨po,g,_⟩:=id ιb
  have nt:t≠c':=bj h1 h2 γJ
  refine #[_,s1.trans (J1.has h2),I1.extH J1 h2 (bj J.hr h2 γJ) (bj J.hs h2 (λy=>by cases y)) (J.hz.elim λ_ e=>bj e.1 h2 (λy=>by cases y)) (bj g h2 (λy=>by cases y)),J1.ext h2,ps,?_,.inr ⟨c',e,ab⟩]
  rw[ae nt];exact ab
inductive zQ (a:A_) (vs:δ) (H:Hp) (Q:VK) (E_3:XK):Prop
 | mk:∀(H0:Hp) (R:DT) (nd:Addr) (r w n M N:Nat) (l:Nat->Nat->Nat) (cs srow os:List (Option Nat)) (as X nk:List Nat) (nb:Nat->Nat),vs=[.ref R.A,.ref nd]->Eg a H0 R r w n M N l cs srow->v_ a H0 H R (N+M) os as->DI H a.t47 Gh qW->H0 a.t47=none->H0 nd=some (.dK (aX nk nb))->nk.Nodup->((∀k∈nk,k < N))->((∀k,(cs.getD k none).getD 0<=1000000))->Mh r w n M N l os X->b8 (N+M) srow X->(∀H' os' as' b,JM r w M N l cs srow (bD N l (EJ M N l cs (j_ N nk)) nk) (EQ N l (EJ M N l cs (j_ N nk)) (j_ N nk)) os as os' as' b->b8 (N+M) os' X->v_ a H0 H' R (N+M) os' as'->DI H' a.t47 Gh qW->(b=true->(j_ N nk).all (fx r w M N l (IQ os' (bA N cs (EJ M N l cs (j_ N nk)) nk)))=true->∀D,H0 D=none->H' D=some (.dK (aX (bA N cs (EJ M N l cs (j_ N nk)) nk) (laidV r w n N l nk nb X)))->Q (.ref D) H')/\((b && (j_ N nk).all (fx r w M N l (IQ os' (bA N cs (EJ M N l cs (j_ N nk)) nk))))=false->Q .non H'))->zQ a vs H Q E_3
theorem rF (T:μ) (B:εf):C_ P wo K mg base 13 a.f51 ["asking", "news"] (zQ a):=by
 refine T.x51.F.okA (k:=12) JK ξ
 ·obtain⟨H0,R,nd,r,w,n,M,N,l,cs,srow,os,as,X,nk,nb,rfl,I,J,TW,c8,Y,ad,O,dl,mx,c2,q⟩:=h
  show 10
  show 18
  show 0
  exists xc (au (i:=2) ηO rfl 0e3 γ1)
  exists xc (au (i:=3) ηO rfl 0e3 (aH (mG T) hr.u rfl T.x44.m T.x44.k T.x44.b .nil aj τ6))
  exists xc (au (i:=4) ηO rfl 0e3 (aH (xI T) hr.u rfl T.x45.m T.x45.k T.x45.b .nil aj Ξl))
  exists xc (au (i:=5) ηO rfl 0e3 (aH (uv T) hr.u rfl T.x46.m T.x46.k T.x46.b .nil aj Ξl))
  show 1;refine xw ϗ (PW.pt (mL (bW (aV ΓP)) (ky (bW (aV (av ο ϐ T.x36.me (cN T) hr.u T.x36.b .nil aj ω0)))))) ?_
  exists xc (au (i:=6) ηO rfl 0e3 (aH (u4 T B) hr.u rfl T.x47.m T.x47.k T.x47.b .nil aj (aa ο νO)))
  show 1;refine xi (am io δ8 aO ψ) ?_
  show 26
  show 2
  exists xl (aF (av ο ϐ T.x34.me (dQ T) hr.u T.x34.b .nil aj μS))
  show 5
  exists xc (au (i:=7) ηO rfl 11e5 (aH (zP T) hr.u rfl T.x50.m T.x50.k T.x50.b .nil aj (aa ο (aa Θ (aa ϊ (aa ΓP ac))))))
  exists xc (b9 (i:=8) ηO rfl 0e3 (g_.of (cap:=[7]) (own:=["role", "is_known"]) γg) rfl (fX rfl T.A33 (aa νk ac)) ωI γ5 (λ_ _ _ _ _=>by exact(Bb Ω (mM (Cu (yZ εc Θ ο))))))
  show 1;refine xi (bW (aV (aH (gI T) hr.u rfl T.x30.m T.x30.k T.x30.b .nil aj (aa Ω (aa μY (aa ωm ac)))))) ?_
  show 26
  show 2
  exists xl (ax ζk)
  refine #[_,rfl,R.A,_,_,_,_,rfl,J.sm _ _ hA,ϐ,ζo,cK _ _ _ _ _,?_];refine #[_,rfl,_,rfl,H0,R,nd,r,w,n,M,N,l,cs,srow,os,as,nk,nb,rfl,I,J,J.sm _ _ Y,ad,O,λTL H1 s1 dc an=>?_]
  have U:∀t∈EJ M N l cs δ7,t < M:=λt h=>kE h
  have cw:(EJ M N l cs δ7).length<=8:=DK AM γ
  have cr:(EJ M N l cs δ7).Nodup:=IT _ οB;generalize dF:EJ M N l cs (j_ N nk)=ts at *
  have J1:=J.same s1;refine #[_,rfl,_,rfl,_,rfl,R.c,R.bp,R.fp,TL,nd,r,w,n,M,N,l,ts,nk,nb,rfl,I.code.same J1.sm,by omega,b_.of an,cw,U,J1.sm _ _ Y,λRS H2 s2 cy ce=>?_]
  have J2:=J1.same s2
  have b5:=s1.trans s2;refine #[_,rfl,_,rfl,_,rfl,R.c,R.bp,R.fp,TL,nd,r,w,n,M,N,l,ts,nk,nb,rfl,I.code.same J2.sm,by omega,s2 _ _ an,cw,U,J2.sm _ _ Y,ad,O,λCH H3 s3 bt db=>?_]
  have J3:=J2.same s3
  have df:=b5.trans s3
  have t3:=TW.keep df
  have aw:∀{D:Addr},H D=none->H0 D=none/\(R.rl≠D/\R.sl≠D/\R.z≠D/\a.t38≠D)/\a.t47≠D:=λ{D} e=>by
   obtain⟨pt,dr,_⟩:=id TW;exact #[J.sm.free e,J.away e,al dr e]
  obtain⟨z1,⟨z2,z3,z4,z5⟩,z6⟩:=aw dc;obtain⟨y1,⟨y2,y3,y4,y5⟩,y6⟩:=aw (s1.free cy);obtain⟨x1,⟨x2,x3,x4,x5⟩,x6⟩:=aw (b5.free bt)
  have d1:RS≠TL:=(al an cy).symm
  have d2:CH≠TL:=(al (s2 _ _ an) bt).symm
  have d3:CH≠RS:=(al ce bt).symm
  have e1:(upd H0 TL (.lst (rowV ts))) RS=none:=by rw[ae d1];exact y1
  have e2:(upd (upd H0 TL (.lst (rowV ts))) RS (.lst (rowV μP))) CH=none:=by rw[ae d3,ae d2];exact x1
  have I3:=((I.ext (o:=.lst (rowV ts)) z1 z2 z3 z4 z5).ext (o:=.lst (rowV μP)) e1 y2 y3 y4 y5).ext (o:=.lst (rowV π9)) e2 x2 x3 x4 x5
  have K3:=((J3.ext (99e5 _ _ an)).ext (s3 _ _ ce)).ext db
  have sb:a_ H0 45e6:=(a_.new z1).trans ((a_.new e1).trans (a_.new e2))
  have cv:45e6 a.t47=none:=by rw[ae x6,ae y6,ae z6];exact c8
  have c0:45e6 TL=some (.lst (rowV ts)):=by rw[ae (Es d2),ae (Es d1)];exact ab
  have a5:45e6 RS=some (.lst (rowV μP)):=by rw[ae (Es d3)];exact ab
  have a9:45e6 CH=some (.lst (rowV π9)):=ab;generalize (upd (upd (upd H0 TL (.lst (rowV ts))) RS (.lst (rowV (bD N l ts nk)))) CH (.lst (rowV (EQ N l ts (j_ N nk)))))=Hb at I3 K3 sb cv c0 a5 a9
  have dq:(bD N l ts nk).length<=8:=DK μB δf
  have a6:∀k∈bD N l ts nk,k < N+M:=λk h=>by have:=(FO.mp h).1;omega
  have c3:(EQ N l ts δ7).length<=8:=by
   unfold EQ;rw[Fn,o_]
   have h1:=GP ΦG δ7
   show 364
   have h3:=bG M ts cr U;omega
  have b0:=wE (N:=N) (l:=l) (nk:=nk) U;show 4
  refine⟨λm σ H'=>∃(g:Ϝ) (j:η) (v6:εi),m=(N+M) - j.length/\σ=[some δl,some ζb,some μi,some ψr,some (.ref RS),some (.ref CH),v6,none,none]/\v_ a Hb H' R (N+M) g j/\DI H' γI Gh qW/\b8 (N+M) g X/\∀b1 a7 b,JM r w M N l cs srow μP π9 g j b1 a7 b->JM r w M N l cs srow μP π9 os as b1 a7 b,
   ⟨_,os,as,none,rfl,rfl,K3,t3,mx.ag,λ_ _ _ h=>h⟩,?_⟩
  rintro m σ H' ⟨g,j,v6,rfl,rfl,J4,t4,a0,bm⟩;obtain⟨Z,aT⟩:=I3.obj;refine #[_,rfl,R.A,Z,_,rfl,J4.sm _ _ aT,rfl,_,rfl,Hb,R,RS,r,w,n,M,N,l,cs,srow,g,j,bD N l ts nk,rfl,I3,J4,b_.of (J4.sm _ _ a5),a6,λH5 s5=>?_]
  have J5:=J4.same s5
  have t5:=t4.keep s5
  refine ur (λH6=>a_ H' H6/\((bD N l ts nk).all ιY || (EQ N l ts δ7).all ιY)=true) (λck=>by
   cases hz:(bD N l ts nk).all (fx r w M N l (knO g)) with
   | true =>
    refine νj
    show 32
    exact ck H5 #[s5,by rw[hz];rfl]
   | false =>
    refine νn;refine #[_,rfl,R.A,Z,_,rfl,J5.sm _ _ aT,rfl,_,rfl,Hb,R,CH,r,w,n,M,N,l,cs,srow,g,j,EQ N l ts δ7,rfl,I3,J5,b_.of (J5.sm _ _ a9),b0,λH6 s6=>?_]
    have J6:=J5.same s6
    have t6:=t5.keep s6
    cases hy:(EQ N l ts (j_ N nk)).all (fx r w M N l (knO g)) with
    | true =>
     refine νj
     exact ck H6 #[s5.trans s6,by rw[hz,hy];rfl]
    | false =>
     refine #[_,rfl,c_ ρI γY];refine #[_,rfl,_,rfl,_,rfl,Hb,R,RS,CH,r,w,n,M,N,l,cs,srow,g,j,bD N l ts nk,EQ N l ts δ7,rfl,I3,J6,t6,cv,a5,a9,dq,a6,c3,b0,dl,λH7 ms J7 t7 pm pw=>#[λD way hn nD hD=>?_,λhn=>?_]]
     ·obtain⟨G,k0,b2,e0⟩:=uB hz hy pm a6 b0 hn
      show 349
      have b3:Hb D=none:=J6.sm.free nD;obtain⟨a1,a2,a3,a4⟩:=J6.away nD;refine #[_,rfl,R.A,Z,_,rfl,J7.sm _ _ aT,rfl,_,rfl,?_];obtain⟨Hc,sc,Ic,Jc,Tc⟩:=AT (I3.ext b3 a1 a2 a3 a4) (J7.ext hD) t7 B.A40;refine #[Hc,R,D,r,w,n,M,N,l,cs,srow,g,j,way,rfl,Ic,Jc,b_.of (sc _ _ ab),λx hx=>(G x hx).1,λH8 J8=>?_]
      have J9:=J8.rebs ((a_.new b3).trans sc);refine #[(N+M) - (bH cs srow way g j).2.length,?_,_,_,_,rfl,rfl,J9,Tc.keep J8.sm,im c2 _ _ _ J4.osl (λx hx=>(G x hx).1) a0,λb1 a7 b h=>bm _ _ _ (.step hz hy pm pw hn h)]
      have h1:=oE (srow:=srow) (ks:=b2) (os:=g) (G k0 ΨM).2
      have h2:=J9.asl;show 350
     ·refine δe
      show 19
      exact(q H7 g j υ (bm _ _ _ (.none hz hy pm pw hn)) a0 (J7.rebs sb) t7).2 rfl) ?_
  rintro H6 ⟨s6,C⟩
  have J6:=J4.same s6
  have t6:=t4.keep s6;refine #[_,rfl,_,rfl,_,rfl,_,rfl,R.A,Z,_,rfl,J6.sm _ _ aT,rfl,_,rfl,Hb,R,RS,r,w,n,M,N,l,cs,srow,g,j,bD N l ts nk,rfl,I3,J6,b_.of (J6.sm _ _ a5),a6,λH7 s7=>?_]
  have J7:=J6.same s7;refine #[Hb,R,nd,TL,(bD N l ts nk).all ιY,r,w,n,M,N,l,cs,srow,g,j,X,nk,ts,nb,rfl,I3,J7,(sb.trans J7.sm) _ _ Y,ad,O,J7.sm _ _ c0,cr,U,#[mx.len,mx.lt,mx.ism,a0],λhb t ht k hk a8 c1=>?_,λhb t ht=>#[λk hk a8=>?_,?_],λD H8 s8 nD hD=>?_]
  ·exact Go.mp hb k (FO.mpr #[hk,c1,t,ht,a8])
  ·rw[hb,Mz] at C
   refine Go.mp C k (Fw.mpr (.inl (E5.mpr #[(bJ O).mpr hk,LV.mpr #[t,ht,a8]])))
  ·rw[hb,Mz] at C
   exact Go.mp C _ (Fw.mpr (.inr (Fk.mpr #[t,ht,rfl])))
  have J8:=J7.same s8;show 4
  refine #[_,rfl,R.A,Z,_,rfl,J8.sm _ _ aT,rfl,Hb,R,r,w,n,M,N,l,cs,srow,g,j,rfl,I3,J8,λKL H9 s9 dB cc=>?_]
  have b6:=s9 _ _ hD
  have J9:=J8.same s9;refine #[KL,_,rfl,b_.of cc,λKN dd=>?_]
  have o8:g.length<=8:=by rw[J4.osl];exact n8
  have kl:(FB μX).length=g.length:=by unfold FB;rw[o_,cj]
  refine xj (xs:=FB μX) (f:=λi=>.bl ΔE) (cs:=[some γ4]) (b_.of cc) dd rfl (by rw[kl];exact DK o8 ε) ηc (λHA sA ch=>?_)
  ·have hi:i < g.length:=by rw[<- kl];exact(ET.mp hu).1
   have eu:u=.bl (g.getD i none).isSome:=by
    rw[<- zC,DO,F1 hi] at hu;exact(DU hu).symm
   subst eu
   have dg:=Fd.k (k:=Sum.inl ((i:Nat):Int)) (s2 _ _ b6);rw[cX] at dg
   cases ho:(g.getD i none).isSome with
   | true =>
    rw[ho,N_] at hR;refine #[_,rfl,_,rfl,c_ (λ_=>hR _ ϟ) γY]
   | false =>
    rw[ho,Mz] at hR;refine #[_,rfl,_,rfl,c_ δQ ι]
    refine #[_,rfl,_,rfl,D,_,rfl,dg,?_]
    have ec:(if i∈bA N cs ts nk then some (V.int ((laidV r w n N l nk nb X i:Nat):Int)) else none).isSome=(bA N cs ts nk).contains i:=by
     by_cases z:i∈bA N cs ts nk
     ·rw[if_pos z,Ig.mpr z];rfl
     ·rw[if_neg z]
      cases e:(bA N cs ts nk).contains i with
      | false=>rfl
      | true=>exact absurd ψp z
    rw[ec];show 50
  have ek:(p_ (FB μX).length).map (λi=>V.bl ΔE)=FB (IQ g ύI):=by
   unfold IQ;rw[kl];unfold FB;rw[Fa];rfl
  rw[ek] at ch
  have JA:=J9.same sA
  have nl:nk.length<=8:=DK (bG N nk ad O) γ
  refine #[_,rfl,_,rfl,_,rfl,nd,_,nk.map λk=>((k:Nat):Int),rfl,(sb.trans JA.sm) _ _ Y,dR nk nb,by rw[o_];omega,λsl ns nsl pm pw=>?_]
  rw[cW ad O pm pw]
  show 159
  have b4:=ab (H:=HA) (a:=sl) (o:=.lst εd);generalize (upd HA sl (.lst (rowV (j_ N nk))))=HB at sS b4
  have JB:=JA.same sS;refine #[R.c,R.bp,R.fp,KN,sl,r,w,n,M,N,l,IQ g ύI,j_ N nk,rfl,I.code.same (sb.trans JB.sm),εW,I.W,sS _ _ ch,by unfold IQ;rw[o_,Eo,J4.osl],b_.of b4,λk hk=>?_,λHC sC=>?_]
  ·have:=O k ((bJ O).mp hk)
   omega
  have JC:=JB.same sC
  have ds:=s7.trans (s8.trans (s9.trans Ωp));obtain⟨qa,qb⟩:=q HC g j true (bm _ _ _ (.done C)) a0 (JC.rebs sb) (t6.keep ds)
  cases hz:(j_ N nk).all (fx r w M N l (IQ g (bA N cs ts nk))) with
  | true =>
   refine νj
   exact #[_,rfl,qa rfl hz D (sb.free (J7.sm.free nD)) (156e5 _ _ b6)]
  | false =>
   refine νn;exact qb (by rw[hz];rfl)
structure Rw where
 c:Addr
 bp:Addr
 fp:Addr
 sp:Addr
 tp:Addr
 qs:List Addr
 r:Nat
 w:Nat
 n:Nat
 M:Nat
 N:Nat
 m:Nat
 l:Nat->Nat->Nat
 row:Nat->List Nat
 K:Rk
def Rw.pl (R:Rw) (st k:Nat):Nat:=(R.row μT).getD k 0
def G1 (R:Rw):List 14e6:=[("code",.ref R.c),("shape",.ref R.sp),("rack",.ref εb)]
theorem mJ (R:Rw):(G1 R).lookup ("code" : Str)=some 50e4:=rfl
theorem dE (R:Rw):(G1 R).lookup ("shape" : Str)=some (.ref R.sp):=rfl
theorem cF (R:Rw):(G1 R).lookup ("rack" : Str)=some 99e7:=rfl
def Rw.ms (a:A_) (R:Rw):List Addr:=R.K.dn :: R.K.sl :: a.t38 :: a.t47 :: a.t91 :: R.K.sh :: R.K.hs
structure G8 (a:A_) (G:Hp) (R:Rw):Prop where
 code:DB a G R.c R.bp R.fp R.r R.w R.n R.M R.N R.l
 full:GF.Et R.r R.w
 n16:R.n<=16
 W:Gv R.w R.M R.N R.l
 sh:Eb a G R.sp R.N ζj ζR R.tp R.qs R.m ιc
 nd:∀j,j < R.m->(R.row j).Nodup
 lt:∀j,j < R.m->∀x∈R.row j,x < R.N+R.M
 P:R.K.P=R.N+R.M
 L1:1<=R.K.L
 no:∀x∈R.ms a,G x=none
structure KH (R:Rw) (Y:η):Prop where
 len:Y.length=R.N+R.M
 lt:∀b∈Y,b < μt ^ R.n
 ok:Gm R.r R.w R.n R.M R.N R.l Y=true
structure Ju (a:A_) (H:Hp):Prop where
 o:DI H εH Jl qL
 n:DI H γI Gh qW
 r:DI H εm Jj qR
 on:a.t38≠a.t47
 or:a.t38≠a.t91
 nr:a.t47≠a.t91
def FW (R:Rw) (X:ηf) (Y:γR):Prop:=∀st,st < R.K.S->KH R δu/\∀k,k < R.N+R.M->X (R.pl st k) st=some (((Y st).getD k 0:Nat):Int)
variable {R:Rw}
theorem G8.pll (I:θV) {st k:Nat} (hk:χF):R.pl st k < R.K.P:=by
 show 160;unfold Rw.pl;rw[I.P,t_,s_ (by rw[I.sh.len _ m0];exact hk)]
 exact I.lt _ m0 _ (GM _)
theorem Eb.same {a:A_}{H H':Hp}{p tp:Addr}{d n st m:Nat}{qs:Ξ}{row:γR} (h:Ψw) (s:γD):Eb a H' p d n st tp qs m row:=#[h.sh.imp λ_ e=>s _ _ e,s _ _ h.tl,h.rows.same s,h.m0,γU]
def Ei (n:Nat):List 22e5:=Ee n (some 1)
def FE (Y:η):List 22e5:=Y.map some
theorem zR (n:Nat):(p_ n).map ύ7=Ej (Ei n):=by
 unfold Ei Ej;rw[Sj,L0,Eo];rfl
structure GV (a:A_) (H H':Hp) (R:Rw) (e st:Nat) (X:ηf) (Y:η) (A:DT):Prop where
 kp:∀b o,b≠a.t91->H b=some o->H' b=some o
 rk:A.RK=R.K
 z:A.z=R.K.dn
 B:A.B=e
 ss:A.ss=Ee ε7 .non
 X:A.X=X
 rl:H A.rl=none
 sl:H A.sl=none
 tb:Ju a H'
 ask:∀ys:List Addr,(∀y∈ys,y=γI)->Eg a ρl A R.r R.w R.n R.M R.N R.l η0 (FE Y)/\v_ a ρl H' A ζj ϋn []
variable {Y:Nat->List Nat}
theorem Cb {H3 H6:Hp}{dx fa cl rl sl ol:Addr} (I:θV) (sG:a_ G H) (hR:d_ a H R.K e ξE X) (hX:ψO) (tb:Ju a H) (he:e<=8000) (hst:st < ζR) (k3:∀b o,b≠a.t91->H b=some o->H3 b=some o) (t3:DI H3 εm Jj qR) (s36:a_ H3 H6) (ncl:H3 cl=none) (nrl:H3 rl=none) (nsl:H3 sl=none) (d1:cl≠rl) (d2:cl≠sl) (d3:rl≠sl) (hx6:H6 x=some (.ins ϧ dx (af R.c fa cl rl sl))) (hcl:H6 cl=some (.lst (Ej η0))) (hrl:H6 rl=some (.lst (Ej ϋn))) (hsl:H6 sl=some (.lst (rowV []))) (nol:H ol=none) (hol:H3 ol=some ρK) (lam:Gq H6 fa εb ol st) :
  GV a H H6 R e st X δu #[x,R.c,R.bp,R.fp,fa,cl,rl,sl,R.K.dn,e,ol,st,R.row μT,R.K,Ee ε7 .non,X]:=by
 have kp:∀b o,b≠a.t91->H b=some o->H6 b=some o:=λb o n z=>s36 _ _ (k3 b o n z)
 have fr:∀{b:Addr},H3 b=none->H b=none:=λ{b} z=>by
  cases y:H b with
  | none=>rfl
  | some o =>
   by_cases w:b=a.t91
   ·obtain⟨ps,y2,_⟩:=t3
    rw[w,y2] at z;cases z
   ·rw[k3 b o w y] at z;cases z
 obtain⟨ds,g,aT⟩:=id hR.dn
 have nl:∀{b:Addr}{xs:δ},H b=some γV->b≠a.t91:=λ{b xs} z w=>by
  show 366;rw[w,y] at z;cases z
 have T:=kp _ _ (nl g) g
 have D:=fr nrl
 have s:=fr nsl
 have tr:∀{t:Addr}{p:Pos}{q:Str},DI H t p q->t≠a.t91->DI H6 t p q:=λ{t p q} h n=>by
  obtain⟨ps,y,_⟩:=id tb.r;exact h.kp n y kp
 have J:Ju a H6:=#[tr tb.o tb.or,tr tb.n tb.nr,t3.keep s36,tb.on,tb.or,tb.nr];refine #[kp,rfl,rfl,rfl,rfl,rfl,D,s,J,λys aw=>?_];obtain⟨po,ho,_⟩:=id J.o;obtain⟨pn,hn,_⟩:=id J.n
 have E:∀b∈μZ,(b=R.K.dn\/b=rl\/b=sl)\/b=a.t38\/b=a.t47:=λb hb=>by
  rcases DH.mp hb with y | hb
  ·exact .inl ψP
  rcases DH.mp hb with y | hb
  ·exact .inl (.inr ψP)
  rcases DH.mp hb with y | hb
  ·exact .inl (.inr (.inr y))
  rcases DH.mp hb with y | hb
  ·exact .inr ψP
  ·exact .inr (.inr (aw b hb))
 have ad:∀{b:Addr}{o:HO},H6 b=some o->ϋ1->ξb->b∉54e7:=λ{b o} z n1 n2 hb=>by
  rcases E b hb with (y | y | y) | y | y <;> rw[y] at z
  ·rw[T] at z;show 104
  ·rw[hrl] at z;show 104
  ·rw[hsl] at z;show 104
  ·rw[ho] at z;show 161
  ·rw[hn] at z;show 161
 have U:∀{b:Addr}{xs:δ},H6 b=some γV->b≠R.K.dn->b≠rl->b≠sl->b∉54e7:=λ{b xs} z n1 n2 n3 hb=>by
  rcases E b hb with (y | y | y) | y | y
  ·exact n1 y
  ·exact n2 y
  ·exact n3 y
  ·rw[y,ho] at z;cases z
  ·rw[y,hn] at z;cases z
 have a0:a_ G 112e7:=xJ (λb o z=>kp b o (λw=>by rw[w,I.no _ ζ2] at z;cases z) (sG _ _ z)) λb hb=>by
  rcases E b hb with (y | y | y) | y | y <;> rw[y]
  ·show 162
  ·exact sG.free D
  ·exact sG.free s
  ·show 162
  ·show 162
 have Z:∀zs,d_ a (upd ωl R.K.dn ζF) R.K ψn ξE X:=λzs=>by
  have tn:∀b∈[a.t38,γI,εm],∃ps,H b=some 16e9:=λb hb=>by
   rcases DH.mp hb with rfl | hb
   ·obtain⟨ps,y,_⟩:=tb.o;exact ψ0
   rcases DH.mp hb with rfl | hb
   ·obtain⟨ps,y,_⟩:=tb.n;exact ψ0
   ·rw[Eu.mp hb]
    show 366;exact ψ0
  have h1:d_ a ΓV R.K e ξE X:=hR.keep (ms:=[εH,γI,εm]) (λb o n z=>by
   by_cases w:b=R.K.dn
   ·rw[w,ab,← g,← w];exact z
   ·rw[ae w,bF]
    ·exact kp b o (λy=>n υA) z
    ·intro hb
     rcases E b hb with (y | y | y) | y | y
     ·exact w y
     ·rw[y,D] at z;cases z
     ·rw[y,s] at z;cases z
     ·exact n υA
     ·exact n υA) (λb hb C d fs z=>by
    obtain⟨ps,y⟩:=tn b hb;rw[y] at z;cases z) (λb hb z=>by
    obtain⟨ps,y⟩:=tn b z;show 340
    rw[y] at y2;cases y2)
  have:=h1.told (H':=upd ΓV R.K.dn ζF) (λb o n z=>by rw[ae ρE];exact z) ab rfl
  rwa [aP] at this
 obtain⟨c',c1,c2,c3,pm,an,a1,a2,a3,a4,a5,a6⟩:=lam.ex
 have ex:∀{b:Addr}{φ:Heap->Prop},H6 b=some (.ext φ)->bc μZ H6 b=some (.ext φ):=λ{b φ} z=>by
  rw[bF (ad z εw (λ_ y=>by cases y))]
  exact z
 have Q:=s36 _ _ hol
 have m0:=IR st π6;obtain⟨O,hk⟩:=hX st hst;refine #[#[I.code.same a0,εW,I.n16,I.W,#[dx,?_],?_,IG,#[rfl,#[c',c1,c2,c3,pm,an,ex a1,ex a2,ex a3,ex a4,ex a5,a6],?_,?_,λk j=>?_,hst,Z],he,?_,cn ό,cn (by simp),cn (by simp),cn (by simp),d3,?_,?_],#[je _ _,hrl,hsl,#[ds,T,by rw[aT];exact y_ _],J.o,IG,L_,λk hk=>absurd hk Fl]]
 ·rw[bF (ad hx6 εw (λ_ y=>by cases y))];exact hx6
 ·show bc _ H6 cl=_
  rw[bF (U hcl (λz=>by rw[z] at ncl;rw[k3 _ _ (nl g) g] at ncl;cases ncl) d1 d2)];exact hcl
 ·show bc _ H6 ol=_
  rw[bF (U Q (λz=>by rw[z,g] at nol;cases nol) (al hol nrl) (al hol nsl))];exact Q
 ·show (R.row μT).length=(FE δu).length
  unfold FE;rw[o_,O.len,I.sh.len _ m0]
 ·have j:k < R.N+R.M:=by
   have:k < (FE δu).length:=j;unfold FE at this;rw[o_,O.len] at this;show 9
  refine #[I.pll j,?_]
  show ov (X (R.pl st k) st)=FS ((FE δu).getD k none)
  rw[hk k j];unfold FE;rw[t_,t_,DO,s_ (by rw[O.len];exact j)]
  rfl
 ·unfold FE
  rw[o_,O.len]
 ·exact(al όx nrl).symm
 ·exact(al όx nsl).symm
inductive uC (a:A_) (vs:δ) (H:Hp) (Q:VK) (E_3:XK):Prop
 | mk:∀(G:Hp) (R:Rw) (ro dx:Addr) (e st:Nat) (X:Nat->Nat->Option Int) (Y:Nat->List Nat),vs=[.ref ro,.int st]->G ro=some (.ins a.C_Row dx (G1 R))->G8 a G R->a_ G H->d_ a H R.K e (Ee R.K.L .non) X->FW R X Y->Ju a H->e<=8000->st < R.K.S->(∀A H',GV a H H' R e st X (Y st) A->Q (.ref A.A) H')->uC a vs H Q E_3
theorem jD (T:μ) (B:εf):C_ P wo K mg base 5 a.f91 ["self", "stripe"] (uC a):=by
 refine zx T.x91.F (k:=4) Mn (λvs H Q E h=>?_) ρD
 ·obtain⟨G,R,ro,dx,e,st,X,Y,rfl,_⟩:=h
  rfl
 ·obtain⟨G,R,ro,dx,e,st,X,Y,rfl,bt,I,sG,hR,hX,tb,he,ad,q⟩:=h
  refine⟨_,(ma (au (i:=2) Mn.nd rfl 11e5 γ1)
   (ma (au (i:=3) Mn.nd rfl 11e5 (av εv γk T.x68.me (fI T) hr.u T.x68.b .nil aj γ9))
   (ma (b9 (i:=4) Mn.nd rfl 0e3 (g_.of (cap:=[1,2]) (own:=["plank"]) γg) rfl (aL ϊ) δz γ5 (λ_ _ _ _ _=>by exact(iT (aV (av Θ ϛ T.x73.me (rC T) hr.u T.x73.b .nil aj τ5)) (av Θ ϛ T.x72.me (om T) hr.u T.x72.b .nil aj γH) aO)))
   (BU (cZ T.Ad7 (px T) hr.u rfl T.m_Asking T.x31.b .nil aj (aa γ1 (aa (CJ (T.x91.F.tab B.Ad4 B.Ac5) rfl) ζW))))))),?_⟩
  unfold Ox Os Kb
  have g:=sG _ _ bt;refine #[_,rfl,ro,_,_,_,_,rfl,g,Ϥ,εK,cF R,?_];show 4
  obtain⟨a9,cc⟩:=id (I.sh.same sG).sh;refine #[_,rfl,ro,_,_,_,_,rfl,g,Ϥ,ηP,dE R,R.sp,a9,_,rfl,cc,rfl,_,rfl,R.sp,R.tp,R.N,R.N+R.M,ζR,R.m,R.qs,ιc,st,rfl,I.sh.same sG,ad,λol a3=>?_];show 4
  have sO:=a_.new (o:=.lst (rowV ψV)) a3
  have O:(upd H ol ρK) ol=some 84e2:=ab;generalize (upd H ol (.lst (rowV (R.row (st % R.m)))))=H1 at sO O
  show 160
  show 18
  have aw:(R.row μT).length=R.N+R.M:=I.sh.len _ m0;refine #[_,rfl,ol,rfl,υK,λD nD=>?_];refine fO (xs:=rowV ψV) (f:=λ_=>V.int 1) (cs:=[some δL,some χf]) ψj nD rfl (by rw[ap,aw];exact DK n8 ε) (λx Hx R1 hx sx a8=>?_) ηi
  ·obtain⟨j,hj⟩:=IV hx
   obtain⟨p,ep,rfl⟩:=bh hj
   have hp:p < R.K.P:=by rw[I.P];exact I.lt _ m0 _ (Ez ep)
   have Z:=hR.same (sO.trans sx);obtain⟨dr,a1⟩:=id Z.ins;refine #[_,rfl,εb,dr,_,rfl,a1,rfl,_,rfl,_,rfl,R.K,e,p,st,_,X,rfl,Z,hp,ad,_,rfl,?_];show 19;exact #[_,rfl,εb,dr,_,rfl,a1,rfl,_,rfl,R.K,e,p,_,X,rfl,Z,hp,a8 _ ϟ]
  ·rw[show (rowV ψV).map ύ7=Ej η0 by rw[<- zR,L0,L0,Eo,ap,aw]] at hD
   have J:=sO.trans s2;refine #[_,rfl,ro,_,_,_,_,rfl,J _ _ g,Ϥ,T.A58,mJ R,?_];refine ud (q:=qR) (pos:=Jj) (tb.r.keep J) λH3 c' fa _ pm b0 k3 t3 ck ch b5 cr=>?_
   have a0:∀b o,b≠a.t91->H b=some o->H3 b=some o:=λb o n e=>k3 b o n (J _ _ e)
   have aT:∀{b:Addr}{o:HO},H2 b=some o->ξb->H3 b=some o:=λ{b o} e n=>k3 b o (λz=>by
    obtain⟨ps,y,_⟩:=tb.r.keep J
    rw[z,y] at e;exact n _ (DU e).symm) e
   have a5:=aT hD εw
   have b1:a_ G H3:=λb o e=>a0 b o (λz=>by rw[z,I.no _ ζ2] at e;cases e) (sG _ _ e)
   refine #[_,rfl,λx an nx b2 ce=>?_]
   have sx:a_ H3 (upd (upd H3 an ηT) x (.ins ϧ an [])):=(a_.new (o:=.own x) b2).trans λb o z=>by
    by_cases w:b=x
    ·rw[w,ae ce.symm,nx] at z;cases z
    ·rw[ae w];exact z
   refine #[x,an,R.c,R.bp,R.fp,fa,D,R.r,R.w,R.n,R.M,R.N,R.l,Ei ζj,rfl,ab,(I.code.same b1).same sx,I.W,b_.of (sx _ _ a5),by unfold Ei;rw[IG];exact n8,λH5 cl rl sl k5 b6 b3 nrl nsl d1 d2 d3 b4 a7 a6=>#[rfl,Gs (s.heap.objs.size+1+1+1) (s.heap.objs.size+1+1) ϙ χf ζT δL,?_,λa2=>?_]]
   ·intro c v z
    rcases ue z with ⟨rfl,rfl⟩ | ⟨rfl,rfl⟩ | ⟨rfl,rfl⟩
    ·exact #[2,_,rfl,rfl,rfl,rfl]
    ·exact #[3,_,rfl,rfl,rfl,rfl]
    ·exact #[1,_,rfl,rfl,rfl,rfl]
   ·have n1:s.heap.objs.size+1+1+1≠s.heap.objs.size+1+1:=by omega
    have n2:s.heap.objs.size+1+1+1≠s.heap.objs.size+1:=by omega
    have n3:s.heap.objs.size+1+1≠s.heap.objs.size+1:=by omega
    generalize C:Gs (s.heap.objs.size+1+1+1) (s.heap.objs.size+1+1) (s.heap.objs.size+1) (.ref R.K.rk) (.ref ol) (.int st)=cvs at a2
    have sm:a_ H5 (HM cvs H5):=λb o z=>by
     rw[bP]
     ·exact z
     cases y:cvs.lookup b with
     | none=>rfl
     | some v=>rw[(a2 b v y).1] at z;cases z
    have U:a_ H3 H5:=λb o z=>k5 b o (al z nx) (sx _ _ z)
    have a4:=sm _ _ (U _ _ ch)
    have bm:=sm _ _ (U _ _ b5);refine q _ _ (Cb I sG hR hX tb he ad a0 t3 (U.trans sm) (sx.free b3) (sx.free nrl) (sx.free nsl) d1 d2 d3 (sm _ _ b6) (sm _ _ b4) (sm _ _ a7) (sm _ _ a6) a3 (aT (s2 _ _ O) εw) #[c',_,_,_,pm,b0,a4,bm,jM (by rw[<- C];exact xF),jM (by rw[<- C];exact xG n1),jM (by rw[<- C];exact xH n2 n3),n1,n2,n3])
theorem Cc (r w n M N:Nat) (l:ύ) (bs:η) (g:μc) (W:ηu) (hb:bs.length=N):Gm r w n M N l (dN r w n M N l bs)=true:=by
 unfold Gm dN;rw[Go];intro t ht
 have ht:=EF.mp ht
 apply decide_eq_true
 rw[wf,QG (by rw[aI,hb]),GF.EE]
 have h1:=GF.Gw γi g.w1 (n:=n) (t:=t) M 0 ((p_ M).map λt=>GF.Em r w n ϋj) (by rw[o_,Eo]) λb hb=>by
  obtain⟨j,hj,rfl⟩:=Fk.mp hb;exact GF.GK γi Ξt
 simp only[NX] at h1;rw[h1,if_pos γ,QK,t_,DO,F1 ht]
 exact JG _
theorem AU (r w n M N:Nat) (l:ύ) (bs:η) (hb:bs.length=N):(dN r w n M N l bs).length=N+M:=by
 unfold dN;rw[Fn,o_,Eo,hb]
theorem Cd {bs:η} (g:μc) (W:ηu) (hlt:∀b∈bs,b < γh ^ n):∀b∈dN r w n M N l bs,b < γh ^ n:=λb hb=>by
 unfold dN at hb;rcases Fw.mp hb with h | h
 ·exact hlt b h
 ·obtain⟨j,hj,rfl⟩:=Fk.mp h
  exact GF.GK γi Ξt
theorem AV:(knO os).getD j false=(os.getD j none).isSome:=by
 unfold knO;rw[t_,DO,t_]
 cases os[j]? <;> rfl
def Nw (R:Nat) (os:Ϝ) (as:η):Prop:=πf=R/\∀k,k < R->(os.getD k none).isSome=true\/k∉as
theorem Bv {R:Nat}{k:Nat} (hs:(srow.getD k none).isSome=true) (h:Nw R os as):Nw R (tk cs srow os as k).1 (tk cs srow os as k).2:=by
 unfold tk
 split
 ·refine #[by rw[HQ];exact h.1,λj hj=>?_]
  by_cases z:j=k
  ·subst z
   exact .inl (by rw[t_,Me (by rw[h.1];exact hj)];exact hs)
  ·rcases h.2 j hj with y | y
   ·exact .inl (by rw[t_,K8 μN,← t_];exact y)
   ·exact .inr λe=>(Fw.mp e).elim y λe=>z (Eu.mp e)
 ·exact h
theorem mK {R:Nat}{cs srow:Ϝ}:∀(ks:η) (os:Ϝ) (as:η),(∀k∈ks,(srow.getD k none).isSome=true)->Nw R os as->Nw R (bH cs srow ks os as).1 (bH cs srow ks os as).2
 | [],_,_,_,h=>h
 | k :: ks,os,as,hk,h=>by
  have h1:=Bv (cs:=cs) ύ3 h;unfold bH
  split
  ·exact mK ks _ _ Ψ5 h1
  ·exact h1
theorem kH {k:Nat} (h:k < n):((Ei n).getD k none).isSome=true:=by
 unfold Ei;rw[t_,IE,if_pos h];rfl
theorem wF (n k:Nat):((Ei n).getD k none).getD 0<=1000000:=by
 unfold Ei;rw[t_,IE]
 split
 ·exact(by decide:1<=1000000)
 ·exact EO _
theorem oH (n:Nat) (Y:η):b8 n (FE Y) Y:=λj _ b hb=>by
 unfold FE at hb;rw[t_,DO] at hb;rw[t_]
 cases e:Y[j]? with
 | none=>rw[e] at hb;cases hb
 | some y=>rw[e] at hb;exact DU hb
theorem zS (n:Nat):Nw n (Ee n none) []:=#[IG,λ_ _=>.inr Fl]
theorem wG {Y:η}{k:Nat} (h:k < Y.length):((FE Y).getD k none).isSome=true:=by
 unfold FE;rw[t_,DO,s_ h];rfl
theorem zT {k:Nat} (h:Nw n os as) (hk:k < n) (z:(knO os).getD k false=υ):DA (Ei n) as k=true:=by
 rw[AV] at z;unfold DA;rw[kH hk,Bool.true_and];rcases h.2 k hk with y | y
 ·rw[y] at z;cases z
 ·cases e:as.contains k with
  | false=>rfl
  | true=>exact absurd ψp y
theorem Ce {k:Nat}{os':Ϝ}{as':η}{b:Bool} (hk:ι1) (hs:ΘC) (h:IJ r w M N l (Ei (N+M)) srow k os as os' as' b):Nw (N+M) os as->b=true:=by
 induction h with
 | fixed _=>exact λ_=>rfl
 | none e pm pw hd =>
  intro nw
  exfalso
  rename_i os as ms
  have:=hd ms.length Γ;rw[Ks,Mb,Q4,Oa] at this;unfold fx at this e;rw[AO _ _ (by rw[cj,nw.1];exact hk)] at this
  have z:=(N6.mp e).1
  have:ms.contains k=false:=(N6.mp (N6.mp this).1).2;rw[Ig.mpr (pm.mem_iff.mpr (E5.mpr #[EF.mpr hk,zT nw hk z]))] at this
  show 8
 | own _ _ _ _ _ _ _ ih=>exact λnw=>ih (Bv (hs _ hk) nw)
 | way _ pm _ _ _ _ ih=>exact λnw=>ih (mK _ _ _ (λj hj=>hs j (EF.mp (E5.mp (pm.mem_iff.mp (L5 hj))).1)) nw)
theorem Cf {os':Ϝ}{as' L':η}{b:Bool} (hL:όw) (hL':ϋX) (hs:ΘC) (h:JM r w M N l (Ei (N+M)) srow L L' os as os' as' b):Nw (N+M) os as->b=true/\os'.length=N+M:=by
 induction h with
 | done _=>exact λnw=>⟨rfl,nw.1⟩
 | none e1 e2 pm pw hn =>
  intro nw
  exfalso
  rename_i os as ms
  unfold fU at hn
  have hn:=zG (Option.map_eq_none_iff.mp hn);unfold ia bE at hn;rw[if_pos] at hn
  ·cases hn
  ·refine Go.mpr λk hk=>?_
   have hk:=E5.mp hk;refine zT nw (hL k hk.1) ?_
   have z:fx r w M N l ϋ k=false:=by
    cases z:fx r w M N l (knO os) k with
    | false=>rfl
    | true=>rw[z] at hk;show 325
   unfold fx at z;exact(N6.mp z).1
 | step e1 e2 pm _ hn _ ih=>exact λnw=>ih (mK _ _ _ (λj hj=>hs j ((uB e1 e2 pm hL hL' hn).1 j hj).1) nw)
structure EN (a:A_) (G H:Hp) (R:Rw) (ro:Addr) (e:Nat) (Y:γR):Prop where
 ro:∃dx,G ro=some νU
 I:G8 a G R
 sG:a_ G H
 rk:∃X,d_ a H R.K e ξE X/\FW R X Y
 tb:Ju a H
theorem EN.same {G H H':Hp}{a:A_}{R:Rw}{ro:Addr}{e:Nat}{Y:γR} (h:ζx) (s:γD):EN a G H' R ro e Y :=
 #[h.ro,h.I,h.sG.trans s,h.rk.imp λ_ z=>#[z.1.same s,z.2],#[h.tb.o.keep s,h.tb.n.keep s,h.tb.r.keep s,h.tb.on,h.tb.or,h.tb.nr]]
variable {ro:Addr}
theorem EN.kb (h:ζx) (k:KB δy H H'):a_ G H':=λb o z=>k b o (λy=>by rw[h.I.no b y] at z;cases z) (h.sG _ _ z)
theorem EN.mst (h:ζx):∀x∈R.ms a,151e1\/∃ps,H x=some 16e9:=λx hx=>by
 obtain⟨X,hR,_⟩:=h.rk;unfold Rw.ms at hx;rcases DH.mp hx with rfl | hx
 ·exact .inl (hR.isLst F0)
 rcases DH.mp hx with rfl | hx
 ·exact .inl #[_,hR.sl]
 rcases DH.mp hx with rfl | hx
 ·exact .inr (h.tb.o.imp λ_ z=>z.1)
 rcases DH.mp hx with rfl | hx
 ·exact .inr (h.tb.n.imp λ_ z=>z.1)
 rcases DH.mp hx with rfl | hx
 ·exact .inr (h.tb.r.imp λ_ z=>z.1)
 rcases DH.mp hx with rfl | hx
 ·exact .inl #[_,μA]
 ·exact .inl (hR.isLst (Fv _ (Fv _ ψe)))
variable {A:DT}{ys:List Addr}
theorem GV.isL {Y:η} (S:ϊ5) (hys:υc):∀x∈ωc,(∃xs,H' x=some γV)\/∃ps,H' x=some 16e9:=λx hb=>by
 obtain⟨_,J0⟩:=S.ask ys hys;rcases DH.mp hb with y | hb
 ·obtain⟨zs,w,_⟩:=J0.hz
  rw[S.z] at w;rw[y];exact .inl #[_,w]
 rcases DH.mp hb with y | hb
 ·rw[y];exact .inl #[_,J0.hr]
 rcases DH.mp hb with y | hb
 ·rw[y];exact .inl #[_,J0.hs]
 rcases DH.mp hb with y | hb
 ·rw[y];exact .inr (S.tb.o.imp λ_ z=>z.1)
 ·rw[hys x hb];exact .inr (S.tb.n.imp λ_ z=>z.1)
theorem GV.keep {Y:η} (S:ϊ5) (hys:υc) {b:Addr}{o:HO} (nb:b∉R.ms a) (z:H b=some o):bc ωc H' b=some o:=by
 have n1:∀{x},x∈R.ms a->b≠x:=λ{x} hx y=>nb (y ▸ hx);rw[bF]
 ·exact S.kp b o (n1 ζ2) z
 ·intro hb
  rcases DH.mp hb with y | hb
  ·exact n1 ζ2 y
  rcases DH.mp hb with y | hb
  ·rw[y,S.rl] at z;cases z
  rcases DH.mp hb with y | hb
  ·rw[y,S.sl] at z;cases z
  rcases DH.mp hb with y | hb
  ·exact n1 ζ2 y
  ·exact n1 ζ2 (hys b hb)
variable {kvs:List (Key × V)}
theorem DI.ob {p:Pos} (h:ζB) (hD:ϋY):DI (upd H D o) t p q:=by
 show 41;refine #[ps,by rw[ae (bj h1 hD γJ)];exact h1,?_]
 rcases h2 with h2 | ⟨c',e,h2⟩
 ·show 42
 ·exact .inr #[c',e,by rw[ae (bj h2 hD γJ)];exact h2]
theorem EN.obj (h:ζx) (hD:ϋY) (gD:G D=none):EN a G (upd H D o) R ro e Y :=
 ⟨h.ro,h.I,h.sG.up gD,h.rk.imp λX z=>⟨z.1.keep (ms:=[D]) (λb u n y=>by rw[ae ρE];exact y) (λb hb C dx fs y=>by rw[Eu.mp hb,hD] at y;cases y) (λb hb y=>by
  obtain⟨xs,w⟩:=z.1.isLst hb
  rw[Eu.mp y,hD] at w;cases w),z.2⟩,⟨h.tb.o.ob hD,h.tb.n.ob hD,h.tb.r.ob hD,h.tb.on,h.tb.or,h.tb.nr⟩⟩
theorem G8.lists {G:Hp}{a:A_}{R:Rw} (I:θV):∀b∈R.K.lists,b∈R.ms a:=λb hb=>by
 unfold Rk.lists at hb;unfold Rw.ms;rcases DH.mp hb with rfl | hb
 ·show 105
 rcases DH.mp hb with rfl | hb
 ·simp
 rcases DH.mp hb with rfl | hb
 ·simp
 ·exact .tail _ ΔT
theorem EN.upL (h:ζx) (hx:ξt) (nx:x∉R.ms a) (gx:G x=none):EN a G ζ5 R ro e Y :=
 #[h.ro,h.I,h.sG.up gx,h.rk.imp λX z=>#[z.1.keep (ms:=[x]) (λb u n y=>by rw[ae ρE];exact y) (λb hb C dx fs y=>by rw[Eu.mp hb,hx] at y;cases y) (λb hb y=>nx (by rw[<- Eu.mp y];exact h.I.lists b hb)),z.2],#[h.tb.o.up hx,h.tb.n.up hx,h.tb.r.up hx,h.tb.on,h.tb.or,h.tb.nr]]
theorem GV.back (h:ζx) (hX:ψO) (S:GV a H H' R e st X δu A) (hys:υc) (J:v_ a ρl H2 A n os as) (tn:DI H2 γI Gh qW):∃e',e'<=e+as.length/\EN a G H2 R ro e' Y/\KB δy H H2:=by
 obtain⟨I,J0⟩:=S.ask ys hys;obtain⟨e',he,hR⟩:=v_.rk I J;rw[S.rk,S.ss,S.X] at hR;rw[S.B] at he;obtain⟨po,ho,_⟩:=id S.tb.o;obtain⟨pn,hn,_⟩:=id S.tb.n;obtain⟨pr,hr,_⟩:=id S.tb.r
 have kb:KB δy H H2:=λb o nb z=>J.sm b o (S.keep hys nb z)
 have isL:=S.isL hys
 have hz:∃zs,H' R.K.dn=some 27e9:=by
  obtain⟨zs,y,_⟩:=J0.hz;rw[S.z] at y;exact #[zs,y]
 have tr:DI H2 εm Jj qR:=(S.tb.r.hide (λhb=>by
  rcases DH.mp hb with y | hb
  ·obtain⟨zs,w⟩:=hz
   show 163
  rcases DH.mp hb with y | hb
  ·have w:=J0.hr
   show 163
  rcases DH.mp hb with y | hb
  ·have w:=J0.hs
   show 163
  rcases DH.mp hb with y | hb
  ·exact S.tb.or y.symm
  ·exact S.tb.nr (hys _ hb).symm) isL).keep J.sm
 exact #[e',he,#[h.ro,h.I,h.kb kb,#[X,hR,hX],#[ιb,tn,tr,S.tb.on,S.tb.or,S.tb.nr]],kb]
inductive d5 (a:A_) (vs:δ) (H:Hp) (Q:VK) (E_3:XK):Prop
 | mk:∀(G:Hp) (R:Rw) (ro:Addr) (e:Nat) (Y:Nat->List Nat),vs=[.ref ro]->EN a G H R ro e Y->Q .non H->d5 a vs H Q E_3
theorem kq (T:μ):C_ P wo K mg base 2 a.f89 ["self"] (d5 a):=by
 refine T.x89.F.okA (k:=1) j8 ξ
 ·obtain⟨G,R,ro,e,Y,rfl,S,q⟩:=h
  show 367
  show 0
  show 7;refine xi (bW (aV (bi εv ϛ T.x74.me (kP T) hr.u T.x74.b .nil aj))) ?_
  show 3
  show 2;refine #[_,rfl,ro,_,_,_,_,rfl,S.sG _ _ j,Ϥ,εK,cF R,εb,dr,_,rfl,g,rfl,R.K,e,_,X,rfl,hR,_,rfl,?_];exact c_ δQ ζ7
inductive gJ (a:A_) (vs:δ) (H:Hp) (Q:VK) (E_3:XK):Prop
 | mk:∀(G:Hp) (R:Rw) (ro:Addr) (e:Nat) (Y:Nat->List Nat),vs=[.ref ro]->EN a G H R ro e Y->(∀D H',a_ H H'->H' D=some (.lst [])->Q (.ref D) H')->gJ a vs H Q E_3
theorem oI (T:μ):C_ P wo K mg base 2 a.f90 ["self"] (gJ a):=by
 refine T.x90.F.okA (k:=1) nQ ξ
 ·obtain⟨G,R,ro,e,Y,rfl,S,q⟩:=h
  show 367
  show 0
  exists xl (ax (aS (g_.of (cap:=[]) (own:=["note"]) γg) rfl (aL (bi εv ϛ T.x75.me (oo T) hr.u T.x75.b .nil aj)) θd γ5 (λ_ _ _ _ _=>by exact ΘB)))
  refine #[_,rfl,ro,_,_,_,_,rfl,S.sG _ _ j,Ϥ,εK,cF R,εb,dr,_,rfl,g,rfl,R.K,e,X,rfl,hR,λI H1 s1 hI=>#[I,rfl,#[_,b_.of hI],λD nD=>?_]];exact fO (xs:=[]) (f:=λx=>x) (cs:=[]) (b_.of hI) nD rfl 30e3 (λx _ _ hx=>absurd hx Fl) λH2 s2 hD=>q D H2 ηq hD
inductive jE (a:A_) (vs:δ) (H:Hp) (Q:VK) (E_3:XK):Prop
 | mk:∀(G:Hp) (R:Rw) (ro:Addr) (e:Nat) (Y:Nat->List Nat),vs=[.ref ro]->EN a G H R ro e Y->(∀H',a_ H H'->Q .non H')->jE a vs H Q E_3
theorem kr (T:μ):C_ P wo K mg base 3 a.f88 ["self"] (jE a):=by
 refine T.x88.F.okA (k:=2) OF ξ
 ·obtain⟨G,R,ro,e,Y,rfl,S,q⟩:=h
  show 368
  show 0
  exists xc (aF (bi ο Ϥ T.x89.me (kq T) hr.u T.x89.b .nil aj))
  exists xc (au (i:=1) OF.nd rfl 0e3 (bi ο Ϥ T.x90.me (oI T) hr.u T.x90.b .nil aj))
  show 7;refine xi (am bU νz ai ψ) ?_
  show 3
  show 2;refine #[_,rfl,ro,dx,_,rfl,S.sG _ _ g,rfl,G,R,ro,e,Y,rfl,S,?_];refine #[_,rfl,ro,dx,_,rfl,S.sG _ _ g,rfl,G,R,ro,e,Y,rfl,S,λD H1 s1 hD=>?_];refine #[_,rfl,D,_,rfl,.inl (b_.of hD),_,_,rfl,rfl,_,rfl,?_];exact c_ (λy=>absurd ιd ε) (λ_=>q H1 s1)
inductive lR (a:A_) (vs:δ) (H:Hp) (Q:VK) (E_3:XK):Prop
 | mk:∀(G:Hp) (R:Rw) (ro:Addr) (e i:Nat) (Y:Nat->List Nat),vs=[.ref ro,.int i]->EN a G H R ro e Y->i < R.N * R.K.S->e<=8000->(∀H' e',EN a G H' R ro e' Y->e'<=e+8->KB (R.ms a) H H'->Q (.int (((Y (i / R.N)).getD (i % R.N) 0:Nat):Int)) H')->lR a vs H Q E_3
theorem oJ (T:μ) (B:εf):C_ P wo K mg base 12 a.f92 ["self", "at"] (lR a):=by
 refine T.x92.F.okA (k:=11) Nc ξ
 ·obtain⟨G,R,ro,e,i,Y,rfl,S,hi,he,q⟩:=h
  show 368
  have W:=S.I.W
  show 53
  have N0:0 < R.N:=MB λz=>by rw[z,Nat.zero_mul] at hi;exact Hl _ hi
  have C:i / R.N < R.K.S:=NY hi
  have hk:i % R.N < R.N:=IR _ N0;obtain⟨D,J⟩:=id (S.I.sh.same S.sG).sh
  show 0
  exists xc (au (i:=2) Nc.nd rfl 0e3 (av εv γk T.x66.me (fH T) hr.u T.x66.b .nil aj γ9))
  exists xc Δh
  exists xc (au (i:=3) Nc.nd rfl 0e3 (aH (ut T B) hr.u rfl T.x52.m T.x52.k T.x52.b .nil aj (aa (av ο Ϥ T.x91.me (jD T B) hr.u T.x91.b .nil aj Ξ0) Ξ0)))
  show 369
  show 3
  show 2
  show 23
  refine #[_,rfl,ro,_,_,_,_,rfl,S.sG _ _ g,Ϥ,ηP,dE R,R.sp,D,_,rfl,J,rfl,_,rfl,R.sp,R.tp,R.N,R.N+R.M,ζR,R.m,R.qs,ιc,i,rfl,S.I.sh.same S.sG,N0,by omega,hi,λt nt=>?_]
  have s1:=a_.new (o:=.tup [.int ((i / R.N:Nat):Int),.int ((i % R.N:Nat):Int)]) nt
  have ht:(upd H t Δk) t=some 125e0:=ab;generalize (upd H t (.tup [.int ((i / R.N:Nat):Int),.int ((i % R.N:Nat):Int)]))=H1 at s1 ht
  show 164;refine #[_,rfl,ro,dx,_,rfl,S1.sG _ _ g,rfl,G,R,ro,e,Y,rfl,S1,λH2 s2=>?_]
  have S2:=S1.same s2;obtain⟨X,hR,hX⟩:=S2.rk;refine #[_,rfl,ro,dx,_,rfl,S2.sG _ _ g,rfl,_,rfl,t,_,_,_,rfl,rfl,Ew.of (s2 _ _ ht),rfl,G,R,ro,dx,e,i / R.N,X,Y,rfl,g,S2.I,S2.sG,hR,hX,S2.tb,he,C,λA H3 AS=>?_]
  have h3:∀{b:Addr}{xs:δ},H2 b=some δa->H3 b=some 12e4:=λ{b xs} z=>AS.kp b _ (λw=>by
   obtain⟨ps,y,_⟩:=S2.tb.r
   rw[w,y] at z;cases z) z
  obtain⟨I0,J0⟩:=AS.ask [] τv;obtain⟨mk,_⟩:=hX _ C;refine #[_,rfl,t,_,_,_,rfl,rfl,Ew.of (h3 (s2 _ _ ht)),rfl,_,A,R.r,R.w,R.n,R.M,R.N,i % R.N,R.l,Ei ζj,FE (Y οF),_,_,Y οF,rfl,I0,J0,by omega,wF _,mk.len,mk.lt,mk.ok,oH _ _,qN _ _,λH4 Z O b rd ag J4=>?_]
  have bt:=Ce γ Ξ1 rd (zS _)
  subst bt;show 25
  have tn:DI H4 γI Gh qW:=(AS.tb.n.hide (λhb=>by
   obtain⟨pn,hn,_⟩:=id AS.tb.n;rcases DH.mp hb with y | hb
   ·obtain⟨zs,w,_⟩:=J0.hz
    rw[AS.z,← y,hn] at w;cases w
   rcases DH.mp hb with y | hb
   ·have w:=J0.hr
    show 370
   rcases DH.mp hb with y | hb
   ·have w:=J0.hs
    show 370
   ·exact AS.tb.on (Eu.mp hb).symm) (AS.isL τv)).keep J4.sm
  obtain⟨e',U,S4,k4⟩:=AS.back S2 hX τv J4 tn
  show 371
  exact #[_,rfl,q H4 e' S4 γ (KB.trans (KB.of ηq) k4)]
inductive wH (a:A_) (vs:δ) (H:Hp) (Q:VK) (E_3:XK):Prop
 | mk:∀(p fp:Addr) (r w n:Nat) (i:Int),vs=[.ref p,.int i]->DV a H p fp r w n->Q (.bl (decide (0<=i/\i < (((2 ^ w) ^ n:Nat):Int)))) H->wH a vs H Q E_3
theorem pA (T:μ):C_ P wo K mg base 1 a.f54 ["self", "block"] (wH a):=by
 refine T.x54.F.okA (k:=0) oZ ξ
 ·obtain⟨p,fp,r,w,n,i,rfl,hB,q⟩:=h
  show 298
  show 0
  exists xl (ax (Af rH bn ai Θ γ1))
  refine ϝ;show 90
  ·have h0:=of_decide_eq_true h
   refine #[_,rfl,p,_,_,_,_,rfl,g,γO,T.A52,AF fp w n,_,_,rfl,rfl,?_]
   have e:decide (i < ((γh ^ n:Nat):Int))=decide 140e6:=decide_eq_decide.mpr #[λz=>#[h0,z],λz=>z.2];rw[<- e] at q;exact q
  ·have e:decide ΞQ=false:=decide_eq_false λz=>h (decide_eq_true z.1)
   show 135
def Gd (N at' i s:Nat):List Nat:=(p_ N).filter λk=>decide (at'<=s * N+k/\s * N+k < at'+i)
variable {at' s:Nat}
theorem En {k:Nat}:k∈Gd N at' i s ↔ k < N/\at'<=s * N+k/\s * N+k < at'+i:=by
 unfold Gd;rw[E5,EF];exact #[λh=>#[h.1,of_decide_eq_true h.2],λh=>#[h.1,decide_eq_true h.2]]
theorem oK (N at' i s:Nat):(Gd N at' i s).Pairwise (· < ·):=IT _ MS
theorem gK {p:Nat}:p / N * N+p % N=p:=by rw[HI];exact O2 p N
theorem uD {p k:Nat} (hk:k < N) (h:s * N+k=p):s=p / N/\k=p % N:=by
 subst h;rw[HI,RP γ,Rl hk,Sg,Rr hk]
 exact μ5
theorem qO (h:s≠(at'+i) / N):Gd N at' (i+1) s=Gd N at' i s:=by
 unfold Gd;refine List.filter_congr λk hk=>decide_eq_decide.mpr #[λz=>#[z.1,?_],λz=>#[z.1,by omega]]
 have:s * N+k≠at'+i:=λe=>h (uD οf e).1;omega
theorem Cg (n0:0 < N):Gd N at' (i+1) θE=Gd N at' i θE++[(at'+i) % N]:=by
 have e:=gK (N:=N) (p:=at'+i)
 have hm:=IR (at'+i) n0
 have j:∀k∈Gd N at' i θE,k < (at'+i) % N:=λk hk=>by
  have:=(En.mp hk).2.2;omega
 have g:(Gd N at' i θE++[(at'+i) % N]).Pairwise (· < ·):=List.pairwise_append.mpr #[oK _ _ _ _,RD _ _,λx hx y hy=>by rw[Eu.mp hy];exact j x hx]
 refine Oh (le:=λx y:Nat=>x < y) (λx y _ _ h1 h2=>by omega) (oK _ _ _ _) g ?_
 refine(P7 ((oK _ _ _ _).imp λh=>Ea h) (g.imp λh=>Ea h)).mpr λx=>?_;rw[Fw,Eu,En,En]
 constructor
 ·intro⟨h1,h2,h3⟩
  by_cases z:x=(at'+i) % N
  ·show 91
  ·exact .inl ⟨h1,h2,by
    have:(at'+i) / N * N+x≠at'+i:=λy=>z (uD h1 y).2
    omega⟩
 ·rintro(⟨h1,h2,h3⟩ | h)
  ·exact #[h1,h2,by omega]
  ·subst h
   exact #[hm,by omega,by omega]
def EB (es:υd):List (Key × V):=es.map λe=>(Sum.inl ((e.1:Nat):Int),V.ref e.2)
variable {es:List (Nat × Addr)}
theorem wI:(s∉es.map (·.1)/\Fi (EB es) ξ0=none)\/∃nd,(s,nd)∈es/\Fi (EB es) ξ0=some 24e9:=by
 induction es with
 | nil=>exact .inl ⟨Fl,rfl⟩
 | cons e es ih =>
  by_cases z:e.1=s
  ·subst z
   refine .inr #[e.2,.head _,?_];unfold EB;rw[FY,gm rfl]
  ·have h:Fi (EB δs) ξ0=Fi (EB es) 61e0:=by
    unfold EB;rw[FY,gp (λy=>z (O1 (Sum.inl.inj y)))]
   rw[h];rcases ih with ⟨h1,h2⟩ | ⟨nd,h1,h2⟩
   ·exact .inl #[λy=>(DH.mp y).elim (λy=>z y.symm) h1,h2]
   ·exact .inr #[nd,.tail _ h1,h2]
structure Hw (N at' S:Nat) (nb:ύ) (H H':Hp) (D:Addr) (es:υd) (i:Nat):Prop where
 sm:a_ H H'
 hD:H' D=some ψW
 n1:(es.map (·.1)).Nodup
 n2:(es.map (·.2)).Nodup
 is:∀e∈es,H' e.2=some (.dK (aX (Gd N at' i e.1) (nb e.1)))/\H e.2=none/\e.2≠D
 lt:∀e∈es,e.1 < S
 all:∀s,Gd N at' i s≠[]->s∈es.map (·.1)
theorem Hw.same {nb:ύ} (h:νS) (s:a_ H' H2):Hw N at' S nb H H2 D es i :=
 #[h.sm.trans s,s _ _ h.hD,h.n1,h.n2,λe he=>#[s _ _ (h.is e he).1,(h.is e he).2],h.lt,h.all]
theorem Hw.len {nb:ύ} (h:νS):es.length<=S:=by
 have:=bG S _ h.n1 λs hs=>by
  obtain⟨e,he,rfl⟩:=Fk.mp hs;exact h.lt e he
 rwa [o_] at this
theorem Hw.new {N at' S i s:Nat}{nb:ύ}{H H' H2:Hp}{D nd:Addr}{es:υd} (h:νS) (hs:s∉es.map (·.1)) (hS:s < S) (nD:οO) (nn:H' nd=none) (h2:H2=upd (upd H' nd οT) D (.dK (EB ώh))):Hw N at' S nb H H2 D ώh i:=by
 subst h2
 have dn:nd≠D:=(al h.hD nn).symm
 have em:Gd N at' i s=[]:=Decidable.byContradiction λz=>hs (h.all s z);refine #[((h.sm.trans (a_.new nn)).up nD),ab,?_,?_,λe he=>?_,λe he=>?_,λs' z=>?_]
 ·rw[FM]
  exact ja h.n1 hs
 ·rw[FM]
  refine ja h.n2 λz=>?_;obtain⟨e,he,y⟩:=Fk.mp z
  have:=(h.is e he).1;rw[y,nn] at this
  show 8
 ·rcases Fw.mp he with he | he
  ·obtain⟨a1,a2,a3⟩:=h.is e he
   exact #[by rw[ae a3,ae (al a1 nn)];exact a1,a2,a3]
  ·rw[Eu.mp he]
   exact #[by rw[ae dn,ab,em];rfl,h.sm.free nn,dn]
 ·rcases Fw.mp he with he | he
  ·exact h.lt e he
  ·rw[Eu.mp he];exact hS
 ·rw[FM]
  exact L9 _ (h.all s' z)
theorem Hw.put {nb:ύ}{nd:Addr} (n0:0 < N) (h:νS) (he:179e6∈es) (nD:οO):Hw N at' S nb H (upd H' nd (.dK (aX (Gd N at' i θE++[(at'+i) % N]) (nb θE)))) D es (i+1):=by
 obtain⟨a1,a2,a3⟩:=h.is _ he;refine #[h.sm.up a2,by rw[ae (Es a3)];exact h.hD,h.n1,h.n2,λe hm=>?_,h.lt,λs z=>?_]
 ·obtain⟨b1,b2,b3⟩:=h.is e hm
  refine #[?_,b2,b3]
  by_cases y:e.2=nd
  ·have:e=179e6:=by
    show 372
    have:183e3[j]'(by rw[o_];exact hj)=183e3[j']'(by rw[o_];exact g):=by rw[Ku,Ku,e1,e2];exact y
    have:=(KC h.n2).mp this;show 14;exact e1.symm.trans e2
   show 14;rw[ab,Cg n0]
  ·rw[ae y,b1,qO (λz=>y ?_)]
   show 372
   have:96e9[j]'(by rw[o_];exact hj)=96e9[j']'(by rw[o_];exact g):=by rw[Ku,Ku,e1,e2];exact z
   have:=(KC h.n1).mp this;show 373;rw[e2]
 ·by_cases y:s=(at'+i) / N
  ·rw[y];exact Fk.mpr #[_,he,rfl]
  ·rw[qO y] at z
   exact h.all s z
inductive fm (a:A_) (vs:δ) (H:Hp) (Q:VK) (E_3:XK):Prop
 | mk:∀(G:Hp) (R:Rw) (ro so:Addr) (i e:Nat) (Y:Nat->List Nat) (bs:List Nat),vs=[.ref ro,.int i,.ref so]->EN a G H R ro e Y->H so=some (.lst (rowV bs))->bs≠[]->i+bs.length<=R.N * R.K.S->((∀b∈bs,b < (2 ^ R.w) ^ R.n))->Q .non H->fm a vs H Q E_3
theorem kR (T:μ):C_ P wo K mg base 2 a.f94 ["self", "at", "some"] (fm a):=by
 refine T.x94.F.okA (k:=1) OL ξ
 ·obtain⟨G,R,ro,so,i,e,Y,bs,rfl,S,g,D,U,J,q⟩:=h
  obtain⟨dx,j⟩:=S.ro
  have j:=S.sG _ _ j;obtain⟨O,C⟩:=id (S.I.sh.same S.sG).sh;obtain⟨dc,Lp,qs,hc,_,_⟩:=id (S.I.code.same S.sG).ins;obtain⟨db,hb⟩:=id (S.I.code.same S.sG).blk.ins
  have hl:(rowV bs).length=bs.length:=ap bs
  have l0:bs.length≠0:=λz=>D (Rf.mp z)
  show 0
  show 1;refine xi (PW.pt (bb πd (bb (am bT εX ai ψ) (ba (am bU (ay aW Θ εX) θ0 ψ))))) ?_
  show 3
  show 27;refine xf ϗ rfl 40e6 (ar (i:=3) OL.nd rfl ζ) ?_;show 7;refine xi (bW (aV (av (by exact θ0) γO T.x54.me (pA T) hr.u T.x54.b .nil aj ηX))) ?_
  show 3
  show 17;show 24
  refine #[_,rfl,so,_,rfl,.inl οz,rfl,_,rfl,?_];refine c_ (λy=>absurd ωp ϋZ) ι
  refine #[_,rfl,_,rfl,so,_,rfl,.inl οz,_,_,rfl,rfl,_,rfl,ro,_,_,_,_,rfl,j,Ϥ,ηP,dE R,R.sp,_,_,_,_,rfl,C,γk,T.A77,t9 _ _ _ _,_,_,rfl,rfl,_,rfl,?_];refine c_ (λy=>absurd ιd ϋZ) ι
  refine #[_,rfl,so,rfl,ύH,?_];refine bR (xs:=rowV bs) (λi' σ H'=>(∃v3:Option V,σ=[some εE,some ζG,some ηy,v3])/\H'=H) Ωg ?_ ?_ ?_
  ·rintro i' σ H' _ ⟨_,rfl⟩
   exact b_.of g
  ·rintro i' x σ H' hx ⟨⟨v3,rfl⟩,rfl⟩
   obtain⟨b,eb,rfl⟩:=bh hx;refine #[_,rfl,ro,_,_,_,_,rfl,j,Ϥ,T.A58,mJ R,R.c,_,_,_,_,rfl,hc,ϑ,ηJ,dC _ _ _ _,R.bp,db,_,rfl,hb,rfl,_,rfl,R.bp,R.fp,R.r,R.w,R.n,b,rfl,(S.I.code.same S.sG).blk,_,rfl,?_]
   have Z:=J b (Ez eb);rw[decide_eq_true (show (0:Int)<=((b:Nat):Int)/\((b:Nat):Int) < ((μt ^ R.n:Nat):Int) by omega)]
   exact c_ δQ ρN
  ·rintro σ H' ⟨⟨v3,rfl⟩,rfl⟩
   exact q
def G6 (N at':Nat) (bs:η) (s k:Nat):Nat:=bs.getD (s * N+k - at') 0
inductive di (a:A_) (vs:δ) (H:Hp) (Q:VK) (E_3:XK):Prop
 | mk:∀(G:Hp) (R:Rw) (ro so:Addr) (i e:Nat) (Y:Nat->List Nat) (bs:List Nat),vs=[.ref ro,.int i,.ref so]->EN a G H R ro e Y->H so=some (.lst (rowV bs))->bs.length<=9->i+bs.length<=R.N * R.K.S->(∀D H' es,H D=none->Hw R.N i R.K.S (G6 R.N i bs) H H' D es bs.length->es.length<=bs.length->Q (.ref D) H')->di a vs H Q E_3
theorem iR (T:μ):C_ P wo K mg base 2 a.f95 ["self", "at", "some"] (di a):=by
 refine T.x95.F.okA (k:=1) Li ξ
 ·obtain⟨G,R,ro,so,i,e,Y,bs,rfl,S,O,h9,a6,q⟩:=h
  obtain⟨dx,J⟩:=S.ro
  have J:=S.sG _ _ J
  show 106
  have ad:=S.I.sh.same S.sG
  have N0:0 < R.N:=S.I.W.n1
  show 0
  exists xc (au (i:=3) Li.nd rfl 0e3 mh)
  show 1;refine xf ϗ rfl (fX rfl T.A33 γH) (cO rfl (aK (ar (i:=4) Li.nd rfl ζ) (aK (ar (i:=5) Li.nd rfl ζ) bM))) ?_
  exists xc (au (i:=6) Li.nd rfl 0e3 (av εv γk T.x66.me (fH T) hr.u T.x66.b .nil aj (aa (ay aW Θ γ6) ac)))
  show 1;refine xi (rN (qh εc νG ϊ)) ?_
  exists xl (kC εc ϊ νG mh rfl)
  show 2
  exists xl (kC εc (iw εc ϊ νG γ0) νG γf rfl)
  show 5
  show 23
  refine λD nD=>?_
  show 362
  have hD:(upd H D οT) D=some (.dK (EB [])):=ab;show 363;show 4
  refine #[_,rfl,so,_,rfl,b_.of (sD _ _ O),?_];refine let I_:Nat->L2.St->Hp->Prop:=λj σ H'=>L2.E4 λ(v4 v5 v6:Option V) (es:List (Nat × Addr))=>L2.A3 (σ=[some εE,some ζG,some ηy,some γ4,v4,v5,v6]) (Hw R.N i ζR ϐ1 H H' D es j) (es.length<=j);iY (xs:=rowV bs) I_ #[none,none,none,[],rfl,#[sD,hD,L_,L_,λe he=>absurd he Fl,λe he=>absurd he Fl,λs z=>absurd (List.eq_nil_iff_forall_not_mem.mpr λk hk=>by have:=(En.mp hk).2;omega) z],y_ _] ?_ ?_ ?_
  ·rintro j σ H' _ ⟨_,_,_,_,_,I,_⟩
   exact b_.of (I.sm _ _ O)
  ·rintro j u T' σ H2 hj hu nT ⟨v4,v5,v6,es,rfl,I2,g⟩
   rw[ap] at hj;obtain⟨b,eb,rfl⟩:=bh hu;show 49
   have I3:=I2.same (a_.new (o:=.tup [V.int (j:Nat),.int (b:Nat)]) nT);generalize (upd H2 T' (.tup [V.int (j:Nat),.int (b:Nat)]))=H3 at I3;show 4
   have hp:i+j < R.N * R.K.S:=by omega
   obtain⟨a0,a5⟩:=id (ad.same I3.sm).sh;refine #[_,rfl,ro,_,_,_,_,rfl,I3.sm _ _ J,Ϥ,ηP,dE R,R.sp,a0,_,rfl,a5,rfl,_,rfl,_,rfl,_,_,rfl,rfl,?_];show 6
   rw[show (i:Int)+(j:Int)=((i+j:Nat):Int) by omega]
   refine #[R.sp,R.tp,R.N,R.N+R.M,ζR,R.m,R.qs,ιc,i+j,rfl,ad.same I3.sm,N0,by omega,hp,λt nt=>?_]
   have I4:=I3.same (a_.new (o:=.tup [.int (((i+j) / R.N:Nat):Int),.int (((i+j) % R.N:Nat):Int)]) nt)
   have ht:(upd H3 t ρ0) t=some 79e6:=ab;generalize (upd H3 t (.tup [.int (((i+j) / R.N:Nat):Int),.int (((i+j) % R.N:Nat):Int)]))=H4 at I4 ht;show 4
   have hs:(i+j) / R.N < R.K.S:=NY hp
   have nb:G6 R.N i bs ϐ2 ((i+j) % R.N)=b:=by
    unfold G6;rw[gK,K7,t_,eb];rfl
   have a4:=I4.len;obtain⟨X,hR,_⟩:=S.rk
   have s32:=hR.s32
   refine ur (λH5=>H5 t=some ρ0/\∃es nd,Hw R.N i ζR ϐ1 H H5 D es j/\179e7∈es/\es.length<=j+1) (λU=>by
    refine⟨_,rfl,t,_,_,_,rfl,rfl,Ew.of ht,rfl,_,rfl,D,_,rfl,Fd.k (k:=Sum.inl (((i+j) / R.N:Nat):Int)) I4.hD,_,rfl,?_⟩;rcases wI (es:=es) (s:=(i+j) / R.N) with ⟨h1,h2⟩ | ⟨nd,h1,h2⟩
    ·rw[h2]
     show 19;refine λnd nn=>#[_,rfl,_,rfl,t,_,_,_,rfl,rfl,Ew.of (a_.new nn _ _ ht),rfl,D,_,rfl,GC.k (k:=Sum.inl (((i+j) / R.N:Nat):Int)) (a_.new nn _ _ I4.hD) (by unfold EB;rw[o_];exact Ih a4 (Ih s32 ε)),?_]
     rw[sU _ h2]
     have eK:EB es++[(Sum.inl (((i+j) / R.N:Nat):Int),V.ref nd)]=EB (es++[ύ9]):=by unfold EB;rw[FM];rfl
     rw[eK];exact U _ #[by rw[ae (bj ht I4.hD γJ)];exact a_.new nn _ _ ht,_,nd,I4.new h1 hs nD nn rfl,G0 _ δO,by rw[Fn];exact Nat.succ_le_succ g]
    ·rw[h2]
     refine c_ (λy=>nomatch y) (λ_=>?_)
     exact U _ ⟨ht,es,nd,I4,h1,RM g⟩) ?_
   rintro H5 ⟨Z,C,nd,I5,hm,an⟩;obtain⟨a1,a2,a3⟩:=I5.is _ hm
   have dg:Fd H5 D (kV (Sum.inl (((i+j) / R.N:Nat):Int))) (some ζb):=by
    have:=Fd.k (k:=Sum.inl (((i+j) / R.N:Nat):Int)) I5.hD;rcases wI (es:=C) (s:=(i+j) / R.N) with ⟨h1,_⟩ | ⟨a7,h1,h2⟩
    ·exact absurd (Fk.mpr #[_,hm,rfl]) h1
    ·obtain⟨x,hx,e1⟩:=Jz h1
     obtain⟨x',aT,e2⟩:=Jz hm
     have e3:186e8[x]'(by rw[o_];exact hx)=186e8[x']'(by rw[o_];exact aT):=by rw[Ku,Ku,e1,e2]
     have:=(KC I5.n1).mp e3;show 373
     cases e2
     rwa [h2] at this
   have aw:(Gd R.N i j ϐ2).length<=8:=DK μB δf
   refine #[_,rfl,_,rfl,_,rfl,t,_,_,_,rfl,rfl,Ew.of Z,rfl,D,_,rfl,dg,_,rfl,t,_,_,_,rfl,rfl,Ew.of Z,rfl,nd,_,rfl,GC.k (k:=Sum.inl (((i+j) % R.N:Nat):Int)) a1 (by rw[ko];exact Ih aw ε),?_]
   rw[<- nb,ib (λz=>absurd (En.mp z).2.2 (by rw[gK];exact Gf _))]
   exact #[_,_,_,C,rfl,I5.put N0 hm nD,an]
  ·rintro σ H' ⟨v4,v5,v6,es,rfl,I,g⟩
   rw[ap] at I g;exact #[_,rfl,q D H' es nD I g]
theorem gL {x:Nat} (nlt:θx):x∈bA N cs ts nk ↔ (x∈nk/\(cs.getD x none).isSome=true)\/∃t∈ts,N+t=x:=by
 unfold bA;rw[Fw,E5,Fk,bJ nlt]
def dv (N:Nat) (nk:η) (nb:Ϟ) (X:η):List Nat:=(p_ N).map θC
theorem AW {k:Nat}{X:η} (nlt:θx) (ht:ύ6) (hk:k∈bA N cs ts nk):laidV r w n N l nk nb X k=(dN r w n M N l ώj).getD k 0:=by
 have sl:(dv N nk nb X).length=N:=by unfold dv;rw[o_,Eo]
 unfold laidV dN;rcases(gL nlt).mp hk with ⟨h1,_⟩ | ⟨t,h,rfl⟩
 ·have g:=nlt k h1
  rw[if_pos g,t_,Ht γ]
  unfold dv;rw[DO,F1 g]
  show nb k=newV nk nb X k
  show 65;rw[if_pos h1]
 ·have j:=ht t h
  rw[if_neg γ,t_,HU γ,sl,K7,DO,F1 j]
  show cE r w n N l t θC=GF.Em r w n ((e_ N l t).zip ώj)
  show 374
theorem AX {t:Nat} (nlt:θx):t∈EJ M N l cs δ7 ↔ t < M/\(cs.getD (N+t) none).isSome=true/\∃k∈nk,l t k≠0:=by
 unfold EJ;rw[E5,E5,EF,LV];refine #[λ⟨⟨a,b⟩,k,hk,c⟩=>#[a,b,k,(bJ nlt).mp hk,of_decide_eq_true c],λ⟨a,b,k,hk,c⟩=>#[#[a,b],k,(bJ nlt).mpr hk,decide_eq_true c]]
theorem AY {k:Nat} (hk:ώX):(IQ os L).getD k false=((knO os).getD k υ || L.contains k):=by
 unfold IQ knO;rw[t_,DO,F1 hk,HZ,Option.getD_some,t_,t_,DO,s_ hk];rfl
structure GH (H:Hp) (ps:Ξ) (n:Nat) (ob:μH):Prop where
 len:ps.length=n
 on:∀j p,ps[j]?=some p->H p=some (ob j)
theorem GH.same {ob:μH} (h:GH H ps n ob) (s:γD):GH H' ps n ob:=#[γU,λj p e=>s _ _ (h.on j p e)]
theorem GH.snoc {ob:μH} (h:GH H ps n ob) (hp:H p=some (ob n)):GH H οp (n+1) ob:=⟨by rw[Fn,γU];rfl,λj q e=>by
 by_cases z:j < ps.length
 ·rw[Ht z] at e
  show 130
 ·rw[HU γ] at e
  have:j - ps.length=0:=by
   cases y:j - ps.length with
   | zero=>rfl
   | succ m=>rw[y] at e;cases e
  rw[this] at e
  cases DU e
  have:j=n:=by have:=γU;omega
  show 21
  exact hp⟩
theorem zU {J:It}{g:TG}{stt:Nat->L2.St}{Ok:L2.St->Prop}{ob:μH}{σ0:ηN} (hD:γq) (hn:δE) (h0:Ok σ0) (hok:τj)
  (stop:θm) (go:θj)
  (tg:∀i σ H x H' (R:L2.St->Hp->Prop),i < n->a_ H1 H->Ok σ->J.yld i H x H'->(∀H'',a_ H H''->R (stt i) H'')->g x σ H' R)
  (he:∀i H (R:γj),i < n->a_ H1 H->(∀p H4,H p=none->a_ H H4->H4 p=some (ob i)->R γE H4)->te (stt i) H R)
  (hQ:∀ps H,a_ H1 H->H D=some μV->GH H ps n ob->Q H):bq J g bz te σ0 H1 D Q:=by
 refine⟨λi m ys σ H=>m=n - i/\i<=n/\a_ H1 H/\(∃ps:List Addr,ys=ps.map V.ref/\GH H ps i ob/\D∉ps)/\H D=some γB/\Ok σ,
  ⟨n,rfl,EO _,(a_.refl _).up hD,⟨[],rfl,⟨rfl,λj p e=>by simp at e⟩,Fl⟩,ab,h0⟩,?_⟩
 rintro i m ys σ H ⟨rfl,hi,sm,⟨ps,rfl,hr,h⟩,hd,ho⟩;refine ηr
 by_cases hlt:i < n
 ·refine .inr θi
  refine tg i σ H x H' _ hlt sm ho y λH'' s2=>?_;unfold bz;refine GI ?_;refine he i H'' _ hlt ξO λp H4 hp s4 h4=>?_
  have np:p≠D:=λz=>by rw[z,s2 _ _ hd] at hp;cases hp
  refine #[32e5 _ _ hd,?_,n - (i+1),by omega,rfl,hlt,(sm.trans ηp).up hD,#[ps++[p],by rw[FM];rfl,?_,?_],ab,hok i hlt]
  ·rw[o_,hr.len]
   omega
  ·have h5:=(hr.same ηp).snoc h4
   exact⟨h5.len,λj q e=>by
    rw[ae λz=>?_]
    ·exact h5.on j q e
    ·rcases Fw.mp (Ez e) with y | y
     ·exact h (z ▸ y)
     ·exact np ((Eu.mp y).symm.trans z)⟩
  ·intro z
   rcases Fw.mp z with z | z
   ·exact h z
   ·exact np (Eu.mp z).symm
 ·have e:i=n:=by omega
  subst e;exact .inl #[stop H sm,hQ ps H sm hd hr]
theorem zV {o:Obj}{ks:η}{ob:μH}{kk:Nat}{cs:ηN} (hks:kvs.map (·.1)=ks.map λk:Nat=>Sum.inl ((k:Nat):Int)) (hd:H1 d=some θ2) (hD:γq) (hk:kk=cs.length) (hn:ks.length<=δv)
  (he:∀(k i:Nat) (H:Hp) (R:γj),ks[i]?=some k->a_ H1 H->(∀p H4,H p=none->a_ H H4->H4 p=some (ob k)->R γE H4)->te (cs++[some θB]) H R)
  (hQ:∀ps H,a_ H1 H->H D=some μV->GH H ps ks.length (λi=>ob ϐ3)->Q H):bq (Nv d o kvs) (be kk) bz te δ2 H1 D Q:=by
 have hl:kvs.length=ks.length:=by
  have:=congrArg Kv hks;show 287
 have g:∀i,i < ks.length->ks[i]?=some 191e5:=λi hi=>by rw[t_,s_ hi];rfl
 refine zU (n:=ks.length) (stt:=λi=>cs++[some (.int ((ks.getD i 0:Nat):Int))]) (Ok:=λσ=>∃o,σ=cs++[o]) hD hn η4 (λi _=>ϒ) (λH s=>#[s _ _ hd,by rw[hl];exact y_ _]) (λi H hi s=>#[s _ _ hd,by rw[hl];exact hi]) νy (λi H R hi sm r=>he _ i H R ψK sm r) hQ
 obtain⟨o',rfl⟩:=ho;obtain⟨e,k,v,ek,ex⟩:=y
 have h1:(kvs.map (·.1))[i]?=some k:=by rw[DO,ek];rfl
 rw[hks,DO,g i hi] at h1
 have h1:(Sum.inl ((ks.getD i 0:Nat):Int):Key)=k:=DU h1;subst e;unfold be;rw[hk,K9 _ _ Γ,JO,ex,← h1];exact q _ ϟ
theorem uE {H:Hp}:∀{ps:δh}{ts:Ξ},ts.length=ps.length->(∀i t,ts[i]?=some t->H t=some Θ4)->E7 H ps ts
 | [],[],_,_=>trivial
 | [],_ :: _,e,_=>by cases e
 | _ :: _,[],e,_=>by cases e
 | _ :: ps,t :: ts,e,h=>⟨h 0 t rfl,uE (ps:=ps) (ts:=ts) (Q7 e) λi u z=>h (i+1) u z⟩
theorem uF {α β:Type}{F:α->β->Prop}:∀(us:δH),(∀u∈us,∃b,F u b)->∃bs:List β,οk=bs.length/\∀(i:Nat) u,us[i]?=some u->∃b,bs[i]?=some b/\F u b
 | [],_=>⟨[],rfl,λi u e=>by simp at e⟩
 | u :: us,h=>by
  obtain⟨b,hb⟩:=h u δO;obtain⟨bs,h1,h2⟩:=uF us λx hx=>h x ο6;refine #[b :: bs,by rw[F6,F6,h1],λi x e=>?_]
  cases i with
  | zero=>cases DU e;exact⟨b,rfl,hb⟩
  | succ i=>exact h2 i x e
def DW (ms:Ξ) (H:Hp) (pl:Addr) (prs:δh):Prop:=pl∉ms/\∃us:List Addr,H pl=some (.lst (us.map Ϙ))/\us.length=prs.length/\∀(i:Nat) u,us[i]?=some u->∃pb,prs[i]?=some pb/\H u=some (Fq (pb.1:Int) pb.2)
structure Iu (R:Rw) (Y:η) (st:Nat) (prs:δh) (Y':η):Prop where
 ok:KH R Y'
 is:∀pb∈prs,∃k,k < R.N+R.M/\pb=ΩK
 all:∀k,k < R.N+R.M->158e6∈prs\/Y'.getD k 0=Y.getD k 0
def FA (R:Rw) (nk:η) (nb:Ϟ) (Y:η):List Nat:=dN R.r R.w R.n R.M R.N R.l ύa
theorem fo (N:Nat) (nk:η) (nb:Ϟ) (X:η):(dv N nk nb X).length=N:=by unfold dv;rw[o_,Eo]
theorem qP {Y:η}{k:Nat} (hk:k < R.N):(FA R nk nb Y).getD k 0=newV nk nb Y k:=by
 unfold FA dN;rw[t_,Ht (by rw[fo];exact hk)]
 unfold dv;rw[DO,F1 hk];rfl
theorem AZ {Y:η}{t:Nat} (ht:t < R.M):(FA R nk nb Y).getD (R.N+t) 0=cE R.r R.w R.n R.N R.l t (newV nk nb Y):=by
 unfold FA dN;rw[t_,HU (by rw[fo];omega),fo,K7,DO,F1 ht]
 show GF.Em R.r R.w R.n ((e_ R.N R.l t).zip ύa)=_
 show 374
theorem Ch {Y:η} (g:ύK) (W:Gv R.w R.M R.N R.l) (hY:KH R Y) (hb:∀k∈nk,nb k < μt ^ R.n):KH R (FA R nk nb Y) :=
 ⟨AU _ _ _ _ _ _ _ (fo _ _ _ _),Cd g W λb h=>by
  obtain⟨k,hk,rfl⟩:=Fk.mp h
  have hk:=EF.mp hk;show 65
  split
  ·next z=>exact hb k z
  ·rw[t_,s_ (by rw[hY.len];omega)]
   exact hY.lt _ (GM _),Cc _ _ _ _ _ _ _ g W (fo _ _ _ _)⟩
theorem zW {Y:η}{k:Nat} (g:ύK) (hY:KH R Y) (nlt:∀k∈nk,k < R.N) (hk:χF) (h:k∉bA R.N η0 νr nk):(FA R nk nb Y).getD k 0=Y.getD k 0:=by
 by_cases z:k < R.N
 ·rw[qP z]
  show 65;rw[if_neg λy=>h ((gL nlt).mpr (.inl #[y,kH hk]))]
 ·obtain⟨t,rfl⟩:∃t,k=R.N+t:=#[k - R.N,by omega]
  have ht:t < R.M:=by omega
  rw[AZ ht,zL g hY.len hY.lt hY.ok ht];unfold cE;refine congrArg (GF.DJ R.N) (funext λj=>?_);show 65
  split
  ·next y =>
   have:R.l t j=0:=Decidable.byContradiction λw=>h ((gL nlt).mpr (.inr #[t,(AX nlt).mpr #[ht,kH γ,j,y,w],rfl]))
   rw[this,ζQ,ζQ]
  ·rfl
theorem G8.inj (I:θV) {st k k':Nat} (hk:χF) (hk':k' < R.N+R.M) (e:R.pl st k=R.pl st k'):k=k':=by
 show 160
 have l0:=I.sh.len _ m0;unfold Rw.pl at e;rw[t_,s_ (by rw[l0];exact hk),t_,s_ (by rw[l0];exact hk')] at e
 exact(KC (I.nd _ m0)).mp e
theorem A0 (nlt:θx):∀k∈bA N cs ΩL nk,k < N+M:=λk hk=>by
 rcases(gL nlt).mp hk with ⟨h,_⟩ | ⟨t,h,rfl⟩
 ·have:=nlt k h;omega
 ·have:=kE h;omega
theorem A1:(bA N cs ΩL nk).Nodup:=by
 unfold bA;refine KU.mpr #[IT _ οB,NW _ (λx y h e=>h γ) (IT _ οB),λx hx y hy e=>?_]
 obtain⟨t,_,rfl⟩:=Fk.mp hy
 have:=EF.mp (E5.mp (E5.mp hx).1).1;omega
inductive gM (a:A_) (vs:δ) (H:Hp) (Q:VK) (E_3:XK):Prop
 | mk:∀(G:Hp) (R:Rw) (ro nd:Addr) (st e:Nat) (Y:Nat->List Nat) (nk:List Nat) (nb:Nat->Nat),vs=[.ref ro,.int st,.ref nd]->EN a G H R ro e Y->st < R.K.S->e<=8000->H nd=some (.dK (aX nk nb))->nk.Nodup->((∀k∈nk,k < R.N/\nb k < (2 ^ R.w) ^ R.n))->(∀H' pl prs e',EN a G H' R ro e' Y->e'<=e+8->KB (R.ms a) H H'->H pl=none->DW (R.ms a) H' pl prs->prs.length<=8->Iu R (Y st) st prs (FA R nk nb (Y st))->Q (.ref pl) H')->gM a vs H Q E_3
theorem oM (T:μ) (B:εf):C_ P wo K mg base 14 a.f96 ["self", "stripe", "news"] (gM a):=by
 refine T.x96.F.okA (k:=13) OR ξ
 ·obtain⟨G,R,ro,nd,st,e,Y,nk,nb,rfl,S,a3,he,Z,cc,a9,q⟩:=h
  obtain⟨dx,a0⟩:=S.ro
  show 106
  have O:∀k∈nk,k < R.N:=λk hk=>(a9 k hk).1;show 375
  show 0
  exists xc (au (i:=3) OR.nd rfl 11e5 (aH (rF T B) hr.u rfl T.x51.m T.x51.k T.x51.b .nil aj (aa (av ο Ϥ T.x91.me (jD T B) hr.u T.x91.b .nil aj γ9) γH)))
  show 369
  show 3
  show 2
  exists xl (ax (aC (tf rfl hr.in1.in1.units) rfl T.A19 KE (aa (aS (g_.of (cap:=[1,3,0]) (own:=["role"]) γg) rfl (BZ ϊ) Γp γ5 (λ_ _ _ _ _=>by exact(bS (aa (av (by exact(dz (K:=K) rfl 2e4 rfl)) γk T.x67.me (kQ T) hr.u T.x67.b .nil aj (aa ο ηX)) (aa (iw εc Θ ϊ γ0) ac))))) ac)))
  refine #[_,rfl,ro,dx,_,rfl,S.sG _ _ a0,rfl,_,rfl,G,R,ro,dx,e,st,X,Y,rfl,a0,S.I,S.sG,hR,hX,S.tb,he,a3,λA H3 AS=>?_];obtain⟨I0,J0⟩:=AS.ask [γI] υe;obtain⟨mk,_⟩:=hX _ a3
  have b5:∀{b:Addr}{o:HO},H3 b=some o->ϋ1->ξb->b∉(R.K.dn :: A.rl :: A.sl :: a.t38 :: [γI]):=λ{b o} z n1 n2 hb=>by
   rcases AS.isL (λ_ z=>Eu.mp z) b hb with ⟨xs,y⟩ | ⟨xs,y⟩ <;> rw[y] at z
   ·show 104
   ·show 161
  have aT:H3 nd=some (.dK (aX nk nb)):=AS.kp nd _ (λw=>by
   obtain⟨ps,y,_⟩:=S.tb.r
   rw[w,y] at Z;cases Z) Z
  refine #[_,rfl,_,A,nd,R.r,R.w,R.n,R.M,R.N,R.l,Ei ζj,FE δu,_,_,Y st,nk,nb,rfl,I0,J0,AS.tb.n,cn ό,by rw[bF (b5 aT (λ_ y=>by cases y) (λ_ y=>by cases y))];exact aT,cc,O,wF _,#[mk.len,mk.lt,mk.ok,qN _ _],oH _ _,λH4 cy c0 b wr ag J4 t4=>?_]
  obtain⟨bt,ce⟩:=Cf (λk h=>by have:=(FO.mp h).1;omega) (wE λt h=>kE h) Ξ1 wr (zS _)
  subst bt
  have b0:(j_ R.N nk).all (fx R.r R.w R.M R.N R.l (IQ cy (bA R.N η0 νr nk)))=true:=Go.mpr λk hk=>by
   have hk:=(bJ O).mp hk
   have c1:=O k hk;unfold fx;rw[AY (by rw[ce];omega),Ig.mpr ((gL O).mpr (.inl #[hk,kH γ])),O7,N_]
  refine #[λ_ _ D nD hD=>?_,λz=>by rw[b0] at z;cases z]
  obtain⟨e',c3,S4,k4⟩:=AS.back S hX υe J4 t4
  show 371
  have U:=A0 (M:=R.M) (l:=R.l) (cs:=Ei ζj) O
  have a6:=A1 (M:=R.M) (N:=R.N) (l:=R.l) (cs:=Ei ζj) (nk:=nk)
  have lv:∀k∈bA R.N η0 νr nk,laidV R.r R.w R.n R.N R.l nk nb δu k=(FA R nk nb δu).getD k 0:=λk hk=>AW O (λt h=>kE h) hk
  have ck:∀k,k < R.N+R.M->k∉bA R.N η0 νr nk->(FA R nk nb δu).getD k 0=(Y st).getD k 0:=λk hk hn=>zW ύL mk O hk hn;generalize bA R.N (Ei (R.N+R.M)) (EJ R.M R.N R.l (Ei (R.N+R.M)) (j_ R.N nk)) nk=rs at *
  have a7:rs.length<=8:=DK (bG _ rs a6 U) n8;refine #[_,rfl,D,_,rfl,hD,λo=>?_]
  have a4:∀{b:Addr}{u:HO},b∉R.ms a->H b=some u->b≠D:=λ{b u} nb z y=>by
   have:=AS.keep (ys:=[γI]) υe nb z;rw[y,nD] at this
   show 8
  have gD:G D=none:=by
   cases y:G D with
   | none=>rfl
   | some u=>exact absurd rfl (a4 (λz=>by rw[S.I.no D z] at y;cases y) (S.sG _ _ y))
  have S5:=S4.obj (o:=.frz o (.dK (aX rs (laidV R.r R.w R.n R.N R.l nk nb δu)))) hD gD
  have k5:KB δy H 120e8:=λb u nb z=>by
   rw[ae (a4 nb z)];exact k4 b u nb z
  have an:120e8 D=some (.frz o (.dK (aX rs (laidV R.r R.w R.n R.N R.l nk nb δu)))):=ab;generalize (upd H4 D (.frz o (.dK (aX rs (laidV R.r R.w R.n R.N R.l nk nb (Y st))))))=H5 at S5 k5 an;refine λC nC=>?_;refine zV (ks:=rs) (ob:=λk=>Fq ((R.pl st k:Nat):Int) ((FA R nk nb δu).getD k 0)) (cs:=[some δL,some γ4,some εE]) (by unfold aX;rw[Fa];rfl) an nC rfl (DK a7 ε) (λk i H6 R6 ek s6 ch=>?_) (λts H6 s6 hC J=>?_)
  ·have ad:=Ez ek
   have S6:=S5.same s6
   have bm:=S6.I.sh.same S6.sG;obtain⟨b4,cv⟩:=id bm.sh;refine #[_,rfl,ro,_,_,_,_,rfl,S6.sG _ _ a0,Ϥ,ηP,dE R,R.sp,b4,_,rfl,cv,rfl,_,rfl,_,rfl,R.sp,R.tp,R.N,R.N+R.M,ζR,R.m,R.qs,ιc,st,k,rfl,bm,a3,U k ad,λH7 s7=>?_];refine #[_,rfl,_,rfl,D,_,rfl,.inl #[_,Sum.inl ((k:Nat):Int),.inr #[o,99e8 _ _ an],rfl,by rw[cX,if_pos ad,lv k ad]],(show 2<=sizeLine by decide),λt nt=>ch t _ (s7.free nt) (s7.trans (a_.new nt)) ab]
  ·have S6:=S5.same s6
   have a2:∀i,i < rs.length->rs[i]?=some 49e4:=λi hi=>by rw[t_,s_ hi];rfl
   have cw:(rs.map λk=>R.pl st k).Nodup:=NW _ (λx y (h:x≠y/\x < R.N+R.M/\y < R.N+R.M) e=>h.1 (S.I.inj h.2.1 h.2.2 e)) (Sh (λ{x y} hx hy h=>#[h,U x hx,U y hy]) a6);refine #[C,ts,rs.map λk=>Ξ2,rfl,b_.of hC,uE (by rw[o_,J.len]) (λi t e=>?_),by rw[Fa];exact cw,by rw[o_];omega,λl g nl pm=>?_]
   ·have hi:i < rs.length:=by rw[<- J.len];exact(ET.mp e).1
    rw[t_,DO,a2 i hi];exact J.on i t e
   ·have s7:=a_.new (o:=.lst (g.map Ϙ)) nl
    have a8:(upd H6 l ϋ2) l=some 166e6:=ab;generalize (upd H6 l (.lst (g.map V.ref)))=H7 at s7 a8
    have S7:=S6.same s7
    have k7:KB δy H H7:=(k5.same s6).same s7
    have b1:∀t∈g,∃pb:Nat × Nat,H7 t=some (Fq ((pb.1:Nat):Int) pb.2)/\∃k∈rs,pb=135e6:=λt ht=>by
     obtain⟨i,ei⟩:=IV (pm.mem_iff.mp ht)
     have hi:i < rs.length:=by rw[<- J.len];exact(ET.mp ei).1
     exact #[_,s7 _ _ (J.on i t ei),rs.getD i 0,Ez (a2 i hi),rfl]
    obtain⟨b6,aw,a1⟩:=uF g b1
    have a5:l∉R.ms a:=λz=>by
     rcases S6.mst l z with ⟨xs,y⟩ | ⟨xs,y⟩ <;> rw[nl] at y <;> cases y
    have b3:H l=none:=by
     cases y:H l with
     | none=>rfl
     | some u=>have:=(k5.same s6) l u a5 y;rw[nl] at this;show 8
    refine q H7 l b6 e' S7 γ k7 b3 #[a5,g,a8,aw,λi u eu=>?_] (by rw[<- aw,ο2,J.len];exact a7) #[Ch ύL S.I.W mk λk hk=>(a9 k hk).2,λpb cr=>?_,λk hk=>?_]
    ·obtain⟨pb,h1,h2,_⟩:=a1 i u eu
     exact #[pb,h1,h2]
    ·obtain⟨i,ei⟩:=IV cr
     have hi:i < g.length:=by rw[aw];exact(ET.mp ei).1
     obtain⟨c2,h1,_,k,hk,h3⟩:=a1 i _ ζJ;rw[ei] at h1
     cases DU h1;exact #[k,U k hk,h3]
    ·by_cases z:k∈rs
     ·refine .inl ?_
      obtain⟨j,ej⟩:=IV z
      have hj:j < ts.length:=by rw[J.len];exact(ET.mp ej).1
      have h1:=s7 _ _ (J.on j _ (s_ hj));obtain⟨i,ei⟩:=IV (pm.mem_iff.mpr (GM hj));obtain⟨pb,h2,h3,k',b2,h4⟩:=a1 i _ ei;rw[h3] at h1
      have h5:R.pl st k'=R.pl st k:=by
       rw[h4] at h1
       have:=DU h1;unfold Fq at this
       have:=(NP (HO.tup.inj this)).1
       have e2:rs.getD j 0=k:=by rw[t_,ej];rfl
       rw[e2] at this;exact O1 (V.int.inj this)
      have:=S.I.inj (U k' b2) hk h5;show 14;rw[<- h4];exact Ez h2
     ·exact .inr (ck k hk z)
def GG (X:ηf) (st:Nat) (prs:δh):Nat->Nat->Option Int:=prs.foldl (λX pb=>Ga X pb.1 st ωt) X
theorem fV {st:Nat}:∀(prs:δh) (X:ηf) {p j:Nat},(j=st->∀pb∈prs,pb.1≠p)->GG X st prs p j=X p j
 | [],_,_,_,_=>rfl
 | pb :: prs,X,p,j,h=>by
  show GG Ξm st prs p j=_
  rw[fV prs _ λe x hx=>h e x ο6];unfold Ga;rw[if_neg λz=>h z.2 pb δO z.1.symm]
theorem wJ {st:Nat}:∀(prs:δh) (X:ηf) {p b:Nat},(∀pb∈prs,pb.1=p->pb.2=b)->(∃pb∈prs,pb.1=p)->GG X st prs p st=some ((b:Nat):Int)
 | [],_,_,_,_,h=>by obtain⟨_,h,_⟩:=h;cases h
 | pb :: prs,X,p,b,h,hx=>by
  show GG Ξm st prs p st=_
  by_cases z:∃x∈prs,x.1=p
  ·exact wJ prs _ (λx hx=>h x ο6) z
  ·rw[fV prs _ λ_ x hx e=>z #[x,hx,e]]
   obtain⟨x,hx,e⟩:=hx;rcases DH.mp hx with rfl | hx
   ·unfold Ga
    rw[if_pos #[e.symm,rfl],h x δO e]
   ·exact absurd #[x,hx,e] z
variable {prs:List (Nat × Nat)}
theorem zX {pb:χL}:GG X st (prs++[pb])=Ga ϐ4 pb.1 st 113e5:=by
 unfold GG;rw[O9];rfl
theorem zY {Y':η} (I:θV) (h:ψO) (E:Iu R δu st prs Y'):FW R ϐ4 (λs=>if s=st then Y' else Y s):=λs hs=>by
 obtain⟨mk,hk⟩:=h s hs
 by_cases z:s=st
 ·subst z
  show 60;refine #[E.ok,λk hkk=>?_]
  have cons:∀pb∈prs,pb.1=R.pl s k->pb.2=Y'.getD k 0:=λpb hpb e=>by
   obtain⟨k',hk',e'⟩:=E.is pb hpb;rw[e'] at e ⊢;rw[I.inj hk' hkk e]
  by_cases w:∃pb∈prs,pb.1=R.pl s k
  ·exact wJ prs X cons w
  ·rw[fV prs X λ_ pb hpb e=>w #[pb,hpb,e],hk k hkk]
   rcases E.all k hkk with y | y
   ·exact absurd #[_,y,rfl] w
   ·rw[y]
 ·dsimp only
  rw[if_neg z];exact #[mk,λk hkk=>by rw[fV prs X λe=>absurd e z];exact hk k hkk]
def FT (ms:Ξ) (H:Hp) (gl:Addr) (es:ιI):Prop:=gl∉ms/\∃ts:List Addr,H gl=some ιZ/\ts.length=es.length/\∀(i:Nat) t,ts[i]?=some t->∃en pl,es[i]?=some en/\H t=some ιD/\DW ms H pl en.2
def LT (ms:Ξ) (H:Hp):Prop:=∀x∈ms,151e1\/∃ps,H x=some δT
theorem LT.tup {ms:Ξ}{H:Hp}{b:Addr}{xs:δ} (h:π7) (e:H b=some δa):b∉ms:=λz=>by
 rcases h b z with ⟨ys,y⟩ | ⟨ys,y⟩ <;> rw[e] at y <;> cases y
theorem DW.kb {ms:Ξ}{pl:Addr} (h:χ2) (t:π7) (k:μh):DW ms H' pl prs:=by
 show 165;refine #[h0,us,k _ _ h0 h1,h2,λi u e=>?_];show 376;exact #[pb,e1,k _ _ ψ1 e2]
theorem FT.kb {ms:Ξ}{H H':Hp}{gl:Addr}{es:ιI} (h:FT ms H gl es) (t:π7) (k:μh):FT ms H' gl es:=by
 show 377;obtain⟨en,pl,e1,e2,e3⟩:=h3 i u e;exact #[en,pl,e1,k _ _ ψ1 e2,e3.kb t k]
theorem DI.kbl {ms:Ξ}{p:Pos} (h:ζB) (hm:∀x∈ms,∃xs,H x=some γV) (k:μh):DI H' t p q:=by
 show 41;refine #[ps,k _ _ (λz=>by obtain⟨xs,y⟩:=hm _ z;rw[h1] at y;cases y) h1,?_]
 rcases h2 with h2 | ⟨c',e,h2⟩
 ·show 42
 ·exact .inr #[c',e,k _ _ (λz=>by obtain⟨xs,y⟩:=hm _ z;rw[h2] at y;cases y) h2]
def Rw.ls (R:Rw):List Addr:=R.K.dn :: R.K.sl :: R.K.hs
theorem Rw.ls_ms:∀b∈R.ls,b∈R.ms a:=λb hb=>by
 unfold Rw.ls at hb;unfold Rw.ms;rcases DH.mp hb with rfl | hb
 ·show 105
 rcases DH.mp hb with rfl | hb
 ·exact .tail _ δO
 ·exact .tail _ ΔT
theorem d_.lsl (h:d_ a H R.K e ss X):∀x∈R.ls,∃xs,H x=some 10e9:=λb hb=>by
 unfold Rw.ls at hb;rcases DH.mp hb with rfl | hb
 ·exact h.isLst δO
 rcases DH.mp hb with rfl | hb
 ·exact #[_,h.sl]
 ·exact h.isLst (.tail _ (.tail _ (.tail _ hb)))
theorem Lc:∀b∈[R.K.dn,R.K.sl],b∈R.ls:=λb hb=>by
 rcases DH.mp hb with rfl | hb
 ·show 105
 ·rw[Eu.mp hb];exact .tail _ δO
theorem Nk:∀b∈(R.K.dn :: R.K.hs),b∈R.ls:=λb hb=>by
 rcases DH.mp hb with rfl | hb
 ·show 105
 ·exact .tail _ (.tail _ hb)
inductive d6 (a:A_) (vs:δ) (H:Hp) (Q:VK) (E_3:XK):Prop
 | mk:∀(G:Hp) (R:Rw) (ro gl:Addr) (e:Nat) (Y Z:Nat->List Nat) (es:List (Nat × List (Nat × Nat))),vs=[.ref ro,.ref gl]->EN a G H R ro e Y->FT (R.ms a) H gl es->es.length<=R.K.L->(es.map (·.1)).Nodup->((∀en∈es,en.1 < R.K.S/\en.2.length<=8/\Iu R (Y en.1) en.1 en.2 (Z en.1)))->e+18 * es.length<=8900->(∀H' e',EN a G H' R ro e' (λs=>if s∈es.map (·.1) then Z s else Y s)->e'<=e+18 * es.length->KB δy H H'->Q .non H')->d6 a vs H Q E_3
theorem kt (T:μ):C_ P wo K mg base 4 a.f97 ["self", "group"] (d6 a):=by
 refine T.x97.F.okA (k:=3) JI ξ
 ·obtain⟨G,R,ro,gl,e,Y,Z,es,rfl,S,b1,hL,nd,a6,he,q⟩:=h
  obtain⟨dx,a4⟩:=S.ro;show 375
  have a1:LT δy H:=S.mst
  have l8:=hR.l8;obtain⟨gn,ts,O,tl,a9⟩:=id b1
  have kG:∀{H':Hp},KB R.ls H H'->a_ G H':=λ{H'} k=>S.kb όy
  have pk:∀{H':Hp},KB R.ls H H'->FT δy H' gl es:=λ{H'} k=>b1.kb a1 όy
  show 0
  show 1;refine xf ϗ rfl 85e0 (cO rfl (aK Φ2 (aK (ar (i:=3) JI.nd rfl ζ) bM))) ?_
  exists xl (aF (av εv ϛ T.x78.me (t8 T) hr.u T.x78.b .nil aj (aa Ω (aa νa ΘZ))))
  show 103;refine xf ϗ rfl 21e2 (cO rfl (aK (ar (i:=4) JI.nd rfl ζ) (aK (ar (i:=5) JI.nd rfl ζ) bM))) ?_;show 7;refine xf ϗ rfl 77e5 (cO rfl (aK (ar (i:=6) JI.nd rfl ζ) (aK (ar (i:=7) JI.nd rfl ζ) bM))) ?_
  exists xl (aF (av εv ϛ T.x77.me (u3 T) hr.u T.x77.b .nil aj (aa δ8 (aa γ6 ηn))))
  show 5;show 5;show 7;refine xf ϗ rfl (aY rfl T.A07 (aa νz ac)) Φ2 ?_
  exists xl (aF (av εv ϛ T.x79.me (pj T) hr.u T.x79.b .nil aj γH))
  show 5;refine #[_,rfl,gl,_,rfl,b_.of O,?_];refine let I_:Nat->L2.St->Hp->Prop:=λi σ H'=>L2.A3 ((∃(v2 v3:εi),σ=[some εE,some οG,v2,v3,none,none,none,none])) ξL (L2.E1 λss=>L2.A2 (d_ a H' R.K (e+i) ss X) (∀k,i<=k->k < R.K.L->ss[k]?=some .non));iY I_ #[θr,KB.refl _ _,_,hR,λk _ hk=>by rw[IE,if_pos hk]] ?_ ?_ ?_
  ·rintro i σ H' _ ⟨_,k,_⟩
   exact b_.of ΞD
  ·rintro i u T' σ H2 hi hu nT ⟨⟨v2,v3,rfl⟩,k2,ss,U,C⟩
   rw[o_] at hi
   have et:ts[i]?=some ts[i]:=s_ hi;rw[DO,et] at hu
   show 378
   show 379;show 49
   have sT:=a_.new (o:=.tup [V.int (i:Nat),V.ref ts[i]]) nT
   have k3:=k2.same sT
   have g:=U.same sT;generalize (upd H2 T' (.tup [V.int (i:Nat),V.ref ts[i]]))=H3 at k3 g;show 4
   show 166
   have b0:=k3 _ _ Φe an;obtain⟨pn,us,a2,ul,a8⟩:=a5.kb a1 ό0;refine #[_,rfl,ro,_,_,_,_,rfl,kG k3 _ _ a4,Ϥ,εK,cF R,εb,aT,_,rfl,a0,rfl,_,rfl,_,rfl,_,_,_,_,rfl,rfl,Ew.of b0,rfl,_,rfl,_,_,_,_,rfl,rfl,Ew.of b0,rfl,R.K,e+i,i,en.1,ss,_,pl,X,rfl,g,by omega,D.1,by omega,a2,λH4 v k4 aw=>?_]
   refine #[εo,k3.trans (k4.more Lc),_,aw,λk h1 h2=>?_];rw[K8 γ]
   exact C k γ h2
  ·rintro σ H1 ⟨⟨v2,v3,rfl⟩,k1,ss,a7,C⟩
   rw[o_,tl] at a7 C;refine #[_,rfl,gl,rfl,#[_,b_.of (k1 _ _ ωr O)],?_];refine let I_:Nat->L2.St->Hp->Prop:=λi σ H'=>L2.A3 ((∃(v4 v5 v6 v7:εi),σ=[some εE,some οG,v2,v3,v4,v5,v6,v7])) ξL (L2.E2 λe2 X2=>L2.A3 (d_ a H' R.K e2 ss X2) (e2<=e+es.length+8 * i) (FW R X2 Δt));bR (xs:=ts.map Ϙ) I_ #[#[none,none,none,none,rfl],k1,_,X,a7,y_ _,by simpa using hX] ?_ ?_ ?_
   ·rintro i σ H' _ ⟨_,k,_⟩
    exact b_.of ΞD
   ·rintro i u σ H2 hu ⟨⟨v4,v5,v6,v7,rfl⟩,k2,e2,X2,U,bm,ad⟩
    rw[DO] at hu
    cases et:ts[i]? with
    | none=>rw[et] at hu;cases hu
    | some t =>
    rw[et] at hu
    show 378
    show 379
    have hi:i < es.length:=(ET.mp J).1
    have cc:=k2 _ _ Φe an;obtain⟨pn,us,a2,ul,a8⟩:=id a5;refine #[t,_,rfl,Ew.of cc,rfl,_,_,rfl,_,_,rfl,rfl,?_];show 4
    have bt:pl∉R.ls:=λz=>pn ω1;refine #[_,rfl,pl,rfl,#[_,b_.of (k2 _ _ bt a2)],?_];refine let I_:Nat->L2.St->Hp->Prop:=λj σ H'=>L2.A3 ((∃(v6 v7:εi),σ=[some εE,some οG,v2,v3,some (.int ((en.1:Nat):Int)),some (.ref pl),v6,v7])) ξL (d_ a H' R.K (e2+j) ss (GG X2 en.1 (en.2.take j)));bR (xs:=us.map Ϙ) I_ #[#[v6,v7,rfl],k2,U] ?_ ?_ ?_
    ·rintro j σ H' _ ⟨_,k,_⟩
     exact b_.of (k _ _ bt a2)
    ·rintro j x σ H3 hx ⟨⟨v6,v7,rfl⟩,k3,g⟩
     rw[DO] at hx
     cases eu:us[j]? with
     | none=>rw[eu] at hx;cases hx
     | some u =>
     rw[eu] at hx
     cases DU hx;obtain⟨pb,a3,hu⟩:=a8 j u eu
     have hj:j < en.2.length:=(ET.mp a3).1
     have b5:=k3 _ _ (λz=>a1.tup hu ω1) hu;obtain⟨kk,b3,b4⟩:=D.2.2.is pb (Ez a3)
     have hP:pb.1 < R.K.P:=by rw[b4];exact S.I.pll b3
     refine #[u,_,rfl,Ew.of b5,rfl,_,_,rfl,_,_,rfl,rfl,?_];show 4
     show 166;refine #[_,rfl,ro,_,_,_,_,rfl,kG k3 _ _ a4,Ϥ,εK,cF R,εb,aT,_,rfl,a0,rfl,_,rfl,_,rfl,_,rfl,R.K,e2+j,pb.1,en.1,ss,_,some ((pb.2:Nat):Int),rfl,g,by omega,hP,D.1,λH4 k4 aw=>?_]
     refine #[εo,k3.trans (k4.more Nk),?_];rw[K0,a3,show (some pb).toList=[pb] from rfl,zX];exact aw
    ·rintro σ H3 ⟨⟨v6,v7,rfl⟩,k3,g⟩
     rw[o_,ul,Ks] at g;refine #[ξx,k3,e2+en.2.length,_,g,by have:=D.2.1;omega,?_]
     have ch:en.1∉(es.take i).map (·.1):=λz=>by
      rw[NS] at z
      have e2:96e9[i]?=some en.1:=by rw[DO,J];rfl
      exact mI nd e2 z
     have b2:Iu R (125e9 en.1) en.1 en.2 (Z en.1):=by
      show 11;rw[if_neg ch];exact D.2.2
     have:=zY S.I ad b2;refine cast (congrArg (FW R _) (funext λs=>?_)) this;rw[K0,J,FM]
     show (if s=en.1 then Z en.1 else if s∈(es.take i).map (·.1) then Z s else Y s)=if s∈(es.take i).map (·.1)++[en.1] then Z s else Y s
     by_cases z:s=en.1
     ·rw[if_pos z,if_pos (G0 _ (by rw[z];exact .head _)),z]
     ·rw[if_neg z]
      by_cases w:s∈(es.take i).map (·.1)
      ·show 380
      ·rw[if_neg w,if_neg λy=>(Fw.mp y).elim w λy=>z (Eu.mp y)]
   ·rintro σ H2 ⟨⟨v4,v5,v6,v7,rfl⟩,k2,e2,X2,U,bm,ad⟩
    rw[o_,tl] at bm ad;rw[Ks] at ad;refine #[_,rfl,gl,_,rfl,.inl (b_.of (k2 _ _ ωr O)),_,rfl,by rw[o_];omega,by rw[o_,tl];omega,?_]
    rw[o_,tl,Fu];refine let I_:Nat->L2.St->Hp->Prop:=λi σ H'=>L2.A3 ((∃v2:Option V,σ=[some εE,some οG,v2,v3,v4,v5,v6,v7])) ξL (L2.E1 λss=>L2.A2 (d_ a H' R.K (e2+i) ss X2) (∀k,k < R.K.L->(k < i\/es.length<=k)->ss[k]?=some .non));cb (lo:=0) (n:=es.length) I_ #[#[v2,rfl],k2,ss,U,λk h1 h2=>C k (h2.resolve_left ι3) h1] ?_ ?_
    ·rintro i σ H3 hi ⟨⟨v2,rfl⟩,k3,ss,g,C⟩
     rw[Oe];show 166;refine #[_,rfl,ro,_,_,_,_,rfl,kG k3 _ _ a4,Ϥ,εK,cF R,εb,aT,_,rfl,a0,rfl,_,rfl,R.K,e2+i,i,ss,X2,rfl,g,by omega,by omega,λH4 k4 aw=>?_]
     refine #[ϒ,k3.trans (k4.more Lc),_,aw,λk h1 h2=>?_]
     by_cases z:k=i
     ·subst z
      exact Me (by rw[g.ls];exact h1)
     ·rw[K8 μN]
      exact C k h1 γ
    ·rintro σ H3 ⟨⟨v2,rfl⟩,k3,ss,g,C⟩
     have ce:ss=Ee ε7 .non:=by
      apply GZ
      intro k
      by_cases z:k < R.K.L
      ·rw[C k z γ,IE,if_pos z]
      ·rw[Fh (by rw[g.ls];omega),Fh ϋM]
     rw[ce] at g
     have b6:Ju a H3:=#[S.tb.o.kbl hR.lsl k3,S.tb.n.kbl hR.lsl k3,S.tb.r.kbl hR.lsl k3,S.tb.on,S.tb.or,S.tb.nr];exact q H3 _ #[S.ro,S.I,kG k3,#[X2,g,ad],b6] γ ό0
def Ij (s n:Nat):It:=#[λi _=>i < n,λi H x H'=>H'=H/\x=.int ((i * s:Nat):Int),λi _=>n<=i]
theorem zZ {w:ϡ}{tg:Expr} (it:Addr) (s n:Nat):Gi P w K tg (Ij s n) [it] it (λi h=>IsRangeIter h it Ψy ϋ6 ((s:Nat):Int)) where
 mem:=by simp
 obj:=λi h st b hb=>by
  show 30
  subst e
  exact⟨_,st,λv z=>by
   show 187
   cases z'⟩
 keep:=λi h h' st k=>k it ό _ st
 item:=by
  show 381
  have W:=Q1 (prog:=ϥ) (w:=X.w) γS it 0 ((s:Nat):Int) n;refine W.item i sh _ _ hg st λv h' tk hv j kk=>?_;show 189
  have I1:Inv X g σ H { sh with heap:=h',toks:=tk }:=I.turned ΘD f0 f1 f3 f4 f5
  exact⟨_,rfl,kA (s:={ sh with heap:=h',toks:=tk }) (n:="range_iterator") j rfl rfl 0e2 ⟨.int Ψy,H,I1,θF,⟨rfl,by rw[Oe,← Ma]⟩,j,λb hb=>(hf b hb).1⟩⟩
 done:=by
  show 381
  exact Ry γS st (by have:n<=i:=hg;omega) λh' eb=>#[rfl,I.turned (t':=sh.toks) (λb o hb e=>eb b o hb e) f0 f1 f3 f4 f5]
 self:=λ_ _ _ _ _ st h=>QZ st h
inductive wK (R:δD) (vs:δ) (H1:Hp):Prop
 | mk:∀n s:Nat,vs=[.int 0,.int n,.int s]->1<=n/\n < 1000/\1<=s/\s<=8->R (Ij s ((n - 1) / s+1)) H1->wK R vs H1
def Du (ta:TA):TI:=λσ H R=>ta σ H λvs H1=>wK R vs H1
theorem Aa {X:Cx}{tg:Expr}{a b c:Expr}{ta:TA}{p pos:Pos} (hg:χh) (hm:τT) (ha:PA X [a,b,c] ta) (hs:starEach [a,b,c] X.env=[(υ,eval a π),(υ,eval b π),(υ,eval c π)]:=by rfl) (hs2:starEach [b,c] X.env=[(υ,eval b π),(υ,eval c π)]:=by rfl) :
  PI X tg (.Call υg [a,b,c] [] pos) (Du ta):=by
 intro g s σ H R I h;refine Call_ ωP
 obtain⟨n,st,e,⟨q1,q2,q3,q4⟩,q⟩:=q1;subst e
 cases r1 with
 | cons r rr =>
  cases rr with
  | cons r' rr =>
   cases rr with
   | cons r2 rr =>
    cases rr;obtain⟨t,rfl⟩:=r;obtain⟨t',rfl⟩:=r';obtain⟨t2,rfl⟩:=r2
    have hd:Si ((n:Int) - 0) ((st:Nat):Int)=false:=by
     unfold Si
     have:(decide ((if (((st:Nat):Int) == 0)=true then 0 else Nat.log2 (Int.natAbs ((st:Nat):Int)) / 30+1) > 300))=false:=by
      have:st=1\/st=2\/st=3\/st=4\/st=5\/st=6\/st=7\/st=8:=by omega
      rcases this with rfl | rfl | rfl | rfl | rfl | rfl | rfl | rfl <;> decide
     show 11;rw[this,Pa]
    have hq:π1 / st+1<=n:=by have:=Nat.div_le_self π1 st;omega
    have en:((n:Int) - 0 - 1) / ((st:Nat):Int)+1=((π1 / st+1:Nat):Int):=by
     rw[show (n:Int) - 0 - 1=((n - 1:Nat):Int) by omega,P2,Pg]
     rfl
    generalize (n - 1) / st+1=c at hq en q
    have rs:MM 0 n ((st:Nat):Int)=((c:Nat):Int):=by
     unfold MM;rw[if_pos γ,if_pos γ,en]
    have fl:∀z:Int,-10000 < z->z < 10000->NV z=true:=λz h1 h2=>by
     unfold NV;rw[Gx];exact #[decide_eq_true γ,decide_eq_true γ]
    have sm:Pc 0 n ((st:Nat):Int)=true:=by
     unfold Pc;rw[rs,fl 0 γ γ,fl n γ γ,fl ((st:Nat):Int) γ γ,fl ((c:Nat):Int) γ γ,if_pos γ,fl ((n:Int)+(((st:Nat):Int) - 1)) γ γ,O7]
     rfl
    refine call_range_3 γ ?_ (.inl hd)
    refine RN όD sm ?_
    have I2:Inv X g σ H1 { s1 with heap:=s1.heap.push { cls:=.type "range",data:=.fields [.int 0 t,.int n t',.int ((st:Nat):Int) t2].toArray } }:=I1.kept (t':=s1.toks) λb o e=>D_ _ e
    refine⟨(s1.heap.push { cls:=.type "range",data:=.fields [.int 0 t,.int n t',.int ((st:Nat):Int) t2].toArray }).objs.size,[(s1.heap.push { cls:=.type "range",data:=.fields [.int 0 t,.int n t',.int ((st:Nat):Int) t2].toArray }).objs.size],_,_,H1,rfl,
     I2.kept (t':=εF) λb o e=>D_ _ e,zZ _ st c,?_,λb hb=>?_,q⟩
    ·have e1:(0:Int)+((0:Nat):Int) * ((st:Nat):Int)=0:=by simp
     have e2:((c:Nat):Int) - ((0:Nat):Int)=MM 0 n ((st:Nat):Int):=by rw[rs];omega
     show IsRangeIter _ _ ((0:Int)+((0:Nat):Int) * ((st:Nat):Int)) (((c:Nat):Int) - ((0:Nat):Int)) ((st:Nat):Int)
     rw[e1,e2];exact Fm _ rfl
    ·have e:b=(s1.heap.push { cls:=.type "range",data:=.fields [.int 0 t,.int n t',.int ((st:Nat):Int) t2].toArray }).objs.size:=by simpa using hb
     subst e;exact I2.fpOk Γ τx
theorem xK {g:TG}{tb:TS}{D:Fe}{σ:ηN} (Pv:Nat->L2.St->Hp->Prop) (h0:ζ9)
  (hs:∀i σ H,i < n->Pv i σ H->g (.int ((i * s:Nat):Int)) σ H λσ2 H2=>tb { D with nx:=Pv (i+1),ct:=Pv (i+1),bk:=D.nx } σ2 H2) (hd:ΦU) :
  ∃W:Nat->Nat->L2.St->Hp->Prop,ζ1/\∀i m σ H,W i m σ H →
   ((Ij s n).stop i H/\D.nx σ H)\/((Ij s n).go i H/\∃N:L2.St->Hp->Prop,εt/\∀x H',(Ij s n).yld i H x H'->g x σ H' λσ2 H2=>tb { D with nx:=N,ct:=N,bk:=D.nx } σ2 H2):=by
 refine ΓI
 rintro i m σ H ⟨rfl,hi,p⟩
 by_cases hlt:i < n
 ·refine .inr Γk
  obtain⟨e,rfl⟩:=y;subst e;exact hs i σ _ hlt p
 ·have e:i=n:=by omega
  exact .inl #[by show n<=i;omega,hd σ H νf]
theorem DW.up {ms:Ξ}{pl:Addr} (h:χ2) (hx:ξt) (n:pl≠x):DW ms ζ5 pl prs:=by
 show 165;refine #[h0,us,by rw[ae n];exact h1,h2,λi u e=>?_]
 show 376;exact #[pb,e1,by rw[ae (bj e2 hx (λy=>by unfold Fq at y;cases y))];exact e2]
theorem DW.same {ms:Ξ}{pl:Addr} (h:χ2) (s:γD):DW ms H' pl prs:=by
 show 165;exact #[h0,us,s _ _ h1,h2,λi u e=>(h3 i u e).imp λpb z=>#[z.1,s _ _ z.2]]
def Gb (ms:Ξ) (H:Hp) (PL:Addr) (es:ιI):Prop:=PL∉ms/\∃ts:List Addr,H PL=some ιZ/\ts.length=es.length/\∀(i:Nat) t,ts[i]?=some t->∃en pl,es[i]?=some en/\H t=some ιD/\DW ms H pl en.2/\pl≠PL
theorem Gb.kb {ms:Ξ}{H H':Hp}{gl:Addr}{es:ιI} (h:Gb ms H gl es) (t:π7) (k:μh):Gb ms H' gl es:=by
 show 377;obtain⟨en,pl,e1,e2,e3,e4⟩:=h3 i u e;exact #[en,pl,e1,k _ _ ψ1 e2,e3.kb t k,e4]
theorem Gb.snoc {ms:Ξ}{PL pl:Addr}{es:ιI}{en:Nat × List πa} (h:Gb ms H PL es) (ht:H t=some ιD) (hp:DW ms H pl en.2) (n:pl≠PL):∃ts:List Addr,H PL=some ιZ/\ts.length=es.length/\Gb ms (upd H PL (.lst (ts.map V.ref++[.ref t]))) PL (es++[en]):=by
 obtain⟨h0,ts,h1,h2,h3⟩:=h;refine #[ts,h1,h2,h0,ts++[t],by rw[ab,FM];rfl,by rw[Fn,Fn,h2];rfl,λi u e=>?_]
 have tu:∀{b:Addr}{xs:δ},H b=some δa->b≠PL:=λ{b xs} z=>bj z h1 γJ
 show 141
 ·rw[Ht hi] at e
  obtain⟨g,j,e1,e2,e3,e4⟩:=h3 i u e;exact #[g,j,by rw[Ht γ];exact e1,by rw[ae (tu e2)];exact e2,e3.up h1 e4,e4]
 ·rw[HU γ] at e
  cases z:i - ts.length with
  | succ m=>rw[z] at e;cases e
  | zero =>
   rw[z] at e
   cases DU e;refine #[en,pl,by rw[HU γ,← h2,z];rfl,by rw[ae (tu ht)];exact ht,hp.up h1 n,n]
theorem Nh {k L:Nat} (h:k<=γ2):F2 xs υQ (some ((k+L:Nat):Int))=(xs.drop k).take L:=by
 unfold F2;rw[HT.FJ,HT.FJ,Oj h]
 by_cases z:k+L<=xs.length
 ·rw[Oj z,K7]
 ·rw[Nat.min_eq_right γ,KD (by rw[JT];exact y_ _),KD (by rw[JT];omega)]
theorem Ab {xs ys:η} (nd:(xs++ys).Nodup) {k:Nat} (h:k∈ys):k∉xs:=λz=>(KU.mp nd).2.2 k z k h rfl
inductive lS (a:A_) (vs:δ) (H:Hp) (Q:VK) (E_3:XK):Prop
 | mk:∀(G:Hp) (R:Rw) (ro so:Addr) (i e:Nat) (Y:Nat->List Nat) (bs:List Nat),vs=[.ref ro,.int i,.ref so]->EN a G H R ro e Y->H so=some (.lst (rowV bs))->so∉R.ms a->bs≠[]->bs.length<=9->i+bs.length<=R.N * R.K.S->((∀b∈bs,b < (2 ^ R.w) ^ R.n))->e<=7000->(∀H' e' Y' v,EN a G H' R ro e' Y'->e'<=e+234->KB (R.ms a) H H'->(∀s k,s < R.K.S->k < R.N->(Y' s).getD k 0=if k∈Gd R.N i bs.length s then G6 R.N i bs s k else (Y s).getD k 0)->Q v H')->lS a vs H Q E_3
theorem xL (T:μ) (B:εf):C_ P wo K mg base 15 a.f93 ["self", "at", "some"] (lS a):=by
 refine T.x93.F.okA (k:=14) LC ξ
 ·obtain⟨G,R,ro,so,i,e,Y,bs,rfl,S,b3,d8,ch,h9,b0,b6,he,q⟩:=h
  obtain⟨dx,C⟩:=S.ro
  show 0
  exists xc (aF (av ο Ϥ T.x94.me (kR T) hr.u T.x94.b .nil aj ζS))
  exists xc Δh
  exists xc (au (i:=3) LC.nd rfl 0e3 η6)
  show 1;refine Qj ϗ rfl (AB (yq PySem.F.plainAttrs_dict Rp PySem.F.type_dict_items zd (av ο Ϥ T.x95.me (iR T) hr.u T.x95.b .nil aj ζS))) (cO rfl (aK (ar (i:=4) LC.nd rfl ζ) (aK (ar (i:=5) LC.nd rfl ζ) bM))) ?_
  exists xl (aF (cu Hr Hs Hv aZ ϊ (aa (bS (aa γ6 (aa (av ο Ϥ T.x96.me (oM T B) hr.u T.x96.b .nil aj νO) ac))) ac)))
  show 103;refine xf ϗ rfl (Aa rfl T.A07 (aa ai (aa ρA Φu))) (ar (i:=6) LC.nd rfl ζ) ?_
  exists xl (aF (av ο Ϥ T.x97.me (kt T) hr.u T.x97.b .nil aj (aa (lW oO ϊ (d9 δ8) (d9 (ay aW δ8 θ0))) ac)))
  show 5
  show 23
  refine #[_,rfl,ro,dx,_,rfl,S.sG _ _ C,rfl,_,rfl,_,rfl,G,R,ro,so,i,e,Y,bs,rfl,S,b3,ch,b0,b6,?_];refine #[_,rfl,ro,dx,_,rfl,S.sG _ _ C,rfl,G,R,ro,e,Y,rfl,S,λH1 s1=>?_]
  show 164;refine #[(show 0<=sizeLine by decide),λPL Z=>?_]
  have s2:=a_.new (o:=.lst []) Z
  have S2:=S1.same s2
  have bm:(upd H1 PL εP) PL=some 22e7:=ab
  have a5:=s1.trans s2
  have a9:PL∉R.ms a:=λz=>by
   rcases S1.mst PL z with ⟨xs,y⟩ | ⟨xs,y⟩ <;> rw[Z] at y <;> cases y
  generalize (upd H1 PL (.lst []))=H2 at s2 S2 bm a5;show 4
  refine #[_,rfl,ro,dx,_,rfl,S2.sG _ _ C,rfl,_,rfl,_,rfl,G,R,ro,so,i,e,Y,bs,rfl,S2,a5 _ _ b3,h9,b0,λD H3 es nD I3 ed=>?_]
  have S3:=S2.same I3.sm;refine #[.inr (.inr (.inl #[rfl,.inl #[_,I3.hD]])),D,_,rfl,rfl,I3.hD,λv nv=>?_]
  have sv:=a_.new (o:=.ext (i0 v D)) nv
  have hv:(upd H3 v ύM) v=some 183e6:=ab
  have I4:=I3.same sv;generalize (upd H3 v (.ext (i0 v D)))=H4 at sv hv I4
  have S4:=S3.same sv;refine #[v,D,_,rfl,hv,I4.hD,λo=>?_]
  have gD:G D=none:=S2.sG.free nD
  have c3:G PL=none:=S1.sG.free Z
  have dW:D≠PL:=(al bm nD).symm
  have dV:D∉R.ms a:=λz=>by
   rcases S2.mst D z with ⟨xs,y⟩ | ⟨xs,y⟩ <;> rw[nD] at y <;> cases y
  have S5:=S4.obj (o:=.frz o ψW) I4.hD gD
  have k5:∀b u,H2 b=some u->83e7 b=some u:=λb u z=>by
   rw[ae (al z nD)];exact I4.sm _ _ z
  have b1:83e7 D=some (.frz o ψW):=ab
  have aT:∀en∈es,83e7 en.2=some 126e6:=λen an=>by
   obtain⟨a1,_,a3⟩:=I4.is en an;rw[ae a3];exact a1
  generalize (upd H4 D (.frz o (.dK (EB es))))=H5 at S5 k5 b1 aT
  have a2:=k5 _ _ bm
  show 106
  have N0:=S.I.W.n1
  have dc:∀s k,k∈Gd R.N i μU s->k < R.N/\G6 R.N i bs s k < μt ^ R.n:=λs k hk=>by
   obtain⟨h1,h2,h3⟩:=En.mp hk;refine #[h1,?_];unfold G6;show 94
   exact b6 _ (GM _)
  refine let I_:Nat->L2.St->Hp->Prop:=λj σ H'=>L2.A3 ((∃(v4 v5:εi),σ=[some εE,some ζG,some ηy,some (.ref PL),v4,v5,none])) (KB (PL :: R.ms a) H5 H') (L2.E2 λej pe=>L2.A5 (EN a G H' R ro ej Y) (ej<=e+8 * j) (Gb δy H' PL pe) (pe.map (·.1)=(es.take j).map (·.1)) (∀x∈pe,x.2.length<=8/\Iu R (Y x.1) x.1 x.2 (FA R (Gd R.N i μU x.1) (G6 R.N i bs x.1) (Y x.1))));ze (d:=D) (o:=o) (kvs:=EB es) I_ #[θr,KB.refl _ _,e,[],S5,y_ _,#[a9,[],a2,rfl,λi t z=>by simp at z],rfl,λx hx=>absurd hx Fl] ?_ ?_ ?_
  ·rintro j σ H' _ ⟨_,k,_⟩
   exact k _ _ (λz=>(DH.mp z).elim dW dV) b1
  ·rintro j k w T' σ H6 O nT ⟨⟨v4,v5,rfl⟩,k6,ej,pe,S6,ck,aw,g,a0⟩
   unfold EB at O;rw[DO] at O
   cases een:es[j]? with
   | none=>rw[een] at O;cases O
   | some en =>
   rw[een] at O
   cases DU O;rw[show kV (Sum.inl ((en.1:Nat):Int))=V.int ((en.1:Nat):Int) from rfl]
   have hm:=Ez een
   have hj:j < es.length:=(ET.mp een).1;show 49
   have sT:=a_.new (o:=.tup [V.int ((en.1:Nat):Int),V.ref en.2]) nT
   have S7:=S6.same sT
   have a7:=aw.kb S6.mst (KB.of sT)
   have k7:=k6.same sT;generalize (upd H6 T' (.tup [V.int ((en.1:Nat):Int),V.ref en.2]))=H7 at S7 a7 k7;show 4
   have cw:H7 en.2=some 126e6:=k7 _ _ (λz=>by
    rcases DH.mp z with y | y
    ·have:=aT en hm
     rw[y,a2] at this;show 8
    ·rcases S5.mst _ y with ⟨xs,w⟩ | ⟨xs,w⟩ <;> rw[aT en hm] at w <;> cases w) (aT en hm)
   obtain⟨_,J,U,_⟩:=id a7;refine #[_,rfl,.inl #[rfl,_,b_.of U],_,rfl,_,rfl,ro,dx,_,rfl,S7.sG _ _ C,rfl,_,rfl,_,rfl,G,R,ro,en.2,en.1,ej,Y,_,_,rfl,S7,I4.lt en hm,by omega,cw,(oK _ _ _ _).imp λh=>Ea h,dc en.1,λH8 pl b5 e8 S8 eg k8 ds c8 d0 dq=>Θo]
   have st:=a_.new (o:=.tup [.int ((en.1:Nat):Int),.ref pl]) nt
   have ht:(upd H8 t ιD) t=some 46e3:=ab;generalize (upd H8 t (.tup [.int ((en.1:Nat):Int),.ref pl]))=H9 at st ht
   have S9:=S8.same st
   have df:=(a7.kb S7.mst k8).kb S8.mst (KB.of st);obtain⟨ef,a4,db,dd⟩:=df.snoc (en:=(en.1,b5)) ht (c8.same st) (al U ds).symm
   have bt:pe.length<=j:=by
    have:=congrArg Kv g;rw[o_,o_,Hu] at this;omega
   refine #[PL,_,_,rfl,rfl,a4,by rw[o_,db];exact Ih bt (Fg (by omega:j < 100) ε),?_]
   refine #[εo,λb u nb z=>?_,e8,pe++[(en.1,b5)],S9.upL a4 a9 c3,by omega,dd,?_,λx hx=>?_]
   ·rw[ae λy=>nb (by rw[y];exact .head _)]
    exact st _ _ (k8 b u (λy=>nb (.tail _ y)) (k7 b u nb z))
   ·rw[FM,g,K0,een,FM]
    rfl
   ·rcases Fw.mp hx with hx | hx
    ·exact a0 x hx
    ·rw[Eu.mp hx]
     exact #[d0,dq]
  ·rintro σ H6 ⟨⟨v4,v5,rfl⟩,k6,ej,pe,S6,ck,aw,g,a0⟩
   refine #[_,.no rfl,?_]
   have lK:(EB es).length=es.length:=o_ _;rw[lK] at ck g;rw[Ks] at g
   have bt:pe.length=es.length:=by
    have:=congrArg Kv g
    rwa [o_,o_] at this
   have dB:(pe.map (·.1)).Nodup:=by rw[g];exact I4.n1
   have c2:∀x∈pe,x.1 < R.K.S:=λx hx=>by
    have:x.1∈es.map (·.1):=by rw[<- g];exact Fk.mpr #[x,hx,rfl]
    obtain⟨y,hy,e2⟩:=Fk.mp this;rw[<- e2];exact I4.lt y hy
   have p0:1<=pe.length:=by
    have ea:bs.length≠0:=λz=>ch (Rf.mp z)
    have:i / R.N∈es.map (·.1):=I4.all _ (RG (En.mpr #[IR i N0,by rw[gK];exact y_ _,by rw[gK];omega]))
    rw[<- g] at this
    have:=List.length_pos_of_mem this
    rwa [o_] at this
   obtain⟨_,eh,cy,dl,_⟩:=id aw;obtain⟨X6,cc,_⟩:=S6.rk;obtain⟨dF,a8⟩:=id cc.ins
   have l8:=cc.l8
   have l1:=S.I.L1;refine #[_,rfl,PL,_,rfl,.inl (b_.of cy),_,rfl,ro,_,_,_,_,rfl,S6.sG _ _ C,Ϥ,εK,cF R,εb,_,_,_,_,rfl,a8,ϛ,T.A61,mC R.K,pe.length,ε7,by rw[o_,dl],#[p0,by omega,l1,l8],?_]
   have hc:pe.length<=(μ3 / R.K.L+1) * R.K.L:=by
    have:=Nat.lt_mul_div_succ μ3 (show 0 < R.K.L from l1);rw[HI] at this;omega
   have cr:∀m,m < μ3 / R.K.L+1->m * R.K.L < pe.length:=λm hm=>by
    have h1:m * R.K.L<=μ3 / R.K.L * R.K.L:=RB _ γ
    have h2:=Nat.div_mul_le_self μ3 ε7;omega
   generalize (pe.length - 1) / R.K.L+1=c at hc cr;refine let I_:Nat->L2.St->Hp->Prop:=λm σ H'=>L2.A3 ((∃v6:Option V,σ=[some εE,some ζG,some ηy,some (.ref PL),v4,v5,v6])) (KB δy H6 H') (L2.E1 λem=>L2.A2 (EN a G H' R ro em (λs=>if s∈(pe.take ε8).map (·.1) then FA R ϊ6 ύN (Y s) else Y s)) (em<=e+72+18 * (pe.take ε8).length));xK (s:=ε7) (n:=c) I_ #[η4,KB.refl _ _,ej,by simpa using S6,by omega] ?_ ?_
   ·rintro m σ H7 hm ⟨⟨v6,rfl⟩,k7,em,S7,ce⟩
    have eb:=cr m hm;obtain⟨_,J,U,cv,c0⟩:=id (aw.kb S6.mst k7);obtain⟨X7,c1,_⟩:=S7.rk;obtain⟨dF,a8⟩:=id c1.ins;show 4
    refine #[_,rfl,ro,dx,_,rfl,S7.sG _ _ C,rfl,?_];refine #[_,rfl,_,rfl,_,rfl,_,rfl,_,rfl,ro,_,_,_,_,rfl,S7.sG _ _ C,Ϥ,εK,cF R,εb,_,_,_,_,rfl,a8,ϛ,T.A61,mC R.K,_,_,rfl,rfl,_,rfl,PL,_,rfl,b_.of U,λgl cs=>?_];rw[show ((m * R.K.L:Nat):Int)+((R.K.L:Nat):Int)=((m * R.K.L+R.K.L:Nat):Int) by omega,Nh (by rw[o_,cv];omega),← Se,← NS]
    have sg:=a_.new (o:=.lst (((J.drop ε8).take ε7).map Ϙ)) cs
    have b4:(upd H7 gl ΔU) gl=some 128e6:=ab;generalize (upd H7 gl (.lst (((J.drop (m * R.K.L)).take R.K.L).map V.ref)))=H8 at sg b4
    have S8:=S7.same sg
    have d4:gl∉R.ms a:=λz=>by
     rcases S7.mst gl z with ⟨xs,y⟩ | ⟨xs,y⟩ <;> rw[cs] at y <;> cases y
    have ad:pe.take ύO=pe.take ε8++(pe.drop ε8).take R.K.L:=by
     rw[Sd,List.take_add]
    have a6:((pe.take ε8).map (·.1)++((pe.drop ε8).take ε7).map (·.1)).Nodup:=by
     rw[<- FM,← ad,NS];exact dB.sublist οM
    have dr:FT δy H8 gl ((pe.drop ε8).take ε7):=⟨d4,(J.drop ε8).take ε7,b4,by rw[Hu,Hu,JT,JT,cv],λx t ex=>by
     rw[Qm] at ex ⊢
     split at ex
     ·next hx =>
      rw[NL] at ex;obtain⟨en,pl,e1,e2,e3,_⟩:=c0 _ t ex;exact #[en,pl,by rw[if_pos hx,NL];exact e1,sg _ _ e2,e3.same sg]
     ·cases ex⟩
    have l9:(pe.take ύO).length<=9:=by rw[Hu];omega
    rw[ad,Fn] at l9;refine #[G,R,ro,gl,em,_,λs=>FA R ϊ6 ύN (Y s),(pe.drop ε8).take ε7,rfl,S8,dr,by rw[Hu];omega,(KU.mp a6).2.1,λen an=>?_,by omega,λH9 e9 S9 ec k9=>?_]
    ·have b2:en∈pe:=Pj (L5 an)
     have hx:=a0 en b2;refine #[c2 en b2,hx.1,?_];show 6
     rw[if_neg (Ab a6 (Fk.mpr #[en,an,rfl]))];exact hx.2
    ·refine #[ϒ,k7.trans (KB.trans (KB.of sg) k9),e9,cast (congrArg (EN a G H9 R ro e9) (funext λs=>?_)) S9,by rw[ad,Fn];omega]
     rw[ad,FM]
     by_cases z:s∈((pe.drop ε8).take ε7).map (·.1)
     ·rw[if_pos z,if_pos (G0 _ z)]
     ·rw[if_neg z]
      by_cases w:s∈(pe.take ε8).map (·.1)
      ·show 380
      ·rw[if_neg w,if_neg λy=>(Fw.mp y).elim w z]
   ·rintro σ H7 ⟨⟨v6,rfl⟩,k7,em,S7,ce⟩
    rw[KD hc] at S7 ce
    have kF:KB δy H H7:=λb u nb z=>by
     have z2:=a5 _ _ z
     exact k7 b u nb (k6 b u (λy=>by
      rcases DH.mp y with w | w
      ·rw[w] at z
       rw[s1 _ _ z] at Z
       cases Z
      ·exact nb w) (k5 b u z2))
    refine #[_,rfl,q H7 em _ _ S7 γ kF λs k hs hk=>?_]
    by_cases z:s∈pe.map (·.1)
    ·rw[if_pos z,qP hk]
     rfl
    ·rw[if_neg z,if_neg λy=>z ?_]
     rw[g];exact I4.all s (RG y)
theorem DB.kp {bp fp:Addr} (h:ΨJ) (k:π5):DB a H' c bp fp r w n M N l:=by
 obtain⟨dx,Lp,qs,h1,h2,h3⟩:=h.ins;obtain⟨db,hb⟩:=h.blk.ins;obtain⟨df,hf⟩:=h.blk.fld;exact #[#[dx,Lp,qs,k _ _ εw h1,k _ _ dS h2,h3.len,λi p e=>k _ _ dS (h3.on i p e)],#[db,k _ _ (λ_ y=>by cases y) hb],df,k _ _ (λ_ y=>by cases y) hf]
theorem Eb.kp {tp:Addr}{d m:Nat}{qs:Ξ}{row:γR} (h:Ψw) (k:π5):Eb a H' p d n st tp qs m row :=
 #[h.sh.imp λ_ e=>k _ _ εw e,k _ _ dS h.tl,#[h.rows.len,h.rows.nd,λi p e=>k _ _ dS (h.rows.on i p e)],h.m0,h.len]
def Jd (n:Nat) (sh:Int):List Nat:=(ca n sh).map Pr
theorem Ci (h:ε6) (sh:Int):(ca n sh).map V.int=rowV (Jd n sh):=by
 unfold Jd rowV;rw[Fa];refine HR λx hx=>?_;obtain⟨y,_,rfl⟩:=Fk.mp ((hJ h sh).mem_iff.mp hx);rfl
theorem Cj (n:Nat) (sh:Int):(Jd n sh).length=n:=by unfold Jd ca;rw[o_,o_,Eo]
theorem C1 (h:ε6) (sh:Int):∀x∈Jd n sh,x < n:=λx hx=>by
 obtain⟨z,hz,rfl⟩:=Fk.mp hx;obtain⟨y,hy,rfl⟩:=Fk.mp ((hJ h sh).mem_iff.mp hz);exact EF.mp hy
theorem C2 (h:ε6) (sh:Int):(Jd n sh).Nodup:=by
 have p:=(hJ h sh).map Pr
 have e:(b7 n).map Pr=p_ n:=by
  unfold b7;rw[Fa];exact(HR λx _=>Fu x).trans (QM _)
 rw[e] at p;exact p.nodup_iff.mpr Kx
inductive fq (a:A_) (vs:δ) (H:Hp) (Q:VK) (E_3:XK):Prop
 | mk:∀(c bp fp sp tp:Addr) (r w n M N m e:Nat) (l:Nat->Nat->Nat) (qs:List Addr) (row:Nat->List Nat) (R:Rk) (ss:List V) (X:Nat->Nat->Option Int),vs=[.ref c,.ref sp,.ref R.rk]->DB a H c bp fp r w n M N l->Eb a H sp N (N+M) R.S tp qs m row->d_ a H R e ss X->R.P=N+M->Q .non H->fq a vs H Q E_3
theorem kT (T:μ):C_ P wo K mg base 1 a.f86 ["code", "shape", "rack"] (fq a):=by
 refine T.x86.F.okA (k:=0) kM ξ
 ·obtain⟨c,bp,fp,sp,tp,r,w,n,M,N,m,e,l,qs,row,R,ss,X,rfl,hC,hS,hR,hP,q⟩:=h
  obtain⟨dc,Lp,q1,hc,_,_⟩:=γT;obtain⟨ds,hs⟩:=hS.sh;obtain⟨dr,g⟩:=hR.ins
  have no:∀i j:Nat,i=j->¬ (!decide (V.int ((i:Nat):Int)=V.int ((j:Nat):Int)))=true:=λi j e=>by
   rw[e,decide_eq_true rfl];decide
  show 0
  show 1;refine xi (PW.pt (bb Θs (ba Θs))) ?_
  show 3
  show 27;refine xi (PW.pt (bb Θt (ba Θt))) ?_
  show 3
  show 2;refine #[_,rfl,c,_,_,_,_,rfl,hc,ϑ,εJ,dD _ _ _ _,_,rfl,sp,_,_,_,_,rfl,hs,γk,T.A55,mE _ _ _ _,rfl,_,rfl,?_];refine c_ ρP ι;refine #[_,rfl,c,_,_,_,_,rfl,hc,ϑ,ηK,eG _ _ _ _,_,rfl,sp,_,_,_,_,rfl,hs,γk,T.A60,i9 _ _ _ _,rfl,_,rfl,?_];refine c_ ρP ι;refine #[_,rfl,R.rk,_,_,_,_,rfl,g,ϛ,T.A74,qC R,_,rfl,sp,_,_,_,_,rfl,hs,γk,T.A60,i9 _ _ _ _,rfl,_,rfl,?_];refine c_ (λy=>absurd y (no _ _ hP)) ι;refine #[_,rfl,R.rk,_,_,_,_,rfl,g,ϛ,T.A81,og R,_,rfl,sp,_,_,_,_,rfl,hs,γk,T.A66,lN _ _ _ _,rfl,_,rfl,?_];exact c_ ρP ζ7
inductive ku (a:A_) (vs:δ) (H:Hp) (Q:VK) (E_3:XK):Prop
 | mk:∀(R:Rw) (ro dx:Addr) (e:Nat) (ss:List V) (X:Nat->Nat->Option Int),vs=[.ref ro,.ref R.c,.ref R.sp,.ref R.K.rk]->H ro=some (.ins a.C_Row dx [])->DB a H R.c R.bp R.fp R.r R.w R.n R.M R.N R.l->Eb a H R.sp R.N (R.N+R.M) R.K.S R.tp R.qs R.m R.row->d_ a H R.K e ss X->R.K.P=R.N+R.M->Q .non (upd H ro (.ins a.C_Row dx (G1 R)))->ku a vs H Q E_3
theorem lT (T:μ):C_ P wo K mg base 2 a.f87 ["self", "code", "shape", "rack"] (ku a):=by
 refine T.x87.F.okA (k:=1) uW ξ
 ·obtain⟨R,ro,dx,e,ss,X,rfl,g,hC,hS,hR,hP,q⟩:=h
  show 0
  exists xc (aF (aH (kT T) hr.u rfl T.x86.m T.x86.k T.x86.b .nil aj νw))
  show 38
  show 61
  exists xl τt
  refine #[_,rfl,_,rfl,_,rfl,R.c,R.bp,R.fp,R.sp,R.tp,R.r,R.w,R.n,R.M,R.N,R.m,e,R.l,R.qs,ιc,R.K,ss,X,rfl,hC,hS,hR,hP,?_];refine #[_,rfl,_,rfl,ro,γa,dx,_,rfl,g,Ϥ,T.A58,ε,?_]
  refine #[_,rfl,_,rfl,ro,γa,dx,_,rfl,ab,Ϥ,ηP,η9,?_]
  refine #[_,rfl,_,rfl,ro,γa,dx,_,rfl,ab,Ϥ,εK,ηa,?_]
  show 143;exact q
theorem Ck (R:Rw):KH R (Ee ζj 0):=⟨IG,λb hb=>by
 rw[Rv hb];exact LZ ύb,(tU IG).mpr λt _=>by
 rw[GF.D9 (G:=λ_=>0) _ λj hj=>?_,GF.FR];rw[t_,IE,if_pos hj]
 exact GF.ND⟩
theorem cL {dx:Addr}{o0 o1:HO} (nx:οS) (ndx:H dx=none):a_ H (upd (upd H dx o0) x o1):=λy o e=>by
 rw[ae ψl,ae (al e ndx)];exact e
theorem G8.same {a:A_}{G G':Hp}{R:Rw} (I:θV) (s:a_ G G') (no:∀x∈R.ms a,G' x=none):G8 a G' R:=#[I.code.same s,εW,I.n16,I.W,I.sh.same s,I.nd,I.lt,I.P,I.L1,no]
inductive Bw (a:A_) (vs:δ) (H:Hp) (Q:VK) (E_3:XK):Prop
 | mk:∀(nl:Addr) (r n N M S L:Nat) (st:Int),vs=[.ref nl]->H nl=some (.lst [.int r,.int n,.int N,.int M,.int S,.int L,.int st])->GF.Et r r.log2->1<=n->n<=16->1<=N->1<=M->M<=2->N+M<=8->1<=S->S<=32->1<=L->L<=8->st.natAbs < 1267650600228229401496703205376->Ju a H->(∀H' G R ro,a_ H H'->EN a G H' R ro 0 (λ_=>Ee (N+M) 0)->R.N=N->R.K.S=S->R.w=r.log2->R.n=n->(∀x∈R.ms a,H x=none\/∃ps,H x=some δT)->Q εE H')->Bw a vs H Q E_3
theorem C3 (T:μ):C_ P wo K mg base 5 a.f101 ["_law_numbers_here"] (Bw a):=by
 refine T.x101.F.okA (k:=4) II ξ
 ·obtain⟨nl,r,n,N,M,S,L,st,rfl,c2,full,n1,n16,N1,M1,M2,NM,S1,a1,L1,L8,c0,tb,q⟩:=h
  show 0
  exists xc (cG ο (BO rfl (aK (ar (i:=1) ζi rfl ζ) (aK (ar (i:=2) ζi rfl ζ) (aK (ar (i:=3) ζi rfl ζ) (aK (ar (i:=4) ζi rfl ζ) (aK (ar (i:=5) ζi rfl ζ) (aK (ar (i:=6) ζi rfl ζ) (aK (ar (i:=7) ζi rfl ζ) bM)))))))))
  exists xc (au (i:=8) ζi rfl 0e3 (cZ T.Ab4 (tT T) hr.u rfl T.m_Code T.x22.b .nil aj (aa (cZ T.Ac4 (o6 T) hr.u rfl T.m_Blocks T.x14.b .nil aj (aa (cZ T.Ab9 (rq T) hr.u rfl T.m_Field T.x0.b .nil aj γ9) γH)) (aa (aH (mz T) hr.u rfl T.x53.m T.x53.k T.x53.b .nil aj ΨI) ac))))
  exists xc (au (i:=9) ζi rfl 0e3 (cZ T.Ad5 (rD T) hr.u rfl T.m_Shape T.x65.b .nil aj (aa ϊ (aa τB (aa γf (aa (aH (rE T) hr.u rfl T.x62.m T.x62.k T.x62.b .nil aj (aa τB ηn)) ac))))))
  exists xl (ax (cZ T.A97 (lT T) hr.u rfl T.m_Row T.x87.b .nil aj (aa μY (aa (pv 9) (aa (cZ T.Ab5 (tY T) hr.u rfl T.m_Rack T.x71.b .nil aj (aa τB (aa γf μS))) ac)))))
  refine #[_,rfl,nl,_,rfl,b_.of c2,rfl,_,_,rfl,_,_,rfl,_,_,rfl,_,_,rfl,_,_,rfl,_,_,rfl,_,_,rfl,rfl,?_];show 4
  have D:=full.toGood
  have W:Gv δx M N plainL:=zt D.top16 M1 M2 N1 NM;refine #[_,rfl,λfp df b5 c1 dl=>#[fp,df,r,δx,rfl,ab,D,rfl,?_]];rw[aP]
  have s1:=cL (o0:=.own fp) (o1:=.ins γr df ϐ5) b5 c1
  have hF:DN γr (upd (upd H df (.own fp)) fp (.ins γr df ϐ5)) fp r r.log2:=#[df,ab];generalize (upd (upd H df (.own fp)) fp (.ins a.C_Field df (ff r r.log2)))=H1 at s1 hF;refine #[_,rfl,λb db nb aT dq=>#[b,db,fp,r,δx,n,rfl,ab,hF.same (cL nb aT),?_,D,n1,n16,rfl,?_]]
  ·obtain⟨d,e⟩:=hF
   exact(al e nb).symm
  rw[aP]
  have s2:=cL (o0:=.own b) (o1:=.ins γy db ύc) nb aT
  have hB:DV a (upd (upd H1 db (.own b)) b (.ins γy db ύc)) b fp r δx n:=#[#[db,ab],hF.same s2];generalize (upd (upd H1 db (.own b)) b (.ins a.C_Blocks db (bf fp r.log2 n)))=H2 at s2 hB;refine #[_,rfl,_,rfl,N,M,rfl,M1,M2,by omega,λWL H3 ps s3 b3 b2=>?_]
  refine λc dc nc b6 dB=>?_
  have s4:=cL (o0:=.own c) (o1:=.ins γe dc []) nc b6;refine #[c,dc,b,fp,WL,r,δx,n,M,N,ps,ηV,rfl,ab,(hB.same s3).same s4,D,s4 _ _ b3,b2.same s4,W,λH4 k4 ch=>ο4]
  have b4:a_ H3 H4:=λy o e=>k4 y o (al e nc) (s4 _ _ e)
  have cc:=((s1.trans s2).trans s3).trans b4;show 4
  have a3:(N:Int)+(M:Int)=((N+M:Nat):Int):=by omega
  refine #[_,rfl,_,rfl,_,rfl,_,_,rfl,rfl,_,rfl,_,rfl,_,rfl,_,_,rfl,rfl,_,rfl,?_];show 6
  rw[a3];refine #[N+M,st,rfl,by omega,NM,c0,λTL cv H5 dr s5 cs ce d0 ds=>?_]
  refine λsp U a0 bt c8=>?_
  have s6:=cL (o0:=.own sp) (o1:=.ins γs U []) a0 bt
  have G:0 < N+M:=by omega
  refine #[sp,U,TL,N,N+M,S,N+M,cv,λj=>ca (N+M) μ4,rfl,ab,by omega,NM,N1,by omega,by omega,S1,a1,by omega,by omega,s6 _ _ cs,ce.same s6,λj _=>hJ G _,λtp qs H7 k7 cy ck O dF dV dd=>ο4]
  have cw:a_ H5 H7:=λy o e=>k7 y o (al e a0) (s6 _ _ e)
  have a5:Eb a H7 sp N (N+M) S tp qs (N+M) (λj=>Jd (N+M) μ4):=#[#[U,cy],ck,#[O.len,O.nd,λj p e=>(O.on j p e).trans (by rw[Ci G])],G,λj _=>Cj _ _]
  have a9:=s5.trans cw
  have aw:=cc.trans a9
  have a4:=ch.same a9;show 4
  refine #[_,rfl,_,rfl,_,rfl,_,rfl,_,_,rfl,rfl,_,rfl,_,rfl,?_];show 6
  rw[a3];refine λrk a8 a2 b0 c3=>?_
  have s8:=cL (o0:=.own rk) (o1:=.ins ϖ a8 []) a2 b0;refine #[rk,a8,N+M,S,L,rfl,ab,by omega,NM,S1,a1,L1,L8,λRK H8 e1 e2 e3 e4 k8 a6 cr=>ο4]
  have Z:a_ H7 H8:=λy o e=>k8 y o (al e a2) (s8 _ _ e);subst e1 e3 e4;refine λx dx nx a7 dW=>?_
  have s9:=cL (o0:=.own x) (o1:=.ins γa dx []) nx a7
  have b1:=a6.same s9;refine #[#[c,b,fp,sp,tp,qs,r,δx,n,M,N,N+M,ηV,λj=>Jd (N+M) μ4,RK],x,dx,0,_,_,rfl,ab,(a4.same Z).same s9,(a5.same Z).same s9,b1,e2,rfl,?_];rw[aP];generalize g:(⟨c,b,fp,sp,tp,qs,r,r.log2,n,M,N,N+M,plainL,λj=>Jd (N+M) (st * (j:Nat)),RK⟩:Rw)=R
  have Y:=cL (o0:=.own x) (o1:=.ins γa dx (G1 R)) nx a7
  have hx:(upd (upd H8 dx ηT) x νU) x=some 60e4:=ab
  have J:=a6.same Y;generalize (upd (upd H8 dx (.own x)) x (.ins a.C_Row dx (G1 R)))=H10 at Y hx J
  have ad:=Z.trans Y
  have C:=aw.trans ad
  have bm:Ju a H10:=#[tb.o.keep C,tb.n.keep C,tb.r.keep C,tb.on,tb.or,tb.nr]
  have an:∀y∈R.ms a,(y∈RK.lists/\H7 y=none)\/∃ps,H y=some 16e9:=λy hy=>by
   have hl:∀z∈RK.lists,(z∈RK.lists/\H7 z=none)\/∃ps,H z=some (.tbl ps):=λz hz=>.inl ⟨hz,s8.free (cr z hz)⟩;rw[<- g] at hy;unfold Rw.ms at hy;rcases DH.mp hy with rfl | hy
   ·exact hl _ δO
   rcases DH.mp hy with rfl | hy
   ·exact hl _ Ψ8
   rcases DH.mp hy with rfl | hy
   ·exact .inr (tb.o.imp λ_ z=>z.1)
   rcases DH.mp hy with rfl | hy
   ·exact .inr (tb.n.imp λ_ z=>z.1)
   rcases DH.mp hy with rfl | hy
   ·exact .inr (tb.r.imp λ_ z=>z.1)
   rcases DH.mp hy with rfl | hy
   ·exact hl _ ωx
   ·exact hl _ (.tail _ (.tail _ (.tail _ hy)))
  have kp:Kp H7 94e3:=λy o nt z=>by
   rw[bF λw=>?_]
   ·exact ad _ _ z
   ·rcases an y w with ⟨_,w⟩ | ⟨ps,w⟩
    ·rw[w] at z;cases z
    ·rw[aw _ _ w] at z;exact nt _ (DU z).symm
  have gx:bc δy H10 x=some 60e4:=by
   rw[bF λw=>?_]
   ·exact hx
   ·rcases an x w with ⟨w,_⟩ | ⟨ps,w⟩
    ·obtain⟨xs,w⟩:=J.isLst w
     rw[w] at hx;cases hx
    ·rw[C _ _ w] at hx;cases hx
  have I:G8 a υn R:=by
   subst g;exact #[a4.kp kp,full,n16,W,a5.kp kp,λj _=>C2 G _,λj _=>C1 G _,e2,L1,λy hy=>cn hy]
  refine q H10 υn R x C #[#[dx,gx],I,je _ _,#[λ_ _=>some 0,?_,λs hs=>?_],bm] ξM ξM ξM ξM λy hy=>?_
  ·rw[<- g];exact J
  ·have e:N+M=R.N+R.M:=by rw[<- g]
   show 11;rw[e];refine #[Ck R,λk hk=>?_];rw[t_,IE,if_pos hk];rfl
  ·rcases an y hy with ⟨_,w⟩ | w
   ·exact .inl (aw.free w)
   ·exact .inr w
variable {α:Type}
theorem rM {F:ψG}{G:Prop} (Pz:ψG) (h:ϊZ) (key:ύE):G:=h key
inductive wL (vs:δ) (H:Hp) (Q:VK) (E_3:XK):Prop
 | mk:∀x:Int,vs=[.int x,.int x]->Q (.bl true) H->wL vs H Q E_3
theorem uG (T:μ):C_ P wo K mg base 1 a.f99 ["_law_found", "_law_due"] wL:=by
 refine T.x99.F.okA (k:=0) AD ξ
 ·obtain⟨x,rfl,q⟩:=h
  show 0
  exists xl (ax (rO (aC si rfl T.A76 υJ (aa ο (aa (u5 (v:=.ty "int") rfl T.Ad3 γu rfl) ac))) (rO (xR (aC si rfl T.A76 υJ (aa ο (aa (u5 (v:=.ty "bool") rfl T.Ac0 γu rfl) ac)))) (mM (d7 bT ο Θ ψ)))))
  refine #[_,rfl,_,_,_,_,rfl,.int _,Ak _ _,_,rfl,GI ?_];refine #[_,rfl,_,_,_,_,rfl,.int _,sj _,_,rfl,_,rfl,GI ?_];refine #[_,rfl,_,rfl,rfl,?_]
  show Q (.bl (decide (V.int x=V.int x))) H
  show 339;exact q
def blkN (c:Int) (k L:Nat):Nat:=(πP % (L:Int)).toNat
theorem Cm {c:Int}{k L:Nat} (h:0 < L):blkN c k L < L:=by
 unfold blkN
 have h1:=Rj πP (show (0:Int) < (L:Int) by omega)
 generalize ((c+7919 * (k:Int)) % (L:Int) * ((2:Int) ^ (61:Int).toNat - 1)+(c+7919 * (k:Int)) % (L:Int) / 3+(k:Int)) % (L:Int)=z at h1;omega
inductive wM (vs:δ) (H:Hp) (Q:VK) (E_3:XK):Prop
 | mk:∀(c:Int) (k L:Nat),vs=[.int c,.int k,.int L]->0 < L->Q (.int ((blkN c k L:Nat):Int)) H->wM vs H Q E_3
theorem A7 (T:μ):C_ P wo K mg base 1 a.f102 ["_law_cell", "_law_k", "_law_limit_here"] wM:=by
 refine T.x102.F.okA (k:=0) OB ξ
 ·obtain⟨c,k,L,rfl,h0,q⟩:=h
  have hp:(0:Int) < (L:Int):=by omega
  show 0
  exists xc (au (i:=3) OB.nd rfl 0e3 (ay bd (ay aW ο όk) Ω))
  exists xl (ax (ay bd (ay aW (ay aW (ay cH ϊ (ay eY ϐ6 ai)) (ay bO ϊ ai)) Θ) Ω))
  refine #[_,rfl,_,rfl,_,_,rfl,rfl,.inl γW,_,_,rfl,rfl,_,rfl,_,_,rfl,rfl,p0 hp,?_]
  refine #[_,rfl,_,_,rfl,rfl,ΞR,_,_,rfl,rfl,_,_,rfl,rfl,.inr γW,_,rfl,_,_,rfl,rfl,γW,_,_,rfl,rfl,_,rfl,_,_,rfl,rfl,_,rfl,_,_,rfl,rfl,p0 hp,?_]
  have e:=Int.toNat_of_nonneg (QF πP (show (L:Int)≠0 by omega))
  exact(congrArg (λz=>Q (.int z) H) e).mp q
inductive wN (vs:δ) (H:Hp) (Q:VK) (E_3:XK):Prop
 | mk:∀(nl:Addr) (r w n:Nat) (xs:List V),vs=[.ref nl]->H nl=some (.lst (.int r :: .int n :: xs))->GF.Good r w->n<=16->Q (.int (((2 ^ w) ^ n:Nat):Int)) H->wN vs H Q E_3
theorem A8 (T:μ):C_ P wo K mg base 1 a.f103 ["_law_numbers_here"] wN:=by
 refine T.x103.F.okA (k:=0) KF ξ
 ·obtain⟨nl,r,w,n,xs,rfl,g,R,J,q⟩:=h
  have O:=R.top16
  have G:=R.top256
  show 0
  exists xc (au (i:=1) KF.nd rfl 0e3 ai)
  show 1;refine xw ϗ (am rH όz (aE aG ο ai γ0) ψ) ?_
  exists xl (au (i:=1) KF.nd rfl 0e3 όz)
  show 5
  exists xc (au (i:=2) KF.nd rfl 0e3 ai)
  show 1;refine xf ϗ rfl (aY rfl T.A07 ΘX) (ar (i:=3) KF.nd rfl ζ) ?_
  exists xl (au (i:=2) KF.nd rfl 0e3 (ay cH Ω Θ))
  show 5
  show 47
  refine #[λm σ H'=>∃t:Nat,m=w - t/\σ=[some (.ref nl),some Ωr,none,none]/\H'=H/\t<=w,#[_,4,rfl,rfl,rfl,R.w4],?_];rintro m σ H' ⟨t,rfl,rfl,rfl,ht⟩
  have e2:((2 ^ t:Nat):Int) * 2=((2 ^ (t+1):Nat):Int):=by rw[Hk];omega
  refine #[_,rfl,_,_,rfl,rfl,.inr γW,_,rfl,nl,_,_,_,rfl,rfl,b_.of g,aB (j:=0) rfl,_,_,rfl,rfl,_,rfl,?_]
  show 6
  rw[e2];refine c_ νD δF
  ·have h':=of_decide_eq_true h
   have D:t < w:=(GF.IA R.rule ht).mp (by rw[<- Hk];omega)
   refine #[_,rfl,_,_,rfl,rfl,.inr γW,?_]
   show 6
   rw[e2];exact #[w - (t+1),by omega,t+1,rfl,rfl,rfl,D]
  ·have C:t=w:=by
    refine Classical.byContradiction λz=>h (decide_eq_true ?_)
    have:=(GF.IA R.rule ht).mpr γ
    rw[<- Hk] at this;omega
   subst C;refine #[_,rfl,nl,_,_,_,rfl,rfl,b_.of g,aB (j:=1) rfl,_,rfl,by omega,by omega,?_]
   rw[Fu];refine let I_:Nat->L2.St->Hp->Prop:=λi σ H2=>L2.E1 λ(v:Option V)=>L2.A2 (σ=[some (.ref nl),some Ωr,some (.int (((2 ^ t) ^ i:Nat):Int)),v]) (H2=H');cb (lo:=0) (n:=n) I_ ϋL ?_ ?_
   ·rintro i σ H' hi ⟨v,rfl,rfl⟩
    refine #[_,rfl,_,rfl,_,_,rfl,rfl,.inr εZ,?_]
    refine #[some ϋB,?_,rfl];rw[Hk,Ma];rfl
   ·rintro σ H' ⟨v,rfl,rfl⟩
    exact ώN
inductive qQ (K:n_) (vs:δ) (H:Hp) (Q:VK) (E_3:XK):Prop
 | mk:∀(sa:Addr) (ns:List Int),vs=[.ref sa]->b_ K H sa (ns.map V.int)->(∀(D:Addr) (H':Hp) (r n N M S L:Nat) (st:Int),a_ H H'->H D=none->H' D=some (.lst [.int r,.int n,.int N,.int M,.int S,.int L,.int st])->GF.Et r r.log2->1<=n->n<=16->1<=N->1<=M->M<=2->N+M<=8->1<=S->S<=32->1<=L->L<=8->st.natAbs < 1267650600228229401496703205376->Q (.ref D) H')->qQ K vs H Q E_3
theorem xM (T:μ):C_ P wo K mg base 2 a.f100 ["_law_script"] (qQ K):=by
 refine T.x100.F.okA (k:=1) HL ξ
 ·obtain⟨sa,ns,rfl,hS,q⟩:=h
  show 0
  refine @xc _ _ _ _ _ πJ ?_
  show 5;refine @xc _ _ _ _ _ (@au _ _ 2 _ _ _ _ εT rfl 0e3 (@aE _ _ _ _ _ _ _ aG (@bo _ _ _ _ (@vB _ _ [19,25,37,59,67,103,137,203,285,355,425,501] γg)) (ay bd Θ ai) γ0) εq (by first | exact .inl rfl | exact .inr rfl)) ?_
  show 5;refine @xc _ _ _ _ _ (@au _ _ 3 _ _ _ _ εT rfl 0e3 Ξd εq (by first | exact .inl rfl | exact .inr rfl)) ?_
  show 5;refine @xc _ _ _ _ _ (@rG _ _ _ _ _ _ _ _ Θu (@fW _ _ _ (@au _ _ 3 _ _ _ _ εT rfl 0e3 ai εq (by first | exact .inl rfl | exact .inr rfl))) az) ?_
  show 382
  show 5;refine @xc _ _ _ _ _ (@au _ _ 4 _ _ _ _ εT rfl 0e3 Ψn εq (by first | exact .inl rfl | exact .inr rfl)) ?_
  show 5;refine @xc _ _ _ _ _ (@au _ _ 5 _ _ _ _ εT rfl 0e3 (ay aW ai (ay bd ωa (ay eY ai γ6))) εq (by first | exact .inl rfl | exact .inr rfl)) ?_
  show 5;refine @xc _ _ _ _ _ (@au _ _ 6 _ _ _ _ εT rfl 0e3 Ξd εq (by first | exact .inl rfl | exact .inr rfl)) ?_
  show 5;refine @xc _ _ _ _ _ (@rG _ _ _ _ _ _ _ _ Θu (@fW _ _ _ (@au _ _ 6 _ _ _ _ εT rfl 0e3 ai εq (by first | exact .inl rfl | exact .inr rfl))) az) ?_
  show 382
  show 5;refine @xc _ _ _ _ _ (@au _ _ 7 _ _ _ _ εT rfl 0e3 (ay bd ωa ϐ6) εq (by first | exact .inl rfl | exact .inr rfl)) ?_
  show 5;refine @xc _ _ _ _ _ (@rG _ _ _ _ _ _ _ _ ΞL (@fW _ _ _ (@au _ _ 7 _ _ _ _ εT rfl 0e3 (ay eY ai ζk) εq (by first | exact .inl rfl | exact .inr rfl))) az) ?_
  show 5;refine #[_,(@fW _ _ _ (ax (@bo _ _ _ _ (aa Ω (aa ϊ (aa γf (aa γ6 (aa δ8 (aa Ψn ηn))))))))),?_];refine #[_,rfl,sa,ns,0,rfl,hS,?_];generalize cell ns 0=c0;refine #[ε,λp1 n1=>?_]
  have s1:=a_.new (o:=.lst (Iv.map λn:Nat=>V.int n)) n1;obtain⟨d,hd,ed⟩:∃d:Nat,d < 12/\c0 % 12=(d:Int):=#[(c0 % 12).toNat,by omega,by omega]
  have e1:(Iv.map λn:Nat=>V.int n)[d]?=some (V.int ((Iv.getD d 0:Nat):Int)):=by
   rw[DO,t_,s_ (show d < Iv.length from hd)];rfl
  refine #[_,rfl,_,_,rfl,rfl,p0 ε,p1,(Iv.map λn:Nat=>V.int n),c0 % 12,_,rfl,rfl,b_.of ab,(by rw[ed];exact aB e1),?_]
  have full:=AE d hd;generalize Iv.getD d 0=r at full
  have s1:a_ H (upd H p1 (.lst (Iv.map λn:Nat=>V.int n))):=s1;show 4
  have s1:a_ H (upd H p1 (.lst [V.int 19,V.int 25,V.int 37,V.int 59,V.int 67,V.int 103,V.int 137,V.int 203,V.int 285,V.int 355,V.int 425,V.int 501])):=s1;generalize (upd H p1 (.lst [V.int 19,V.int 25,V.int 37,V.int 59,V.int 67,V.int 103,V.int 137,V.int 203,V.int 285,V.int 355,V.int 425,V.int 501]))=H1 at s1;obtain⟨y,hy,ey⟩:=F5 (c0 / 12) (n:=4) ε
  have ey:c0 / 12 % 4=(y:Int):=ey;refine Γd
  show 6
  rw[ey,show (1:Int)+(y:Int)=((1+y:Nat):Int) by omega]
  show 4
  refine rM (λn:Nat=>1<=n/\n<=16) (λg=>by
   refine Γj
   show 107
   ·generalize aT:1+y=n0
    exact g n0 εZ
   ·exact g 16 γW) ?_
  rintro n ⟨ad,J⟩;refine #[_,rfl,sa,ns,1,rfl,s1.seq hS,?_];generalize cell ns 1=c1;show 4
  obtain⟨y1,a2,C⟩:=F5 c1 (n:=2) ε
  have C:c1 % 2=(y1:Int):=C;refine #[_,rfl,_,_,rfl,rfl,p0 ε,_,_,rfl,rfl,?_]
  show 6
  rw[C,show (1:Int)+(y1:Int)=((1+y1:Nat):Int) by omega]
  obtain⟨M,hM⟩:∃M,1+y1=M:=ϒ;rw[hM];show 4
  obtain⟨y2,a3,Y⟩:=F5 (c1 / 2) (n:=8 - M) γ
  refine #[_,rfl,_,_,rfl,rfl,γW,_,rfl,_,_,rfl,rfl,_,_,rfl,rfl,p0 γ,_,_,rfl,rfl,?_]
  show 6
  rw[show (8:Int) - (M:Int)=((8 - M:Nat):Int) by omega,Y,show (1:Int)+(y2:Int)=((1+y2:Nat):Int) by omega]
  obtain⟨N,hN⟩:∃N,1+y2=N:=ϒ;rw[hN];show 4
  obtain⟨y3,a0,j⟩:=F5 (c1 / 14) (n:=6) ε
  have j:c1 / 14 % 6=(y3:Int):=j;refine Γd
  show 6
  rw[j,show (1:Int)+(y3:Int)=((1+y3:Nat):Int) by omega]
  show 4
  refine rM (λn:Nat=>1<=n/\n<=32) (λg=>by
   refine Γj
   show 107
   ·generalize aw:1+y3=S0
    exact g S0 εZ
   ·exact g 32 γW) ?_
  rintro S ⟨R,O⟩;refine #[_,rfl,sa,ns,2,rfl,s1.seq hS,?_];generalize cell ns 2=c2;show 4
  have U:(10:Int) ^ (28:Int).toNat=10000000000000000000000000000:=by decide
  refine #[_,rfl,_,_,rfl,rfl,γW,_,_,rfl,rfl,ΞR,_,_,rfl,rfl,p0 ε,?_]
  show 6
  rw[U];show 4
  refine rM (λz:Int=>z.natAbs < 1267650600228229401496703205376) (λg=>by
   refine ιA
   show 107
   ·generalize an:c2 / 8 % 10000000000000000000000000000=st0
    exact g st0 γ
   ·exact⟨_,rfl,_,_,rfl,rfl,g (0 - c2 / 8 % 10000000000000000000000000000) γ⟩) ?_
  intro st Z;obtain⟨y4,a1,G⟩:=F5 c2 (n:=8) ε
  have G:c2 % 8=(y4:Int):=G;refine #[_,rfl,_,rfl,_,rfl,_,rfl,_,rfl,_,rfl,_,_,rfl,rfl,p0 ε,_,_,rfl,rfl,_,rfl,(show 7<=sizeLine by decide),λD nD=>?_]
  show 6
  rw[G,show (1:Int)+(y4:Int)=((1+y4:Nat):Int) by omega]
  exact q D _ r n N M S (1+y4) st (s1.trans οb) χr ab full ad J γ γ γ γ R O γ γ Z
def Jh (row:η):Dt:=.lst (row.map λn=>.int ((n:Nat):Int))
theorem qS (h:H p=some όm):l_ K H γE (Jh row):=by
 unfold Jh;rw[l_];refine #[p,_,rfl,b_.of h,tR (by rw[ap,o_]) λi v d h1 h2=>?_]
 obtain⟨x,ex,rfl⟩:=bh h1;rw[DO,ex] at h2
 have:=DU h2;show 14;rw[l_]
theorem A9 (row:η):Fc (Jh row)<=60:=by
 unfold Jh;rw[Fc]
 have:c6 (row.map λn=>Dt.int ((n:Nat):Int))<=0:=tS λd hd=>by
  obtain⟨n,_,rfl⟩:=Fk.mp hd;rw[Fc]
  ·exact EO _
  all_goals (intro _ h;cases h)
 omega
def Gu (R:Rw) (Y:γR):List V:=rowV ((p_ ϐ7).map λi=>(Y οF).getD (i % R.N) 0)
theorem ga (R:Rw) (Y:γR):(Gu R Y).length=R.N * R.K.S:=by unfold Gu;rw[ap,o_,Eo]
theorem iS (h:i < R.N * R.K.S):(Gu R Y)[i]?=some (.int (((Y οF).getD (i % R.N) 0:Nat):Int)):=by
 unfold Gu rowV;rw[DO,DO,F1 h];rfl
theorem Cn {Y':γR}{bs:η} (N0:0 < R.N) (hle:i+bs.length<=R.N * R.K.S) (h:∀s k,s < R.K.S->k < R.N->(Y' s).getD k 0=if k∈Gd R.N i μU s then G6 R.N i bs s k else (Y s).getD k 0):(Gu R Y).take i++rowV bs++(Gu R Y).drop ϐ8=Gu R Y':=by
 have l1:((Gu R Y).take i).length=i:=by rw[Hu,ga];omega
 have l2:((Gu R Y).take i++rowV bs).length=i+bs.length:=by rw[Fn,l1,ap]
 apply GZ
 intro j
 by_cases hj:j < R.N * R.K.S
 ·have hs:j / R.N < R.K.S:=NY hj
  have hk:j % R.N < R.N:=IR _ N0
  have e:j / R.N * R.N+j % R.N=j:=by rw[HI];exact O2 j R.N
  rw[iS hj,h _ _ hs hk]
  by_cases h1:j < i
  ·rw[if_neg λz=>by have:=(En.mp z).2;omega,MW,Ht γ,Qm,if_pos h1,iS hj]
  ·by_cases h2:j < i+bs.length
   ·rw[if_pos (En.mpr #[hk,by omega,by omega]),Ht γ,HU γ,l1]
    unfold rowV G6;rw[e,DO,t_,s_ γ]
    rfl
   ·rw[if_neg λz=>by have:=(En.mp z).2;omega,HU γ,l2,NL,show i+bs.length+(j - ϐ8)=j by omega,iS hj]
 ·rw[show (Gu R Y')[j]?=none from Fh ό1]
  exact Fh (by rw[Fn,l2,JT,ga];omega)
theorem EN.fresh (h:ζx) (n:οS):x∉R.ms a:=λz=>by
 rcases h.mst x z with ⟨xs,y⟩ | ⟨xs,y⟩ <;> rw[n] at y <;> cases y
inductive wO (a:A_) (vs:δ) (H:Hp) (Q:VK) (E_3:XK):Prop
 | mk:∀(G:Hp) (R:Rw) (ro tl so:Addr) (i e:Nat) (Y:Nat->List Nat) (bs:List Nat),vs=[.ref ro,.ref tl,.int i,.ref so]->EN a G H R ro e Y->H tl=some (.lst (Gu R Y))->tl∉R.ms a->G tl=none->H so=some (.lst (rowV bs))->so∉R.ms a->tl≠so->bs≠[]->bs.length<=9->i+bs.length<=R.N * R.K.S->((∀b∈bs,b < (2 ^ R.w) ^ R.n))->e<=7000->(∀H' e' Y',EN a G H' R ro e' Y'->e'<=e+234->H' tl=some (.lst (Gu R Y'))->Q (.bl true) H')->wO a vs H Q E_3
theorem C4 (T:μ) (B:εf):C_ P wo K mg base 16 a.f104 ["_law_row_here", "_law_truth", "_law_at", "_law_some"] (wO a):=by
 refine T.x104.F.okA (k:=15) OA ξ
 ·obtain⟨G,R,ro,tl,so,i,e,Y,bs,rfl,S,aw,an,a5,U,a3,a6,a0,h9,aT,a9,he,q⟩:=h
  obtain⟨dx,bt⟩:=S.ro
  have a2:R.K.S<=32:=by obtain⟨X,z,_⟩:=S.rk;exact z.s32
  show 106
  have N0:=S.I.W.n1
  have b1:R.N * R.K.S<=8 * 32:=QX γ a2
  show 0
  exists xc (au (i:=4) OA.nd rfl 0e3 ρd)
  exists xc (aF (av ο Ϥ T.x93.me (xL T B) hr.u T.x93.b .nil aj ΨK))
  show 1;refine xi (am ώV γ6 ϊ ψ) ?_
  show 28
  show 2
  exists xc (cG (ay gb (aE aG γ6 ai γ0) ai) (c9 γ6 ai cp))
  exists xc (aF (cu Hr Hs Hv aZ γ6 π8))
  exists xc (cG ϊ (AC Θ (d9 Ω) (d9 (ay aW Ω ρA))))
  show 28
  refine #[_,rfl,so,_,rfl,.inl (b_.of U),λD nD=>?_]
  have s1:=a_.new (o:=.lst (rowV bs)) nD
  have hD:(upd H D ύd) D=some 180e1:=ab
  have Z:=S.fresh nD
  have gD:G D=none:=S.sG.free nD;generalize (upd H D (.lst (rowV bs)))=H1 at s1 hD
  show 164;show 4
  refine #[_,rfl,ro,dx,_,rfl,S1.sG _ _ bt,rfl,_,rfl,_,rfl,G,R,ro,D,i,e,Y,bs,rfl,S1,hD,Z,a0,h9,aT,a9,he,λH2 e2 Y2 v S2 a7 k2 a4=>?_]
  have O:=k2 _ _ Z hD
  have ad:=k2 _ _ a3 (s1 _ _ U)
  have a1:=k2 _ _ an (s1 _ _ aw);refine #[_,rfl,_,rfl,_,_,qS O,qS ad,rfl,rfl,ϒ,A9 _,_,rfl,?_];refine c_ (λz=>absurd z (by rw[gj];decide)) ι
  obtain⟨b0,g,rfl⟩:=List.exists_cons_of_ne_nil a0;refine #[_,rfl,D,_,_,_,rfl,rfl,b_.of O,aB (j:=0) rfl,_,_,rfl,rfl,_,rfl,D,_,_,0,rfl,rfl,O,cJ (by rw[ap];exact Nat.succ_pos _),?_]
  have a8:so≠D:=al U nD
  have bm:tl≠D:=al aw nD;refine #[_,rfl,.inl #[rfl,_,b_.of ab],D,_,_,rfl,rfl,ab,by rw[HQ,ap];exact Ih h9 ε,?_]
  rw[aP]
  have S3:=S2.upL (o:=.lst (Oc (rowV (b0 :: g)) 0 (V.int (IC (b0:Int) 1))++[V.int 0])) O Z gD
  have J:120e0 so=some (.lst (rowV (b0 :: g))):=by rw[ae a8];exact ad
  have C:120e0 tl=some (.lst (Gu R Y)):=by rw[ae bm];exact a1
  generalize (upd H2 D (.lst (Oc (rowV (b0 :: g)) 0 (V.int (IC (b0:Int) 1))++[V.int 0])))=H3 at S3 J C;generalize b0 :: g=bs at *;refine #[_,rfl,_,rfl,_,rfl,_,rfl,_,rfl,_,rfl,so,_,rfl,.inl (b_.of J),_,_,rfl,rfl,_,rfl,tl,so,_,_,_,_,rfl,rfl,rfl,rfl,C,J,a6,by omega,by omega,by rw[ap,ga];omega,by rw[ap,ga];exact DK (by omega:R.N * R.K.S+bs.length<=300) ε,?_]
  rw[ap,show (i:Int)+((bs.length:Nat):Int)=((i+bs.length:Nat):Int) by omega,Fu,Fu,Cn N0 aT a4]
  exact q _ e2 Y2 (S3.upL C an a5) a7 ab
theorem C5 {b:Addr} (h:b_ K H b xs) (k:∀b o,ξb->H b=some o->G b=some o):b_ K G b xs:=by
 rcases h with (h | ⟨o,h⟩) | h
 ·exact .inl (.inl (k _ _ εw h))
 ·exact .inl (.inr #[o,k _ _ εw h])
 ·exact .inr h
theorem Dv (xs:δ):(F2 xs ψQ ψs).length<=20/\∀x∈F2 xs ψQ ψs,x∈xs:=by
 unfold F2;rw[show HT.GJ γ2 0 ψQ=min 3 γ2 from HT.FJ _ _ 3,show HT.GJ γ2 γ2 ψs=min 23 γ2 from HT.FJ _ _ 23];refine #[?_,λx hx=>Pj (L5 hx)];rw[Hu];omega
theorem EN.rebase (h:ζx) {t:Addr} (ht:G t=none):a_ G τO/\G8 a τO R:=by
 have s:a_ G 90e8:=λb o z=>by
  rw[bF λy=>?_]
  ·exact h.sG _ _ z
  ·rcases DH.mp y with y | y
   ·rw[y,ht] at z;cases z
   ·rw[h.I.no b y] at z;cases z
 exact #[s,h.I.same s λx hx=>cn ο6]
theorem NI (n:Nat):(Ee n [V.int 0]).flatten=Ee n (V.int 0):=by
 induction n with
 | zero=>rfl
 | succ n ih=>rw[HV,JN,ih,HV];rfl
theorem Ba (R:Rw) (m:Nat):Gu R (λ_=>Ee m 0)=Ee ϐ7 (V.int 0):=by
 apply GZ
 intro i
 by_cases h:i < R.N * R.K.S
 ·rw[iS h,IE,if_pos h,t_,IE]
  split <;> rfl
 ·rw[Fh ό1,IE,if_neg h]
inductive kx (K:n_) (ts:Ξ) (vs:δ) (H:Hp) (Q:VK) (E_3:XK):Prop
 | mk:∀(s:Addr) (ns:List Int),vs=[.ref s]->b_ K H s (ns.map V.int)->ns.length<=63->((∀p∈ts,H p=some (.tbl #[])))->(∀H',Q (.bl true) H')->kx K ts vs H Q E_3
theorem C6 (T:μ) (B:εf):C_ P wo K mg base 20 a.f105 ["_law_script"] (kx K [εH,γI,εm]):=by
 refine T.x105.F.okA (k:=19) HD ξ
 ·obtain⟨sa,ns,rfl,hS,eh,hT,q⟩:=h
  have dF:=hT εH δO
  have dB:=hT γI ωx
  have ed:=hT εm Ψ8
  show 0
  exists xc (au (i:=1) δJ rfl 0e3 (aH (xM T) hr.u rfl T.x100.m T.x100.k T.x100.b .nil aj ηW))
  exists xc (au (i:=2) δJ rfl 11e5 (aH (A8 T) hr.u rfl T.x103.m T.x103.k T.x103.b .nil aj γ9))
  exists xc (au (i:=3) δJ rfl 0e3 (aH (C3 T) hr.u rfl T.x101.m T.x101.k T.x101.b .nil aj γ9))
  exists xc (au (i:=4) δJ rfl 0e3 (bo (aa ϊ (aa (cZ T.A97 (lT T) hr.u rfl T.m_Row T.x87.b .nil aj (aa πk (aa πk ΩJ))) ac))))
  exists xc (au (i:=5) δJ rfl 0e3 (ay cH ρH ρH))
  exists xc (au (i:=6) δJ rfl 0e3 (ay gf ψY γf))
  show 1;refine xf ϗ rfl (aL (lW oO ο (d9 ai) (d9 ai))) (ar (i:=7) δJ rfl δ1) ?_
  exists xc (au (i:=8) δJ rfl 0e3 (ay bd υo γf))
  exists xc (au (i:=3) δJ rfl 0e3 (aE aG γ6 (ay bd υo ai) γ0))
  show 7;refine xi (am bT (ay bd ζk ai) ai ψ) ?_;show 7;refine xi (bW (aV (aH (uG T) hr.u rfl T.x99.m T.x99.k T.x99.b .nil aj (aa (av ϊ Ϥ T.x92.me (oJ T B) hr.u T.x92.b .nil aj χ1) ΘG)))) ?_
  show 28
  show 2
  exists xc (b9 (i:=9) δJ rfl 0e3 (g_.of (cap:=[7,2]) (own:=["_law_k"]) γg) rfl (aY rfl T.A07 (aa (ay aW ai (ay bd υo (aC (pD rfl) rfl T.A62 boot_min (aa ai (aa (ay eY γf μY) ac))))) ac)) δz γ5 (λ_ _ _ _ _=>by exact(aH (A7 T) hr.u rfl T.x102.m T.x102.k T.x102.b .nil aj (aa ο (aa Ω γ9)))))
  show 7;refine xi (bW (aV (aH (C4 T B) hr.u rfl T.x104.m T.x104.k T.x104.b .nil aj (aa ϊ (aa δ8 (aa μY (aa (pv 9) ac))))))) ?_
  show 28
  show 17;show 103;refine xf ϗ rfl (aY rfl T.A07 (aa (aC (pD rfl) rfl T.A62 boot_min (aa γf π8)) ac)) (ar (i:=10) δJ rfl ζ) ?_
  exists xc (au (i:=8) δJ rfl 0e3 (ay bd (ay aW (ay cH (pv 10) ai) (aH (fR T) hr.u rfl T.x98.m T.x98.k T.x98.b .nil aj (aa ο π8))) γf))
  show 1;refine xi (am rH γf ai ψ) ?_
  exists xl (au (i:=8) δJ rfl 0e3 (pv 10))
  show 27;refine xi (bW (aV (aH (uG T) hr.u rfl T.x99.m T.x99.k T.x99.b .nil aj (aa (av (aE aG γ6 (ay bd (pv 10) ai) γ0) Ϥ T.x92.me (oJ T B) hr.u T.x92.b .nil aj χ1) ΘG)))) ?_
  show 28
  show 17
  show 28
  refine #[_,rfl,sa,ns,rfl,hS,λD H1 r n N M S L st s1 nD hD full n1 n16 N1 M1 M2 NM S1 dl L1 L8 ec=>?_];show 4
  refine #[_,rfl,D,r,δx,n,_,rfl,hD,full.toGood,n16,?_]
  have ds:Ju a H1:=#[#[_,s1 _ _ dF,.inl rfl],#[_,s1 _ _ dB,.inl rfl],#[_,s1 _ _ ed,.inl rfl],B.A40,B.Ad8,B.Ac8];show 4
  refine #[_,rfl,D,r,n,N,M,S,L,st,rfl,hD,full,n1,n16,N1,M1,M2,NM,S1,dl,L1,L8,ec,ds,λH2 G R ro s2 S2 eN eS ew en dq=>?_];show 4
  obtain⟨dx,cw⟩:=S2.ro;obtain⟨X2,cy,ej⟩:=id S2.rk
  have a1:=S2.sG _ _ cw;refine #[_,rfl,_,rfl,ro,_,_,_,_,rfl,a1,Ϥ,T.A58,mJ R,_,rfl,ro,_,_,_,_,rfl,a1,Ϥ,ηP,dE R,_,rfl,ro,_,_,_,_,rfl,a1,Ϥ,εK,cF R,λx C nx bt ek=>?_]
  have s3:=cL (o0:=.own x) (o1:=.ins γa C []) nx bt;refine #[R,x,C,0,_,X2,rfl,ab,(S2.I.code.same S2.sG).same s3,(S2.I.sh.same S2.sG).same s3,cy.same s3,S2.I.P,rfl,?_];rw[aP]
  have s4:=cL (o0:=.own x) (o1:=.ins γa C (G1 R)) nx bt
  have hx:(upd (upd H2 C ηT) x ΩM) x=some 158e8:=ab;generalize (upd (upd H2 C (.own x)) x (.ins a.C_Row C (G1 R)))=H4 at s4 hx;refine #[(show 2<=sizeLine by decide),λRL cr=>?_]
  have s5:=a_.new (o:=.lst [V.ref ro,V.ref x]) cr
  have b1:(upd H4 RL Ω3) RL=some 154e3:=ab;generalize (upd H4 RL (.lst [V.ref ro,V.ref x]))=H5 at s5 b1
  have aw:=(s2.trans s4).trans s5;show 4
  refine #[_,rfl,D,_,_,_,rfl,rfl,b_.of (aw _ _ hD),aB (j:=2) rfl,_,rfl,D,_,_,_,rfl,rfl,b_.of (aw _ _ hD),aB (j:=4) rfl,_,_,rfl,rfl,.inl εZ,?_]
  show 6
  rw[show (N:Int) * (S:Int)=((N * S:Nat):Int) from(Ma _ _).symm,← eN,← eS];show 4
  have db:R.K.S<=32:=cy.s32
  have n8:=S2.I.W.n8
  have N0:=S2.I.W.n1
  have ea:R.N * R.K.S<=8 * 32:=QX γ db
  have a7:0 < R.N * R.K.S:=Nat.mul_pos N0 γ
  refine #[(show 1<=sizeLine by decide),λZ nZ=>?_]
  have sZ:=a_.new (o:=.lst [V.int 0]) nZ;refine #[_,rfl,Z,_,_,rfl,rfl,ab,by omega,by omega,by rw[Qr,Fu,Nat.one_mul];exact DK ea ε,λTL U=>?_]
  rw[Fu,NI,← Ba R (N+M)]
  have s6:=sZ.trans (a_.new (o:=.lst (Gu R λ_=>Ee (N+M) 0)) U)
  have b3:(upd (upd H5 Z υx) TL ΦI) TL=some 146e0:=ab
  have U:=sZ.free U;generalize (upd (upd H5 Z (.lst [V.int 0])) TL (.lst (Gu R λ_=>Ee (N+M) 0)))=H6 at s6 b3;show 4
  refine #[_,rfl,_,rfl,_,rfl,sa,_,rfl,((s1.trans aw).trans s6).seq hS,λSL a6=>#[SL,rfl,#[_,b_.of ab],?_]];obtain⟨dc,c2⟩:=Dv δC;generalize F2 (ns.map V.int) (some 3) (some 23)=cs at dc c2
  have s7:=a_.new (o:=.lst cs) a6
  have c3:(upd H6 SL (.lst cs)) SL=some (.lst cs):=ab;generalize (upd H6 SL (.lst cs))=H7 at s7 c3
  have S4:=S2.same s4
  have S5:=S4.same s5
  have S6:=S5.same s6
  have S7:=S6.same s7
  have dV:G TL=none:=S5.sG.free U
  have a2:=S5.fresh U;obtain⟨df,I2⟩:=S7.rebase dV
  have a3:∀{p:Addr}{o:HO},H7 p=some o->p∉R.ms a->p≠TL->bc ωB H7 p=some o:=λ{p o} e h1 h2=>by
   rw[bF λz=>(DH.mp z).elim h2 h1];exact e
  have c8:=s7 _ _ b3
  have O:=df _ _ cw
  have c0:=a3 ((s5.trans χg) _ _ hx) (S2.fresh nx) (al ((s5 _ _ hx)) U)
  have a0:=a3 (99e8 _ _ b1) (S4.fresh cr) (al b1 U)
  have b2:=a3 c3 (S6.fresh a6) (al b3 a6).symm
  have c1:b_ K ϊ7 sa 15e2:=C5 (s1.seq hS) λb o nt z=>a3 (s7 _ _ (s6 _ _ (aw _ _ z))) (λy=>by
   rcases dq b y with y | ⟨ps,y⟩
   ·rw[y] at z;cases z
   ·rw[y] at z;exact nt _ (DU z).symm) (al (aw _ _ z) U)
  have S8:EN a ϊ7 H7 R ro 0 (λ_=>Ee (N+M) 0):=#[#[dx,O],I2,je _ _,S7.rk,S7.tb]
  have a9:bc ωB H7 TL=none:=cn δO;generalize bc (TL :: R.ms a) H7=G2 at O c0 a0 b2 c1 S8 a9
  have b6:∀y,y < 2->∃rx d,[V.ref ro,V.ref x][y]?=some (.ref rx)/\G2 rx=some (.ins γa d (G1 R)):=λy hy=>by
   rcases(by omega:y=0\/y=1) with rfl | rfl
   ·exact #[ro,dx,rfl,O]
   ·exact #[x,C,rfl,c0]
  refine let I_:Nat->L2.St->Hp->Prop:=λi σ H'=>L2.A2 ((∃v3 v7 v8 v9:Option V,σ=[some (.ref sa),some γ4,some ρB,v3,some (.ref RL),some ΦS,some ψr,v7,v8,v9,none])) (L2.E2 λe Y=>L2.A3 ϊu Ψo (e<=234 * i));bR (xs:=cs) I_ #[ξx,0,_,S8,c8,EO _] ?_ ?_ ?_
  ·rintro i σ H' _ ⟨_,e,Y,S,_⟩
   exact b_.of (S.sG _ _ b2)
  ·rintro i u σ H8 hu ⟨⟨v3,v7,v8,v9,rfl⟩,e,Y,S,an,he⟩
   have hi:i < cs.length:=(ET.mp hu).1;obtain⟨c,_,rfl⟩:=Fk.mp (c2 u (Ez hu));obtain⟨J,b5,a8⟩:=F5 (c / 3) a7;obtain⟨y,hy,ey⟩:=F5 (c / 5) (n:=2) ε
   show 383
   have Sx:EN a G2 H8 R rx e Y:=#[#[d,aT],S.I,S.sG,S.rk,S.tb];refine #[_,rfl,_,_,rfl,rfl,γW,_,rfl,_,_,rfl,rfl,p0 γ,?_]
   show 6
   show 384
   refine #[_,rfl,_,rfl,_,_,rfl,rfl,γW,_,_,rfl,rfl,p0 ε,RL,_,c / 5 % 2,_,rfl,rfl,b_.of (S.sG _ _ a0),(by rw[show c / 5 % 2=(y:Int) from ey];exact aB b4),?_]
   show 4
   refine ιA
   refine c_ ι ι
   ·refine #[_,rfl,rx,d,_,rfl,S.sG _ _ aT,rfl,_,rfl,G2,R,rx,e,J,Y,rfl,Sx,b5,by omega,λH9 e9 S9 dr k9=>?_]
    have a4:=k9 _ _ a2 an;refine #[_,rfl,_,rfl,TL,_,_,_,rfl,rfl,b_.of a4,aB (iS b5),_,rfl,_,rfl,Io ?_];exact #[ξx,e9,Y,#[#[dx,O],S9.I,S9.sG,S9.rk,S9.tb],a4,by omega]
   ·obtain⟨m,em,eb,ei,d4⟩:∃m:Nat,(if ((R.N * R.K.S:Nat):Int) - (J:Int) < 9 then ((R.N * R.K.S:Nat):Int) - (J:Int) else 9)=(m:Int)/\0 < m/\m<=9/\J+m<=R.N * R.K.S:=by
     by_cases z:R.N * R.K.S - J < 9
     ·exact #[R.N * R.K.S - J,by rw[if_pos γ];omega,by omega,by omega,by omega]
     ·exact #[9,by rw[if_neg γ];rfl,by decide,by decide,by omega]
    obtain⟨z,hz,ez⟩:=F5 (c / 7) eb;show 4
    refine #[_,rfl,_,_,rfl,rfl,γW,_,rfl,_,rfl,_,_,rfl,rfl,_,_,rfl,_,_,rfl,rfl,p0 (by rw[em];omega),_,_,rfl,rfl,?_]
    show 6
    rw[em,ez,show (1:Int)+(z:Int)=((1+z:Nat):Int) by omega]
    refine #[_,rfl,by omega,by omega,λso a5=>?_]
    rw[Fu]
    have b0:0 < (2 ^ r.log2) ^ n:=LZ ύb
    refine lg (n:=1+z) (f:=λk=>.int ((blkN c k 76e7:Nat):Int)) (cs:=[some ψB,some ρB]) a5 rfl (DK (by omega:1+z<=9) ε) (λk Ha Ra hk sm hR=>?_) (λH9 s9 bm=>?_)
    ·exact #[_,rfl,_,rfl,_,rfl,c,k,_,rfl,b0,hR _ ϟ]
    rw[show (p_ (1+z)).map (λk=>V.int ((blkN c k 76e7:Nat):Int))=rowV ((p_ (1+z)).map λk=>blkN c k πx) by unfold rowV;rw[Fa];rfl] at bm
    have ce:∀b∈(p_ (1+z)).map ΞE,b < μt ^ R.n:=λb hb=>by
     obtain⟨k,_,rfl⟩:=Fk.mp hb;rw[ew,en];exact Cm b0
    have cv:((p_ (1+z)).map ΞE).length=1+z:=by rw[o_,Eo]
    generalize (p_ (1+z)).map (λk=>blkN c k ((2 ^ r.log2) ^ n))=bs at bm ce cv;show 4
    refine #[_,rfl,_,rfl,_,rfl,_,rfl,G2,R,rx,TL,so,J,e,Y,bs,rfl,Sx.same s9,s9 _ _ an,a2,a9,bm,Sx.fresh a5,al an a5,(λy=>by rw[y,Sa] at cv;omega),by omega,by omega,ce,by omega,λef cc d8 g dd ad=>?_]
    refine #[_,rfl,Io ?_];exact #[ξx,cc,d8,ΞS,ad,by omega]
  ·rintro σ H8 ⟨⟨v3,v7,v8,v9,rfl⟩,e,Y,S,an,he⟩
   have dW:e<=4680:=by omega
   obtain⟨m,em,eg,d4⟩:∃m:Nat,(if (40:Int) < ((R.N * R.K.S:Nat):Int) then 40 else ((R.N * R.K.S:Nat):Int))=(m:Int)/\m<=40/\m<=R.N * R.K.S:=by
    by_cases z:40 < R.N * R.K.S
    ·exact #[40,by rw[if_pos γ];rfl,by decide,by omega]
    ·exact #[R.N * R.K.S,by rw[if_neg γ],by omega,y_ _]
   refine #[_,rfl,_,_,rfl,?_];rw[em];refine #[_,rfl,by omega,by omega,?_]
   rw[Fu];refine let I_:Nat->L2.St->Hp->Prop:=λi σ H'=>L2.A2 ((∃v8 ch:Option V,σ=[some (.ref sa),some γ4,some ρB,v3,some (.ref RL),some ΦS,some ψr,v7,v8,v9,ch])) (L2.E1 λe=>L2.A3 ϊu Ψo (e<=4680+8 * i));cb (lo:=0) (n:=m) I_ #[εo,e,S,an,dW] ?_ ?_
   ·rintro i σ H9 hi ⟨⟨v8,ch,rfl⟩,e9,S9,a4,dr⟩
    rw[Oe];obtain⟨J,b5,a8⟩:=F5 ((i:Int) * 37+cell ns 0) a7;refine #[_,rfl,_,_,rfl,rfl,.inr γW,_,rfl,sa,ns,0,rfl,S9.sG.seq c1,_,_,rfl,rfl,_,rfl,_,_,rfl,rfl,p0 γ,?_]
    show 6
    show 384
    obtain⟨y,hy,ey⟩:=F5 (i:Int) (n:=2) ε
    show 383
    refine rM (λz:Nat=>z < R.N * R.K.S) (λck=>by
     refine ϝ;show 107
     ·generalize hq:J=z
      exact ck z γ
     ·exact⟨_,rfl,ck i γ⟩) ?_
    intro z hz;refine #[_,rfl,_,rfl,_,_,rfl,rfl,p0 ε,RL,_,(i:Int) % 2,_,rfl,rfl,b_.of (S9.sG _ _ a0),(by rw[show (i:Int) % 2=(y:Int) from ey];exact aB b4),?_]
    refine #[rx,d,_,rfl,S9.sG _ _ aT,rfl,_,rfl,G2,R,rx,e9,z,Y,rfl,#[#[d,aT],S9.I,S9.sG,S9.rk,S9.tb],hz,by omega,λef cc g dd d0=>?_]
    have ad:=d0 _ _ a2 a4;refine #[_,rfl,_,rfl,TL,_,_,_,rfl,rfl,b_.of ad,aB (iS hz),_,rfl,_,rfl,Io ?_];exact #[εo,cc,ΞS,ad,by omega]
   ·rintro σ H9 _
    exact q H9
theorem walk {l:R8}{q:Ϧ}{loose:ώ}{XP:ρL}{YP:υh}{d:DefRec}{K:Params->n_}{ts:Ξ} (hn:l.most=some 63) (hdf:τG)
  (hY:Γm)
  (F:∀(w:ϡ) (mg:Ϡ) (fa:Addr) (h:Heap),(K μQ).In h->h.Ns εp mg->mg d.name=some ζm →
   ∃fd:FuncData,ΓH∧Ξa∧ΘI ∧ ∀base:Heap,(K μQ).In base→base.Ns εp mg→Θ0→EI l.prog w ιr mg base F7 20 fa fd ["_law_script"] (kx ιr ts)) :
  Qo q loose XP YP ξZ d [] τY :=
 L2.Ii (n:=63) (k:=20) (x:="_law_script") (CX:=λ_=>F7) (sp:=λw=>kx ιr ts) hn ε hdf #[rfl,by decide,by decide,rfl] hY F (λ_ _ a ns hl hS hT=>#[a,ns,rfl,hS,hl,hT,λ_=>rfl]) λ_ _ _ _ _ z=>z
end My
namespace My
open PySem L2 PyProof.Rows
theorem txt_ex {K:n_}{mg:Ϡ}{ts:Ξ}{z0 z1 z2 z3 z4 z5 z6 z7 z8 z9 z10 z11 z12 z13 z14 z15 z16 z17 z18 z19 z20 z21 z22 z23 z24 z25 z26 z27 z28 z29 z30 z31 z32 z33 z34 z35 z36 z37 z38 z39 z40 z41 z42 z43 z44 z45 z46 z47 z48 z49 z50 z51 z52 z53 z54 z55 z56 z57 z58 z59 z60 z61 z62 z63 z64 z65 z66 z67 z68 z69 z70 z71 z72 z73 z74 z75 z76 z77 z78 z79 z80 z81 z82 z83 z84 z85 z86 z87 z88 z89 z90 z91 z92 z93 z94 z95 z96 z97 z98 z99 z100 z101 z102 z103 z104 z105 z106 z107 z108 z109 z110 z111 z112 z113 z114 z115 z116 z117 z118 z119 z120:Addr}{z121 z122 z123 z124 z125 z126 z127 z128 z129 z130 z131:Tok} (T:B_ K mg #[z0,z1,z2,z3,z4,z5,z6,z7,z8,z9,z10,z11,z12,z13,z14,z15,z16,z17,z18,z19,z20,z21,z22,z23,z24,z25,z26,z27,z28,z29,z30,z31,z32,z33,z34,z35,z36,z37,z38,z39,z40,z41,z42,z43,z44,z45,z46,z47,z48,z49,z50,z51,z52,z53,z54,z55,z56,z57,z58,z59,z60,z61,z62,z63,z64,z65,z66,z67,z68,z69,z70,z71,z72,z73,z74,z75,z76,z77,z78,z79,z80,z81,z82,z83,z84,z85,z86,z87,z88,z89,z90,z91,z92,z93,z94,z95,z96,z97,z98,z99,z100,z101,z102,z103,z104,z105,z106,z107,z108,z109,z110,z111,z112,z113,z114,z115,z116,z117,z118,z119,z120,z121,z122,z123,z124,z125,z126,z127,z128,z129,z130,z131]) (E:ts.Perm [z116,z118,z120]):∃a:A_,B_ K mg a/\ts.Perm [εH,γI,εm]:=#[_,T,E]
theorem fin {P:Ϧ}{w:ϡ}{K:n_}{mg:Str→Option Value}{fa:Addr}{h:Heap}{ts:Ξ} (_:K.In h) (hmg:mg "law" = some ζm) (nd:ts.Nodup) (T:∃a:A_,B_ K mg a∧ts.Perm [εH,γI,εm]) :
  ∃fd:FuncData,ΓH∧(∀p∈ts,K.lookup p=none)∧(∀p∈ts,∃c,JS K c p=true) ∧ ∀base:Heap,K.In base→base.Ns εp mg→Θ0→EI P w K mg base F7 20 fa fd ["_law_script"] (kx K ts):=by
 obtain⟨a,T,hp⟩:=T
 cases hmg.symm.trans T.x105.m;refine #[fd K a.f105,λs v=>?_,λp z=>?_,λp z=>?_,λbase kb nb hB=>(C6 T #[(hB _ (hp.mem_iff.mpr ό)).2,(hB _ (hp.mem_iff.mpr (by simp))).1,(hB _ (hp.mem_iff.mpr (by simp))).2,(hB _ (hp.mem_iff.mpr (by simp))).1,(hB _ (hp.mem_iff.mpr (by simp))).2,(hB _ (hp.mem_iff.mpr (by simp))).1,(by have:=hp.nodup_iff.mp nd;simp at this;simp[this]),(by have:=hp.nodup_iff.mp nd;simp at this;simp[this]),(by have:=hp.nodup_iff.mp nd;simp at this;simp[this])]).imp λvs H Q E ⟨s,n,e,y,l,t,q⟩=>#[s,n,e,y,l,λp z=>t p (hp.mem_iff.mpr z),q]]
 ·obtain⟨_,_,_,_,_,_,_,_,_,e,_⟩:=T.x105.F.ex
  rw[e];exact .of_eq rfl
 ·have z:=hp.mem_iff.mp z
  simp at z
  rcases z with z | z | z
  ·rw[z];exact T.x38.nl
  ·rw[z];exact T.x47.nl
  ·rw[z];exact T.x91.nl
 ·have z:=hp.mem_iff.mp z
  simp at z
  rcases z with z | z | z
  ·rw[z];exact #[_,T.x38.F.hd]
  ·rw[z];exact #[_,T.x47.F.hd]
  ·rw[z];exact #[_,T.x91.F.hd]
end My
open PySem PySem.W PyProof.Rows
set_option maxRecDepth 100000 in
set_option maxHeartbeats 0 in
theorem PySem.Challenge.cw_spareplank_k51_blocks_got_and_put_holds : PySem.Challenge.rw_spareplank_k51_blocks_got_and_put.Holds := by
 refine zH ?_
 k_fill
 refine My.walk (l := PySem.Challenge.rw_spareplank_k51_blocks_got_and_put) rfl rfl (fun w h Y=>HK.fo Y) ?F
 case F =>
  intro w mg fa h KX G g;refine My.fin KX g (by decide) ?X
  refine' My.txt_ex ?T ?E
  case T =>
   constructor<;>constructor
   all_goals (try dsimp only)
   all_goals first
    | (refine' L2.LG KX G ?ya ?yl ?yc ?yk ?yb;(case ya=>k_is);(case yl=>k_is);(case yc=>k_is);(case yk=>k_is);(case yb=>first | (refine fun _ _ _ _ _ _ us hl=>L2.ln0 us hl ?_;exact rfl) | (refine fun _ _ _ _ _ _ us hl=>L2.Mr us hl ?_;exact fun _=>rfl) | (refine fun _ _ _ _ _ _ us hl=>L2.Mo us hl ?_;exact fun _ _=>rfl) | (refine fun _ _ _ _ _ _ us hl=>L2.Mj us hl ?_;exact fun _ _ _=>rfl) | (refine fun _ _ _ _ _ _ us hl=>L2.Mq us hl ?_;exact fun _ _ _ _=>rfl) | (refine fun _ _ _ _ _ _ us hl=>L2.Mt us hl ?_;exact fun _ _ _ _ _=>rfl)))
    | (refine' L2.Lh ?ya ?yi ?yl ?yc ?yk ?yb;(case ya=>k_is);(case yi=>k_is);(case yl=>k_is);(case yc=>k_is);(case yk=>k_is);(case yb=>first | (refine fun _ _ _ _ _ _ us hl=>L2.ln0 us hl ?_;exact rfl) | (refine fun _ _ _ _ _ _ us hl=>L2.Mr us hl ?_;exact fun _=>rfl) | (refine fun _ _ _ _ _ _ us hl=>L2.Mo us hl ?_;exact fun _ _=>rfl) | (refine fun _ _ _ _ _ _ us hl=>L2.Mj us hl ?_;exact fun _ _ _=>rfl) | (refine fun _ _ _ _ _ _ us hl=>L2.Mq us hl ?_;exact fun _ _ _ _=>rfl) | (refine fun _ _ _ _ _ _ us hl=>L2.Mt us hl ?_;exact fun _ _ _ _ _=>rfl)))
    | (refine' L2.LM KX G ?ya ?yl ?yc ?yx ?yy ?yh ?yn ?yk ?yb;(case ya=>k_is);(case yl=>k_is);(case yc=>k_is);(case yx=>k_is);(case yy=>first | rfl | k_is);(case yh=>first | rfl | k_is);(case yn=>first | rfl | k_is);(case yk=>k_is);(case yb=>first | (refine fun _ _ _ _ _ _ us hl=>L2.ln0 us hl ?_;exact rfl) | (refine fun _ _ _ _ _ _ us hl=>L2.Mr us hl ?_;exact fun _=>rfl) | (refine fun _ _ _ _ _ _ us hl=>L2.Mo us hl ?_;exact fun _ _=>rfl) | (refine fun _ _ _ _ _ _ us hl=>L2.Mj us hl ?_;exact fun _ _ _=>rfl) | (refine fun _ _ _ _ _ _ us hl=>L2.Mq us hl ?_;exact fun _ _ _ _=>rfl) | (refine fun _ _ _ _ _ _ us hl=>L2.Mt us hl ?_;exact fun _ _ _ _ _=>rfl)))
    | (refine' L2.LO ?ya ?yi ?yl ?yc ?yx ?yy ?yh ?yn ?yk ?yb;(case ya=>k_is);(case yi=>k_is);(case yl=>k_is);(case yc=>k_is);(case yx=>k_is);(case yy=>first | rfl | k_is);(case yh=>first | rfl | k_is);(case yn=>first | rfl | k_is);(case yk=>k_is);(case yb=>first | (refine fun _ _ _ _ _ _ us hl=>L2.ln0 us hl ?_;exact rfl) | (refine fun _ _ _ _ _ _ us hl=>L2.Mr us hl ?_;exact fun _=>rfl) | (refine fun _ _ _ _ _ _ us hl=>L2.Mo us hl ?_;exact fun _ _=>rfl) | (refine fun _ _ _ _ _ _ us hl=>L2.Mj us hl ?_;exact fun _ _ _=>rfl) | (refine fun _ _ _ _ _ _ us hl=>L2.Mq us hl ?_;exact fun _ _ _ _=>rfl) | (refine fun _ _ _ _ _ _ us hl=>L2.Mt us hl ?_;exact fun _ _ _ _ _=>rfl)))
    | (refine' OY KX G ?_;k_is)
    | (refine' PySem.W.mg_none_of KX G ?_;k_is)
    | (refine' (show HS _ _ _=some none from ?_);k_is)
    | (refine' L2.FX.mk ?_ ?_ ?_ ?_ <;> k_is)
    | (refine' L2.Mk.mk ?_ ?_ ?_ ?_ <;> k_is)
    | rfl
    | (constructor <;> first | k_is | rfl)
  case E=>first | exact .refl _ | decide
#print axioms PySem.Challenge.cw_spareplank_k51_blocks_got_and_put_holds
