import PyProof.Rows.All
import Wide.All
import OpenK.AllK
import Wide.FinOn
import Lean
import PyProof.EqAt
import PyProof.EqKinds
import PyProof.TupleCall
import KE.KSortTup
import PyProof.FString
import PyProof.StrBlock
import KE.KRevSl
import PyProof.StrLawsReplace
import PyProof.StrCalls6
import PyProof.MinMaxWalk
import PyProof.WalkInts
import PyProof.NeKinds
import KE.KEqDict
import PyProof.Rows.SumAny
import KE.KMinKey
import PyProof.Rows.CallKwBuiltin
import KE.KIntText
import KE.KDictList
import PyProof.SetRoads
import PyProof.SetNew
import PyProof.DictKinds
import PyProof.Rows.SetFrom
import PyProof.TupleIter
import PySem.Challenge.RW_shortglue_k32_whole_by_rings
set_option Elab.async false
set_option linter.all false
set_option maxRecDepth 100000
set_option bootstrap.genMatcherCode false
set_option compiler.extract_closed false
open List (all_cons all_eq_true all_map any_cons any_eq_false any_eq_true any_map append_assoc append_eq_append_iff append_nil append_of_mem append_toArray cons_append cons_lt_cons_iff contains_iff_mem countP_cons dropLast_concat dropLast_concat_getLast dropLast_eq_take dropLast_sublist drop_drop drop_eq_getElem_cons drop_eq_nil_of_le drop_one drop_take drop_zero eq_of_mem_replicate eraseIdxIfInBounds_toArray eraseIdx_cons_succ eraseIdx_eq_take_drop_succ ext_getElem ext_getElem? extract_eq_take_drop extract_toArray filterMap_append filterMap_cons filterMap_eq_map filterMap_map filter_append filter_congr filter_cons filter_eq_nil_iff filter_map find?_cons find?_cons_of_neg find?_cons_of_pos find?_eq_none find?_eq_some_iff_append find?_map flatten_append flatten_cons flatten_nil foldl_append foldl_cons forIn_cons forIn_nil getD_eq_getElem?_getD getElem?_append_left getElem?_append_right getElem?_cons_succ getElem?_drop getElem?_eq_getElem getElem?_eq_none getElem?_inj getElem?_map getElem?_range getElem?_replicate getElem?_reverse getElem?_set getElem?_set_ne getElem?_set_self getElem?_tail getElem?_take getElem?_take_of_lt getElem?_toArray getElem?_zip_eq_some getElem_cons_drop getElem_idxOf getElem_inj getElem_map getElem_mem getElem_of_mem getElem_range getElem_toArray getElem_zip getLast?_append getLastD_eq_getLast? getLast_mem idxOf_le_length idxOf_lt_length_of_mem length_append length_cons length_drop length_dropLast length_eq_zero_iff length_eraseIdx length_erase_of_mem length_filter_le length_flatten length_map length_nil length_pos_iff length_pos_of_mem length_range length_replicate length_reverse length_set length_singleton length_tail length_take length_zip lookup_append lookup_cons map_append map_congr_left map_cons map_drop map_eq_nil_iff map_map map_nil map_replicate map_reverse map_set map_take mem_append mem_append_left mem_append_right mem_cons mem_cons_of_mem mem_cons_self mem_erase_of_ne mem_filter mem_filterMap mem_flatten mem_iff_getElem mem_iff_getElem? mem_map mem_map_of_mem mem_of_getElem? mem_of_mem_drop mem_of_mem_erase mem_of_mem_take mem_range mem_range'_1 mem_replicate mem_reverse mem_singleton ne_nil_of_length_pos nil_append nil_suffix nodup_append nodup_cons nodup_nil nodup_range not_mem_nil of_mem_zip pairwise_append pairwise_cons pairwise_flatten pairwise_iff_getElem pairwise_lt_range pairwise_map perm_append_comm perm_append_singleton perm_cons_erase perm_ext_iff_of_nodup perm_middle push_toArray range_succ range_succ_eq_map replicate_succ reverse_cons set_comm set_cons_succ set_cons_zero singleton_append singleton_inj size_toArray suffix_iff_eq_drop sum_append sum_cons sum_nil sum_replicate_nat tail_cons take_add_one take_append_drop take_length take_nil take_of_length_le take_sublist take_succ take_succ_cons take_take take_zero zipIdx_cons zipIdx_nil zip_cons_cons zip_nil_left zip_nil_right)
open Nat (add_assoc add_comm add_le_add_left add_mul add_sub_cancel_left eq_zero_or_pos le_add_right le_of_ble_eq_true le_of_eq le_of_not_lt le_of_succ_le le_succ le_trans log2_lt lt_of_le_of_lt lt_or_ge lt_succ_of_lt lt_succ_self max_le min_le_right mod_eq_of_lt mod_lt mod_self mul_le_mul_right mul_pos ne_of_gt ne_of_lt not_lt not_lt_zero not_succ_le_self one_mul pos_of_ne_zero pow_le_pow_left pow_le_pow_right sub_self succ_le_succ succ_mul succ_ne_self succ_pos zero_le)
open Int (ediv_nonneg ediv_one emod_lt_of_pos emod_nonneg fdiv_eq_ediv_of_nonneg fmod_eq_emod_of_nonneg le_ediv_of_mul_le le_total lt_ediv_add_one_mul_self mul_assoc mul_le_mul_of_nonneg_left mul_le_mul_of_nonneg_right mul_nonneg mul_one natCast_add natCast_emod natCast_nonneg natCast_pow natCast_zero neg_neg not_le pow_pos toNat_natCast)
open Bool (and_eq_false_imp and_eq_true and_eq_true_iff beq_eq_decide_eq false_eq_true not_eq_true or_eq_true)
abbrev Γ:=List (List Nat)
abbrev Δ:=List Nat
abbrev Θ:=PySem.Str→Option PySem.Value
abbrev Λ:=List Int
abbrev Ξ:=List PySem.Value
abbrev Ψ:=PySem.Addr→Prop
open Option renaming some→ψ,none→ω
open Bool renaming true→η,false→ξ
local macro_rules | `(∅)=>`((by x_go))
local macro_rules | `(⋯)=>`((by omega))
local macro_rules | `($x:ident⁻¹)=>`(($x).heap.objs.size)
local macro_rules | `(tactic| fin2)=>`(tactic| exact ⟨rfl,rfl,rfl,by decide +kernel,rfl,by decide +kernel,by decide +kernel⟩)
local macro_rules | `(tactic| x_go)=>`(tactic| first | exact Or.inl rfl | exact Or.inr rfl | exact Or.inr (Or.inl rfl) | exact Or.inr (Or.inr rfl))
set_option maxHeartbeats 4000000
noncomputable section
open And renaming intro→FX
open Array renaming getElem?_toList→NY,length_toList→C0,mk→QK,toList→Ql
open Bool renaming and_eq_true→Mg,and_false→PN,eq_iff_iff→Ox,false_and→PJ,false_eq_true→NX,false_ne_true→l_,false_or→P6,not_eq_true'→P4
open Classical renaming byContradiction→MN,choose_spec→O_
open False renaming elim→Nf
open ForInStep renaming yield→MS
open Int renaming emod_lt_of_pos→Nb,emod_nonneg→NO,le_of_lt→Q3,le_refl→Nk,natCast_nonneg→O8,sub_zero→Q2,toNat_natCast→tj,toNat→Nl,zero_add→Qy
open List renaming Nodup→E_,all_cons→P_,all_eq_true→N9,any_cons→N6,any_eq_false→Qn,append_assoc→M0,append_nil→Mr,append_toArray→QQ,contains_iff_mem→M9,countP_cons→QT,drop_eq_nil_of_le→N0,drop_zero→QX,eraseIdxIfInBounds_toArray→PP,eraseIdx_eq_take_drop_succ→Oe,ext_getElem?→NA,extract_eq_take_drop→N8,extract_toArray→QE,filterMap_cons→OQ,filterMap_map→Pf,filter_cons→Oc,find?_cons→NT,flatten_append→O9,flatten_cons→MM,foldl_cons→Qt,foldl→QY,forIn_cons→Qw,getD_eq_getElem?_getD→e_,getElem?_append_left→N5,getElem?_append_right→Nt,getElem?_cons_succ→OG,getElem?_eq_getElem→cx,getElem?_eq_none→C_,getElem?_eq_some_iff→k_,getElem?_map→h_,getElem?_range→Mj,getElem?_set_ne→p_,getElem?_set_self→tf,getElem?_take_of_lt→Pr,getElem_map→ON,getElem_mem→MB,getElem_of_mem→O6,getElem_range→P8,length_append→kx,length_cons→Mm,length_drop→MQ,length_eq_zero_iff→MJ,length_filter_le→NM,length_map→cy,length_nil→OC,length_range→x_,length_replicate→MU,length_reverse→QR,length_set→My,length_tail→P5,length_take→MG,length_zip→Qz,length→P1,lookup_cons→M4,lookup→N4,map_append→D_,map_congr_left→NL,map_cons→so,map_map→Ms,map_nil→P2,map_take→Qd,mem_append_left→Mf,mem_append_right→r_,mem_append→Mv,mem_cons_of_mem→n_,mem_cons_self→q_,mem_cons→B_,mem_filterMap→ND,mem_filter→Mq,mem_map_of_mem→Od,mem_map→Mp,mem_of_getElem?→Mc,mem_range'_1→Py,mem_range→L_,mem_singleton→u_,nodup_append→O7,nodup_cons→OB,nodup_range→QV,not_mem_nil→MV,pairwise_lt_range→N1,pairwise_map→Oj,perm_append_comm→Qg,range'→OK,range_succ_eq_map→OY,range→g_,replicate_succ→Na,replicate→H_,reverse_cons→Qs,size_toArray→we,suffix_iff_eq_drop→PQ,sum_append→Qx,sum_cons→MW,take_add_one→NU,take_append_drop→NN,take_length→M5,take_of_length_le→M2,take_zero→Qb
open List.Pairwise renaming imp_of_mem→P7
open Nat renaming add_zero→Q4,ble→Pu,le_add_right→PC,le_of_ble_eq_true→N3,le_of_eq→Pj,le_of_lt→Q0,le_of_succ_le→Pg,le_refl→f_,le_trans→Mn,lt_irrefl→Md,lt_of_lt_of_le→A_,lt_succ_of_lt→NH,lt_succ_self→Mu,min_eq_left→Pm,min_eq_right→Pd,mul_le_mul_right→Oh,ne_of_gt→Oo,ne_of_lt→Mh,not_lt_zero→NC,pow_le_pow_left→QG,pow_le_pow_right→Qh,sub_zero→Q1,succ_mul→Qa,zero_add→PD,zero_le→NJ
open Ne renaming symm→Nh
open Option renaming isSome_iff_exists→NE,isSome_map→P3,map_eq_some_iff→OP
open Option.some renaming inj→w_
open Or renaming inl→Qu
open Prod renaming fst→y_,snd→Mo
open PyProof renaming noPylong_small→Qm
open PyProof.Rows renaming AllBare→PZ,IntsAre→NZ,assignInOrder_cons→OA,boot_isinstance→Ny,boot_list→OJ,boot_min→Qi,boot_tuple→MT,callWith_builtin1→Pb,callWith_type1→I_,slot_tuple_getitem→Mt
open PySem renaming Around→G_,BindsTo→Qo,Builtin→Ow,FuncData→MY,IsPair→OF,IsPart→Qq,IsRangeIter→QM,NameKind→MZ,Program→v_,PyData→OE,Shared→d_,Within→QZ,boot_len→o_,call_meets→OD,codeAny_builtin→Nx,codeAny_mono→OU,codeAny_of_tree→QF,concat_meets→Qp,intItems_at→OM,isSubtype_type→PR,mem_of_lookup→NK,noFill_tuple_add→P9,numAt_eq→O5,nums_intItems→Ov,plainId_quiet→Ou,pushCells_keeps→Pn,seqIndex_neg→Qr,seqIndex_of→QP,sizeLine_eq→Pi,tupleKind_room_in1→PU,wpAny_Call_Name_kw→Np,wpAny_bind→cn,wpAny_callSpecial?_slot→MF,wpAny_call_entry→M8,wpAny_execs_nil→Pl,wpAny_field→MI,wpAny_holding→Mw,wpAny_isInstance→Oi,wpAny_letGo→N_,wpAny_mono→Ml,wpAny_newObj_type→MD,wpAny_of_eq→Oa,wpAny_onRaise→Ph,wpAny_passesOwn→Nw,wpAny_pure→gV,wpAny_pyIter_list→NB,wpAny_pyIter_rangeiter→NP,wpAny_pyIter_tuple→NS,wpAny_rule→Pe,wpAny_seqItems→MK,wpAny_setField_rec→Nr,wpAny_specialOf→Oy,wpAny_standAt→Nj,wpAny_truthy_bool→MC,wpAny_tryCatch→PX,wpAny_typeOf→OW,wpAny_updateSeq_pair→Pk,wpAny_updateSeq→Po
open PySem.Around renaming under_plainId→Ob
open PySem.AutoSeq1 renaming wpAny_loadPart'→NI
open PySem.Builtin.Builtins renaming bindParams→PF
open PySem.Builtin.Frozenset renaming updateFrom→Ng
open PySem.Builtin.List renaming listExtendWith→ME,listLengthHint→Px,listTooLong→NG
open PySem.Builtin.Range renaming rangeFitsLong→j_,rangeSize→t_,small→Om
open PySem.Builtin.Slice renaming sliceAdjust→Ol,sliceApplied→PL,slicePlaces→Nv
open PySem.Builtin.SmallTypes renaming nextOf→K_,ownedTupleHandOut→On,ownedTupleIsFree→MR
open PySem.Builtin.Str renaming occurrences→OL,strSliceIndices→Ni,subAt→OZ
open PySem.Builtin.Tuple renaming tupleExact→NF,tupleItemsOf→PM
open PySem.Calls renaming Name_function_global→PH,callWith_builtin→OX,spliced_cons→Nn,spliced_nil→Nz
open PySem.F renaming args_tuple_add_2→Oq,entry_tuple_add→OI,plainAttrs_list→J_,plainAttrs_str→QA,slot_dict_pop→QH,slot_list_append→Mz,slot_list_index→Qj,slot_list_pop→QI,slot_tuple_add→OV,type_list_append→MA,type_list_index→Qk,type_list_pop→QJ
open PySem.Heap renaming ExtBut→QS,SameBut→Of,get?_push_of_some→c_,get?_push_size→i_,get?_update_other→Mx,get?_update_self→Nu,lt_size→m_,size_push→Mi
open PySem.IsRange renaming new→QN
open PySem.NameKind renaming cell→NW,free→Ot
open PySem.Obj renaming mapSeq→Nq
open PySem.PassesOwn renaming never→z_
open PySem.PyData renaming canLay0→O3,canLayAll0→O0,depthAll→Oz,depth→Pz,eqvAll→Os,eqv→N7,int→Qv,weightAll→Qe
open PySem.SeqAt renaming shaped→M3
open PySem.Str renaming ofString→NR
open PySem.StrLaws renaming occBody→Pp
open PySem.Value renaming bool→Nc,float→QL,int→OH,none→M7,ref→vx,str→Pa,type→MX
open PySem.W renaming Frag→b_,OpenLaw→QD,boot_heap→M6,cellsFrom_some→NQ,codeIn→MH,emptyDict→MP,findIn→s_,fnOf→Me,hasDictIn→OR,instObj→Nd,isFn→Pw,keepIn→Mb,kia_one→ML,kitAny→O4,kitOne→Nm,kitx_dict→OT,kitx_list→OS,lookIn→PK,makesIn→QC,methodObj→PY,mg_none_of→F_,mg_of→NV,nsIn→Eo,plainGet_of→Pq,plainGet→Og,plainOver→P0,takerIn→QB,typeIn→QO
open PySem.Walks renaming tuple→QU
open Sum renaming inl→M_,inr→QW
open True renaming intro→MO
namespace L2
open PySem PySem.W
noncomputable def pK(tb:String->Option Ow)(p:v_)(w:World)(n₀:Nat)(ann:Option Value):Nat->SharedT->Thread->Option SharedT
 | 0,_,_=>ω
 | n+1,s,t=>match through t with
  | true=>ψ s
  | false=>match stepOk n₀ ann t with
   | false=>ω
   | true=>match stepT (denote tb) p w s t with
    | some (s',t')=>pK tb p w n₀ ann n s' t'
    | none=>ω
variable {w:World}
theorem qK{tb:String->Option Ow}{p:v_}{n₀:Nat}{ann:Option Value}:∀{n:Nat}{s s':SharedT}{t:Thread},pK tb p w n₀ ann n s t=ψ s'->topRun tb p w n₀ ann n s.abs t=ψ s'.abs
 | 0,_,_,_,h=>by cases h
 | n+1,s,s',t,h=>by
  unfold pK at h;unfold topRun
  cases he:through t with
  | true=>rw [he] at h;cases h;rfl
  | false =>
   rw [he] at h
   cases hk:stepOk n₀ ann t with
   | false=>rw [hk] at h;cases h
   | true =>
    rw [hk] at h
    cases hs:stepT (denote tb) p w s t with
    | none=>rw [hs] at h;cases h
    | some r=>obtain⟨s₂,t₂⟩:=r;rw [hs] at h;rw [stepT_spec hs];exact qK h
noncomputable def CH:List Obj->Nat->BT->BT
 | [],_,t=>t
 | o::r,i,t=>CH r (i+1) (t.ins i o)
noncomputable def DI(P:Params):BT:=CH (M6 P).objs.toList 0 .nil
theorem AX:∀P,absHeap (DI P) (M6 P).objs.size (M6 P).life=M6 P:=λP=>by kernel_rfl
variable {α:Type}
theorem F4{p q:v_}{loose:List Str}{Xt:d_->Bool}{Yf:d_->α}{Ya:World->α}{N:Nat}{g0:Bool}{m₀:Nat}{ann:Option Value}(e:opening p=plainProg p.main.scope.names)(hN:Pu 600 N=η)(f:∀s,fenceModules? p s=ψ s)(size:∀w:World,((M6 w.params).isNs mainGlobals && (QK []:Array GenState).size == 0,(M6 w.params).objs.size,(M6 w.params).nsMap mainGlobals "__annotations__")=(η,m₀,ann))(run:∀(w:World) (os:OsState),(pK treeTable p w m₀ ann N ⟨DI w.params,m₀,(M6 w.params).life,QK [],boot_drawn,boot_toks,os⟩ (topStub p)).map (λsT=>((staticsOk (importedModules p.main.body) (M6 w.params) sT.abs.heap && namesBound p sT.abs.heap && gensDone sT.abs && laidKept (M6 w.params) sT.abs.heap),openSeen q loose (importedModules p.main.body) Xt g0 sT.abs,Yf sT.abs))=ψ (η,openGood q loose,Ya w)):LeftO p q loose Xt Yf Ya N g0:=λw=>by
 obtain⟨⟨h,gs,d,k,os⟩,e,e'⟩:=OP.mp (boot_open e hN f w);obtain⟨rfl,rfl,rfl,rfl⟩:h=M6 w.params/\gs=QK []/\d=boot_drawn/\k=boot_toks:=by simpa using e'
 obtain⟨z1,z2,z3⟩:_/\_/\_:=by simpa only [Prod.mk.injEq] using size w
 obtain⟨sT,r,l⟩:=OP.mp (run w os);obtain⟨l1,l2,l3⟩:_/\_/\_:=by simpa only [Prod.mk.injEq] using l
 have r:=qK r
 rw [show SharedT.abs ⟨DI w.params,m₀,(M6 w.params).life,QK [],boot_drawn,boot_toks,os⟩=⟨M6 w.params,QK [],boot_drawn,boot_toks,os⟩ by
  unfold SharedT.abs;dsimp only;rw [<- z2,AX]] at r
 have t:topFrom treeTable p w N ⟨M6 w.params,QK [],boot_drawn,boot_toks,os⟩=ψ sT.abs:=by
  unfold topFrom;dsimp only;rw [z1,z2,z3,r];show (match staticsOk (importedModules p.main.body) (M6 w.params) sT.abs.heap && namesBound p sT.abs.heap && gensDone sT.abs && laidKept (M6 w.params) sT.abs.heap with|true=>_|false=>_)=_;rw [l1]
 unfold openEnds;rw [e];show (topFrom treeTable p w N _).map _=_;rw [t];exact congrArg ψ (Prod.ext l2 l3)
end L2
section
open PySem PySem.W PyProof.Rows
noncomputable def DJ:v_:=PySem.W.view PySem.Challenge.pw_shortglue_k32_whole_by_rings [1,2,3,4,5,7,8,10,11,12,14,15,17,18,19,20,21,22,24,25,26,27,28,29,30,32,33,35,36,37,38,39,41,42,43,44,45,46,47,48,49,50,51,52,53,54,55,56,57,58]
theorem DK:OpenLaw.wellSaid PySem.Challenge.rw_shortglue_k32_whole_by_rings=true:=by kernel_rfl
local macro_rules | `(tactic| o_law)=>`(tactic| refine holds_law DK fun said=>?_)
local macro_rules | `(tactic| o_head $H)=>`(tactic| (refine holds_open (q:=DJ) (loose:=[PySem.Str.ofString "is_text"]) (Xt:=fun s=>xlAt DJ [] s && recOk (RowW.records (OpenRow.toRowW (OpenLaw.row PySem.Challenge.rw_shortglue_k32_whole_by_rings))) s) (XP:=XL DJ []) (Yf:=Hook.obs $H) (Ya:=Hook.val $H) (YP:=Hook.says $H) (N:=5426) ?hl (Hook.of $H) (Hook.keeps $H) (fun s e=>xl_of s (and_eq_true_iff.mp e).1) XL.keeps (by rfl) (by rfl) (by rfl) (fun s e=>recFacts_of (and_eq_true_iff.mp e).2) (by rfl) (by first | assumption | decide +kernel) (by decide +kernel) ⟨rfl,rfl,rfl,rfl,rfl,by decide +kernel⟩ ?hw ?hc;(case hl=>(refine L2.F4 (m₀:=11) (ann:=some (.ref 6)) (by kernel_rfl) (by rfl) (fun s=>by kernel_rfl) (fun w=>by kernel_rfl) ?_;intro w os;kernel_rfl))))
set_option maxRecDepth 100000 in
set_option maxHeartbeats 0 in
open_top topHd for PySem.Challenge.rw_shortglue_k32_whole_by_rings
end
-- CHANGE: your row's module here,as the last of these rows
namespace L2
open PySem PySem.Spec PyProof.Rows
abbrev Key:=Sum Int Str
noncomputable def wu:Key->Value->Bool
 | .inl k,v=>Value.isInt k v
 | .inr x,v=>Value.isStrOf x v
noncomputable def LB(w:World):Key->Int
 | .inl k=>hashInt k
 | .inr x=>hashStr w x
theorem bH:∀{k:Key}{v:Value},wu k v=η->(∃i t,k=M_ i/\v=OH i t)\/(∃x t,k=QW x/\v=Pa x t)
 | .inl i,v,h=>by
  obtain⟨t,e⟩:=Value.isInt_shape (k:=i) (v:=v) h;exact .inl ⟨i,t,rfl,e⟩
 | .inr x,v,h=>by
  obtain⟨t,e⟩:=Value.isStrOf_shape (x:=x) (v:=v) h;exact .inr ⟨x,t,rfl,e⟩
def xW(i:Int)(t:Tok):wu (.inl i) (.int i t)=true:=by simp [wu,Value.isInt]
def xX(x:Str)(t:Tok):wu (.inr x) (.str x t)=true:=by simp [wu,Value.isStrOf]
def F8(a b:Int):decide ((M_ a:Key)=M_ b)=(a == b):=by
 by_cases e:a=b
 .subst e;simp
 .have h:¬ (M_ a:Key)=M_ b:=λq=>e (Sum.inl.inj q);rw [decide_eq_false h];exact (beq_eq_false_iff_ne.mpr e).symm
def Ga(a b:Str):decide ((QW a:Key)=QW b)=decide (a=b):=by
 by_cases e:a=b
 .subst e;simp
 .have h:¬ (QW a:Key)=QW b:=λq=>e (Sum.inr.inj q);rw [decide_eq_false h,decide_eq_false e]
def Gb(a:Int)(b:Str):decide ((M_ a:Key)=QW b)=false:=decide_eq_false (λq=>nomatch q)
def Gc(a:Str)(b:Int):decide ((QW a:Key)=M_ b)=false:=decide_eq_false (λq=>nomatch q)
noncomputable def cB(prog:v_)(w:World):PySem.KeyKind prog w Key where
 is:=wu
 hash:=LB w
 inj:=λv a b ha hb=>by
  rcases bH ha with ⟨i,t,rfl,rfl⟩|⟨x,t,rfl,rfl⟩
  .rcases bH hb with ⟨j,u,rfl,e⟩|⟨y,u,rfl,e⟩
   .injection e with e1 _;rw [e1]
   .exact nomatch e
  .rcases bH hb with ⟨j,u,rfl,e⟩|⟨y,u,rfl,e⟩
   .exact nomatch e
   .injection e with e1 _;rw [e1]
 byValue:=λk v h=>by
  rcases bH h with ⟨i,t,rfl,rfl⟩|⟨x,t,rfl,rfl⟩ <;> rfl
 pyHash:=λhv h=>by
  rcases bH hv with ⟨i,t,rfl,rfl⟩|⟨x,t,rfl,rfl⟩
  .exact wpAny_pyHash_int h
  .exact wpAny_pyHash_str h
 eqBool:=λhu hv h=>by
  rcases bH hu with ⟨i,t,rfl,rfl⟩|⟨x,t,rfl,rfl⟩
  .rcases bH hv with ⟨j,u,rfl,rfl⟩|⟨y,u,rfl,rfl⟩
   .rw [F8] at h;exact wpAny_eqBool_int h
   .rw [Gb] at h;exact SeqAt.EqAt.int_str i t y u _ _ _ _ h
  .rcases bH hv with ⟨j,u,rfl,rfl⟩|⟨y,u,rfl,rfl⟩
   .rw [Gc] at h;exact SeqAt.EqAt.str_int x t j u _ _ _ _ h
   .rw [Ga] at h;exact wpAny_eqBool_str h
 «strs»:=λk x t v h=>by
  rcases bH h with ⟨i,u,rfl,e⟩|⟨y,u,rfl,e⟩
  .exact nomatch e
  .injection e with e1 _;subst e1;cases v <;> rfl
def sY(prog:v_)(w:World)(i:Int)(t:Tok):(cB prog w).is (.inl i) (.int i t)=true:=xW i t
def sZ(prog:v_)(w:World)(x:Str)(t:Tok):(cB prog w).is (.inr x) (.str x t)=true:=xX x t
inductive V where
 | non|bl (b:Bool)|int (i:Int)|str (x:Str)|byt (b:Array UInt8)|flt (b:UInt64)|ref (a:Addr)|ty (n:String)
 deriving DecidableEq
noncomputable def cC:V->Value->Prop
 | .non,u=>u=M7
 | .bl b,u=>u=Nc b
 | .int i,u=>∃t,u=OH i t
 | .str x,u=>∃t,u=Pa x t
 | .byt b,u=>∃t,u=Value.bytes b t
 | .flt b,u=>∃t,u=QL b t
 | .ref a,u=>u=vx a
 | .ty n,u=>u=MX n
abbrev bI:List V->Ξ->Prop:=Paired cC
variable {xs:List V}{us:Ξ}
def bI.length(r:bI xs us):xs.length=us.length:=Paired.length r
theorem bI.get:∀{xs:List V}{us:Ξ}{i:Nat}{x:V},bI xs us->xs[i]?=ψ x->∃u,us[i]?=ψ u/\cC x u
 | _,_,_,_,.nil,e=>by simp at e
 | _,_,0,_,.cons r _,e=>by simp at e;subst e;exact⟨_,rfl,r⟩
 | _,_,i+1,x,.cons _ t,e=>by
  obtain⟨u,h1,h2⟩:=bI.get (i:=i) (x:=x) t (by simpa using e);exact⟨u,by simpa using h1,h2⟩
variable {u:Value}
theorem bI.set{x:V}(r:cC x u):∀{xs:List V}{us:Ξ} (i:Nat),bI xs us->bI (xs.set i x) (us.set i u)
 | _,_,_,.nil=>.nil
 | _,_,0,.cons _ t=>.cons r t
 | _,_,i+1,.cons q t=>.cons q (bI.set r i t)
theorem bI.append:∀{xs ys:List V}{us ws:Ξ},bI xs us->bI ys ws->bI (xs++ys) (us++ws)
 | _,_,_,_,.nil,s=>s
 | _,_,_,_,.cons r t,s=>.cons r (bI.append t s)
theorem bI.take:∀{xs:List V}{us:Ξ} (n:Nat),bI xs us->bI (xs.take n) (us.take n)
 | _,_,0,_=>.nil
 | _,_,_+1,.nil=>.nil
 | _,_,n+1,.cons r t=>.cons r (bI.take n t)
theorem bI.drop:∀{xs:List V}{us:Ξ} (n:Nat),bI xs us->bI (xs.drop n) (us.drop n)
 | _,_,0,r=>r
 | _,_,_+1,.nil=>.nil
 | _,_,n+1,.cons _ t=>bI.drop n t
noncomputable def qL:Option V->Option Value->Prop
 | some v,ψ u=>cC v u
 | none,ω=>True
 | _,_=>False
noncomputable def KV{κ:Type}:List (κ×V)->List (κ×Value)->Prop:=Paired λ(p:κ×V) (q:κ×Value)=>p.1=q.1/\cC p.2 q.2
noncomputable def kV:Key->V
 | .inl i=>.int i
 | .inr x=>.str x
inductive HO where
 | lst (xs:List V)
 | tup (xs:List V)
 | dK (kvs:List (Key×V))|dT (kvs:List (List Key×V))
 | set (S:Int->Bool) (n:Nat)
 | ins (C dx:Addr) (fs:List (Str×V))
 | own (x:Addr)
 | xd (fs:List (Str×V))
 | met (f x:Addr)
 | rng (lo hi:Int)
 | frz (o:Obj) (u:HO)
 | tbl (ps:Array Value)
 | ext (φ:Heap->Prop)
abbrev Hp:=Addr->Option HO
noncomputable def upd(H:Hp)(a:Addr)(o:HO):Hp:=λb=>if b=a then ψ o else H b
variable {H:Hp}{a:Addr}{o:HO}
def aI:upd H a o a=ψ o:=by unfold upd;rw [if_pos rfl]
variable {b:Addr}
def ax(h:b≠a):upd H a o b=H b:=by unfold upd;rw [if_neg h]
def Jr{u:HO}(h:H a=ψ o)(h':H b=ψ u)(d:o≠u):a≠b:=by
 intro e;subst e;rw [h] at h';exact d (w_ h')
def aR(h:H a=ψ o)(h':H b=ω):a≠b:=by
 intro e;subst e;rw [h] at h';cases h'
noncomputable def tm(H:Hp)(h:Heap)(a:Addr)(q:Str):Ξ->Prop
 | []=>True
 | .int _ _::.int _ _::.ref c::r=>H c=ψ (.own a)/\(∃(oc:Obj) (vs:Array Value) (t:Tok),h.get? c=ψ oc/\oc.data=.fields vs/\vs[1]?=ψ (.str q t))/\tm H h a q r
 | _=>False
variable {H':Hp}{h h':Heap}
theorem tm.stay{q:Str}(k:∀b u,H b=ψ (.own a)->h.get? b=ψ u->h'.get? b=ψ u)(ho:∀b,H b=ψ (.own a)->H' b=ψ (.own a)):∀l:Ξ,tm H h a q l->tm H' h' a q l
 | [],_=>trivial
 | .int _ _::.int _ _::.ref c::r,x=>by
  obtain⟨x1,⟨oc,vs,t,e1,e2,e3⟩,x2⟩:=x;exact⟨ho _ x1,⟨oc,vs,t,k _ _ x1 e1,e2,e3⟩,tm.stay k ho r x2⟩
noncomputable def AY(H:Hp)(h:Heap)(a:Addr)(ps:Array Value):Prop:=∃(q:Str) (t:Tok) (more real:Array Value),ps=#[.str q t]++more/\h.get? a=ψ { cls:=.none,data:=.fields real }/\tm H h a q real.toList
section
variable (P:v_) (w:World)
noncomputable def bN(H:Hp)(h:Heap)(a:Addr):HO->Prop
 | .lst xs=>xs.length<=sizeLine/\∃(its:Ξ) (n:Nat),bI xs its/\h.get? a=ψ { cls:=.type "list",data:=.seq its.toArray n }
 | .tup xs=>xs.length<=sizeLine/\∃its:Ξ,bI xs its/\IsTup h a its.toArray
 | .dK kvs=>kvs.length<=sizeLine/\(a == sysModules)=ξ/\∃vs,KV kvs vs/\h.DictOf (cB P w) a vs
 | .dT kvs=>kvs.length<=sizeLine/\(a == sysModules)=ξ/\∃xs:List (List Key×Addr×Value),
   Paired (λ(p:List Key×V) (q:List Key×Addr×Value)=>p.1=q.1/\H q.2.1=ψ (.tup (p.1.map kV))/\cC p.2 q.2.2) kvs xs /\
   ∃o es ep,h.get? a=ψ o/\o.ExactDict/\o.data=.dict es ep/\es.toList=xs.map (entryOfKey (tupleKind (cB P w)))/\(xs.map (·.1)).Nodup
 | .set S n=>h.SetOf (intKind P w) a S n
 | .ins C dx fs=>H dx=ψ (.own a)/\fs.length<=1000/\dx≠a/\h.get? a=ψ (Nd C dx) /\
   ∃mA,h.Ns1 dx mA/\(∀f,qL (fs.lookup f) (mA f))/\QZ mA (fs.map (·.1))
 | .own _=>∃o,h.get? a=ψ o
 | .xd fs=>∃mA,h.Ns1 a mA/\∀f,qL (fs.lookup f) (mA f)
 | .rng lo hi=>∃t u v,h.get? a=ψ { cls:=.type "range",data:=.fields #[.int lo t,.int hi u,.int 1 v] }
 | .frz o u=>h.get? a=ψ o/\bN H h a u
 | .tbl ps=>AY H h a ps
 | .met f x=>h.get? a=ψ (PY (.ref f) (.ref x))
 | .ext φ=>φ h/\(∃o,h.get? a=ψ o)/\∀h1 h2:Heap,φ h1->(∀o,h1.get? a=ψ o->h2.get? a=ψ o)->φ h2
noncomputable def HOk(H:Hp)(h:Heap):Prop:=∀a o,H a=ψ o->bN P w H h a o
end
section
variable {P:v_}{w:World}
def bN.lt(x:bN P w H h a o):a<h.objs.size:=by
 cases o with
 | lst xs=>obtain⟨_,_,_,_,e⟩:=x;exact m_ e
 | tup xs=>obtain⟨_,_,_,p⟩:=x;exact p.lt
 | dK kvs=>obtain⟨_,_,_,_,o,_,_,e,_⟩:=x;exact m_ e
 | dT kvs=>obtain⟨_,_,_,_,o,_,_,e,_⟩:=x;exact m_ e
 | set S n=>obtain⟨o,_,_,_,e,_⟩:=x;exact m_ e
 | ins C dx fs=>obtain⟨_,_,_,e,_⟩:=x;exact m_ e
 | own y=>obtain⟨_,e⟩:=x;exact m_ e
 | xd fs=>obtain⟨_,⟨_,_,_,e,_⟩,_⟩:=x;exact m_ e
 | rng lo hi=>obtain⟨_,_,_,e⟩:=x;exact m_ e
 | frz ob u=>obtain⟨e,_⟩:=x;exact m_ e
 | tbl ps=>obtain⟨_,_,_,_,_,e,_⟩:=x;exact m_ e
 | met f y=>exact m_ (show h.get? a=ψ _ from x)
 | ext φ=>obtain⟨_,⟨_,e⟩,_⟩:=x;exact m_ e
variable {α β:Type}
theorem Paired.mapP{F G:α->β->Prop}:∀{l₁:List α}{l₂:List β},Paired F l₁ l₂->(∀a b,F a b->G a b)->Paired G l₁ l₂
 | _,_,.nil,_=>.nil
 | _,_,.cons r t,f=>.cons (f _ _ r) (Paired.mapP t f)
def bN.stay(x:bN P w H h a o)(k:∀b u,(b=a\/H b=ψ (.own a))->h.get? b=ψ u->h'.get? b=ψ u)(ho:∀b,H b=ψ (.own a)->H' b=ψ (.own a))(ht:∀b xs,H b=ψ (.tup xs)->H' b=ψ (.tup xs)):bN P w H' h' a o:=by
 induction o with
 | lst xs=>obtain⟨z,its,n,r,e⟩:=x;exact⟨z,its,n,r,k _ _ (.inl rfl) e⟩
 | tup xs=>obtain⟨z,its,r,ob,e,c⟩:=x;exact⟨z,its,r,ob,k _ _ (.inl rfl) e,c⟩
 | dK kvs=>obtain⟨z,y,vs,r,ob,es,ep,e,c⟩:=x;exact⟨z,y,vs,r,ob,es,ep,k _ _ (.inl rfl) e,c⟩
 | dT kvs =>
  obtain⟨z,y,xs,r,ob,es,ep,e,c⟩:=x;exact⟨z,y,xs,Paired.mapP r λp q z=>⟨z.1,ht _ _ z.2.1,z.2.2⟩,ob,es,ep,k _ _ (.inl rfl) e,c⟩
 | set S n=>obtain⟨ob,es,ep,t,e,c⟩:=x;exact⟨ob,es,ep,t,k _ _ (.inl rfl) e,c⟩
 | ins C dx fs =>
  obtain⟨d,z,ne,e,mA,⟨od,es,ep,e2,c⟩,r⟩:=x;exact⟨ho _ d,z,ne,k _ _ (.inl rfl) e,mA,⟨od,es,ep,k _ _ (.inr d) e2,c⟩,r⟩
 | own y=>obtain⟨ob,e⟩:=x;exact⟨ob,k _ _ (.inl rfl) e⟩
 | xd fs=>obtain⟨mA,⟨od,es,ep,e,c⟩,r⟩:=x;exact⟨mA,⟨od,es,ep,k _ _ (.inl rfl) e,c⟩,r⟩
 | rng lo hi=>obtain⟨t,u,v,e⟩:=x;exact⟨t,u,v,k _ _ (.inl rfl) e⟩
 | frz ob u ih=>obtain⟨e,q⟩:=x;exact⟨k _ _ (.inl rfl) e,ih q⟩
 | tbl ps =>
  obtain⟨q,t,more,real,e1,e,r⟩:=x;exact⟨q,t,more,real,e1,k a _ (.inl rfl) e,tm.stay (λb u z=>k b u (.inr z)) ho _ r⟩
 | met f y =>
  have e:h.get? a=ψ (PY (.ref f) (.ref y)):=x;show h'.get? a=ψ (PY (.ref f) (.ref y));exact k a _ (.inl rfl) e
 | ext φ=>obtain⟨p,⟨o,e⟩,st⟩:=x;exact⟨st _ _ p λo q=>k _ _ (.inl rfl) q,⟨o,k _ _ (.inl rfl) e⟩,st⟩
def HOk.lt(x:HOk P w H h)(e:H a=ψ o):a<h.objs.size:=(x a o e).lt
def HOk.fresh(x:HOk P w H h)(e:h.objs.size<=a):H a=none:=by
 cases q:H a with
 | none=>rfl
 | some u=>exact absurd (A_ (x.lt q) e) (Md _)
def HOk.kept(x:HOk P w H h)(k:∀b u,h.get? b=ψ u->h'.get? b=ψ u):HOk P w H h':=λa o e =>
 (x a o e).stay (λb u _ q=>k b u q) (λ_ q=>q) λ_ _ q=>q
def HOk.laid(x:HOk P w H h)(k:∀b u,h.get? b=ψ u->h'.get? b=ψ u)(hp:h.objs.size<=a)(new:bN P w (upd H a o) h' a o):HOk P w (upd H a o) h':=λb u e=>by
 have hn:=x.fresh hp
 by_cases hb:b=a
 .subst hb;rw [aI] at e;cases e;exact new
 .rw [ax hb] at e;exact (x b u e).stay (λc v _ q=>k c v q) (λc q=>by rw [ax (aR q hn)];exact q) λc xs q=>by rw [ax (aR q hn)];exact q
end
noncomputable def Rd(H:Hp)(a:Addr)(u:HO):Prop:=H a=ψ u\/∃o,H a=ψ (.frz o u)
variable {w:World}
def Rd.ok{P:v_}{u:HO}(r:Rd H a u)(x:HOk P w H h):bN P w H h a u:=by
 rcases r with r|⟨o,r⟩
 .exact x a u r
 .obtain⟨_,q⟩:=x a _ r;exact q
noncomputable def Mut:Option HO->Prop
 | some (.lst _)=>True
 | some (.dK _)=>True
 | some (.dT _)=>True
 | some (.set _ _)=>True
 | some (.ins _ _ _)=>True
 | some (.ext _)=>True
 | _=>False
section
variable {P:v_}{x e:Addr}{o':HO}
def HOk.write(ok:HOk P w H h)(mu:Mut (H x))(he:e=x\/H e=ψ (.own x))(k:∀b u,b≠e->h.get? b=ψ u->h'.get? b=ψ u)(heo:∃u,h'.get? e=ψ u)(new:bN P w (upd H x o') h' x o'):HOk P w (upd H x o') h':=λb u q=>by
 have nown:∀c y,H c=ψ (.own y)->c≠x:=λc y r z=>by subst z;rw [r] at mu;exact mu
 have ntup:∀c xs,H c=ψ (.tup xs)->c≠x:=λc xs r z=>by subst z;rw [r] at mu;exact mu
 by_cases hb:b=x
 .subst hb;rw [aI] at q;cases q;exact new
 .rw [ax hb] at q
  by_cases hbe:b=e
  .have q':H b=ψ (.own x):=by
    rcases he with z|z
    .exact absurd (hbe.trans z) hb
    .rw [hbe];exact z
   rw [q] at q';cases q';obtain⟨v,hv⟩:=heo;exact⟨v,by rw [hbe];exact hv⟩
  .refine (ok b u q).stay (λc v hc r=>k c v ?_ r) (λc r=>by rw [ax (nown c b r)];exact r) λc xs r=>by rw [ax (ntup c xs r)];exact r
   rcases hc with rfl|hc
   .exact hbe
   .rintro rfl
    rcases he with z|z
    .exact nown c b hc z
    .rw [hc] at z;cases z;exact hb rfl
end
structure Un (fs ex:List Addr) (H H':Hp) (h h':Heap):Prop where
 keep:∀b o,h.get? b=ψ o->H b=ω->b∉fs->b∉ex->h'.get? b=ψ o
 slot:∀b o,h.get? b=ψ o->H b=ω->b∈fs->b∉ex->∃sl,h'.get? b=ψ { o with slots:=sl }
 free:∀b o,h.get? b=ψ o->H b=ω->b∉ex->H' b=ω
 there:∀b o,h.get? b=ψ o->b∉ex->∃o',h'.get? b=ψ o'
 tups:∀b xs,H b=ψ (.tup xs)->H' b=ψ (.tup xs)
 frzs:∀b o u,H b=ψ (.frz o u)->H' b=ψ (.frz o u)
 tbls:∀b ps,H b=ψ (.tbl ps)->∃more,H' b=ψ (.tbl (ps++more))
section
variable {fs ex:List Addr}{H1:Hp}{h1:Heap}
def Un.any(u:Un fs ex H H1 h h1){ob:Obj}(q:h.get? b=ψ ob)(n:H b=ω)(hx:b∉ex):∃sl,h1.get? b=ψ { ob with slots:=sl }:=by
 by_cases hb:b∈fs
 .exact u.slot b ob q n hb hx
 .exact⟨ob.slots,u.keep b ob q n hb hx⟩
def Un.kept(k:∀b u,h.get? b=ψ u->h'.get? b=ψ u):Un fs ex H H h h' :=
 ⟨λb ob q _ _ _=>k b ob q,λb ob q _ _ _=>⟨ob.slots,k b ob q⟩,λ_ _ _ n _=>n,λb ob q _=>⟨ob,k b ob q⟩,λ_ _ q=>q,λ_ _ _ q=>q,λ_ ps q=>⟨#[],by rw [q];simp⟩⟩
def Un.refl:Un fs ex H H h h:=Un.kept λ_ _ q=>q
def Un.laid(k:∀b u,h.get? b=ψ u->h'.get? b=ψ u)(hp:h.objs.size<=a)(hn:H a=ω):Un fs ex H (upd H a o) h h' where
 keep:=λb u q _ _ _=>k b u q
 slot:=λb u q _ _ _=>⟨u.slots,k b u q⟩
 free:=λb u q n _=>by rw [ax (Mh (A_ (m_ q) hp))];exact n
 there:=λb u q _=>⟨u,k b u q⟩
 tups:=λb xs q=>by rw [ax (aR q hn)];exact q
 frzs:=λb u xs q=>by rw [ax (aR q hn)];exact q
 tbls:=λb ps q=>⟨#[],by rw [ax (aR q hn),q];simp⟩
variable {x e:Addr}
def Un.write(mu:Mut (H x))(he:e=x\/H e=ψ (.own x))(k:∀b u,b≠e->h.get? b=ψ u->h'.get? b=ψ u)(heo:∃u,h'.get? e=ψ u):Un fs ex H (upd H x o) h h':=by
 have hx:∀b,H b=ω->b≠x:=λb n z=>by subst z;rw [n] at mu;exact mu
 have hb:∀b,H b=ω->b≠e:=λb n z=>by
  subst z
  rcases he with r|r
  .exact hx b n r
  .rw [n] at r;cases r
 have hm:∀b u,H b=ψ u->¬ Mut (ψ u)->b≠x:=λb u q nm z=>by subst z;rw [q] at mu;exact nm mu
 refine⟨λb u q n _ _=>k b u (hb b n) q,λb u q n _ _=>⟨u.slots,k b u (hb b n) q⟩,λb u q n _=>by rw [ax (hx b n)];exact n,λb u q _=>?_,
  λb xs q=>by rw [ax (hm b _ q λz=>z)];exact q,λb u xs q=>by rw [ax (hm b _ q λz=>z)];exact q,λb ps q=>⟨#[],by rw [ax (hm b _ q λz=>z),q];simp⟩⟩
 by_cases hbe:b=e
 .subst hbe;exact heo
 .exact⟨u,k b u hbe q⟩
end
noncomputable def trk(h:Heap)(H:Hp):List Addr:=(g_ h.objs.size).filter λa=>(H a).isSome
noncomputable def Gd(h:Heap)(H:Hp):Heap:=PySem.W.hideAll h (trk h H)
def xY(h:Heap)(H:Hp):(Gd h H).objs.size=h.objs.size:=PySem.W.hideAll_size _ _
def AZ{o:Obj}(e:h.get? b=ψ o)(n:H b=ω):(Gd h H).get? b=ψ o :=
 PySem.W.hideAll_get _ e λhm=>by
  have q:(H b).isSome=true:=(Mq.mp hm).2;rw [n] at q;simp at q
def DL{o:Obj}(e:(Gd h H).get? b=ψ o):h.get? b=ψ o/\H b=none:=by
 have e':h.get? b=ψ o:=PySem.W.of_hideAll (trk h H) e;refine⟨e',?_⟩
 cases q:H b with
 | none=>rfl
 | some x =>
  have hm:b∈trk h H:=Mq.mpr ⟨L_.mpr (m_ e'),by simp [q]⟩;have z:(Gd h H).get? b=none:=PySem.W.hideAll_none (trk h H) hm;rw [z] at e;cases e
noncomputable def qM(base:Heap)(H:Hp):Prop:=∀(P:Addr) (r:Δ),base.life.registered=P::r->∃(t:Tok) (more:Array Value),H P=ψ (.tbl (#[.str ⟨r.toArray⟩ t]++more))
variable {base:Heap}
def qM.un{fs ex:List Addr}(x:qM base H)(u:Un fs ex H H' h h'):qM base H':=λP r e=>by
 obtain⟨t,more,q⟩:=x P r e;obtain⟨m2,q2⟩:=u.tbls P _ q;exact⟨t,more++m2,by rw [q2,Array.append_assoc]⟩
noncomputable def Ge(h:Heap)(H:Hp):Heap:={ Gd h H with life:={} }
structure Mod (K:b_) (mg:Θ) (base:Heap):Prop where
 kin:K.In base
 glob:base.Ns mainGlobals mg
 blt:∃mb,base.Ns builtinsNs mb/\∀x:Str,x≠"__name__"->mb x=bootBuiltins x
 nolimit:base.NoLimit
structure Cx where
 prog:v_
 w:World
 K:b_
 mg:Str->Option Value
 base:Heap
 A:G_
 N:List Str
 s₀:d_
 H₀:Hp
 env:Env
 outer:List Env
 stack:List Env
 ex:List Addr
 fn:Str->Bool
 calm:Bool
 pn:List (Addr×Obj)
 xe:Value->d_->Prop
noncomputable def frs(l:List Env):List Addr:=l.filterMap (·.frame)
abbrev Cx.fs(X:Cx):List Addr:=frs X.outer
noncomputable def Vis(sc:Scope)(x:Str):Prop:=sc.names.lookup x=ψ .local\/sc.names.lookup x=ψ .cell\/sc.names.lookup x=ψ .free
noncomputable def Loc(sc:Scope)(x:Str):Prop:=sc.names.lookup x=ψ .local\/sc.names.lookup x=ψ .cell
noncomputable def LD(env:Env)(h:Heap)(m:Θ)(x:Str)(u:Value):Prop :=
 (env.kindOf x=ψ .local/\m x=ψ u)\/((env.kindOf x=ψ .cell\/env.kindOf x=ψ .free)/\∃c,env.cells.lookup x=ψ c/\h.IsCell c (ψ u))
structure Cx.Ok (X:Cx):Prop where
 mod:Mod X.K X.mg X.base
 kind:X.env.scope.kind=.function
 glob:X.env.globals=mainGlobals
 blt:X.env.builtins=builtinsNs
 above:X.s₀.heap.objs.size<=X.env.locals
 inj:∀x y c,X.env.cells.lookup x=ψ c->X.env.cells.lookup y=ψ c->x=y
 has:∀x,(X.env.kindOf x=ψ .cell\/X.env.kindOf x=ψ .free)->∃c,X.env.cells.lookup x=ψ c
 cab:∀x c,X.fn x=η->X.env.cells.lookup x=ψ c->X.s₀.heap.objs.size<=c
 hd:X.calm=η->X.A.handled=ω
 frames:X.A.frames=ψ X.stack
 stk:X.stack=X.outer\/(X.stack=X.env::X.outer/\X.env.frame=ψ X.env.locals)
 exf:∀b∈X.ex,b≠X.env.locals/\∀x c,X.env.cells.lookup x=ψ c->c≠b
 bs:∀b o,X.base.get? b=ψ o->X.s₀.heap.get? b=ψ o/\X.H₀ b=ω
 bsz:X.base.objs.size<=X.s₀.heap.objs.size
 noex:∀b o,X.base.get? b=ψ o->b∉X.ex
 exfs:∀b∈X.ex,b∉X.fs
 funs:X.s₀.heap.FunFrames X.base X.outer
 frf:∀b∈X.fs,X.H₀ b=ω
 tb:qM X.base X.H₀
structure Inv (X:Cx) (pins:List (Addr×Obj)) (σ:List (Option V)) (H:Hp) (s:d_):Prop where
 ok:X.Ok
 os:s.os=X.s₀.os
 bare:PZ s.gens
 base:Un X.fs X.ex X.H₀ H X.s₀.heap s.heap
 loc:∃m,s.heap.Ns X.env.locals m/\∀(i:Nat) (x:Str) (v:V),X.N[i]?=ψ x->σ[i]?=ψ (ψ v)->Vis X.env.scope x->∃u,cC v u/\LD X.env s.heap m x u
 cell:∀x c,X.env.cells.lookup x=ψ c->∃v,s.heap.IsCell c v
 free:H X.env.locals=ω
 freeC:∀x c,X.env.cells.lookup x=ψ c->H c=ω
 pin:∀p∈X.pn++pins,s.heap.get? p.1=ψ p.2/\H p.1=ω/\p.1≠X.env.locals/\p.1∉X.fs/\∀v,p.2.data≠.cell v
 hok:HOk X.prog X.w H s.heap
 len:σ.length=X.N.length
variable {X:Cx}
def Cx.Ok.nofr(ok:X.Ok){o:Obj}(e:X.base.get? b=ψ o):b∉X.fs:=λhb=>by
 have:=(ok.funs.mem hb).1;rw [e] at this;cases this
variable {pins:List (Addr×Obj)}{σ:List (Option V)}{s:d_}
def Inv.bs(I:Inv X pins σ H s):∀b o,X.base.get? b=ψ o->s.heap.get? b=ψ o/\H b=none:=λb o e =>
 ⟨I.base.keep b o (I.ok.bs b o e).1 (I.ok.bs b o e).2 (I.ok.nofr e) (I.ok.noex b o e),I.base.free b o (I.ok.bs b o e).1 (I.ok.bs b o e).2 (I.ok.noex b o e)⟩
def Inv.bk(I:Inv X pins σ H s):∀b o,X.base.get? b=ψ o->s.heap.get? b=ψ o:=λb o e=>(I.bs b o e).1
def Inv.mod(I:Inv X pins σ H s):Mod X.K X.mg X.base:=I.ok.mod
def Inv.kIn(I:Inv X pins σ H s):X.K.In s.heap:=I.ok.mod.kin.keeps I.bk
def Inv.lt(I:Inv X pins σ H s):X.env.locals<s⁻¹:=let ⟨_,hn,_⟩:=I.loc;hn.lt
def Inv.sz(I:Inv X pins σ H s):X.s₀.heap.objs.size<=s⁻¹:=Mn I.ok.above (Q0 I.lt)
def Inv.nofs(I:Inv X pins σ H s)(h:s⁻¹<=a):a∉X.fs:=λhb=>by
 obtain⟨_,o,ho,_⟩:=I.ok.funs.mem hb;exact absurd (A_ (m_ ho) (Mn I.sz h)) (Md _)
def Inv.cne(I:Inv X pins σ H s):∀x c,X.env.cells.lookup x=ψ c->c≠X.env.locals:=λx c e z=>by
 obtain⟨v,o,ho,hd⟩:=I.cell x c e;obtain⟨m,⟨o',es,ep,ho',hd',_⟩,_⟩:=I.loc;rw [z,ho'] at ho;cases ho;rw [hd'] at hd;cases hd
def Inv.funs(I:Inv X pins σ H s):s.heap.FunFrames X.base X.outer:=by
 have all:∀(l:List Env),(∀b∈frs l,b∈X.fs)->X.s₀.heap.FunFrames X.base l->s.heap.FunFrames X.base l:=by
  intro l
  induction l with
  | nil=>intro _ _;trivial
  | cons env r ih =>
   intro hs hl;obtain⟨hk,⟨L,o,hf,hn,ho,hd⟩,hr⟩:=hl;have hL:L∈X.fs:=hs L (by unfold frs;rw [OQ,hf];exact q_);obtain⟨sl,e⟩:=I.base.slot L o ho (I.ok.frf L hL) hL λz=>I.ok.exfs L z hL;exact⟨hk,⟨L,_,hf,hn,e,hd⟩,ih (λb hb=>hs b (by unfold frs;rw [OQ,hf];exact n_ _ hb)) hr⟩
 exact all X.outer (λ_ hb=>hb) I.ok.funs
def Inv.stack(I:Inv X pins σ H s):s.heap.FunFrames X.base X.stack:=by
 rcases I.ok.stk with e|⟨e,hf⟩
 .rw [e];exact I.funs
 .rw [e];obtain⟨m,hn,_⟩:=I.loc;refine .cons (by rw [I.ok.kind];decide) hf hn ?_ I.funs;exact Heap.get?_none_of_le (Mn I.ok.bsz I.ok.above)
def Inv.stkSub(I:Inv X pins σ H s):∀b∈frs X.stack,b∈X.env.locals::X.fs:=λb hb=>by
 rcases I.ok.stk with e|⟨e,hf⟩
 .rw [e] at hb;exact n_ _ hb
 .rw [e] at hb;unfold frs at hb;rw [OQ,hf] at hb;exact hb
def Inv.stkFree(I:Inv X pins σ H s):∀b∈frs X.stack,H b=none:=λb hb=>by
 rcases B_.mp (I.stkSub b hb) with e|hb
 .rw [e];exact I.free
 .obtain⟨_,o,ho,_⟩:=I.ok.funs.mem hb;exact I.base.free b o ho (I.ok.frf b hb) λz=>I.ok.exfs b z hb
variable {t':Nat}
def Inv.step{g':Array GenState}{d':Drawn}{ch:List Addr}(I:Inv X pins σ H s)(hch:∀b∈ch,(b∈X.ex\/X.s₀.heap.objs.size<=b)/\b≠X.env.locals/\(∀x c,X.env.cells.lookup x=ψ c->c≠b)/\∀p∈X.pn++pins,p.1≠b)(keep:∀b o,b≠X.env.locals->b∉X.fs->b∉ch->s.heap.get? b=ψ o->H b=ω->h'.get? b=ψ o)(slot:∀b o,b≠X.env.locals->b∈X.fs->b∉ch->s.heap.get? b=ψ o->H b=ω->∃sl,h'.get? b=ψ { o with slots:=sl })(free:∀b o,b∉ch->s.heap.get? b=ψ o->H b=ω->H' b=ω)(there:∀b o,b∉ch->s.heap.get? b=ψ o->∃o',h'.get? b=ψ o')(tups:∀b xs,H b=ψ (.tup xs)->H' b=ψ (.tup xs))(frzs:∀b o u,H b=ψ (.frz o u)->H' b=ψ (.frz o u))(tbls:∀b ps,H b=ψ (.tbl ps)->∃more,H' b=ψ (.tbl (ps++more)))(ns:∀m,s.heap.Ns X.env.locals m->h'.Ns X.env.locals m)(hok:HOk X.prog X.w H' h')(hg:PZ g'):
  Inv X pins σ H' { s with heap:=h',gens:=g',drawn:=d',toks:=t' }:=by
 have neL:∀b o,X.s₀.heap.get? b=ψ o->b≠X.env.locals:=λb o e=>Mh (A_ (m_ e) I.ok.above)
 have neC:∀b o,X.s₀.heap.get? b=ψ o->b∉X.ex->b∉ch:=λb o e hx hb=>by
  rcases (hch b hb).1 with z|z
  .exact hx z
  .exact absurd (A_ (m_ e) z) (Md _)
 have cellK:∀x c,X.env.cells.lookup x=ψ c->∀v,s.heap.IsCell c v->h'.IsCell c v:=λx c e v ⟨o,ho,hd⟩=>by
  have nch:c∉ch:=λz=>(hch c z).2.2.1 x c e rfl
  by_cases hc:c∈X.fs
  .obtain⟨sl,q⟩:=slot c o (I.cne x c e) hc nch ho (I.freeC x c e);exact⟨_,q,hd⟩
  .exact⟨o,keep c o (I.cne x c e) hc nch ho (I.freeC x c e),hd⟩
 refine⟨I.ok,I.os,hg,⟨λb o e n hb hx=>?_,λb o e n hb hx=>?_,λb o e n hx=>?_,λb o e hx=>?_,λb xs e=>tups b xs (I.base.tups b xs e),λb o xs e=>frzs b o xs (I.base.frzs b o xs e),λb ps e=>?_⟩,?_,λx c e=>?_,?_,λx c e=>?_,λp hp=>?_,hok,I.len⟩
 .exact keep b o (neL b o e) hb (neC b o e hx) (I.base.keep b o e n hb hx) (I.base.free b o e n hx)
 .obtain⟨sl,e1⟩:=I.base.slot b o e n hb hx;obtain⟨sl',e2⟩:=slot b _ (neL b o e) hb (neC b o e hx) e1 (I.base.free b o e n hx);exact⟨sl',e2⟩
 .obtain⟨o',e1⟩:=I.base.there b o e hx;exact free b o' (neC b o e hx) e1 (I.base.free b o e n hx)
 .obtain⟨o',e1⟩:=I.base.there b o e hx;exact there b o' (neC b o e hx) e1
 .obtain⟨m1,e1⟩:=I.base.tbls b ps e;obtain⟨m2,e2⟩:=tbls b _ e1;exact⟨m1++m2,by rw [e2,Array.append_assoc]⟩
 .obtain⟨m,hn,hl⟩:=I.loc;refine⟨m,ns m hn,λi x v e1 e2 e3=>?_⟩;obtain⟨u,r,l⟩:=hl i x v e1 e2 e3;refine⟨u,r,?_⟩
  rcases l with l|⟨k,c,e,z⟩
  .exact .inl l
  .exact .inr ⟨k,c,e,cellK x c e _ z⟩
 .obtain⟨v,z⟩:=I.cell x c e;exact⟨v,cellK x c e v z⟩
 .obtain⟨m,⟨o,_,_,ho,_⟩,_⟩:=I.loc;exact free _ o (λz=>(hch _ z).2.1 rfl) ho I.free
 .obtain⟨v,o,ho,hd⟩:=I.cell x c e;exact free c o (λz=>(hch c z).2.2.1 x c e rfl) ho (I.freeC x c e)
 .obtain⟨e,n,ne,nf,d⟩:=I.pin p hp;have nch:p.1∉ch:=λz=>(hch p.1 z).2.2.2 p hp rfl;exact⟨keep p.1 p.2 ne nf nch e n,free p.1 p.2 nch e n,ne,nf,d⟩
def Inv.un(I:Inv X pins σ H s)(u:Un X.fs [] H H' s.heap h')(hok:HOk X.prog X.w H' h'):Inv X pins σ H' { s with heap:=h',toks:=t' }:=by
 obtain⟨m,⟨o,es,ep,ho,r⟩,_⟩:=id I.loc;obtain⟨sl,hL⟩:=u.any ho I.free (by simp)
 exact I.step (g':=s.gens) (d':=s.drawn) (ch:=[]) (λ_ z=>nomatch z) (λb o _ hb _ e n=>u.keep b o e n hb (by simp)) (λb o _ hb _ e n=>u.slot b o e n hb (by simp)) (λb o _ e n=>u.free b o e n (by simp)) (λb o _ e=>u.there b o e (by simp)) u.tups u.frzs u.tbls (λm' hm=>by
  obtain⟨o',es',ep',ho',r'⟩:=hm;rw [ho] at ho';cases ho';exact⟨_,es',ep',hL,r'⟩) hok I.bare
def Inv.call{g':Array GenState}{d':Drawn}{ch:List Addr}(I:Inv X pins σ H s)(u:Un (frs X.stack) ch H H' s.heap h')(hok:HOk X.prog X.w H' h')(hg:PZ g')(hch:∀b∈ch,(b∈X.ex\/X.s₀.heap.objs.size<=b)/\b≠X.env.locals/\(∀x c,X.env.cells.lookup x=ψ c->c≠b)/\∀p∈X.pn++pins,p.1≠b):
  Inv X pins σ H' { s with heap:=h',gens:=g',drawn:=d',toks:=t' }:=by
 obtain⟨m,⟨o,es,ep,ho,r⟩,_⟩:=id I.loc;obtain⟨sl,hL⟩:=u.any ho I.free λz=>(hch _ z).2.1 rfl
 exact I.step (ch:=ch) hch (λb o hL hb hc e n=>u.keep b o e n (λz=>(B_.mp (I.stkSub b z)).elim hL hb) hc) (λb o _ _ hc e n=>u.any e n hc) (λb o hc e n=>u.free b o e n hc) (λb o hc e=>u.there b o e hc) u.tups u.frzs u.tbls (λm' hm=>by
  obtain⟨o',es',ep',ho',r'⟩:=hm;rw [ho] at ho';cases ho';exact⟨_,es',ep',hL,r'⟩) hok hg
variable {it:Addr}
def Inv.turned(I:Inv X pins σ H s)(k:∀b o,b≠it->s.heap.get? b=ψ o->h'.get? b=ψ o)(hn:H it=ω)(hL:it≠X.env.locals)(h1:it∈X.ex\/X.s₀.heap.objs.size<=it)(h2:∀x c,X.env.cells.lookup x=ψ c->c≠it)(h3:∀p∈X.pn++pins,p.1≠it):Inv X pins σ H { s with heap:=h',toks:=t' }:=by
 have nit:∀b u,H b=ψ u->b≠it:=λb u e z=>by rw [z,hn] at e;cases e
 refine I.step (g':=s.gens) (d':=s.drawn) (ch:=[it]) (λb hb=>?_) (λb o _ _ hc e _=>k b o (λz=>hc (by simp [z])) e) (λb o _ _ hc e _=>⟨o.slots,k b o (λz=>hc (by simp [z])) e⟩) (λ_ _ _ _ n=>n)
  (λb o hc e=>⟨o,k b o (λz=>hc (by simp [z])) e⟩) (λ_ _ e=>e) (λ_ _ _ e=>e) (λb ps e=>⟨#[],by rw [e];simp⟩) (λm hm=>?_) (λb u e=>?_) I.bare
 .have e:b=it:=by simpa using hb
  subst e;exact⟨h1,hL,h2,h3⟩
 .obtain⟨o,es,ep,ho,r⟩:=hm;exact⟨o,es,ep,k _ o (Nh hL) ho,r⟩
 .refine (I.hok b u e).stay (λc v hc q=>k c v ?_ q) (λ_ q=>q) λ_ _ q=>q
  rcases hc with z|z
  .rw [z];exact nit b u e
  .exact nit c _ z
def Inv.tok(I:Inv X pins σ H s)(t:Nat):Inv X pins σ H { s with toks:=t }:=I.un (h':=s.heap) (t':=t) Un.refl I.hok
def Inv.kept(I:Inv X pins σ H s)(k:∀b u,s.heap.get? b=ψ u->h'.get? b=ψ u):Inv X pins σ H { s with heap:=h',toks:=t' }:=I.un (Un.kept k) (I.hok.kept k)
def Inv.laid(I:Inv X pins σ H s)(k:∀b u,s.heap.get? b=ψ u->h'.get? b=ψ u)(hp:s⁻¹<=a)(new:bN X.prog X.w (upd H a o) h' a o):
  Inv X pins σ (upd H a o) { s with heap:=h',toks:=t' }:=I.un (Un.laid k hp (I.hok.fresh hp)) (I.hok.laid k hp new)
def Inv.write{x e:Addr}(I:Inv X pins σ H s)(mu:Mut (H x))(he:e=x\/H e=ψ (.own x))(k:∀b u,b≠e->s.heap.get? b=ψ u->h'.get? b=ψ u)(heo:∃u,h'.get? e=ψ u)(new:bN X.prog X.w (upd H x o) h' x o):Inv X pins σ (upd H x o) { s with heap:=h',toks:=t' }:=I.un (Un.write mu he k heo) (I.hok.write mu he k heo new)
def Inv.pins_of{pins':List (Addr×Obj)}(I:Inv X pins σ H s)(h:∀p∈pins',s.heap.get? p.1=ψ p.2/\H p.1=ω/\p.1≠X.env.locals/\p.1∉X.fs/\∀v,p.2.data≠.cell v):Inv X pins' σ H s :=
 ⟨I.ok,I.os,I.bare,I.base,I.loc,I.cell,I.free,I.freeC,λp hp=>(Mv.mp hp).elim (λz=>I.pin p (Mf _ z)) (h p),I.hok,I.len⟩
variable {N:List Str}{i j:Nat}{x:Str}
def vd(hN:N.Nodup)(a:N[i]?=ψ x)(b:N[j]?=ψ x):i=j:=by
 obtain⟨h1,e1⟩:=k_.mp a;obtain⟨h2,e2⟩:=k_.mp b;exact (getElem_inj hN).mp (e1.trans e2.symm)
variable {M:Model}{A:G_}{E:Value->d_->Prop}{v:V}
theorem xZ{Q:Unit->d_->Prop}(I:Inv X pins σ H s)(hN:X.N.Nodup)(hi:X.N[i]?=ψ x)(hx:Loc X.env.scope x)(r:cC v u)(h:∀s',Inv X pins (σ.set i (ψ v)) H s'->(∃a,Of a s.heap s'.heap/\(a=X.env.locals\/X.env.cells.lookup x=ψ a))->Q () s')(hf:X.fn x=η\/X.env.scope.names.lookup x=ψ .local:=by first|exact .inl rfl|exact .inr rfl|assumption):wpAny M A (storeName X.env x u) Q E s:=by
 obtain⟨m,hn,hl⟩:=id I.loc;have hcls:(X.env.scope.kind == .class || (X.env.scope.kind == .module && X.env.locals != X.env.globals))=false:=by rw [I.ok.kind];rfl
 have hiσ:i<σ.length:=by rw [I.len];exact (k_.mp hi).1
 have cne:=I.cne
 have tracked:∀{a:Addr}{h':Heap},(∃o,s.heap.get? a=ψ o/\H a=ω)->Of a s.heap h'->HOk X.prog X.w H h':=λ{a h'} ha hs b ob e=>by
  obtain⟨_,_,hfree⟩:=ha;refine (I.hok b ob e).stay (λc w' hc q=>(hs.2 c ?_).trans q) (λ_ q=>q) λ_ _ q=>q;rintro rfl
  rcases hc with rfl|hc
  .rw [hfree] at e;cases e
  .rw [hfree] at hc;cases hc
 rcases hx with hk|hk
 .refine wpAny_storeName_local hk hn (λh' hn' hs=>?_) hcls;obtain⟨oL,_,_,hoL,_⟩:=id hn
  refine h _ ⟨I.ok,I.os,I.bare,⟨λb o e n hb hx=>?_,λb o e n hb hx=>?_,I.base.free,λb o e hx=>?_,I.base.tups,I.base.frzs,I.base.tbls⟩,⟨_,hn',λj y v' e1 e2 e3=>?_⟩,λy c e=>?_,I.free,I.freeC,λp hp=>?_,tracked ⟨oL,hoL,I.free⟩ hs,by simpa using I.len⟩ ⟨_,hs,.inl rfl⟩
  .exact (hs.2 b (Mh (A_ (m_ e) I.ok.above))).trans (I.base.keep b o e n hb hx)
  .obtain⟨sl,e1⟩:=I.base.slot b o e n hb hx;exact⟨sl,(hs.2 b (Mh (A_ (m_ e) I.ok.above))).trans e1⟩
  .obtain⟨o',e1⟩:=I.base.there b o e hx;exact⟨o',(hs.2 b (Mh (A_ (m_ e) I.ok.above))).trans e1⟩
  .by_cases hj:j=i
   .subst hj;rw [hi] at e1;cases e1;rw [tf hiσ] at e2;cases e2;exact⟨u,r,.inl ⟨hk,by simp⟩⟩
   .rw [p_ (Nh hj)] at e2;obtain⟨u',r',q⟩:=hl j y v' e1 e2 e3;refine⟨u',r',?_⟩
    rcases q with ⟨k,e⟩|⟨k,c,e,z⟩
    .refine .inl ⟨k,?_⟩;have:y≠x:=λe=>hj (vd hN e1 (e ▸ hi));simp [this,e]
    .exact .inr ⟨k,c,e,z.sameBut hs (cne y c e)⟩
  .obtain⟨w',z⟩:=I.cell y c e;exact⟨w',z.sameBut hs (cne y c e)⟩
  .obtain⟨e,n,ne,nf,d⟩:=I.pin p hp;exact⟨(hs.2 p.1 ne).trans e,n,ne,nf,d⟩
 .have hfn:X.fn x=true:=by
   rcases hf with z|z
   .exact z
   .rw [z] at hk;cases hk
  obtain⟨c,hc⟩:=I.ok.has x (.inl hk);obtain⟨w',z⟩:=I.cell x c hc;refine wpAny_storeName_cell I.ok.kind hk hc z (λh' hc' hs=>?_);obtain⟨oc,hoc,hocd⟩:=id z
  refine h { s with heap:=h' } ⟨I.ok,I.os,I.bare,⟨λb o e n hb hx=>?_,λb o e n hb hx=>?_,I.base.free,λb o e hx=>?_,I.base.tups,I.base.frzs,I.base.tbls⟩,⟨m,hn.sameBut hs (Nh (cne x c hc)),λj y v' e1 e2 e3=>?_⟩,λy c' e=>?_,I.free,I.freeC,λp hp=>?_,tracked ⟨oc,hoc,I.freeC x c hc⟩ hs,by simpa using I.len⟩ ⟨c,hs,.inr hc⟩
  .exact (hs.2 b (Mh (A_ (m_ e) (I.ok.cab x c hfn hc)))).trans (I.base.keep b o e n hb hx)
  .obtain⟨sl,e1⟩:=I.base.slot b o e n hb hx;exact⟨sl,(hs.2 b (Mh (A_ (m_ e) (I.ok.cab x c hfn hc)))).trans e1⟩
  .obtain⟨o',e1⟩:=I.base.there b o e hx;exact⟨o',(hs.2 b (Mh (A_ (m_ e) (I.ok.cab x c hfn hc)))).trans e1⟩
  .by_cases hj:j=i
   .subst hj;rw [hi] at e1;cases e1;rw [tf hiσ] at e2;cases e2;exact⟨u,r,.inr ⟨.inl hk,c,hc,hc'⟩⟩
   .rw [p_ (Nh hj)] at e2;obtain⟨u',r',q⟩:=hl j y v' e1 e2 e3;refine⟨u',r',?_⟩
    rcases q with q|⟨k,c',e,z'⟩
    .exact .inl q
    .refine .inr ⟨k,c',e,z'.sameBut hs ?_⟩;rintro rfl;exact hj (vd hN e1 (I.ok.inj _ _ _ e hc ▸ hi))
  .by_cases hcc:c'=c
   .subst hcc;exact⟨_,hc'⟩
   .obtain⟨w2,z2⟩:=I.cell y c' e;exact⟨w2,z2.sameBut hs hcc⟩
  .obtain⟨e,n,ne,nf,d⟩:=I.pin p hp;refine⟨(hs.2 p.1 ?_).trans e,n,ne,nf,d⟩;intro q;rw [q,hoc] at e;have q':oc=p.2:=w_ e;exact d w' (by rw [<- q'];exact hocd)
theorem ik{Q:Unit->d_->Prop}(I:Inv X pins σ H s)(hN:X.N.Nodup)(hi:X.N[i]?=ψ x)(hx:Loc X.env.scope x)(r:cC v u)(h:∀s',Inv X pins (σ.set i (ψ v)) H s'->Q () s')(hf:X.fn x=η\/X.env.scope.names.lookup x=ψ .local:=by first|exact .inl rfl|exact .inr rfl|assumption):wpAny M A (storeName X.env x u) Q E s :=
 xZ I hN hi hx r (λs' I' _=>h s' I') hf
def Inv.call'{s':d_}{ch:List Addr}(I:Inv X pins σ H s)(ho:s'.os=s.os)(u:Un (frs X.stack) ch H H' s.heap s'.heap)(hok:HOk X.prog X.w H' s'.heap)(hg:PZ s'.gens)(hch:∀b∈ch,(b∈X.ex\/X.s₀.heap.objs.size<=b)/\b≠X.env.locals/\(∀x c,X.env.cells.lookup x=ψ c->c≠b)/\∀p∈X.pn++pins,p.1≠b):Inv X pins σ H' s':=by
 obtain⟨h',g',d',t',o'⟩:=s';have e:o'=s.os:=ho;subst e;exact I.call (g':=g') (t':=t') (d':=d') u hok hg hch
abbrev XK:=Value->Option Addr->Hp->Prop
abbrev St:=List (Option V)
abbrev VK:=V->Hp->Prop
abbrev TE:=St->Hp->VK->Prop
abbrev TT:=St->Hp->(Bool->Hp->Prop)->Prop
abbrev TA:=St->Hp->(List V->Hp->Prop)->Prop
structure DM where
 nx:St->Hp->Prop
 rt:VK
 bk:St->Hp->Prop:=λ_ _=>False
 ct:St->Hp->Prop:=λ_ _=>False
abbrev TS:=DM->St->Hp->Prop
noncomputable def EP(X:Cx)(pins:List (Addr×Obj))(σ:St)(Q:VK)(u:Value)(s':d_):Prop:=∃v H',Inv X pins σ H' s'/\cC v u/\Q v H'
noncomputable def TP(X:Cx)(pins:List (Addr×Obj))(σ:St)(Q:Bool->Hp->Prop)(b:Bool)(s':d_):Prop:=∃H',Inv X pins σ H' s'/\Q b H'
noncomputable def AP(X:Cx)(pins:List (Addr×Obj))(σ:St)(Q:List V->Hp->Prop)(us:Ξ)(s':d_):Prop:=∃vs H',Inv X pins σ H' s'/\bI vs us/\Q vs H'
noncomputable def SP(X:Cx)(pins:List (Addr×Obj))(D:DM)(f:Flow)(s':d_):Prop :=
 match f with
 | .next=>∃σ' H',Inv X pins σ' H' s'/\D.nx σ' H'
 | .brk=>∃σ' H',Inv X pins σ' H' s'/\D.bk σ' H'
 | .cont=>∃σ' H',Inv X pins σ' H' s'/\D.ct σ' H'
 | .ret u=>∃v σ' H',Inv X pins σ' H' s'/\cC v u/\D.rt v H'
noncomputable def PE(X:Cx)(e:Expr)(t:TE):Prop :=
 ∀(pins:List (Addr×Obj)) (s:d_) (σ:St) (H:Hp) (Q:VK),Inv X pins σ H s->t σ H Q->wpAny (model X.prog X.w) X.A (eval e X.env) (EP X pins σ Q) X.xe s
noncomputable def PT(X:Cx)(e:Expr)(t:TT):Prop :=
 ∀(pins:List (Addr×Obj)) (s:d_) (σ:St) (H:Hp) (Q:Bool->Hp->Prop),Inv X pins σ H s->t σ H Q->wpAny (model X.prog X.w) X.A (isTrue e X.env (eval e X.env)) (TP X pins σ Q) X.xe s
noncomputable def PW(X:Cx)(e:Expr)(t:TT):Prop :=
 ∀(whole:Sem Value) (pins:List (Addr×Obj)) (s:d_) (σ:St) (H:Hp) (Q:Bool->Hp->Prop),Inv X pins σ H s->t σ H Q->wpAny (model X.prog X.w) X.A (isTrue e X.env whole) (TP X pins σ Q) X.xe s
variable {e:Expr}
def PW.pt{t:TT}(h:PW X e t):PT X e t:=h _
noncomputable def PA(X:Cx)(es:List Expr)(t:TA):Prop :=
 ∀(pos:Pos) (pins:List (Addr×Obj)) (s:d_) (σ:St) (H:Hp) (Q:List V->Hp->Prop),Inv X pins σ H s->t σ H Q->wpAny (model X.prog X.w) X.A (spliced (backTo pos (starEach es X.env))) (AP X pins σ Q) X.xe s
noncomputable def PS(X:Cx)(st:Stmt)(t:TS):Prop :=
 ∀(pins:List (Addr×Obj)) (s:d_) (σ:St) (H:Hp) (D:DM),Inv X pins σ H s->t D σ H->wpAny (model X.prog X.w) X.A (exec st X.env) (SP X pins D) X.xe s
noncomputable def PSs(X:Cx)(st:List Stmt)(t:TS):Prop :=
 ∀(pins:List (Addr×Obj)) (s:d_) (σ:St) (H:Hp) (D:DM),Inv X pins σ H s->t D σ H->wpAny (model X.prog X.w) X.A (execs st X.env) (SP X pins D) X.xe s
variable {α:Type}
def thn{t:Sem α}{Q Q':α->d_->Prop}(h:wpAny M A t Q E s)(hQ:∀a s,Q a s->Q' a s):wpAny M A t Q' E s:=Ml h hQ λ_ _ x=>x
noncomputable def aS(i:Nat):TE:=λσ H Q=>∃v,σ[i]?=ψ (ψ v)/\Q v H
def tC(v:V):TE:=λ_ H Q=>Q v H
variable {pos:Pos}
def Gf(hN:X.N[i]?=ψ x)(hv:Vis X.env.scope x)(hd:(x == ("__debug__":Str))=false:=by decide)(hcd:(x == ("__classdict__":Str))=false:=by decide):PE X (.Name x pos) (aS i):=by
 intro pins s σ H Q I h;obtain⟨v,e,h⟩:=h;obtain⟨m,hn,hl⟩:=I.loc;obtain⟨u,r,l⟩:=hl i x v hN e hv;have fin:EP X pins σ Q u s:=⟨v,H,I,r,h⟩
 rcases l with ⟨hk,hm⟩|⟨hk,c,hc,hcell⟩
 .exact wpAny_Name (wpAny_loadName_local I.ok.kind hk hn hm fin) hd
 .rcases hk with hk|hk
  .exact wpAny_Name (wpAny_loadName_cell I.ok.kind hk hc hcell fin) hd
  .exact wpAny_Name (wpAny_loadName_free I.ok.kind hk hc hcell fin hcd) hd
def ar{i j pos}:PE X (.Constant (.int i) j pos) (tC (.int i)):=λ_ _ _ H _ I h=>wpAny_Constant_int ⟨.int i,H,I.tok _,⟨_,rfl⟩,h⟩
def nH{b j pos}:PE X (.Constant (.bool b) j pos) (tC (.bl b)):=λ_ _ _ H _ I h=>Constant_bool ⟨.bl b,H,I,rfl,h⟩
def Gg{x j pos}:PE X (.Constant (.str x) j pos) (tC (.str x)):=λ_ _ _ H _ I h=>Calls.Constant_str ⟨.str x,H,I.tok _,⟨_,rfl⟩,h⟩
noncomputable def Gl(X:Cx)(x:Str):Prop:=X.env.kindOf x=ψ .globalImplicit
variable {Q:Value->d_->Prop}
def tq{σ:St}(I:Inv X pins σ H s)(hg:Gl X x)(hm:X.mg x=ψ u)(h:Q u s)(hd:(x == ("__debug__":Str))=false:=by decide):wpAny (model X.prog X.w) X.A (eval (.Name x pos) X.env) Q E s :=
 PH I.ok.kind hg (Calls.loadGlobal_global (by rw [I.ok.glob];exact I.mod.glob.keeps I.bk) hm h) hd
def eY{σ:St}(I:Inv X pins σ H s)(hg:Gl X x)(hm:X.mg x=ω)(hv:bootBuiltins x=ψ u)(h:Q u s)(hn:x≠"__name__":=by decide)(hd:(x == ("__debug__":Str))=false:=by decide):wpAny (model X.prog X.w) X.A (eval (.Name x pos) X.env) Q E s:=by
 obtain⟨mb,h1,h2⟩:=I.mod.blt;exact PH I.ok.kind hg (Calls.loadGlobal_builtin (by rw [I.ok.glob];exact I.mod.glob.keeps I.bk) hm (by rw [I.ok.blt];exact h1.keeps I.bk) ((h2 x hn).trans hv) h) hd
def DN(hg:Gl X x)(hm:X.mg x=ψ u)(r:cC v u)(hd:(x == ("__debug__":Str))=false:=by decide):PE X (.Name x pos) (tC v) :=
 λ_ _ _ H _ I h=>tq I hg hm ⟨v,H,I,r,h⟩ hd
def gJ(hg:Gl X x)(hm:X.mg x=ω)(hv:bootBuiltins x=ψ u)(r:cC v u)(hn:x≠"__name__":=by decide)(hd:(x == ("__debug__":Str))=false:=by decide):PE X (.Name x pos) (tC v) :=
 λ_ _ _ H _ I h=>eY I hg hm hv ⟨v,H,I,r,h⟩ hn hd
noncomputable def tB(t:TE):TT:=λσ H Q=>t σ H λx H1=>∃c,x=.bl c/\Q c H1
def Gh{t:TE}(h:PE X e t)(he:∀whole,isTrue e X.env whole=(do let v <- whole;standAt e.pos;holding [v] (truthy v)):=by intro _;rfl):PT X e (tB t):=by
 intro pins s σ H Q I hw;refine isTrue_plain (thn (h pins s σ H _ I hw) λv s1 ⟨x,H1,I1,r1,q1⟩=>?_) (he _);obtain⟨d,rfl,q⟩:=q1;cases r1;exact MC ⟨H1,I1,q⟩
noncomputable def Js(t u:TT):TT:=λσ H Q=>t σ H λc H1=>if c=η then u σ H1 Q else Q ξ H1
noncomputable def tOr(t u:TT):TT:=λσ H Q=>t σ H λc H1=>if c=η then Q η H1 else u σ H1 Q
noncomputable def Jt(t:TT):TT:=λσ H Q=>t σ H λc H1=>Q (!c) H1
variable {a:Expr}{tA:TT}
def jW(ha:PT X a tA):PW X (.BoolOp .And [a] pos) tA:=by
 intro wh pins s σ H Q I h;refine isTrue_and (thn (ha pins s σ H Q I h) λc s1 e=>?_)
 cases c with
 | true=>exact isTrue_and_nil e
 | false=>exact e
def oA(ha:PT X a tA):PW X (.BoolOp .Or [a] pos) tA:=by
 intro wh pins s σ H Q I h;refine isTrue_or (thn (ha pins s σ H Q I h) λc s1 e=>?_)
 cases c with
 | false=>exact isTrue_or_nil e
 | true=>exact e
variable {b:Expr}{tB':TT}{rest:List Expr}
def oB(ha:PT X a tA)(hb:PW X (.BoolOp .And (b::rest) pos) tB'):PW X (.BoolOp .And (a::b::rest) pos) (Js tA tB'):=by
 intro wh pins s σ H Q I h;refine isTrue_and (thn (ha pins s σ H _ I h) λc s1 ⟨H1,I1,q1⟩=>?_)
 cases c with
 | true=>exact hb wh pins s1 σ H1 Q I1 q1
 | false=>exact⟨H1,I1,q1⟩
def wv(ha:PT X a tA)(hb:PW X (.BoolOp .Or (b::rest) pos) tB'):PW X (.BoolOp .Or (a::b::rest) pos) (tOr tA tB'):=by
 intro wh pins s σ H Q I h;refine isTrue_or (thn (ha pins s σ H _ I h) λc s1 ⟨H1,I1,q1⟩=>?_)
 cases c with
 | true=>exact⟨H1,I1,q1⟩
 | false=>exact hb wh pins s1 σ H1 Q I1 q1
def iC(ha:PT X a tA):PT X (.UnaryOp .Not a pos) (Jt tA):=by
 intro pins s σ H Q I h;exact isTrue_not (ha pins s σ H (λc H1=>Q (!c) H1) I h)
variable {ta tb:TE}
noncomputable def DO(ta tb:TE):TE:=λσ H Q=>ta σ H λx H1=>∃c,x=.bl c/\if c=η then tb σ H1 Q else Q (.bl ξ) H1
noncomputable def Gi(ta:TE):TE:=λσ H Q=>ta σ H λx H1=>∃c,x=.bl c/\Q (.bl (!c)) H1
def oE{op}{t:TE}(h:PE X a t):PE X (.BoolOp op [a] pos) t:=λpins s σ H Q I hw=>BoolOp_one (h pins s σ H Q I hw)
def oF(ha:PE X a ta)(hb:PE X (.BoolOp .And (b::rest) pos) tb):PE X (.BoolOp .And (a::b::rest) pos) (DO ta tb):=by
 intro pins s σ H Q I h;refine BoolOp_and (thn (ha pins s σ H _ I h) λv s1 ⟨x,H1,I1,r1,q1⟩=>?_);obtain⟨c,rfl,q1⟩:=q1;cases r1;refine MC ?_
 cases c with
 | true=>exact hb pins s1 σ H1 Q I1 q1
 | false=>exact⟨.bl ξ,H1,I1,rfl,q1⟩
def x6(ha:PE X a ta):PE X (.UnaryOp .Not a pos) (Gi ta):=by
 intro pins s σ H Q I h;refine UnaryOp_ (thn (ha pins s σ H _ I h) λv s1 ⟨x,H1,I1,r1,q1⟩=>?_);obtain⟨c,rfl,q1⟩:=q1;cases r1;exact not_of (MC ⟨.bl (!c),H1,I1,rfl,q1⟩)
noncomputable def tIf(t:TT)(ta tb:TE):TE:=λσ H Q=>t σ H λc H1=>if c=η then ta σ H1 Q else tb σ H1 Q
def A0{c:Expr}(hc:PT X c tA)(ha:PE X a ta)(hb:PE X b tb):PE X (.IfExp c a b pos) (tIf tA ta tb):=by
 intro pins s σ H Q I h;refine wpAny_IfExp (thn (hc pins s σ H _ I h) λd s1 ⟨H1,I1,q1⟩=>?_)
 cases d with
 | true=>exact ha pins s1 σ H1 Q I1 q1
 | false=>exact hb pins s1 σ H1 Q I1 q1
noncomputable def SqL(K:b_)(H:Hp)(a:Addr)(xs:List V):Prop :=
 Rd H a (.lst xs) \/
  ∃(o:Obj) (its:Array Value) (n:Nat),K.lookup a=ψ o/\o.cls=.type "list"/\o.dict=ω/\o.data=.seq its n/\its.size<=sizeLine/\bI xs its.toList
noncomputable def SqT(K:b_)(H:Hp)(a:Addr)(xs:List V):Prop :=
 Rd H a (.tup xs) \/
  ∃(o:Obj) (its:Array Value) (n:Nat),K.lookup a=ψ o/\o.cls=.type "tuple"/\o.data=.seq its n/\its.size<=sizeLine/\bI xs its.toList
noncomputable def LF:Value->Option V
 | .none=>ψ .non
 | .bool b=>ψ (.bl b)
 | .int i _=>ψ (.int i)
 | .str x _=>ψ (.str x)
 | .bytes b _=>ψ (.byt b)
 | .float b _=>ψ (.flt b)
 | .ref a=>ψ (.ref a)
 | .type n=>ψ (.ty n)
 | _=>ω
def cC.abs{x:V}(r:cC x u):LF u=ψ x:=by
 cases x with
 | non=>cases r;rfl
 | bl _=>cases r;rfl
 | int _=>obtain⟨t,rfl⟩:=r;rfl
 | str _=>obtain⟨t,rfl⟩:=r;rfl
 | byt _=>obtain⟨t,rfl⟩:=r;rfl
 | flt _=>obtain⟨t,rfl⟩:=r;rfl
 | ref _=>cases r;rfl
 | ty _=>cases r;rfl
variable {y:V}
def cC.inj{x:V}(r:cC x u)(q:cC y u):x=y:=w_ (r.abs.symm.trans q.abs)
theorem bI.inj:∀{xs ys:List V}{us:Ξ},bI xs us->bI ys us->xs=ys
 | _,_,_,.nil,.nil=>rfl
 | _,_,_,.cons r t,.cons r' t'=>by rw [r.inj r',bI.inj t t']
variable {a:Addr}{K:b_}
def SqL.of(h:H a=ψ (.lst xs)):SqL K H a xs:=.inl (.inl h)
def SqT.of(h:H a=ψ (.tup xs)):SqT K H a xs:=.inl (.inl h)
variable {σ:St}
def Inv.list(I:Inv X pins σ H s)(h:SqL X.K H a xs):∃its:Ξ,bI xs its/\PlainL s.heap a its.toArray/\xs.length<=sizeLine:=by
 rcases h with h|⟨o,its,n,hk,hc,hd,hs,hz,r⟩
 .obtain⟨z,its,n,r,e⟩:=h.ok I.hok;exact⟨its,r,⟨_,n,e,rfl,rfl,rfl⟩,z⟩
 .refine⟨its.toList,r,⟨o,n,I.kIn a o hk,hc,hd,by simpa using hs⟩,?_⟩;have e:=r.length;simp only [C0] at e;omega
def Inv.tuple(I:Inv X pins σ H s)(h:SqT X.K H a xs):∃its:Ξ,bI xs its/\IsTup s.heap a its.toArray/\xs.length<=sizeLine:=by
 rcases h with h|⟨o,its,n,hk,hc,hs,hz,r⟩
 .obtain⟨z,its,r,p⟩:=h.ok I.hok;exact⟨its,r,p,z⟩
 .refine⟨its.toList,r,⟨o,I.kIn a o hk,hc,n,by simpa using hs⟩,?_⟩;have e:=r.length;simp only [C0] at e;omega
variable {ys:List V}
def Inv.list_inj(I:Inv X pins σ H s)(h:SqL X.K H a xs)(h':SqL X.K H a ys):xs=ys:=by
 obtain⟨its,r,⟨o,n,e,_,_,d⟩,_⟩:=I.list h;obtain⟨its',r',⟨o',n',e',_,_,d'⟩,_⟩:=I.list h';rw [e] at e';cases e';rw [d] at d';injection d' with d1 _;have:its=its':=by simpa using congrArg Ql d1
 subst this;exact r.inj r'
def Inv.tuple_inj(I:Inv X pins σ H s)(h:SqT X.K H a xs)(h':SqT X.K H a ys):xs=ys:=by
 obtain⟨its,r,⟨o,e,_,n,d⟩,_⟩:=I.tuple h;obtain⟨its',r',⟨o',e',_,n',d'⟩,_⟩:=I.tuple h';rw [e] at e';cases e';rw [d] at d';injection d' with d1 _;have:its=its':=by simpa using congrArg Ql d1
 subst this;exact r.inj r'
abbrev Cx.wish(X:Cx)(E:Value->d_->Prop):Cx:={ X with xe:=E }
abbrev Cx.nox(X:Cx):Cx:=X.wish λ_ _=>False
def Cx.Ok.wish(ok:X.Ok)(E:Value->d_->Prop):(X.wish E).Ok :=
 ⟨ok.mod,ok.kind,ok.glob,ok.blt,ok.above,ok.inj,ok.has,ok.cab,ok.hd,ok.frames,ok.stk,ok.exf,ok.bs,ok.bsz,ok.noex,ok.exfs,ok.funs,ok.frf,ok.tb⟩
def Cx.Ok.unwish(ok:(X.wish E).Ok):X.Ok :=
 ⟨ok.mod,ok.kind,ok.glob,ok.blt,ok.above,ok.inj,ok.has,ok.cab,ok.hd,ok.frames,ok.stk,ok.exf,ok.bs,ok.bsz,ok.noex,ok.exfs,ok.funs,ok.frf,ok.tb⟩
def Inv.wish(I:Inv X pins σ H s)(E:Value->d_->Prop):Inv (X.wish E) pins σ H s:=⟨I.ok.wish E,I.os,I.bare,I.base,I.loc,I.cell,I.free,I.freeC,I.pin,I.hok,I.len⟩
def Inv.unwish(I:Inv (X.wish E) pins σ H s):Inv X pins σ H s:=⟨I.ok.unwish,I.os,I.bare,I.base,I.loc,I.cell,I.free,I.freeC,I.pin,I.hok,I.len⟩
def SP.unwish{D:DM}{f:Flow}{s':d_}(h:SP (X.wish E) pins D f s'):SP X pins D f s':=by
 cases f with
 | next=>obtain⟨σ',H',I,q⟩:=h;exact⟨σ',H',I.unwish,q⟩
 | brk=>obtain⟨σ',H',I,q⟩:=h;exact⟨σ',H',I.unwish,q⟩
 | cont=>obtain⟨σ',H',I,q⟩:=h;exact⟨σ',H',I.unwish,q⟩
 | ret u=>obtain⟨v,σ',H',I,r,q⟩:=h;exact⟨v,σ',H',I.unwish,r,q⟩
def PSs.nox{st:List Stmt}{t:TS}(h:PSs X.nox st t):PSs X st t:=λpins s σ H D I hw =>
 Ml (h pins s σ H D (I.wish _) hw) (λ_ _ q=>q.unwish) λ_ _ z=>Nf z
def Gj:TS:=λD σ H=>D.nx σ H
variable {t u:TS}
noncomputable def Ju(t u:TS):TS:=λD σ H=>t { D with nx:=u D } σ H
def bc:PSs X [] Gj:=λ_ _ σ H _ I h=>Pl ⟨σ,H,I,h⟩
variable {st:Stmt}{rest:List Stmt}
def af(h1:PS X st t)(h2:PSs X rest u):PSs X (st::rest) (Ju t u):=by
 intro pins s σ H D I h;refine wpAny_execs_cons (thn (h1 pins s σ H { D with nx:=u D } I h) λf s1 q=>?_)
 cases f with
 | next =>
  obtain⟨σ',H',I',q⟩:=q;exact h2 pins s1 σ' H' D I' q
 | ret v=>exact q
 | brk=>exact q
 | cont=>exact q
def aq(h1:PS X st t):PSs X [st] t:=by
 intro pins s σ H D I h;refine wpAny_execs_cons (thn (h1 pins s σ H D I h) λf s1 q=>?_)
 cases f with
 | next=>exact Pl q
 | ret v=>exact q
 | brk=>exact q
 | cont=>exact q
def Inv.quiet(I:Inv X pins σ H s):interactive X.env=false:=by simp [interactive,I.ok.kind]
variable {te:TE}
noncomputable def Gk(te:TE):TS:=λD σ H=>te σ H λ_ H1=>D.nx σ H1
def dP(he:PE X e te)(hs:swapsWith e ω pos.line X.env=pure false:=by rfl):PS X (.Expr e pos) (Gk te):=by
 intro pins s σ H D I h;exact wpAny_Expr_any (thn (he pins s σ H _ I h) λv s1 ⟨x,H1,I1,r1,q1⟩=>⟨σ,H1,I1,q1⟩) I.quiet hs
def Jv(te:TE):TS:=λD σ H=>te σ H D.rt
def aP(he:PE X e te):PS X (.Return (ψ e) pos) (Jv te):=by
 intro pins s σ H D I h;exact wpAny_Return_some (thn (he pins s σ H _ I h) λv s1 ⟨x,H1,I1,r1,q1⟩=>⟨x,σ,H1,I1,r1,q1⟩)
noncomputable def KN(c:TT)(t u:TS):TS:=λD σ H=>c σ H λb H1=>if b=η then t D σ H1 else u D σ H1
def df{c:Expr}{a b:List Stmt}{tc:TT}(hc:PT X c tc)(ha:PSs X a t)(hb:PSs X b u):PS X (.If c a b pos) (KN tc t u):=by
 intro pins s σ H D I h;refine wpAny_If (thn (hc pins s σ H _ I h) λd s1 ⟨H1,I1,q1⟩=>?_)
 cases d with
 | true=>exact ha pins s1 σ H1 D I1 q1
 | false=>exact hb pins s1 σ H1 D I1 q1
def CI:TS:=λ_ _ _=>False
def lh:PS X st CI:=λ_ _ _ _ _ _ h=>h.elim
abbrev TG:=V->St->Hp->(St->Hp->Prop)->Prop
abbrev TGs:=List V->St->Hp->(St->Hp->Prop)->Prop
noncomputable def PG(X:Cx)(target:Expr)(t:TG):Prop :=
 ∀(pins:List (Addr×Obj)) (s:d_) (σ:St) (H:Hp) (v:V) (u:Value) (Q:St->Hp->Prop),Inv X pins σ H s->cC v u->t v σ H Q ->
  wpAny (model X.prog X.w) X.A (assign target X.env u) (λ_ s'=>∃σ' H',Inv X pins σ' H' s'/\Q σ' H') X.xe s
noncomputable def PGs(X:Cx)(ts:List Expr)(t:TGs):Prop :=
 ∀(pins:List (Addr×Obj)) (s:d_) (σ:St) (H:Hp) (vs:List V) (us:Ξ) (Q:St->Hp->Prop),Inv X pins σ H s->bI vs us->t vs σ H Q ->
  wpAny (model X.prog X.w) X.A (assignInOrder ((assignEach ts X.env).map (·.2)) us) (λ_ s'=>∃σ' H',Inv X pins σ' H' s'/\Q σ' H') X.xe s
abbrev Gm:=V->V->V->Hp->(Hp->Prop)->Prop
noncomputable def Jw(X:Cx)(t:Gm):Prop :=
 ∀(pins:List (Addr×Obj)) (s:d_) (σ:St) (H:Hp) (o i v:V) (ov iv u:Value) (Q:Hp->Prop),Inv X pins σ H s->cC o ov->cC i iv->cC v u->t o i v H Q ->
  wpAny (model X.prog X.w) X.A (setItem ov iv u) (λ_ s'=>∃H',Inv X pins σ H' s'/\Q H') X.xe s
abbrev TIp:=V->V->Hp->VK->Prop
noncomputable def PIp(X:Cx)(op:Operator)(t:TIp):Prop :=
 ∀(pins:List (Addr×Obj)) (s:d_) (σ:St) (H:Hp) (x y:V) (v u:Value) (Q:VK),Inv X pins σ H s->cC x v->cC y u->t x y H Q ->
  wpAny (model X.prog X.w) X.A (inplaceOp op v u) (EP X pins σ Q) X.xe s
noncomputable def bE(i:Nat):TG:=λv σ H Q=>Q (σ.set i (ψ v)) H
theorem aA(hN:X.N.Nodup)(hi:X.N[i]?=ψ x)(hx:Loc X.env.scope x)(hf:X.fn x=η\/X.env.scope.names.lookup x=ψ .local:=by first|exact .inl rfl|exact .inr rfl|assumption):PG X (.Name x pos) (bE i):=by
 intro pins s σ H v u Q I r h;exact wpAny_assign_Name (ik I hN hi hx r (λs' I'=>⟨_,H,I',h⟩) hf)
def FI:TGs:=λvs σ H Q=>vs=[]/\Q σ H
noncomputable def lA(t:TG)(u:TGs):TGs:=λvs σ H Q=>∃v r,vs=v::r/\t v σ H λσ' H'=>u r σ' H' Q
def jX:PGs X [] FI:=by
 intro pins s σ H vs us Q I r h;obtain⟨e,h⟩:=h;subst e;cases r;exact assignInOrder_nil ⟨σ,H,I,h⟩
variable {es:List Expr}
def cQ{t:TG}{u:TGs}(h1:PG X e t)(h2:PGs X es u)(hs:(assignEach (e::es) X.env).map (·.2)=assign e X.env::(assignEach es X.env).map (·.2):=by rfl):PGs X (e::es) (lA t u):=by
 intro pins s σ H vs us Q I r h;obtain⟨v,vr,e1,h⟩:=h;subst e1
 cases r with
 | cons r rr =>
  rw [hs];refine OA (thn (h1 pins s σ H _ _ _ I r h) λ_ s1 ⟨σ1,H1,I1,q1⟩=>?_);exact h2 pins s1 σ1 H1 _ _ Q I1 rr q1
noncomputable def LH(K:b_)(n:Nat)(t:TGs):TG:=λv σ H Q=>∃a xs,v=.ref a/\SqT K H a xs/\xs.length=n/\t xs σ H Q
variable {n:Nat}
def Gn{k:Nat}{t:TGs}(hc:X.calm=η)(h:PGs X es t)(hn:(assignEach es X.env).length=n:=by rfl)(hst:(assignEach es X.env).findIdx? (·.1)=none:=by rfl):PG X (.Tuple es k pos) (LH X.K n t):=by
 intro pins s σ H v u Q I r hw;obtain⟨a,xs,e1,hq,hl,hw⟩:=hw;subst e1;cases r;obtain⟨its,rv,ht,hz⟩:=I.tuple hq;refine assign_Tuple_tuple (I.ok.hd hc) ht (by simp [hn,<- hl,rv.length]) hst λh' hx=>?_;have I1:Inv X pins σ H { s with heap:=h' }:=I.kept (t':=s.toks) λb o e=>hx b o (Mh (m_ e)) e;exact h pins _ σ H xs _ Q I1 (by simpa using rv) hw
noncomputable def KO(to ti:TE)(t:Gm):TG:=λv σ H Q=>to σ H λo H1=>ti σ H1 λi H2=>t o i v H2 λH3=>Q σ H3
def CJ{o i:Expr}{to ti:TE}{t:Gm}(ho:PE X o to)(hi:PE X i ti)(hs:Jw X t)(ha:∀v,assign (.Subscript o i pos) X.env v=(do
   let ov <- holding [v] (eval o X.env)
   let iv <- holding [v,ov] (eval i X.env)
   standAt pos
   holding [v,ov,iv] (setItem ov iv v)
   release [v,ov,iv] []):=by intro _;rfl):PG X (.Subscript o i pos) (KO to ti t):=by
 intro pins s σ H v u Q I r h;rw [ha];refine cn (Mw (thn (ho pins s σ H _ I h) λov s1 ⟨x,H1,I1,r1,q1⟩=>?_));refine cn (Mw (thn (hi pins s1 σ H1 _ I1 q1) λiv s2 ⟨y,H2,I2,r2,q2⟩=>?_));refine cn (Nj (cn (Mw (thn (hs pins s2 σ H2 x y v ov iv u _ I2 r1 r2 r q2) λ_ s3 ⟨H3,I3,q3⟩=>?_))));exact wpAny_release ⟨σ,H3,I3,q3⟩
noncomputable def FJ(te:TE)(g:TG):TS:=λD σ H=>te σ H λx H1=>g x σ H1 D.nx
variable {tg:Expr}{g:TG}
def CK(he:PE X e te)(hg:PG X tg g)(hs:swapsWithSole [tg] e pos.line X.env=pure false:=by rfl)(hw:swappedStores [tg] e X.env=pure none:=by rfl)(h1:(assignEach [tg] X.env).map (·.2)=[assign tg X.env]:=by rfl):PS X (.Assign [tg] e pos) (FJ te g):=by
 intro pins s σ H D I h;refine wpAny_Assign_stores (thn (he pins s σ H _ I h) λv s1 ⟨x,H1,I1,r1,q1⟩=>?_) hs hw;rw [h1];exact thn (hg pins s1 σ H1 x v _ I1 r1 q1) λ_ s2 q=>q
theorem aF{pos':Pos}(hN:X.N.Nodup)(hi:X.N[i]?=ψ x)(hx:Loc X.env.scope x)(he:PE X e te)(hs:swapsWith e (ψ (.Name x pos')) pos.line X.env=pure false:=by rfl)(hf:X.fn x=η\/X.env.scope.names.lookup x=ψ .local:=by first|exact .inl rfl|exact .inr rfl|assumption):
  PS X (.Assign [.Name x pos'] e pos) (FJ te (bE i)):=by
 intro pins s σ H D I h;refine wpAny_Assign_Name (thn (he pins s σ H _ I h) λv s1 ⟨y,H1,I1,r1,q1⟩=>?_) hs;exact ik I1 hN hi hx r1 (λs2 I2=>⟨_,H1,I2,q1⟩) hf
noncomputable def Go(to ti te:TE)(tget:V->V->Hp->VK->Prop)(tip:TIp)(tset:Gm):TS:=λD σ H=>to σ H λo H1=>ti σ H1 λi H2=>tget o i H2 λx H3=>te σ H3 λy H4=>tip x y H4 λz H5=>tset o i z H5 λH6=>D.nx σ H6
noncomputable def KP(X:Cx)(t:V->V->Hp->VK->Prop):Prop :=
 ∀(pins:List (Addr×Obj)) (s:d_) (σ:St) (H:Hp) (o i:V) (ov iv:Value) (Q:VK),Inv X pins σ H s->cC o ov->cC i iv->t o i H Q ->
  wpAny (model X.prog X.w) X.A (getItem ov iv) (EP X pins σ Q) X.xe s
def tu{o i:Expr}{to ti:TE}{tget:V->V->Hp->VK->Prop}{tip:TIp}{tset:Gm}{op:Operator}{tpos:Pos}(ho:PE X o to)(hi:PE X i ti)(hg:KP X tget)(he:PE X e te)(hp:PIp X op tip)(hs:Jw X tset)(ha:∀ov iv new,augStore i ov iv new=(do holding [new,ov,iv] (setItem ov iv new);release [new,ov,iv] [];pure .next):=by intros;rfl):PS X (.AugAssign (.Subscript o i tpos) op e pos) (Go to ti te tget tip tset):=by
 intro pins s σ H D I h;refine wpAny_AugAssign_SubscriptAny (thn (ho pins s σ H _ I h) λov s1 ⟨x1,H1,I1,r1,q1⟩=>?_) ha;refine thn (hi pins s1 σ H1 _ I1 q1) λiv s2 ⟨x2,H2,I2,r2,q2⟩=>?_;refine thn (hg pins s2 σ H2 x1 x2 ov iv _ I2 r1 r2 q2) λold s3 ⟨x3,H3,I3,r3,q3⟩=>?_;refine thn (he pins s3 σ H3 _ I3 q3) λv s4 ⟨x4,H4,I4,r4,q4⟩=>?_;refine thn (hp pins s4 σ H4 x3 x4 old v _ I4 r3 r4 q4) λnew s5 ⟨x5,H5,I5,r5,q5⟩=>?_
 exact thn (hs pins s5 σ H5 x1 x2 x5 ov iv new _ I5 r1 r2 r5 q5) λ_ s6 ⟨H6,I6,q6⟩=>⟨σ,H6,I6,q6⟩
noncomputable def ipI(f:Int->Int->Int):TIp:=λx y H Q=>∃i j,x=.int i/\y=.int j/\Q (.int (f i j)) H
def Gp:PIp X .Add (ipI λi j=>i+j):=by
 intro pins s σ H x y v u Q I r1 r2 h;obtain⟨i,j,e1,e2,q⟩:=h;subst e1;subst e2;obtain⟨t,rfl⟩:=r1;obtain⟨t',rfl⟩:=r2;exact iadd_int ⟨.int _,H,I.tok _,⟨_,rfl⟩,q⟩
def CL:PIp X .Sub (ipI λi j=>i - j):=by
 intro pins s σ H x y v u Q I r1 r2 h;obtain⟨i,j,e1,e2,q⟩:=h;subst e1;subst e2;obtain⟨t,rfl⟩:=r1;obtain⟨t',rfl⟩:=r2;exact isub_int ⟨.int _,H,I.tok _,⟨_,rfl⟩,q⟩
noncomputable def CM(c:TT)(tb:TS):TS:=λD σ H=>∃W:Nat->St->Hp->Prop,(∃m,W m σ H)/\∀m σ H,W m σ H ->
 c σ H λb H1=>if b=η then ∃N:St->Hp->Prop,(∀σ' H',N σ' H'->∃m',m'<m/\W m' σ' H')/\tb { D with nx:=N,ct:=N,bk:=D.nx } σ H1 else D.nx σ H1
def jr{c:Expr}{body:List Stmt}{tc:TT}{tb:TS}(hp:PassesOwn (model X.prog X.w) X.A X.env X.xe)(hc:PT X c tc)(hb:PSs X body tb):PS X (.While c body [] pos) (CM tc tb):=by
 intro pins s σ H D I h;obtain⟨W,⟨m0,w0⟩,turn⟩:=h;refine wpAny_While (codeAny_whileLoop (λn s'=>∃σ' H',Inv X pins σ' H' s'/\W n σ' H') ?_ m0 ⟨σ,H,I,w0⟩);rintro n s1 ⟨σ1,H1,I1,w1⟩;refine Nw hp (thn (hc pins s1 σ1 H1 _ I1 (turn n σ1 H1 w1)) λb s2 ⟨H2,I2,q2⟩=>?_)
 cases b with
 | true =>
  obtain⟨N,hN,q2⟩:=q2;rw [if_pos rfl];refine Nw hp (thn (hb pins s2 σ1 H2 _ I2 q2) λf s3 q3=>?_)
  cases f with
  | next =>
   obtain⟨σ3,H3,I3,n3⟩:=q3;obtain⟨m',hm,w3⟩:=hN σ3 H3 n3;exact⟨m',hm,σ3,H3,I3,w3⟩
  | cont =>
   obtain⟨σ3,H3,I3,n3⟩:=q3;obtain⟨m',hm,w3⟩:=hN σ3 H3 n3;exact⟨m',hm,σ3,H3,I3,w3⟩
  | brk=>exact q3
  | ret v=>exact q3
 | false =>
  rw [if_neg l_];exact Pl ⟨σ1,H2,I2,q2⟩
structure It where
 go:Nat->Hp->Prop
 yld:Nat->Hp->V->Hp->Prop
 stop:Nat->Hp->Prop
noncomputable def tw(X:Cx)(pins:List (Addr×Obj))(H:Hp)(b:Addr):Prop :=
 H b=ω/\b≠X.env.locals/\b∉X.fs/\(b∈X.ex\/X.s₀.heap.objs.size<=b)/\(∀x c,X.env.cells.lookup x=ψ c->c≠b)/\∀p∈X.pn++pins,p.1≠b
def Inv.fpOk{b:Addr}(I:Inv X pins σ H s)(hb:s⁻¹<=b)(hn:H' b=ω):tw X pins H' b:=by
 refine⟨hn,Oo (A_ I.lt hb),I.nofs hb,.inr (Mn I.sz hb),λx c e z=>?_,λp hp z=>?_⟩
 .obtain⟨v,q⟩:=I.cell x c e;exact absurd (A_ q.lt (by rw [z];exact hb)) (Md _)
 .exact absurd (A_ (m_ (I.pin p hp).1) (by rw [z];exact hb)) (Md _)
structure CN (P:v_) (w:World) (K:b_) (tg:Expr) (J:It) (fp:List Addr) (it:Addr) (tn:Nat->Heap->Prop):Prop where
 mem:it∈fp
 obj:∀i h,tn i h->∀b∈fp,∃o,h.get? b=ψ o/\∀v,o.data≠.cell v
 keep:∀i h h',tn i h->(∀b∈fp,∀o,h.get? b=ψ o->h'.get? b=ψ o)->tn i h'
 item:∀(X:Cx),X.prog=P->X.w=w->X.K=K->X.calm=η->∀(i:Nat) (pins:List (Addr×Obj)) (s:d_) (σ:St) (H:Hp) (E:Value->d_->Prop),Inv X pins σ H s->(∀b∈fp,tw X pins H b)->tn i s.heap->J.go i H ->
  wpAny (model P w) X.A (pyNext (.ref it)) (λr s1=>∃u,r=ψ u /\
   wpAny (model P w) X.A (letOwnedTupleGo tg (.ref it) u) (λ_ s2=>∃x H',Inv X pins σ H' s2/\cC x u/\J.yld i H x H'/\tn (i+1) s2.heap/\∀b∈fp,H' b=ω) E s1) E s
 done:∀(X:Cx),X.prog=P->X.w=w->X.K=K->X.calm=η->∀(i:Nat) (pins:List (Addr×Obj)) (s:d_) (σ:St) (H:Hp) (E:Value->d_->Prop),Inv X pins σ H s->(∀b∈fp,tw X pins H b)->tn i s.heap->J.stop i H ->
  wpAny (model P w) X.A (pyNext (.ref it)) (λr s1=>r=ω/\Inv X pins σ H s1) E s
 self:∀(A:G_) (i:Nat) (s:d_) (Q:Value->d_->Prop) (E:Value->d_->Prop),tn i s.heap->Q (.ref it) s->wpAny (model P w) A (pyIter (.ref it)) Q E s
abbrev TI:=St->Hp->(It->Hp->Prop)->Prop
noncomputable def PIE(X:Cx)(pins:List (Addr×Obj))(σ:St)(tg:Expr)(R:It->Hp->Prop)(itv:Value)(s2:d_):Prop :=
 ∃(it:Addr) (fp:List Addr) (tn:Nat->Heap->Prop) (J:It) (H':Hp),itv=.ref it/\Inv X pins σ H' s2/\CN X.prog X.w X.K tg J fp it tn/\tn 0 s2.heap/\(∀b∈fp,tw X pins H' b)/\R J H'
noncomputable def PI(X:Cx)(tg iter:Expr)(wi:TI):Prop :=
 ∀(pins:List (Addr×Obj)) (s:d_) (σ:St) (H:Hp) (R:It->Hp->Prop),Inv X pins σ H s->wi σ H R ->
  wpAny (model X.prog X.w) X.A (eval iter X.env) (λv s1=>wpAny (model X.prog X.w) X.A (pyIter v) (PIE X pins σ tg R) X.xe s1) X.xe s
def A1{u:Value}{o:Obj}{n:String}{vs:Array Value}{Q:Unit->d_->Prop}(ho:s.heap.get? it=ψ o)(hc:o.cls=.type n)(hd:o.data=.fields vs)(hn:["enumerate","zip","dict_itemiterator","dict_reverseitemiterator","odict_iterator","itertools.zip_longest","itertools.pairwise"].contains n=ξ)(hQ:Q () s):wpAny M A (letOwnedTupleGo tg (.ref it) u) Q E s:=by
  unfold letOwnedTupleGo
  cases tg <;> first
    | exact gV hQ
    | (cases u <;> first
        | exact gV hQ
        | (refine cn (wpAny_load ho ?_)
           rw [hc,hd];show wpAny M A (if (["enumerate","zip","dict_itemiterator","dict_reverseitemiterator","odict_iterator","itertools.zip_longest","itertools.pairwise"].contains n && vs[0]? == ψ (rawInt _))=η then _ else _) Q E s;rw [if_neg (by intro h;rw [hn,PJ] at h;cases h)];exact gV hQ))
noncomputable def Itl(K:b_)(a:Addr):It :=
 ⟨λi H=>∃xs x,SqL K H a xs/\xs[i]?=ψ x,λi H x H'=>H'=H/\∀xs,SqL K H a xs->xs[i]?=ψ x,λi H=>∃xs,SqL K H a xs/\xs.length<=i⟩
noncomputable def Itt(K:b_)(a:Addr):It :=
 ⟨λi H=>∃xs x,SqT K H a xs/\xs[i]?=ψ x,λi H x H'=>H'=H/\∀xs,SqT K H a xs->xs[i]?=ψ x,λi H=>∃xs,SqT K H a xs/\xs.length<=i⟩
noncomputable def Itr(lo:Int)(n:Nat):It:=⟨λi _=>i<n,λi H x H'=>H'=H/\x=.int (lo+i),λi _=>n<=i⟩
def x8{P:v_}(a it:Addr):CN P w K tg (Itl K a) [it] it (λi h=>h.IsListIter it a i) where
 mem:=by simp
 obj:=λi h st b hb=>by
  have e:b=it:=by simpa using hb
  subst e;obtain⟨o,e,c,d⟩:=st;exact⟨o,e,λv z=>by rw [d] at z;cases z⟩
 keep:=λi h h' st k=>st.at λo e=>k it (by simp) o e
 item:=by
  intro X hP hw hK hc i pins s σ H E I hf st hg;subst hP hw hK;obtain⟨xs,x,hq,hx⟩:=hg;obtain⟨its,rv,p,hz⟩:=I.list hq;obtain⟨u,hu,ru⟩:=rv.get hx;obtain⟨f0,f1,f2,f3,f4,f5⟩:=hf it (by simp);refine wpAny_pyNext_list_item st p.isList (x:=u) (by simpa using hu) λh' st' sb=>?_;have I1:Inv X pins σ H { s with heap:=h' }:=I.turned (t':=s.toks) (λb o hb e=>(sb.2 b hb).trans e) f0 f1 f3 f4 f5;obtain⟨o,e,c,d⟩:=id st'
  exact⟨u,rfl,A1 (s:={ s with heap:=h' }) e c d (by decide) ⟨x,H,I1,ru,⟨rfl,λys hy=>by rw [I.list_inj hy hq];exact hx⟩,st',λb hb=>(hf b hb).1⟩⟩
 done:=by
  intro X hP hw hK hc i pins s σ H E I hf st hg;subst hP hw hK;obtain⟨xs,hq,hx⟩:=hg;obtain⟨its,rv,p,hz⟩:=I.list hq;obtain⟨f0,f1,f2,f3,f4,f5⟩:=hf it (by simp);have hl:=rv.length;exact wpAny_pyNext_list_end (I.ok.hd hc) st p.isList (by simp;omega) λh' eb=>⟨rfl,I.turned (t':=s.toks) (λb o hb e=>eb b o hb e) f0 f1 f3 f4 f5⟩
 self:=λ_ _ _ _ _ st h=>wpAny_pyIter_listiter st h
def wx{P:v_}(a it:Addr):CN P w K tg (Itt K a) [it] it (λi h=>h.IsTupleIter it a i) where
 mem:=by simp
 obj:=λi h st b hb=>by
  have e:b=it:=by simpa using hb
  subst e;obtain⟨o,e,c,d⟩:=st;exact⟨o,e,λv z=>by rw [d] at z;cases z⟩
 keep:=λi h h' st k=>st.at λo e=>k it (by simp) o e
 item:=by
  intro X hP hw hK hc i pins s σ H E I hf st hg;subst hP hw hK;obtain⟨xs,x,hq,hx⟩:=hg;obtain⟨its,rv,p,hz⟩:=I.tuple hq;obtain⟨u,hu,ru⟩:=rv.get hx;obtain⟨f0,f1,f2,f3,f4,f5⟩:=hf it (by simp);refine wpAny_pyNext_tuple_item st (show s.heap.IsTuple a its.toArray from p) (x:=u) (by simpa using hu) λh' st' sb=>?_;have I1:Inv X pins σ H { s with heap:=h' }:=I.turned (t':=s.toks) (λb o hb e=>(sb.2 b hb).trans e) f0 f1 f3 f4 f5
  obtain⟨o,e,c,d⟩:=id st';exact⟨u,rfl,A1 (s:={ s with heap:=h' }) e c d (by decide) ⟨x,H,I1,ru,⟨rfl,λys hy=>by rw [I.tuple_inj hy hq];exact hx⟩,st',λb hb=>(hf b hb).1⟩⟩
 done:=by
  intro X hP hw hK hc i pins s σ H E I hf st hg;subst hP hw hK;obtain⟨xs,hq,hx⟩:=hg;obtain⟨its,rv,p,hz⟩:=I.tuple hq;obtain⟨f0,f1,f2,f3,f4,f5⟩:=hf it (by simp);have hl:=rv.length;exact wpAny_pyNext_tuple_end (I.ok.hd hc) st (show s.heap.IsTuple a its.toArray from p) (by simp;omega) λh' eb=>⟨rfl,I.turned (t':=s.toks) (λb o hb e=>eb b o hb e) f0 f1 f3 f4 f5⟩
 self:=λ_ _ _ _ _ st h=>wpAny_pyIter_tupleiter st h
def wy{P:v_}(it:Addr)(lo:Int)(n:Nat):CN P w K tg (Itr lo n) [it] it (λi h=>QM h it (lo+(i:Nat)*1) ((n:Int) - (i:Nat)) 1) where
 mem:=by simp
 obj:=λi h st b hb=>by
  have e:b=it:=by simpa using hb
  subst e
  exact⟨_,st,λv z=>by
   have z':Data.fields _=Data.cell v:=z;cases z'⟩
 keep:=λi h h' st k=>k it (by simp) _ st
 item:=by
  intro X hP hw hK hc i pins s σ H E I hf st hg;subst hP hw hK;obtain⟨f0,f1,f2,f3,f4,f5⟩:=hf it (by simp);have W:=Walks.range (prog:=X.prog) (w:=X.w) (I.ok.hd hc) it lo 1 n;refine W.item i s _ _ hg st λv h' tk hv st' kk=>?_;obtain⟨t,rfl⟩:=hv;have I1:Inv X pins σ H { s with heap:=h',toks:=tk }:=I.turned (λb o hb e=>kk b o (by simpa using hb) e) f0 f1 f3 f4 f5;refine⟨_,rfl,A1 (s:={ s with heap:=h',toks:=tk }) (n:="range_iterator") st' rfl rfl (by decide) ⟨.int (lo+i),H,I1,⟨t,?_⟩,⟨rfl,rfl⟩,st',λb hb=>(hf b hb).1⟩⟩
  rw [mul_one]
 done:=by
  intro X hP hw hK hc i pins s σ H E I hf st hg;subst hP hw hK;obtain⟨f0,f1,f2,f3,f4,f5⟩:=hf it (by simp);exact wpAny_pyNext_range_end (I.ok.hd hc) st (by have:n<=i:=hg;omega) λh' eb=>⟨rfl,I.turned (t':=s.toks) (λb o hb e=>eb b o hb e) f0 f1 f3 f4 f5⟩
 self:=λ_ _ _ _ _ st h=>NP st h
def A2{R:It->Hp->Prop}{lo hi:Int}{t u v:Tok}{tk:Nat}(I:Inv X pins σ H s)(h1:-(2^62)<=lo)(h2:lo<2^62)(h3:-(2^62)<=hi)(h4:hi<2^62)(q:R (Itr lo (hi - lo).toNat) H):wpAny (model X.prog X.w) X.A (pyIter (.ref s⁻¹)) (PIE X pins σ tg R) E { s with heap:=s.heap.push { cls:=.type "range",data:=.fields #[.int lo t,.int hi u,.int 1 v] },toks:=tk }:=by
 refine wpAny_pyIter_range (QN ..) (small_one h1 h2 h3 h4) ?_;have I1:Inv X pins σ H { s with heap:=s.heap.push { cls:=.type "range",data:=.fields #[.int lo t,.int hi u,.int 1 v] },toks:=tk }:=I.kept λb o e=>c_ _ e
 refine⟨(s.heap.push { cls:=.type "range",data:=.fields #[.int lo t,.int hi u,.int 1 v] }).objs.size,[(s.heap.push { cls:=.type "range",data:=.fields #[.int lo t,.int hi u,.int 1 v] }).objs.size],_,_,H,rfl,
  I1.kept (t':=tk) λb o e=>c_ _ e,wy _ lo (hi - lo).toNat,?_,λb hb=>?_,q⟩
 .have e1:lo+((0:Nat):Int)*1=lo:=by simp
  have e2:(((hi - lo).toNat:Nat):Int) - ((0:Nat):Int)=t_ lo hi 1:=by rw [rangeSize_one];split <;> omega
  show QM _ _ (lo+((0:Nat):Int)*1) ((((hi - lo).toNat:Nat):Int) - ((0:Nat):Int)) 1;rw [e1,e2];exact i_ _ rfl
 .have e:b=(s.heap.push { cls:=.type "range",data:=.fields #[.int lo t,.int hi u,.int 1 v] }).objs.size:=by simpa using hb
  subst e;exact I1.fpOk (f_ _) (I1.hok.fresh (f_ _))
noncomputable def wz(ta:TA):TI:=λσ H R=>ta σ H λvs H1=>∃j:Int,vs=[.int j]/\-(2^62)<=j/\j<2^62/\R (Itr 0 j.toNat) H1
def bC{a:Expr}{ta:TA}{p:Pos}(hg:Gl X "range")(hm:X.mg "range"=ω)(ha:PA X [a] ta)(hs:starEach [a] X.env=[(ξ,eval a X.env)]:=by rfl):PI X tg (.Call (.Name "range" p) [a] [] pos) (wz ta):=by
 intro pins s σ H R I h;refine Call_ (eY I hg hm boot_range (I_ (thn (ha pos pins s σ H _ I h) λus s1 ⟨vs,H1,I1,r1,q1⟩=>?_) hs rfl));obtain⟨j,e,q1,q2,q⟩:=q1;subst e
 cases r1 with
 | cons r rr =>
  cases rr;obtain⟨t,rfl⟩:=r;exact call_range_1 (A2 I1 ⋯ ⋯ q1 q2 (by simpa using q))
noncomputable def KQ(wi:TI)(g:TG)(tb:TS):TS:=λD σ H=>wi σ H λJ H1=>∃W:Nat->Nat->St->Hp->Prop,(∃m,W 0 m σ H1)/\∀i m σ H,W i m σ H ->
 (J.stop i H/\D.nx σ H)\/(J.go i H/\∃N:St->Hp->Prop,(∀σ' H',N σ' H'->∃m',m'<m/\W (i+1) m' σ' H')/\∀x H',J.yld i H x H'->g x σ H' λσ2 H2=>tb { D with nx:=N,ct:=N,bk:=D.nx } σ2 H2)
noncomputable def lB(fp:List Addr)(h:Heap):List (Addr×Obj):=fp.filterMap λb=>(h.get? b).map λo=>(b,o)
def c7{fp:List Addr}{b:Addr}{o:Obj}(hb:b∈fp)(e:h.get? b=ψ o):(b,o)∈lB fp h:=ND.mpr ⟨b,hb,by rw [e];rfl⟩
def x9{fp:List Addr}{p:Addr×Obj}(hp:p∈lB fp h):p.1∈fp/\h.get? p.1=ψ p.2:=by
 obtain⟨b,hb,e⟩:=ND.mp hp
 cases q:h.get? b with
 | none=>rw [q] at e;cases e
 | some o =>
  rw [q] at e;have e':(b,o)=p:=w_ e;subst e';exact⟨hb,q⟩
def Inv.pinned{fp:List Addr}(I:Inv X pins σ H s)(hf:∀b∈fp,tw X pins H b)(ho:∀b∈fp,∃o,s.heap.get? b=ψ o/\∀v,o.data≠.cell v):Inv X (pins++lB fp s.heap) σ H s :=
 I.pins_of λp hp=>(Mv.mp hp).elim (λz=>I.pin p (r_ _ z)) λz=>by
  obtain⟨hb,e⟩:=x9 z;obtain⟨f0,f1,f2,_⟩:=hf p.1 hb;obtain⟨o,e',d⟩:=ho p.1 hb;rw [e] at e';cases e';exact⟨e,f0,f1,f2,d⟩
def Inv.unpinned{pl:List (Addr×Obj)}(I:Inv X (pins++pl) σ H s):Inv X pins σ H s:=I.pins_of λp hp=>I.pin p (r_ _ (Mf _ hp))
def cJ{iter:Expr}{body:List Stmt}{wi:TI}{tb:TS}(hp:PassesOwn (model X.prog X.w) X.A X.env X.xe)(hc:X.calm=η)(hi:PI X tg iter wi)(hg:PG X tg g)(hb:PSs X body tb)(hs:∀x,foldedSetIterable iter X.env x=pure x:=by intro _;rfl):PS X (.For tg iter body [] pos) (KQ wi g tb):=by
 intro pins s σ H D I h;refine wpAny_For (thn (hi pins s σ H _ I h) λv s1 h1=>thn h1 λitv s2 h2=>?_) hs;obtain⟨it,fp,tn,J,H2,e,I2,T,st2,f2,W,⟨m0,w0⟩,turn⟩:=h2;subst e
 -- what stays η of the iterator's objects through the loop
 have stat:∀{H':Hp},(∀b∈fp,H' b=ω)->∀b∈fp,tw X pins H' b:=λhn b hb=>⟨hn b hb,(f2 b hb).2⟩
 refine codeAny_forLoop_any (λn s'=>∃i σ' H',Inv X pins σ' H' s'/\tn i s'.heap/\(∀b∈fp,H' b=ω)/\W i n σ' H') ?_ m0 ⟨0,σ,H2,I2,st2,λb hb=>(f2 b hb).1,w0⟩;rintro n s3 ⟨i,σ3,H3,I3,st3,fr3,w3⟩
 rcases turn i n σ3 H3 w3 with ⟨stop,qn⟩|⟨go,N,hN,step⟩
 .refine Nw hp (thn (T.done X rfl rfl rfl hc i pins s3 σ3 H3 X.xe I3 (stat fr3) st3 stop) λr s4 ⟨hr,I4⟩=>?_);subst hr;exact Pl ⟨σ3,H3,I4,qn⟩
 .refine Nw hp (thn (T.item X rfl rfl rfl hc i pins s3 σ3 H3 X.xe I3 (stat fr3) st3 go) λr s4 ⟨u,hr,h4⟩=>?_);subst hr;refine Nw hp (thn h4 λ_ s5 ⟨x,H5,I5,r5,y5,st5,fr5⟩=>?_);have I5':=I5.pinned (stat fr5) (T.obj _ _ st5);refine Nw hp (thn (hg _ s5 σ3 H5 x u _ I5' r5 (step x H5 y5)) λ_ s6 ⟨σ6,H6,I6,q6⟩=>?_);refine Nw hp (thn (hb _ s6 σ6 H6 _ I6 q6) λf s7 q7=>?_)
  have again:∀{σ7:St}{H7:Hp},Inv X (pins++lB fp s5.heap) σ7 H7 s7->N σ7 H7->∃m,m<n/\∃i σ' H',Inv X pins σ' H' s7/\tn i s7.heap/\(∀b∈fp,H' b=ω)/\W i m σ' H':=λ{σ7 H7} I7 n7=>by
   obtain⟨m',hm,w7⟩:=hN σ7 H7 n7;refine⟨m',hm,i+1,σ7,H7,I7.unpinned,T.keep _ _ _ st5 λb hb o e=>(I7.pin (b,o) (r_ _ (r_ _ (c7 hb e)))).1,λb hb=>?_,w7⟩;obtain⟨o,e,d⟩:=T.obj _ _ st5 b hb;exact (I7.pin (b,o) (r_ _ (r_ _ (c7 hb e)))).2.1
  cases f with
  | next=>obtain⟨σ7,H7,I7,n7⟩:=q7;exact again I7 n7
  | cont=>obtain⟨σ7,H7,I7,n7⟩:=q7;exact again I7 n7
  | brk=>obtain⟨σ7,H7,I7,q7⟩:=q7;exact⟨σ7,H7,I7.unpinned,q7⟩
  | ret v=>obtain⟨x7,σ7,H7,I7,r7,q7⟩:=q7;exact⟨x7,σ7,H7,I7.unpinned,r7,q7⟩
abbrev R2:=V->V->Hp->VK->Prop
noncomputable def OpR(X:Cx)(f:Value->Value->Sem Value)(r:R2):Prop :=
 ∀(pins:List (Addr×Obj)) (s:d_) (σ:St) (H:Hp) (x y:V) (v u:Value) (Q:VK),Inv X pins σ H s->cC x v->cC y u->r x y H Q ->
  wpAny (model X.prog X.w) X.A (f v u) (EP X pins σ Q) X.xe s
noncomputable def UnR(X:Cx)(f:Value->Sem Value)(r:V->Hp->VK->Prop):Prop :=
 ∀(pins:List (Addr×Obj)) (s:d_) (σ:St) (H:Hp) (x:V) (v:Value) (Q:VK),Inv X pins σ H s->cC x v->r x H Q ->
  wpAny (model X.prog X.w) X.A (f v) (EP X pins σ Q) X.xe s
noncomputable def bD(X:Cx)(f:Value)(r:List V->Hp->VK->Prop):Prop :=
 ∀(pins:List (Addr×Obj)) (s:d_) (σ:St) (H:Hp) (xs:List V) (us:Ξ) (Q:VK),Inv X pins σ H s->bI xs us->r xs H Q ->
  wpAny (model X.prog X.w) X.A (call f us) (EP X pins σ Q) X.xe s
noncomputable def tOp(r:R2)(ta tb:TE):TE:=λσ H Q=>ta σ H λx H1=>tb σ H1 λy H2=>r x y H2 Q
noncomputable def tUn(r:V->Hp->VK->Prop)(ta:TE):TE:=λσ H Q=>ta σ H λx H1=>r x H1 Q
noncomputable def rI(C:Int->Int->Prop)(g:Int->Int->V):R2:=λx y H Q=>∃i j,x=.int i/\y=.int j/\C i j/\Q (g i j) H
noncomputable def rI0(g:Int->Int->V):R2:=λx y H Q=>∃i j,x=.int i/\y=.int j/\Q (g i j) H
noncomputable def rU(g:Int->V):V->Hp->VK->Prop:=λx H Q=>∃i,x=.int i/\Q (g i) H
variable {a:Expr}
def Jx(ha:PE X a ta)(hb:PE X b tb){R:V->V->Hp->Prop}(I:Inv X pins σ H s)(h:ta σ H λx H1=>tb σ H1 λy H2=>R x y H2){f:Value->Value->Sem Value}(hf:∀v u s2 x y H2,Inv X pins σ H2 s2->cC x v->cC y u->R x y H2->wpAny (model X.prog X.w) X.A (f v u) Q X.xe s2):
  wpAny (model X.prog X.w) X.A (eval a X.env) (λv s₁=>wpAny (model X.prog X.w) X.A (eval b X.env) (λu s₂=>wpAny (model X.prog X.w) X.A (f v u) Q X.xe s₂) X.xe s₁) X.xe s:=by
 refine thn (ha pins s σ H _ I h) λv s1 ⟨x,H1,I1,r1,q1⟩=>?_;refine thn (hb pins s1 σ H1 _ I1 q1) λu s2 ⟨y,H2,I2,r2,q2⟩=>?_;exact hf v u s2 x y H2 I2 r1 r2 q2
variable {r:R2}
def aH{op:Operator}(ho:OpR X (binaryOp op) r)(ha:PE X a ta)(hb:PE X b tb):PE X (.BinOp a op b pos) (tOp r ta tb):=by
 intro pins s σ H Q I h;exact wpAny_BinOp (Jx ha hb I h λv u s2 x y H2 I2 rx ry q=>ho pins s2 σ H2 x y v u Q I2 rx ry q)
def wA{op:UnaryOp}{r:V->Hp->VK->Prop}(ho:UnR X (unaryOp op) r)(ha:PE X a ta):PE X (.UnaryOp op a pos) (tUn r ta):=by
 intro pins s σ H Q I h;exact UnaryOp_ (thn (ha pins s σ H _ I h) λv s1 ⟨x,H1,I1,r1,q1⟩=>ho pins s1 σ H1 x v Q I1 r1 q1)
def opI{f:Value->Value->Sem Value}{C:Int->Int->Prop}{g:Int->Int->Int}(rule:∀(i j:Int) (t u:Tok) (s:d_) (Q:Value->d_->Prop) (E:Value->d_->Prop),C i j->Q (.int (g i j) s.toks) { s with toks:=s.toks+1 }->wpAny (model X.prog X.w) X.A (f (.int i t) (.int j u)) Q E s):
  OpR X f (rI C λi j=>.int (g i j)):=by
 intro pins s σ H x y v u Q I rx ry h;obtain⟨i,j,rfl,rfl,hc,q⟩:=h;obtain⟨t,rfl⟩:=rx;obtain⟨t',rfl⟩:=ry;exact rule i j t t' s _ _ hc ⟨.int (g i j),H,I.tok _,⟨_,rfl⟩,q⟩
def KR{f:Value->Value->Sem Value}{g:Int->Int->Int}(rule:∀(i j:Int) (t u:Tok) (s:d_) (Q:Value->d_->Prop) (E:Value->d_->Prop),Q (.int (g i j) s.toks) { s with toks:=s.toks+1 }->wpAny (model X.prog X.w) X.A (f (.int i t) (.int j u)) Q E s):
  OpR X f (rI0 λi j=>.int (g i j)):=by
 intro pins s σ H x y v u Q I rx ry h;obtain⟨i,j,rfl,rfl,q⟩:=h;obtain⟨t,rfl⟩:=rx;obtain⟨t',rfl⟩:=ry;exact rule i j t t' s _ _ ⟨.int (g i j),H,I.tok _,⟨_,rfl⟩,q⟩
def FK{f:Value->Value->Sem Value}{g:Int->Int->Bool}(rule:∀(i j:Int) (t u:Tok) (s:d_) (Q:Value->d_->Prop) (E:Value->d_->Prop),Q (.bool (g i j)) s->wpAny (model X.prog X.w) X.A (f (.int i t) (.int j u)) Q E s):
  OpR X f (rI0 λi j=>.bl (g i j)):=by
 intro pins s σ H x y v u Q I rx ry h;obtain⟨i,j,rfl,rfl,q⟩:=h;obtain⟨t,rfl⟩:=rx;obtain⟨t',rfl⟩:=ry;exact rule i j t t' s _ _ ⟨.bl (g i j),H,I,rfl,q⟩
noncomputable def Jy(i j:Int):Prop:=0<j/\j<1073741824
noncomputable def Jz(i j:Int):Prop:=0<=j/\j<=1000000/\i.natAbs<2^64
noncomputable def Jg(i j:Int):Prop:=(-(2^64)<i/\i<2^64)\/(-(2^64)<j/\j<2^64)
def Jg.ok{i j:Int}(h:Jg i j):IntMulOk i j:=by
 rcases h with ⟨h1,h2⟩|⟨h1,h2⟩
 .exact .of_left (intBits_le_64 h1 h2)
 .exact .of_right (intBits_le_64 h1 h2)
def Gq:OpR X (binaryOp .Add) (rI0 λi j=>.int (i+j)):=KR λ_ _ _ _ _ _ _ q=>add_int q
def Gs:OpR X (binaryOp .Sub) (rI0 λi j=>.int (i - j)):=KR λ_ _ _ _ _ _ _ q=>sub_int q
def Gu:OpR X (binaryOp .Mult) (rI Jg λi j=>.int (i*j)):=opI λ_ _ _ _ _ _ _ hc q=>mul_int q hc.ok
def DP:OpR X (binaryOp .FloorDiv) (rI Jy λi j=>.int (i / j)):=opI λi j _ _ _ _ _ hc q=>by
 have h1:(0:Int)<j:=hc.1;have h2:j<1073741824:=hc.2;exact floordiv_int ⋯ (by rw [fdiv_eq_ediv_of_nonneg i ⋯];exact q) (.inl (Qm ⋯))
def Gv:OpR X (binaryOp .Mod) (rI (λ_ j=>0<j) λi j=>.int (i % j)):=opI λi j _ _ _ _ _ hc q=>by
 have h1:(0:Int)<j:=hc;exact mod_int' ⋯ (by rw [fmod_eq_emod_of_nonneg i ⋯];exact q)
def Gw:OpR X (binaryOp .Pow) (rI Jz λi j=>.int (i^j.toNat)):=opI λ_ _ _ _ _ _ _ hc q=>pow_int_small hc.1 hc.2.1 hc.2.2 q
def unI{f:Value->Sem Value}{g:Int->Int}(rule:∀(i:Int) (t:Tok) (s:d_) (Q:Value->d_->Prop) (E:Value->d_->Prop),Q (.int (g i) s.toks) { s with toks:=s.toks+1 }->wpAny (model X.prog X.w) X.A (f (.int i t)) Q E s):
  UnR X f (rU λi=>.int (g i)):=by
 intro pins s σ H x v Q I rx h;obtain⟨i,rfl,q⟩:=h;obtain⟨t,rfl⟩:=rx;exact rule i t s _ _ ⟨.int (g i),H,I.tok _,⟨_,rfl⟩,q⟩
def oG:UnR X (unaryOp .USub) (rU λi=>.int (-i)):=unI λ_ _ _ _ _ q=>neg_int q
noncomputable def KS:V->V->Bool
 | .non,.non=>η|.non,.int _=>η|.int _,.non=>η|.non,.bl _=>η|.bl _,.non=>η|.non,.str _=>η|.str _,.non=>η
 | .int _,.int _=>η|.bl _,.bl _=>η|.str _,.str _=>η|.byt _,.byt _=>η
 | .int _,.str _=>η|.str _,.int _=>η|.bl _,.str _=>η|.str _,.bl _=>η
 | _,_=>ξ
noncomputable def rEq:R2:=λx y H Q=>KS x y=η/\Q (.bl (decide (x=y))) H
noncomputable def rNe:R2:=λx y H Q=>KS x y=η/\Q (.bl (!decide (x=y))) H
def ya{i j:Int}:decide (V.int i=V.int j)=(i == j):=by
 rw [Ox];simp
def CO{i j:Bool}:decide (V.bl i=V.bl j)=(i == j):=by
 rw [Ox];simp
def yb{i j:Str}:decide (V.str i=V.str j)=(i == j):=by
 rw [Ox];simp
def yc{i j:Array UInt8}:decide (V.byt i=V.byt j)=(i.toList == j.toList):=by
 rw [Ox];cases i;cases j;simp
def bJ{Q:VK}{k k':Bool}(I:Inv X pins σ H s)(q:Q (.bl k) H)(e:k=k'):EP X pins σ Q (.bool k') s:=by
 subst e;exact⟨.bl k,H,I,rfl,q⟩
def JA:OpR X (compareOp .Eq) rEq:=by
 intro pins s σ H x y v u Q I rx ry h;obtain⟨hs,q⟩:=h
 cases x with
 | non =>
  cases rx
  cases y with
  | non=>cases ry;exact PySem.EqNone.eq_none_none (bJ I q (by simp))
  | bl j=>cases ry;exact PySem.EqNone.eq_none_bool (bJ I q (by simp))
  | int j=>obtain⟨t',rfl⟩:=ry;exact PySem.EqNone.eq_none_int (bJ I q (by simp))
  | str j=>obtain⟨t',rfl⟩:=ry;exact PySem.EqNone.eq_none_str (bJ I q (by simp))
  | _=>exact absurd (show ξ=η from hs) l_
 | bl i =>
  cases rx
  cases y with
  | non=>cases ry;exact PySem.EqNone.eq_bool_none (bJ I q (by simp))
  | bl j=>cases ry;exact eq_bool (bJ I q CO)
  | str j=>obtain⟨t',rfl⟩:=ry;exact PySem.EqMixed.eq_bool_str (bJ I q (by simp))
  | _=>exact absurd (show ξ=η from hs) l_
 | int i =>
  obtain⟨t,rfl⟩:=rx
  cases y with
  | non=>cases ry;exact PySem.EqNone.eq_int_none (bJ I q (by simp))
  | int j=>obtain⟨t',rfl⟩:=ry;exact eq_int (bJ I q ya)
  | str j=>obtain⟨t',rfl⟩:=ry;exact PySem.EqMixed.eq_int_str (bJ I q (by simp))
  | _=>exact absurd (show ξ=η from hs) l_
 | str i =>
  obtain⟨t,rfl⟩:=rx
  cases y with
  | non=>cases ry;exact PySem.EqNone.eq_str_none (bJ I q (by simp))
  | bl j=>cases ry;exact PySem.EqMixed.eq_str_bool (bJ I q (by simp))
  | int j=>obtain⟨t',rfl⟩:=ry;exact PySem.EqMixed.eq_str_int (bJ I q (by simp))
  | str j=>obtain⟨t',rfl⟩:=ry;exact eq_str (bJ I q yb)
  | _=>exact absurd (show ξ=η from hs) l_
 | byt i =>
  obtain⟨t,rfl⟩:=rx
  cases y with
  | byt j=>obtain⟨t',rfl⟩:=ry;exact PySem.W.eq_bytes (bJ I q yc)
  | _=>exact absurd (show ξ=η from hs) l_
 | _=>cases y <;> exact absurd (show ξ=η from hs) l_
def JB:OpR X (compareOp .NotEq) rNe:=by
 intro pins s σ H x y v u Q I rx ry h;obtain⟨hs,q⟩:=h
 cases x with
 | non =>
  cases rx
  cases y with
  | non=>cases ry;exact PySem.EqNone.ne_none_none (bJ I q (by simp))
  | bl j=>cases ry;exact PySem.EqNone.ne_none_bool (bJ I q (by simp))
  | int j=>obtain⟨t',rfl⟩:=ry;exact PySem.EqNone.ne_none_int (bJ I q (by simp))
  | str j=>obtain⟨t',rfl⟩:=ry;exact PySem.EqNone.ne_none_str (bJ I q (by simp))
  | _=>exact absurd (show ξ=η from hs) l_
 | bl i =>
  cases rx
  cases y with
  | non=>cases ry;exact PySem.EqNone.ne_bool_none (bJ I q (by simp))
  | bl j=>cases ry;exact ne_bool (bJ I q (congrArg not CO))
  | str j=>obtain⟨t',rfl⟩:=ry;exact PySem.EqMixed.ne_bool_str (bJ I q (by simp))
  | _=>exact absurd (show ξ=η from hs) l_
 | int i =>
  obtain⟨t,rfl⟩:=rx
  cases y with
  | non=>cases ry;exact PySem.EqNone.ne_int_none (bJ I q (by simp))
  | int j=>obtain⟨t',rfl⟩:=ry;exact ne_int (bJ I q (congrArg not ya))
  | str j=>obtain⟨t',rfl⟩:=ry;exact PySem.EqMixed.ne_int_str (bJ I q (by simp))
  | _=>exact absurd (show ξ=η from hs) l_
 | str i =>
  obtain⟨t,rfl⟩:=rx
  cases y with
  | non=>cases ry;exact PySem.EqNone.ne_str_none (bJ I q (by simp))
  | bl j=>cases ry;exact PySem.EqMixed.ne_str_bool (bJ I q (by simp))
  | int j=>obtain⟨t',rfl⟩:=ry;exact PySem.EqMixed.ne_str_int (bJ I q (by simp))
  | str j=>obtain⟨t',rfl⟩:=ry;exact ne_str (bJ I q (congrArg not yb))
  | _=>exact absurd (show ξ=η from hs) l_
 | byt i =>
  obtain⟨t,rfl⟩:=rx
  cases y with
  | byt j=>obtain⟨t',rfl⟩:=ry;exact PySem.W.ne_bytes (bJ I q (congrArg not yc))
  | _=>exact absurd (show ξ=η from hs) l_
 | _=>cases y <;> exact absurd (show ξ=η from hs) l_
def JC:OpR X (compareOp .Lt) (rI0 λi j=>.bl (decide (i<j))):=FK λ_ _ _ _ _ _ _ q=>lt_int q
def JD:OpR X (compareOp .LtE) (rI0 λi j=>.bl (decide (i<=j))):=FK λ_ _ _ _ _ _ _ q=>le_int q
def JE:OpR X (compareOp .Gt) (rI0 λi j=>.bl (decide (j<i))):=FK λ_ _ _ _ _ _ _ q=>gt_int q
def JF:OpR X (compareOp .GtE) (rI0 λi j=>.bl (decide (j<=i))):=FK λ_ _ _ _ _ _ _ q=>ge_int q
def yd:OpR X (compareOp .Lt) (λx y H Q=>∃i j,x=.str i/\y=.str j/\Q (.bl (decide (i.cps.toList<j.cps.toList))) H):=by
 intro pins s σ H x y v u Q I rx ry h;obtain⟨i,j,rfl,rfl,q⟩:=h;obtain⟨t,rfl⟩:=rx;obtain⟨t',rfl⟩:=ry;exact lt_str (bJ I q rfl)
variable {r':R2}
def OpR.or{f:Value->Value->Sem Value}(h:OpR X f r)(h':OpR X f r'):OpR X f (λx y H Q=>r x y H Q\/r' x y H Q):=by
 intro pins s σ H x y v u Q I rx ry q
 rcases q with q|q
 .exact h pins s σ H x y v u Q I rx ry q
 .exact h' pins s σ H x y v u Q I rx ry q
variable {op:CmpOp}
def aX(b:Expr)(h:op≠.In:=by decide)(h2:op≠.NotIn:=by decide):behindInMarks op b=false:=by
 have e1:(op == CmpOp.In)=false:=by cases op <;> first|rfl|exact absurd rfl h
 have e2:(op == CmpOp.NotIn)=false:=by cases op <;> first|rfl|exact absurd rfl h2
 cases b <;> simp [behindInMarks,e1,e2]
def gK(ho:OpR X (compareOp op) r)(ha:PE X a ta)(hb:PE X b tb)(hm:behindInMarks op b=ξ):PE X (.Compare a [op] [b] pos) (tOp r ta tb):=by
 intro pins s σ H Q I h;exact wpAny_Compare1 (Jx ha hb I h λv u s2 x y H2 I2 rx ry q=>ho pins s2 σ H2 x y v u Q I2 rx ry q) hm
noncomputable def qN(t:TE):TT:=λσ H Q=>t σ H λx H'=>∃k,x=.bl k/\Q k H'
def aM(ho:OpR X (compareOp op) r)(ha:PE X a ta)(hb:PE X b tb)(hm:behindInMarks op b=ξ):PT X (.Compare a [op] [b] pos) (qN (tOp r ta tb)):=by
 intro pins s σ H Q I h
 refine wpAny_isTrue_Compare1 (thn (ha pins s σ H _ I h) λv s1 ⟨x,H1,I1,r1,q1⟩=>thn (hb pins s1 σ H1 _ I1 q1) λu s2 ⟨y,H2,I2,r2,q2⟩ =>
  thn (ho pins s2 σ H2 x y v u _ I2 r1 r2 q2) λc s3 ⟨z,H3,I3,r3,k,e,q3⟩=>?_) hm
 subst e;cases r3;exact MC ⟨H3,I3,q3⟩
variable {tc:TE}
noncomputable def ve(r r':R2)(ta tb tc:TE):TE:=λσ H Q=>ta σ H λx H1=>tb σ H1 λy H2=>r x y H2 λz H3=>∃k,z=.bl k /\
 (if k=η then tc σ H3 λw' H4=>r' y w' H4 Q else Q (.bl ξ) H3)
variable {c:Expr}
def vf{op':CmpOp}(ho:OpR X (compareOp op) r)(ho':OpR X (compareOp op') r')(ha:PE X a ta)(hb:PE X b tb)(hc:PE X c tc)(hm:lastMarks [op,op'] [b,c]=false:=by with_unfolding_all rfl):PE X (.Compare a [op,op'] [b,c] pos) (ve r r' ta tb tc):=by
 intro pins s σ H Q I h
 refine Compare_chain (thn (ha pins s σ H _ I h) λv s1 ⟨x,H1,I1,r1,q1⟩=>chain_link (thn (hb pins s1 σ H1 _ I1 q1) λu s2 ⟨y,H2,I2,r2,q2⟩ =>
  thn (ho pins s2 σ H2 x y v u _ I2 r1 r2 q2) λd s3 ⟨z,H3,I3,r3,k,e,q3⟩=>?_)) hm
 subst e;cases r3;refine MC ?_
 cases k with
 | false=>exact ite_ff ⟨.bl ξ,H3,I3,rfl,q3⟩
 | true=>exact ite_tt (chain_last (thn (hc pins s3 σ H3 _ I3 q3) λw' s4 ⟨z',H4,I4,r4,q4⟩=>ho' pins s4 σ H4 y z' u w' Q I4 r2 r4 q4))
def A3{op':CmpOp}(ho:OpR X (compareOp op) r)(ho':OpR X (compareOp op') r')(ha:PE X a ta)(hb:PE X b tb)(hc:PE X c tc)(hm:lastMarks [op,op'] [b,c]=false:=by with_unfolding_all rfl):PT X (.Compare a [op,op'] [b,c] pos) (qN (ve r r' ta tb tc)):=by
 intro pins s σ H Q I h
 refine isTrue_chain (thn (ha pins s σ H _ I h) λv s1 ⟨x,H1,I1,r1,q1⟩=>test_link (thn (hb pins s1 σ H1 _ I1 q1) λu s2 ⟨y,H2,I2,r2,q2⟩ =>
  thn (ho pins s2 σ H2 x y v u _ I2 r1 r2 q2) λd s3 ⟨z,H3,I3,r3,k,e,q3⟩=>?_)) hm
 subst e;cases r3;refine MC ?_
 cases k with
 | false =>
  obtain⟨k',e',q'⟩:=q3;cases e';exact ite_ff ⟨H3,I3,q'⟩
 | true =>
  refine ite_tt (test_last (thn (hc pins s3 σ H3 _ I3 q3) λw' s4 ⟨z',H4,I4,r4,q4⟩=>thn (ho' pins s4 σ H4 y z' u w' _ I4 r2 r4 q4) λd' s5 ⟨z2,H5,I5,r5,k2,e2,q5⟩=>?_));subst e2;cases r5;exact MC ⟨H5,I5,q5⟩
def lC:(sizeLine:Nat)<2^63:=by rw [Pi];decide
def wB:OpR X (binaryOp .Add) (λx y H Q=>∃i j,x=.str i/\y=.str j/\i.length+j.length<=sizeLine/\Q (.str (i++j)) H):=by
 intro pins s σ H x y v u Q I rx ry h;obtain⟨i,j,rfl,rfl,hz,q⟩:=h;obtain⟨t,rfl⟩:=rx;obtain⟨t',rfl⟩:=ry;exact add_str (λt' tk=>⟨.str (i++j),H,I.tok _,⟨_,rfl⟩,q⟩) hz
def d0{x:V}(r:bI [x] us):∃u,us=[u]/\cC x u:=by
 cases r with
 | cons r1 r2=>cases r2;exact⟨_,rfl,r1⟩
def A4{x:V}(r:bI [x,y] us):∃u w',us=[u,w']/\cC x u/\cC y w':=by
 cases r with
 | cons r1 r2 =>
  cases r2 with
  | cons r3 r4=>cases r4;exact⟨_,_,rfl,r1,r3⟩
def ye(hc:X.calm=η):bD X (.builtin "max") (λxs H Q=>∃i j,xs=[.int i,.int j]/\Q (.int (if j > i then j else i)) H):=by
 intro pins s σ H xs us Q I r h;obtain⟨i,j,rfl,q⟩:=h;obtain⟨u,w',rfl,⟨t,rfl⟩,⟨t',rfl⟩⟩:=A4 r;refine max_two_ints (I.ok.hd hc) λh' tk k=>⟨_,H,I.kept k,?_,q⟩
 by_cases hj:j > i
 .rw [if_pos hj,if_pos hj];exact⟨_,rfl⟩
 .rw [if_neg hj,if_neg hj];exact⟨_,rfl⟩
def yf(hc:X.calm=η):bD X (.builtin "min") (λxs H Q=>∃i j,xs=[.int i,.int j]/\Q (.int (if j<i then j else i)) H):=by
 intro pins s σ H xs us Q I r h;obtain⟨i,j,rfl,q⟩:=h;obtain⟨u,w',rfl,⟨t,rfl⟩,⟨t',rfl⟩⟩:=A4 r;refine min_two_ints (I.ok.hd hc) λh' tk k=>⟨_,H,I.kept k,?_,q⟩
 by_cases hj:j<i
 .rw [if_pos hj,if_pos hj];exact⟨_,rfl⟩
 .rw [if_neg hj,if_neg hj];exact⟨_,rfl⟩
structure DQ (h:Heap) (x dx C:Addr) (mA:Θ):Prop where
 obj:h.get? x=ψ (Nd C dx)
 ns:h.Ns1 dx mA
 ne:dx≠x
def yg{dx:Addr}{mA:Θ}(n:h.Ns1 dx mA):∃od,h.get? dx=ψ od/\∀name,PK name od=ψ (mA name):=by
 obtain⟨o,es,ep,ho,hd,hk,_,hm⟩:=n;refine⟨o,ho,λname=>?_⟩;have e:=hm name;unfold nsFind findBy at e;rw [<- Array.find?_toList] at e;unfold PK;rw [hd];dsimp only
 split
 .rename_i y q;rw [q] at e;exact congrArg ψ e
 .rename_i q;rw [q] at e
  have a:es.toList.any (·.refKey)=false:=by
   rw [Qn];intro y hy;obtain⟨z,t,hkey⟩:=hk y (Array.mem_toList_iff.mp hy);simp [DictEntry.refKey,hkey]
  have a':¬ es.toList.any (·.refKey)=true:=by rw [a];exact l_
  rw [if_neg a'];exact congrArg ψ e
variable {C:Addr}
def DQ.look{x dx:Addr}{mA:Θ}(I:DQ h x dx C mA):∃od,PySem.W.InstAt h x (Nd C dx) C (ψ od)/\∀name,PK name od=ψ (mA name) :=
 let ⟨od,ho,hl⟩:=yg I.ns
 ⟨od,⟨I.obj,rfl,rfl,ho⟩,hl⟩
variable {prog:v_}{x dx:Addr}{mA:Θ}{name:Str}{v:Value}
def DR{expr:Bool}(X:K.In s.heap)(I:DQ s.heap x dx C mA)(hg:Og K C name=η)(hh:OR K C=η)(ha:s_ K (.ref C) name=ψ ω)(hv:mA name=ψ v)(hv':PySem.W.handedIn v=η)(h:Q v { s with toks:=s.toks+1 }):
  wpAny (model prog w) A (getAttr (.ref x) name expr) Q E s:=by
 obtain⟨od,J,hl⟩:=I.look;exact PySem.W.get_value X J (Pq hg).1 (PySem.W.findObj_own hh ha rfl (by rw [hl,hv])) hv' h
variable {f:Addr}
def A5{pl:Sem Bool}{Q:Value×Ξ->d_->Prop}(X:K.In s.heap)(I:DQ s.heap x dx C mA)(hg:Og K C name=η)(hf:s_ K (.ref C) name=ψ (ψ (.ref f)))(ht:Pw K (.ref f)=η)(hv:mA name=ω)(h:Q (.ref f,[.ref x]) s):
  wpAny (model prog w) A (getMethod (.ref x) name pl) Q E s:=by
 obtain⟨od,J,hl⟩:=I.look;exact PySem.W.method_fn X J (Pq hg).1 (Pq hg).2 hf (beq_iff_eq.mp ht) (by show (PK name od).map (·.isSome)=ψ ξ;rw [hl,hv];rfl) h
def DS{ns:List Str}{Q:Unit->d_->Prop}(X:K.In s.heap)(I:DQ s.heap x dx C mA)(hs:s_ K (.ref C) "__setattr__"=ψ (ψ (.builtin "object.__setattr__")))(hp:P0 K C=η)(ht:QB K C name=ψ ω)(hh:OR K C=η)(hw:QZ mA ns)(hsz:ns.length<=sizeLine)(h:∀h',DQ h' x dx C (λy=>if y=name then ψ v else mA y)->Of dx s.heap h'->Q () { s with heap:=h',toks:=s.toks+2 }):
  wpAny (model prog w) A (setAttr (.ref x) name v) Q E s:=by
 obtain⟨od,J,hl⟩:=I.look;refine PySem.W.set_plain X J hs (PySem.W.osa_open (s:={ s with toks:=s.toks+1 }) (r:=ω) X J hp ht λb=>?_);obtain⟨cd,hc,hd'⟩:=PySem.W.any_some hh;have hx:s.heap.get? x=ψ ⟨.ref C,ψ dx,.plain,#[]⟩:=I.obj;refine cn (gV (cn (cn (wpAny_loadPart hx (cn (PySem.W.Looks.here (s:={ s with toks:=s.toks+1 }) (PySem.W.looks_clsIn X hc) ?_))))))
 rw [hd'];refine gV (a:=ψ dx) (cn (gV (cn ?_)));refine wpAny_nsSet1 (s:={ s with toks:=s.toks+1 }) I.ns λh' hn2 hs2=>?_;obtain⟨oD,esD,epD,hoD,hdD,hcD⟩:=hn2.count (PySem.Within.cons name v hw);refine cn (wpAny_lookBehind hoD (by rw [hdD];exact pastItsLine_dict (Mn hcD (by rw [Mm];omega))) ?_);exact gV (h _ ⟨(hs2.2 _ (Nh I.ne)).trans I.obj,hn2,I.ne⟩ hs2)
def A6{R:Result->d_->Prop}{vs:Ξ}{kw:List (Str×Value)}(X:K.In s.heap)(hm:QC K C=η)(hi:s_ K (.ref C) "__init__"=ψ (ψ (.ref f)))(hf:QO K (.ref f)=ψ (.type "function"))(h:codeAny (model prog w) (A.under (.builtin "type.__call__" ⟨.ref C::vs,kw⟩)) (.call (.ref f) ⟨.ref (s⁻¹+1)::vs,kw⟩) (PySem.W.InitBack (s⁻¹+1) R)
   { s with heap:=(s.heap.push MP).push (Nd C s⁻¹) }):
  codeAny (model prog w) A (.call (.ref C) ⟨vs,kw⟩) R s:=by
 obtain⟨hh,g,d,t,os⟩:=s;exact PySem.W.make_core (PySem.W.makes_of X hm) (PySem.W.looks_findIn X hi) (λself=>PySem.W.bind_fn X self hf) (.inl rfl) h
noncomputable def oH(f:Str)(v:V):List (Str×V)->List (Str×V)
 | []=>[(f,v)]
 | (g,x)::r=>if g=f then (g,v)::r else (g,x)::oH f v r
theorem lD(f g:Str)(v:V):∀fs:List (Str×V),(oH f v fs).lookup g=if g=f then ψ v else fs.lookup g
 | []=>by
  show N4 g [(f,v)]=_
  by_cases h:g=f
  .have hb:(g == f)=true:=beq_iff_eq.mpr h;simp only [N4,hb,if_pos h]
  .have hb:(g == f)=false:=beq_eq_false_iff_ne.mpr h;simp only [N4,hb,if_neg h]
 | (k,x)::r=>by
  have ih:=lD f g v r;rw [show oH f v ((k,x)::r)=(if k=f then (k,v)::r else (k,x)::oH f v r) from rfl]
  by_cases hk:k=f
  .rw [if_pos hk]
   by_cases h:g=k
   .have hb:(g == k)=true:=beq_iff_eq.mpr h;simp only [N4,hb,if_pos (h.trans hk)]
   .have hb:(g == k)=false:=beq_eq_false_iff_ne.mpr h;simp only [N4,hb,if_neg (λe:g=f=>h (e.trans hk.symm))]
  .rw [if_neg hk]
   by_cases h:g=k
   .have hb:(g == k)=true:=beq_iff_eq.mpr h;simp only [N4,hb,if_neg (λe:g=f=>hk (h.symm.trans e))]
   .have hb:(g == k)=false:=beq_eq_false_iff_ne.mpr h;simp only [N4,hb];exact ih
theorem lE(f:Str)(v:V):∀fs:List (Str×V),f∈(oH f v fs).map (·.1)/\∀g,g∈fs.map (·.1)->g∈(oH f v fs).map (·.1)
 | []=>⟨by simp [oH],λg h=>by simp at h⟩
 | (k,x)::r=>by
  obtain⟨i1,i2⟩:=lE f v r;rw [show oH f v ((k,x)::r)=(if k=f then (k,v)::r else (k,x)::oH f v r) from rfl]
  by_cases hk:k=f
  .rw [if_pos hk];subst hk;exact⟨by simp,λg h=>by simpa using h⟩
  .rw [if_neg hk]
   refine⟨?_,λg h=>?_⟩
   .rw [so];exact n_ _ i1
   .rw [so] at h ⊢
    rcases B_.mp h with e|e
    .exact B_.mpr (.inl e)
    .exact n_ _ (i2 g e)
theorem lF(f:Str)(v:V):∀fs:List (Str×V),(oH f v fs).length<=fs.length+1
 | []=>by simp [oH]
 | (k,x)::r=>by
  have ih:=lF f v r;rw [show oH f v ((k,x)::r)=(if k=f then (k,v)::r else (k,x)::oH f v r) from rfl]
  by_cases hk:k=f
  .rw [if_pos hk,Mm,Mm];omega
  .rw [if_neg hk,Mm,Mm];omega
def qL.some_of{v:V}{o:Option Value}(r:qL (ψ v) o):∃u,o=ψ u/\cC v u:=by
 cases o with
 | none=>exact (show False from r).elim
 | some u=>exact⟨u,rfl,r⟩
def qL.none_of{o:Option Value}(r:qL ω o):o=none:=by
 cases o with
 | none=>rfl
 | some u=>exact (show False from r).elim
def yh{v:V}{u:Value}(r:cC v u):PySem.W.handedIn u=true:=by
 cases v with
 | non=>cases (show u=M7 from r);rfl
 | bl b=>cases (show u=Nc b from r);rfl
 | int i=>obtain⟨t,e⟩:=(show ∃t,u=OH i t from r);cases e;rfl
 | str x=>obtain⟨t,e⟩:=(show ∃t,u=Pa x t from r);cases e;rfl
 | byt b=>obtain⟨t,e⟩:=(show ∃t,u=Value.bytes b t from r);cases e;rfl
 | flt b=>obtain⟨t,e⟩:=(show ∃t,u=QL b t from r);cases e;rfl
 | ref a=>cases (show u=vx a from r);rfl
 | ty n=>cases (show u=MX n from r);rfl
section
variable {P:v_}{a:Addr}{fs:List (Str×V)}
def lG(hok:HOk P w H h)(e:H a=ψ (.ins C dx fs)):∃mA,DQ h a dx C mA/\(∀f,qL (fs.lookup f) (mA f))/\QZ mA (fs.map (·.1))/\fs.length<=1000/\H dx=ψ (.own a):=by
 obtain⟨d,z,ne,ob,mA,n,r,q⟩:=(show bN P w H h a (.ins C dx fs) from hok a _ e)
 exact⟨mA,⟨ob,n,ne⟩,r,q,z,d⟩
end
structure Cls (K:b_) (C:Addr):Prop where
 pg:Og K C Str.empty=η
 hd:OR K C=η
 po:P0 K C=η
 sa:s_ K (.ref C) "__setattr__"=ψ (ψ (.builtin "object.__setattr__"))
def Cls.get(c:Cls K C)(f:Str):Og K C f=true:=c.pg
noncomputable def eZ(K:b_)(C:Addr)(f:Str):Prop:=s_ K (.ref C) f=ψ ω
def eZ.taker{f:Str}(n:eZ K C f):QB K C f=ψ none:=by
 unfold QB;rw [show s_ K (.ref C) f=ψ ω from n];rfl
structure Jh (K:b_) (C:Addr) (m:Str) (f:Addr):Prop where
 at_:s_ K (.ref C) m=ψ (ψ (.ref f))
 fn:Pw K (.ref f)=η
 kp:Mb K (.ref f)=η
section
variable {a:Addr}{fs:List (Str×V)}{f:Str}{v:V}
def wC{b:Bool}(I:Inv X pins σ H s)(e:H a=ψ (.ins C dx fs))(c:Cls X.K C)(n:eZ X.K C f)(l:fs.lookup f=ψ v)(h:∀u s',Inv X pins σ H s'->cC v u->Q u s'):wpAny (model X.prog X.w) A (getAttr (.ref a) f b) Q E s:=by
 obtain⟨mA,O,r,_,_,_⟩:=lG I.hok e;obtain⟨u,hu,ru⟩:=qL.some_of (v:=v) (o:=mA f) (by rw [<- l];exact r f);exact DR I.kIn O (c.get f) c.hd n hu (yh ru) (h u _ (I.tok _) ru)
def wD{m:Str}{g:Addr}{pl:Sem Bool}{Q:Value×Ξ->d_->Prop}(I:Inv X pins σ H s)(e:H a=ψ (.ins C dx fs))(c:Cls X.K C)(k:Jh X.K C m g)(l:fs.lookup m=ω)(h:Q (.ref g,[.ref a]) s):wpAny (model X.prog X.w) A (getMethod (.ref a) m pl) Q E s:=by
 obtain⟨mA,O,r,_,_,_⟩:=lG I.hok e;have hn:mA m=none:=qL.none_of (by rw [<- l];exact r m);exact A5 I.kIn O (c.get m) k.at_ k.fn hn h
def wE{u:Value}{Q:Unit->d_->Prop}(I:Inv X pins σ H s)(e:H a=ψ (.ins C dx fs))(c:Cls X.K C)(n:eZ X.K C f)(hl:fs.length<1000)(ry:cC y u)(h:∀s',Inv X pins σ (upd H a (.ins C dx (oH f y fs))) s'->Q () s'):wpAny (model X.prog X.w) A (setAttr (.ref a) f u) Q E s:=by
 obtain⟨mA,O,r,wi,_,ho⟩:=lG I.hok e;have hz:(fs.map (·.1)).length<=sizeLine:=by rw [cy,Pi];omega
 refine DS I.kIn O c.sa c.po n.taker c.hd wi hz λh' O' sb=>h _ ?_;have hd:∃o,h'.get? dx=ψ o:=let ⟨o,_,_,e',_⟩:=O'.ns;⟨o,e'⟩
 refine I.write (x:=a) (e:=dx) (by rw [e];exact MO) (.inr ho) (λb q hb z=>(sb.2 b hb).trans z) hd ?_
 refine⟨by rw [ax O.ne];exact ho,?_,O.ne,O'.obj,_,O'.ns,λg=>?_,λg hg=>?_⟩
 .have:=lF f y fs;omega
 .show qL ((oH f y fs).lookup g) (if g=f then ψ u else mA g);rw [lD]
  by_cases q:g=f
  .rw [if_pos q,if_pos q];exact ry
  .rw [if_neg q,if_neg q];exact r g
 .by_cases q:g=f
  .rw [q];exact (lE f y fs).1
  .refine (lE f y fs).2 g (wi g λz=>hg ?_);show (if g=f then ψ u else mA g)=ω;rw [if_neg q];exact z
def Inv.made(I:Inv X pins σ H s):Inv X pins σ (upd (upd H s⁻¹ (.own (s⁻¹+1))) (s⁻¹+1) (.ins C s⁻¹ []))
  { s with heap:=(s.heap.push MP).push (Nd C s⁻¹) }:=by
 have e1:(s.heap.push MP).get? s⁻¹=ψ MP:=i_ s.heap rfl
 have e2:((s.heap.push MP).push (Nd C s⁻¹)).get? (s⁻¹+1)=ψ (Nd C s⁻¹):=by
  have:=i_ (s.heap.push MP) (o:=Nd C s⁻¹) rfl
  rwa [Mi] at this
 have e3:(s.heap.push MP).Ns s⁻¹ (λ_=>ω):=⟨MP,#[],_,e1,rfl,(λe he=>absurd he (by simp)),λ_=>rfl⟩
 have I1:=I.laid (a:=s⁻¹) (o:=.own (s⁻¹+1)) (h':=s.heap.push MP) (t':=s.toks) (λb u q=>c_ _ q) (f_ _) ⟨_,e1⟩;refine I1.laid (a:=s⁻¹+1) (o:=.ins C s⁻¹ []) (t':=s.toks) (λb u q=>c_ _ q) (Pj (Mi _ _)) ?_;have ne:s⁻¹≠s⁻¹+1:=Mh (Mu _)
 refine⟨by rw [ax ne,aI],NJ _,ne,e2,λ_=>ω,(Heap.Ns1.of_empty e3).at λo q=>c_ _ q,λ_=>MO,λy hy=>absurd rfl hy⟩
variable {env:Env}
def DT(hb:attributeBase e f env (eval e env)=eval e env)(h:wpAny (model prog w) A (eval e env) (λo s₁=>wpAny (model prog w) A (getAttr o f η) Q E s₁) E s):wpAny (model prog w) A (eval (.Attribute e f pos) env) Q E s :=
 Attribute_any_ h (by rw [arm_eval_Attribute,hb])
end
noncomputable def yi(K:b_)(ta:TE)(f:Str):TE:=λσ H Q=>ta σ H λx H1=>∃a C dx fs v,x=.ref a/\H1 a=ψ (.ins C dx fs)/\Cls K C/\eZ K C f/\fs.lookup f=ψ v/\Q v H1
noncomputable def KU(K:b_)(ta tv:TE)(f:Str):TS:=λD σ H=>tv σ H λy H1=>ta σ H1 λx H2=>∃a C dx fs,x=.ref a/\H2 a=ψ (.ins C dx fs)/\Cls K C/\eZ K C f/\fs.length<1000 /\
 D.nx σ (upd H2 a (.ins C dx (oH f y fs)))
variable {f:Str}
def Gx(he:PE X e ta)(hb:attributeBase e f X.env (eval e X.env)=eval e X.env):PE X (.Attribute e f pos) (yi X.K ta f):=by
 intro pins s σ H Q I h;refine DT hb (thn (he pins s σ H _ I h) λu s1 ⟨x,H1,I1,rx,a,C,dx,fs,v,ex,ea,c,n,l,q⟩=>?_);subst ex;obtain rfl:u=vx a:=rx;exact wC I1 ea c n l λu' s2 I2 ru=>⟨v,H1,I2,ru,q⟩
variable {o value:Expr}{pos':Pos}{tv:TE}
def oJ(ha:PE X o ta)(hv:PE X value tv)(hs:swapsWith value (ψ (.Attribute o f pos')) pos.line X.env=pure ξ):PS X (.Assign [.Attribute o f pos'] value pos) (KU X.K ta tv f):=by
 intro pins s σ H D I h;refine plainObj_wpAny_Assign_Attribute (thn (hv pins s σ H _ I h) λu s1 ⟨y,H1,I1,ry,q⟩=>thn (ha pins s1 σ H1 _ I1 q) λov s2 ⟨x,H2,I2,rx,a,C,dx,fs,ex,ea,c,n,l,q2⟩=>?_) hs;subst ex;obtain rfl:ov=vx a:=rx;exact wE I2 ea c n l ry λs3 I3=>⟨σ,_,I3,q2⟩
inductive qF (K:b_) (H:Hp):V->Value->Prop where
 | non:qF K H .non (.type "NoneType")
 | bl (x:Bool):qF K H (.bl x) (.type "bool")
 | int (i:Int):qF K H (.int i) (.type "int")
 | str (x:Str):qF K H (.str x) (.type "str")
 | flt (x:UInt64):qF K H (.flt x) (.type "float")
 | lst {a:Addr}{xs:List V} (e:H a=ψ (.lst xs)):qF K H (.ref a) (.type "list")
 | frz {a:Addr}{o:Obj}{xs:List V} (e:H a=ψ (.frz o (.lst xs))):qF K H (.ref a) (.type "list")
 | tup {a:Addr}{xs:List V} (e:H a=ψ (.tup xs)):qF K H (.ref a) (.type "tuple")
 | dK {a:Addr}{kvs:List (Key×V)} (e:H a=ψ (.dK kvs)):qF K H (.ref a) (.type "dict")
 | dT {a:Addr}{kvs:List (List Key×V)} (e:H a=ψ (.dT kvs)):qF K H (.ref a) (.type "dict")
 | ins {a C dx:Addr}{fs:List (Str×V)} (e:H a=ψ (.ins C dx fs)) (cl:Cls K C) (ha:s_ K (.ref C) "__class__"=ψ (ψ (.builtin "object.__class__")))
   (hn:PySem.W.specialIn K (.builtin "object.__class__") "__get__"=ψ (ψ (.builtin "getset_descriptor.__get__"))) (htk:PySem.W.takesIn K (.builtin "object.__class__")=ψ η)
   (hm:PySem.W.mroIn K C (.type "object")=ψ η):qF K H (.ref a) (.ref C)
variable {c:Value}{b:Bool}
def yj{x:V}{u t:Value}(I:Inv X pins σ H s)(rx:cC x u)(ty:qF X.K H x t)(e:Nm X.K t c=ψ b)(h:∀tk,Q (.bool b) { s with toks:=tk }):
  wpAny (model X.prog X.w) A (call (.builtin "isinstance") [u,c]) Q E s:=by
 cases ty with
 | non=>cases (show u=M7 from rx);exact ML PySem.W.kitx_none I.kIn MO e (λz=>nomatch z) h
 | bl y=>cases (show u=Nc y from rx);exact ML PySem.W.kitx_bool I.kIn MO e (λz=>nomatch z) h
 | int i=>obtain⟨t,q⟩:=(show ∃t,u=OH i t from rx);cases q;exact ML PySem.W.kitx_int I.kIn MO e (λz=>nomatch z) h
 | str y=>obtain⟨t,q⟩:=(show ∃t,u=Pa y t from rx);cases q;exact ML PySem.W.kitx_str I.kIn MO e (λz=>nomatch z) h
 | flt y=>obtain⟨t,q⟩:=(show ∃t,u=QL y t from rx);cases q;exact ML PySem.W.kitx_float I.kIn MO e (λz=>nomatch z) h
 | @lst a xs ea =>
  cases (show u=vx a from rx);obtain⟨_,_,n,_,h1⟩:=(show bN X.prog X.w H s.heap a (.lst xs) from I.hok a _ ea)
  exact ML OS I.kIn ⟨_,h1,rfl⟩ e (λz=>nomatch z) h
 | @frz a ob xs ea =>
  cases (show u=vx a from rx);obtain⟨_,_,_,n,_,h1⟩:=(show bN X.prog X.w H s.heap a (.frz ob (.lst xs)) from I.hok a _ ea)
  exact ML OS I.kIn ⟨_,h1,rfl⟩ e (λz=>nomatch z) h
 | @tup a xs ea =>
  cases (show u=vx a from rx);obtain⟨_,_,_,p⟩:=(show bN X.prog X.w H s.heap a (.tup xs) from I.hok a _ ea)
  obtain⟨o,h1,h2,_⟩:=p;exact ML PySem.W.kitx_tuple I.kIn ⟨o,h1,h2⟩ e (λz=>nomatch z) h
 | @dK a kvs ea =>
  cases (show u=vx a from rx);obtain⟨_,_,vs,_,p⟩:=(show bN X.prog X.w H s.heap a (.dK kvs) from I.hok a _ ea)
  obtain⟨o,es,ep,h1,h2,_⟩:=p;exact ML OT I.kIn ⟨o,h1,h2.1⟩ e (λz=>nomatch z) h
 | @dT a kvs ea =>
  cases (show u=vx a from rx);obtain⟨_,_,xs,_,o,es,ep,h1,h2,_⟩:=(show bN X.prog X.w H s.heap a (.dT kvs) from I.hok a _ ea)
  exact ML OT I.kIn ⟨o,h1,h2.1⟩ e (λz=>nomatch z) h
 | @ins a C dx fs ea cl ha hn htk hm =>
  cases (show u=vx a from rx);obtain⟨mA,O,_⟩:=lG I.hok ea;obtain⟨od,J,_⟩:=O.look;exact ML (PySem.W.kitx_own (cl.get _) cl.hd ha hn htk hm) I.kIn J e (λz=>nomatch z) h
structure eW (k:Nat) (A:G_):Prop where
 hd:A.handled=ω
 dp:A.depth+3*k+5<recursionLimit
 un:A.units+16*k+200<cLine
def eW.mono{k:Nat}(r:eW k A)(h:j<=k):eW j A:=⟨r.hd,by have:=r.dp;omega,by have:=r.un;omega⟩
def eW.deeper{k:Nat}(r:eW (k+1) A)(env:Env):eW k (A.deeper env) :=
 ⟨r.hd,by have:=r.dp;show A.depth+1+3*k+5<_;omega,by have:=r.un;show A.units+3+16*k+200<_;omega⟩
def wF{kw:List (Str×Value)}:(A.under (.builtin "type.__call__" ⟨.ref C::us,kw⟩)).depth=A.depth+1:=by
 first|rfl|simp [Around.under,Code.weight,Code.isCreation,Code.isGuard,Code.isCaller,Code.frames,Code.isFrame,guardIds]
def wG{kw:List (Str×Value)}:(A.under (.builtin "type.__call__" ⟨.ref C::us,kw⟩)).units=A.units+1:=by
 first|rfl|simp [Around.under,Code.cUnits,Code.frames,Code.isFrame]
def eW.make{k:Nat}(r:eW (k+1) A)(C:Addr)(us:Ξ)(kw:List (Str×Value)):eW k (A.under (.builtin "type.__call__" ⟨.ref C::us,kw⟩)) :=
 ⟨r.hd,by have:=r.dp;rw [wF];omega,by have:=r.un;rw [wG];omega⟩
def eW.depth{k:Nat}(r:eW k A):A.depth<recursionLimit:=by have:=r.dp;omega
def eW.units{k:Nat}(r:eW k A):A.units+64<cLine:=by have:=r.un;omega
def dz:TA:=λ_ H Q=>Q [] H
noncomputable def aL(ta:TE)(tr:TA):TA:=λσ H Q=>ta σ H λx H1=>tr σ H1 λxs H2=>Q (x::xs) H2
def ae:PA X [] dz:=λ_ _ _ _ H Q I h=>Nz ⟨[],H,I,.nil,h⟩
variable {t:TA}
def DU(ha:PE X e te)(hr:PA X es t)(hs:starEach (e::es) X.env=(ξ,eval e X.env)::starEach es X.env:=by rfl):PA X (e::es) (aL te t):=by
 intro pos pins s σ H Q I h;rw [hs];show wpAny _ _ (spliced ((ξ,eval e X.env)::backTo pos (starEach es X.env))) _ _ s;refine Nn (thn (ha pins s σ H _ I h) λu s1 ⟨x,H1,I1,r1,q1⟩=>?_);exact thn (hr pos pins s1 σ H1 _ I1 q1) λus s2 ⟨xs,H2,I2,r2,q2⟩=>⟨x::xs,H2,I2,.cons r1 r2,q2⟩
noncomputable def Gy(t:TA):TE:=λσ H Q=>t σ H λxs H1=>xs.length<=sizeLine/\∀p,H1 p=ω->Q (.ref p) (upd H1 p (.tup xs))
noncomputable def KW(t:TA):TE:=λσ H Q=>t σ H λxs H1=>xs.length<=sizeLine/\∀p,H1 p=ω->Q (.ref p) (upd H1 p (.lst xs))
def oK{x1}(h:PA X es t):PE X (.Tuple es x1 pos) (Gy t):=by
 intro pins s σ H Q I hq;refine wpAny_Tuple_spliced (thn (h pos pins s σ H _ I hq) λus s1 ⟨xs,H1,I1,r,z,q⟩=>⟨by rw [<- r.length];exact z,?_⟩);have hf:H1 s1⁻¹=none:=I1.hok.fresh (f_ _);refine⟨.ref s1⁻¹,upd H1 s1⁻¹ (.tup xs),I1.laid (t':=s1.toks) (λb u e=>c_ _ e) (f_ _) ?_,rfl,q _ hf⟩;exact⟨z,us,r,⟨_,i_ _ rfl,rfl,_,rfl⟩⟩
def dg(h:PA X es t):PE X (.List es pos) (KW t):=by
 intro pins s σ H Q I hq;refine wpAny_List_spliced (thn (h pos pins s σ H _ I hq) λus s1 ⟨xs,H1,I1,r,z,q⟩=>⟨by rw [<- r.length];exact z,?_⟩);have hf:H1 s1⁻¹=none:=I1.hok.fresh (f_ _);refine⟨.ref s1⁻¹,upd H1 s1⁻¹ (.lst xs),I1.laid (t':=s1.toks) (λb u e=>c_ _ e) (f_ _) ?_,rfl,q _ hf⟩;exact⟨z,us,0,r,i_ _ rfl⟩
abbrev Sp:=List V->Hp->VK->XK->Prop
abbrev CXT:=List Env->Hp->d_->XK->Value->d_->Prop
structure DW (P:v_) (w:World) (K:b_) (mg:Θ) (base:Heap) (A:G_) (outer:List Env) (s:d_) (H:Hp):Prop where
 frames:A.frames=ψ outer
 mod:Mod K mg base
 bs:∀b o,base.get? b=ψ o->s.heap.get? b=ψ o/\H b=ω
 bsz:base.objs.size<=s⁻¹
 funs:s.heap.FunFrames base outer
 frf:∀b∈frs outer,H b=ω
 hok:HOk P w H s.heap
 bare:PZ s.gens
 tb:qM base H
noncomputable def CE(outer:List Env)(P:v_)(w:World)(H:Hp)(s:d_)(Q:VK)(u:Value)(s':d_):Prop :=
 ∃v H',s'.os=s.os/\PZ s'.gens/\Un (frs outer) [] H H' s.heap s'.heap/\HOk P w H' s'.heap/\cC v u/\Q v H'
noncomputable def CR(CX:CXT)(outer:List Env)(P:v_)(w:World)(H:Hp)(s:d_)(Q:VK)(E:XK)(r:Result)(s':d_):Prop :=
 match r with
 | .ok (.ret u)=>CE outer P w H s Q u s'
 | .ok _=>False
 | .error e=>CX outer H s E e s'
structure pM (P:v_) (w:World) (K:b_) (mg:Θ) (base:Heap) (CX:CXT) (k:Nat) (f:Addr) (fd:MY) (ps:List Str) (sp:Sp):Prop where
 len:∀vs H Q E,sp vs H Q E->vs.length=ps.length
 run:∀(A:G_) (outer:List Env) (s:d_) (H:Hp) (args:Args) (us:Ξ) (vs:List V) (Q:VK) (E:XK),eW k A->DW P w K mg base A outer s H->Qo s fd args (ps.zip us)->bI vs us->sp vs H Q E ->
  codeAny (model P w) A (.call (.ref f) args) (CR CX outer P w H s Q E) s
variable {mg:Θ}{fd:MY}
def pM.imp{P:v_}{CX:CXT}{k:Nat}{f:Addr}{ps:List Str}{sp sp':Sp}(F:pM P w K mg base CX k f fd ps sp)(h:∀vs H Q E,sp' vs H Q E->sp vs H Q E):pM P w K mg base CX k f fd ps sp' :=
 ⟨λvs H Q E q=>F.len vs H Q E (h _ _ _ _ q),λA outer s H args us vs Q E hr he hb hv hs=>F.run A outer s H args us vs Q E hr he hb hv (h _ _ _ _ hs)⟩
def DW.make{P:v_}{outer:List Env}(e:DW P w K mg base A outer s H)(C:Addr)(us:Ξ)(kw:List (Str×Value)):
  DW P w K mg base (A.under (.builtin "type.__call__" ⟨.ref C::us,kw⟩)) outer s H:=⟨by first|exact e.frames|(simpa [Around.under,Code.envs,Code.isFrame,pushEnvs] using e.frames),e.mod,e.bs,e.bsz,e.funs,e.frf,e.hok,e.bare,e.tb⟩
def Inv.env0(I:Inv X pins σ H s):DW X.prog X.w X.K X.mg X.base X.A X.stack s H :=
 ⟨I.ok.frames,I.ok.mod,I.bs,Mn I.ok.bsz I.sz,I.stack,I.stkFree,I.hok,I.bare,I.ok.tb.un I.base⟩
variable {s':d_}
def Inv.after{Q:VK}{u:Value}(I:Inv X pins σ H s)(h:CE X.stack X.prog X.w H s Q u s'):EP X pins σ Q u s':=by
 obtain⟨v,H',os,bare,un,hok,r,q⟩:=h;obtain⟨hh,g,d,t,os'⟩:=s';obtain rfl:os'=s.os:=os;exact⟨v,H',I.call (h':=hh) (g':=g) (d':=d) (t':=t) (ch:=[]) un hok bare (λb z=>absurd z (by simp)),r,q⟩
noncomputable def dA(sp:Sp)(dvs:List V)(E:XK)(t:TA):TE:=λσ H Q=>t σ H λvs H1=>sp (vs++dvs) H1 Q E
noncomputable def A7(C:Addr)(m:Str)(sp:Sp)(dvs:List V)(E:XK)(ta:TE)(t:TA):TE:=λσ H Q=>ta σ H λx H1=>∃a dx fs,x=.ref a/\H1 a=ψ (.ins C dx fs)/\fs.lookup m=ω /\
 t σ H1 λvs H2=>sp (x::(vs++dvs)) H2 Q E
noncomputable def A8(C:Addr)(sp:Sp)(dvs:List V)(E:XK)(t:TA):TE:=λσ H Q=>t σ H λvs H1=>∀x dx,H1 x=ω->H1 dx=ω->dx≠x ->
 sp (.ref x::(vs++dvs)) (upd (upd H1 dx (.own x)) x (.ins C dx [])) (λv H2=>v=.non/\Q (.ref x) H2) E
noncomputable def kS(K:b_)(fd:MY)(ps:List Str)(ds:Ξ):Prop :=
 ∀(s:d_) (us:Ξ),K.In s.heap->(us++ds).length=ps.length->Qo s fd ⟨us,[]⟩ (ps.zip (us++ds))
def kS.all{ps:List Str}(h:∀us:Ξ,us.length=ps.length->bindArgs fd ⟨us,[]⟩=pure (ps.zip us)):kS K fd ps []:=λs us _ hl=>by
 rw [Mr] at hl ⊢;exact .of_eq (h us hl)
noncomputable def oN(CX:CXT)(X:Cx)(E:XK):Prop:=∀(pins:List (Addr×Obj)) (σ:St) (H:Hp) (s:d_) (e:Value) (s':d_),Inv X pins σ H s->CX X.stack H s E e s'->X.xe e s'
section
variable {CX:CXT}{k:Nat}{f:Addr}{ps:List Str}{sp:Sp}{dvs:List V}{ds:Ξ}{E:XK}{vs:List V}
def CP{Q:VK}(F:pM X.prog X.w X.K X.mg X.base CX k f fd ps sp)(hr:eW k X.A)(hb:kS X.K fd ps ds)(hd:bI dvs ds)(hx:oN CX X E)(I:Inv X pins σ H s)(r:bI vs us)(h:sp (vs++dvs) H Q E):wpAny (model X.prog X.w) X.A (call (.ref f) us) (EP X pins σ Q) X.xe s:=by
 have r2:bI (vs++dvs) (us++ds):=r.append hd;have hl:(us++ds).length=ps.length:=by rw [<- r2.length];exact F.len _ _ _ _ h
 refine wpAny_call (OU (F.run X.A X.stack s H ⟨us,[]⟩ (us++ds) (vs++dvs) Q E hr I.env0 (hb s us I.kIn hl) r2 h) λr s' hq=>?_)
 cases r with
 | error e=>exact hx pins σ H s e s' I hq
 | ok fl =>
  cases fl with
  | ret u=>exact I.after hq
  | next=>exact Nf hq
  | brk=>exact Nf hq
  | cont=>exact Nf hq
variable {x:Str}{p:Pos}
def yk(F:pM X.prog X.w X.K X.mg X.base CX k f fd ps sp)(hr:eW k X.A)(hg:Gl X x)(hm:X.mg x=ψ (.ref f))(hk:Mb X.K (.ref f)=η)(hb:kS X.K fd ps ds)(hd:bI dvs ds)(hx:oN CX X E)(ha:PA X (e::es) t)(hdb:(x == ("__debug__":Str))=false:=by decide)(he:starEach (e::es) X.env=(ξ,eval e X.env)::starEach es X.env:=by rfl)(hpl:(backTo pos (starEach es X.env)).any (·.1)=false:=by rfl):
  PE X (.Call (.Name x p) (e::es) [] pos) (dA sp dvs E t):=by
 intro pins s σ H Q I h;refine Np (tq I hg hm ?_ hdb);refine PySem.W.callWith_K (h₀:=X.base) I.ok.mod.kin hk (thn (ha pos pins s σ H _ I h) λus s1 ⟨vs,H1,I1,r,q⟩=>⟨I1.kIn,?_⟩) he hpl;exact CP F hr hb hd hx I1 r q
variable {m:Str}{apos:Pos}
def A9{pl:Sem Bool}(he:PE X o ta)(c:Cls X.K C)(hm:Jh X.K C m f)(F:pM X.prog X.w X.K X.mg X.base CX k f fd ps sp)(hr:eW k X.A)(hb:kS X.K fd ps ds)(hd:bI dvs ds)(hx:oN CX X E)(ht:eval (.Call (.Attribute o m apos) [] [] pos) X.env=(do
   let ov <- eval o X.env
   standAt apos.atName
   let (f,first) <- holding [ov] (getMethod ov m pl)
   callWith pos f first (backTo pos (starEach [] X.env)) (backToKw pos (keywordEach [] X.env))):=by rfl):
  PE X (.Call (.Attribute o m apos) [] [] pos) (A7 C m sp dvs E ta dz):=by
 intro pins s σ H Q I h;refine PySem.W.methodCall_KW (pl:=pl) (thn (he pins s σ H _ I h) λu s1 ⟨x,H1,I1,rx,a,dx,fs,ex,ea,l,q⟩=>?_) ht;subst ex;obtain rfl:u=vx a:=rx;refine wD I1 ea c hm l ?_;exact PySem.W.callWith_K0 (first:=[.ref a]) I1.kIn hm.kp (CP (us:=[.ref a]) (vs:=[.ref a]) F hr hb hd hx I1 (.cons rfl .nil) q)
structure Mk (K:b_) (C f:Addr):Prop where
 makes:QC K C=η
 init:s_ K (.ref C) "__init__"=ψ (ψ (.ref f))
 fn:Pw K (.ref f)=η
 kp:Mb K (.ref C)=η
def Ba{Q:VK}(M:Mk X.K C f)(F:pM X.prog X.w X.K X.mg X.base CX k f fd ps sp)(hr:eW (k+1) X.A)(hb:kS X.K fd ps ds)(hd:bI dvs ds)(hx:oN CX X E)(I:Inv X pins σ H s)(r:bI vs us)(h:∀x dx,H x=ω->H dx=ω->dx≠x->sp (.ref x::(vs++dvs)) (upd (upd H dx (.own x)) x (.ins C dx [])) (λv H2=>v=.non/\Q (.ref x) H2) E):
  wpAny (model X.prog X.w) X.A (call (.ref C) us) (EP X pins σ Q) X.xe s:=by
 have hq:=h (s⁻¹+1) s⁻¹ (I.hok.fresh (le_succ _)) (I.hok.fresh (f_ _)) (Mh (Mu _));have I2:=Inv.made (C:=C) I;have r2:bI (V.ref (s⁻¹+1)::(vs++dvs)) (vx (s⁻¹+1)::(us++ds)):=.cons rfl (r.append hd)
 have hl:(vx (s⁻¹+1)::us++ds).length=ps.length:=by
  have e:=r2.length;rw [F.len _ _ _ _ hq] at e;exact e.symm
 refine wpAny_call (A6 (f:=f) I.kIn M.makes M.init (beq_iff_eq.mp M.fn) (OU (F.run _ X.stack _ _ ⟨vx (s⁻¹+1)::us,[]⟩ (vx (s⁻¹+1)::(us++ds)) _ _ E (hr.make C us [])
  (I2.env0.make C us []) (hb _ (vx (s⁻¹+1)::us) I2.kIn hl) r2 hq) λr s' hq'=>?_))
 cases r with
 | error e=>exact hx pins σ _ _ e s' I2 hq'
 | ok fl =>
  cases fl with
  | ret u =>
   obtain⟨v,H',I3,rv,ev,q3⟩:=I2.after hq';subst ev;exact⟨rv,⟨V.ref (s⁻¹+1),H',I3,rfl,q3⟩⟩
  | next=>exact Nf hq'
  | brk=>exact Nf hq'
  | cont=>exact Nf hq'
def DX(M:Mk X.K C f)(F:pM X.prog X.w X.K X.mg X.base CX k f fd ps sp)(hr:eW (k+1) X.A)(hg:Gl X x)(hm:X.mg x=ψ (.ref C))(hb:kS X.K fd ps ds)(hd:bI dvs ds)(hx:oN CX X E)(ha:PA X (e::es) t)(hdb:(x == ("__debug__":Str))=false:=by decide)(he:starEach (e::es) X.env=(ξ,eval e X.env)::starEach es X.env:=by rfl)(hpl:(backTo pos (starEach es X.env)).any (·.1)=false:=by rfl):
  PE X (.Call (.Name x p) (e::es) [] pos) (A8 C sp dvs E t):=by
 intro pins s σ H Q I h;refine Np (tq I hg hm ?_ hdb);refine PySem.W.callWith_K (h₀:=X.base) I.ok.mod.kin M.kp (thn (ha pos pins s σ H _ I h) λus s1 ⟨vs,H1,I1,r,q⟩=>⟨I1.kIn,?_⟩) he hpl;exact Ba M F hr hb hd hx I1 r q
end
structure aE (N P:List Str) (sc:Scope):Prop where
 kind:sc.kind=.function
 co:sc.isCoroutine=ξ
 gen:sc.isGenerator=ξ
 nd:N.Nodup
 pre:N.take P.length=P
 par:∀x∈P,sc.names.lookup x=ψ .local\/sc.names.lookup x=ψ .cell
 nofree:∀y∈sc.names,y.2≠.free
theorem qO{kindOf:Str->Option MZ}{x:Str}:∀{binds:List (Str×Value)}{m:Θ},(∀v,(x,v)∉binds)->bindL kindOf binds m x=m x
 | [],_,_=>rfl
 | (n,v)::r,m,h=>by
  unfold bindL;rw [qO λw hw=>h w (n_ _ hw)]
  split
  .have:x≠n:=by rintro rfl;exact h v q_
   simp [this]
  .rfl
theorem qP{kindOf:Str->Option MZ}{x:Str}:∀{binds:List (Str×Value)}{m:Θ},(∀v,(x,v)∉binds)->bindC kindOf binds m x=m x
 | [],_,_=>rfl
 | (n,v)::r,m,h=>by
  unfold bindC;rw [qP λw hw=>h w (n_ _ hw)]
  split
  .rfl
  .have:x≠n:=by rintro rfl;exact h v q_
   simp [this]
theorem qQ{kindOf:Str->Option MZ}{x:Str}{v:Value}:∀{P:List Str}{vs:Ξ}{i:Nat}{m:Θ},P.Nodup->P[i]?=ψ x->vs[i]?=ψ v->kindOf x=ψ .local ->
  bindL kindOf (P.zip vs) m x=ψ v
 | [],_,_,_,_,h,_,_=>by simp at h
 | _::_,[],_,_,_,_,h,_=>by simp at h
 | p::P,w::vs,0,m,nd,h1,h2,hk=>by
  simp at h1 h2;subst h1;subst h2;show bindL kindOf ((p,w)::P.zip vs) m p=_;unfold bindL;rw [qO λv hv=>(OB.mp nd).1 (of_mem_zip hv).1,if_pos hk];simp
 | p::P,w::vs,i+1,m,nd,h1,h2,hk=>by
  show bindL kindOf ((p,w)::P.zip vs) m x=_;unfold bindL;exact qQ (i:=i) (OB.mp nd).2 (by simpa using h1) (by simpa using h2) hk
theorem qR{kindOf:Str->Option MZ}{x:Str}{v:Value}:∀{P:List Str}{vs:Ξ}{i:Nat}{m:Θ},P.Nodup->P[i]?=ψ x->vs[i]?=ψ v->kindOf x≠ψ .local ->
  bindC kindOf (P.zip vs) m x=ψ v
 | [],_,_,_,_,h,_,_=>by simp at h
 | _::_,[],_,_,_,_,h,_=>by simp at h
 | p::P,w::vs,0,m,nd,h1,h2,hk=>by
  simp at h1 h2;subst h1;subst h2;show bindC kindOf ((p,w)::P.zip vs) m p=_;unfold bindC;rw [qP λv hv=>(OB.mp nd).1 (of_mem_zip hv).1,if_neg hk];simp
 | p::P,w::vs,i+1,m,nd,h1,h2,hk=>by
  show bindC kindOf ((p,w)::P.zip vs) m x=_;unfold bindC;exact qR (i:=i) (OB.mp nd).2 (by simpa using h1) (by simpa using h2) hk
noncomputable def start(N:List Str)(vs:List V):St:=vs.map ψ++H_ (N.length - vs.length) ω
noncomputable def qG(CX:CXT)(P:v_)(w:World)(K:b_)(mg:Θ)(base:Heap)(N:List Str)(qual:Str)(scope:Scope)(f:Addr)(cd:Value)(A:G_)(outer:List Env)(s:d_)(H:Hp)(E:XK):Cx where
 prog:=P
 w:=w
 K:=K
 mg:=mg
 base:=base
 A:=A.deeper (envOfC qual scope s⁻¹ f cd)
 N:=N
 s₀:=s
 H₀:=H
 env:=envOfC qual scope s⁻¹ f cd
 outer:=outer
 stack:=envOfC qual scope s⁻¹ f cd::outer
 ex:=[]
 calm:=η
 fn:=λ_=>η
 pn:=[]
 xe:=λe s'=>wpAny (model P w) (A.deeper (envOfC qual scope s⁻¹ f cd)) (leaving (envOfC qual scope s⁻¹ f cd) e) (λ_ s''=>CX outer H s E e s'') (λe' s''=>CX outer H s E e' s'') s'
def vg{sc:Scope}{x:Str}(h:sc.names.lookup x=ψ .cell):∃c,(cellsFrom n sc.names []).lookup x=ψ c:=by
 have q:=NQ sc.names n [] (.inl h);exact NE.mp q
variable {qual:Str}{scope:Scope}{vs:List V}
def yl{CX:CXT}{P:v_}{ps:List Str}{f:Addr}{cd:Value}{outer:List Env}{s1:d_}{E:XK}(S:aE N ps scope)(hd:A.handled=ω)(e0:DW P w K mg base A outer s H)(hl:vs.length=ps.length)(r:bI vs us)(x:InCallC s s⁻¹ (bindL (envOfC qual scope s⁻¹ f cd).kindOf (ps.zip us) λ_=>ω) (cellsFrom (s⁻¹+1) scope.names []) (bindC (envOfC qual scope s⁻¹ f cd).kindOf (ps.zip us) λ_=>ω) s1):
  Inv (qG CX P w K mg base N qual scope f cd A outer s H E) [] (start N vs) H s1:=by
 have hpl:ps.length<=N.length:=by have:=congrArg P1 S.pre;rw [MG] at this;omega
 obtain⟨h1,tk,rfl,hk⟩:=x.done;have noA:∀b:Addr,b∉(qG CX P w K mg base N qual scope f cd A outer s H E).ex:=λb z=>absurd (show b∈([]:List Addr) from z) (by simp)
 refine⟨⟨e0.mod,S.kind,rfl,rfl,f_ _,λy z c h1 h2=>?_,λy hy=>?_,λy c _ h=>?_,λ_=>hd,Around.frames_deeper e0.frames,.inr ⟨rfl,rfl⟩,λb z=>absurd z (noA b),e0.bs,e0.bsz,λb _ _=>noA b,λb z=>absurd z (noA b),e0.funs,e0.frf,e0.tb⟩,
  rfl,e0.bare,Un.kept hk,⟨_,x.toInCall.ns,λi y v h1 h2 h3=>?_⟩,λy c h=>⟨_,x.cell y c h⟩,e0.hok.fresh (f_ _),λy c h=>?_,λp hp=>absurd (show p∈([]:List (Addr×Obj)) from hp) (by simp),e0.hok.kept hk,?_⟩
 .exact name_of_addr x.apart (NK h1) (NK h2)
 .have hy:scope.names.lookup y=ψ .cell\/scope.names.lookup y=ψ .free:=hy
  rcases hy with hy|hy
  .exact vg hy
  .exact absurd rfl (S.nofree _ (NK hy))
 .exact Q0 (x.above y c (NK h))
 .have hi:i<vs.length:=by
   unfold start at h2
   by_cases hi:i<vs.length
   .exact hi
   .rw [Nt (by simpa using hi)] at h2;rw [getElem?_replicate] at h2;split at h2 <;> cases h2
  have ha:vs[i]?=ψ v:=by
   unfold start at h2;rw [N5 (by simpa using hi),h_] at h2
   cases e:vs[i]? with
   | none=>rw [e] at h2;cases h2
   | some a=>rw [e] at h2;cases h2;rfl
  obtain⟨u,hu,rv⟩:=r.get ha
  have hp:ps[i]?=ψ y:=by
   rw [<- S.pre,Pr ⋯];exact h1
  have ndP:ps.Nodup:=by rw [<- S.pre];exact S.nd.sublist (take_sublist _ _)
  refine⟨u,rv,?_⟩
  rcases S.par y (Mc hp) with k|k
  .exact .inl ⟨k,qQ ndP hp hu k⟩
  .obtain⟨c,e⟩:=vg (n:=s⁻¹+1) k;refine .inr ⟨.inl k,c,e,?_⟩;have q:=x.cell y c e;rw [qR ndP hp hu (by show scope.names.lookup y≠_;rw [k];decide)] at q;exact q
 .exact e0.hok.fresh (Q0 (x.above y c (NK h)))
 .unfold start;show _=N.length;rw [kx,cy,MU];omega
variable {pm ct oc:Value}{an od:Option Addr}
def Gz{CX:CXT}{P:v_}{k:Nat}{f:Addr}{params:Arguments}{body:List Stmt}{dV kV doc cdv:Value}{osl:Array (Option Value)}{ps:List Str}{sp:Sp}(lk:K.lookup f=ψ ⟨oc,od,.func (Me name qual params body scope dV kV doc pm an cdv ct),osl⟩)(hcd:MH K cdv qual=η)(S:aE N ps scope)(len:∀vs H Q E,sp vs H Q E->vs.length=ps.length)(hbody:∀(A:G_) (outer:List Env) (s:d_) (H:Hp) (vs:List V) (Q:VK) (E:XK),eW k (A.deeper (envOfC qual scope s⁻¹ f cdv))->sp vs H Q E ->
   ∃t,PSs (qG CX P w K mg base N qual scope f cdv A outer s H E) body t/\t { nx:=λ_ H'=>Q .non H',rt:=Q } (start N vs) H):
  pM P w K mg base CX (k+1) f (Me name qual params body scope dV kV doc pm an cdv ct) ps sp:=by
 refine⟨len,λA outer s H args us vs Q E hr e0 hb r hsp=>?_⟩;have hl:=len _ _ _ _ hsp;have KX:K.In s.heap:=e0.mod.kin.keeps λb o e=>(e0.bs b o e).1;have lim:s.heap.NoLimit:=e0.mod.nolimit.keeps λb o e=>(e0.bs b o e).1
 have hkind:∀y∈ps.zip us,scope.names.lookup y.1=ψ .local\/(scope.names.lookup y.1=ψ .cell/\((cellsFrom (s⁻¹+1) scope.names []).lookup y.1).isSome=η):=λ⟨n,v⟩ hy=>by
  rcases S.par n (of_mem_zip hy).1 with q|q
  .exact .inl q
  .exact .inr ⟨q,NQ _ _ _ (.inl q)⟩
 refine codeAny_call_function hr.depth (KX _ _ lk) rfl S.co S.gen rfl (PySem.W.codeRec_of KX hcd) (hb _ _ _ _ ?_);refine wpAny_newFunctionEnv_cells S.kind hkind λenv he s1 x=>?_;subst he;refine⟨lim.keeps x.toInCall.keep,codeAny_func ?_⟩;obtain⟨t,ht,hq⟩:=hbody A outer s H vs Q E (hr.deeper _) hsp;have I:Inv (qG CX P w K mg base N qual scope f cdv A outer s H E) [] (start N vs) H s1:=yl S hr.hd e0 hl r x
 refine Ml (ht [] s1 (start N vs) H _ I hq) (λfl s' hs=>?_) λe s' hs=>hs
 have fin:∀{σ':St}{H':Hp}{v:V}{u:Value},Inv (qG CX P w K mg base N qual scope f cdv A outer s H E) [] σ' H' s'->cC v u->Q v H'->CE outer P w H s Q u s' :=
  λ{σ' H' v u} J rv q=>⟨v,H',J.os,J.bare,J.base,J.hok,rv,q⟩
 cases fl with
 | ret u =>
  obtain⟨v,σ',H',J,rv,q⟩:=hs;exact fin J rv q
 | next =>
  obtain⟨σ',H',J,q⟩:=hs;exact fin (v:=V.non) (u:=M7) J rfl q
 | brk =>
  obtain⟨_,_,_,q⟩:=hs;exact Nf q
 | cont =>
  obtain⟨_,_,_,q⟩:=hs;exact Nf q
section
variable {r:List V->Hp->VK->Prop}
noncomputable def tCB(r:List V->Hp->VK->Prop)(t:TA):TE:=λσ H Q=>t σ H λvs H1=>r vs H1 Q
variable {x:Str}{p:Pos}{id:String}
def Bb(hc:bD X (.builtin id) r)(hg:Gl X x)(hm:X.mg x=ω)(hv:bootBuiltins x=ψ (.builtin id))(ha:PA X (e::es) t)(hn:x≠"__name__":=by decide)(hdb:(x == ("__debug__":Str))=false:=by decide)(he:starEach (e::es) X.env=(ξ,eval e X.env)::starEach es X.env:=by rfl)(hpl:(backTo pos (starEach es X.env)).any (·.1)=false:=by rfl):PE X (.Call (.Name x p) (e::es) [] pos) (tCB r t):=by
 intro pins s σ H Q I h;refine Np (eY I hg hm hv ?_ hn hdb);exact Pb (thn (ha pos pins s σ H _ I h) λus s1 ⟨vs,H1,I1,r1,q1⟩=>hc pins s1 σ H1 vs us Q I1 r1 q1) he hpl
variable {T:String}
def ym(hc:bD X (.type T) r)(hg:Gl X x)(hm:X.mg x=ω)(hv:bootBuiltins x=ψ (.type T))(ha:PA X (e::es) t)(hn:x≠"__name__":=by decide)(hdb:(x == ("__debug__":Str))=false:=by decide)(he:starEach (e::es) X.env=(ξ,eval e X.env)::starEach es X.env:=by rfl)(hpl:(backTo pos (starEach es X.env)).any (·.1)=false:=by rfl):PE X (.Call (.Name x p) (e::es) [] pos) (tCB r t):=by
 intro pins s σ H Q I h;refine Np (eY I hg hm hv ?_ hn hdb);exact I_ (thn (ha pos pins s σ H _ I h) λus s1 ⟨vs,H1,I1,r1,q1⟩=>hc pins s1 σ H1 vs us Q I1 r1 q1) he hpl
end
end L2
namespace HT
open PySem PyProof.Rows
noncomputable def lexLt:Λ->Λ->Bool
 | [],[]=>ξ
 | [],_::_=>η
 | _::_,[]=>ξ
 | x::xs,y::ys=>if x=y then lexLt xs ys else decide (x<y)
def lexLt_cons(x y:Int)(xs ys:Λ):lexLt (x::xs) (y::ys)=if x=y then lexLt xs ys else decide (x<y):=rfl
def pN:lexLt [] []=false:=rfl
def nI(y:Int)(ys:Λ):lexLt [] (y::ys)=true:=rfl
def nJ(x:Int)(xs:Λ):lexLt (x::xs) []=false:=rfl
def Bc(A:G_)(s:d_)(a:Int)(t:Tok)(c:Int)(u:Tok):∃e,SeqAt.EqAt A s (.int a t) (.int c u) e/\(e=η ↔ a=c) :=
 ⟨(a == c),SeqAt.EqAt.int_int a t c u,by simp⟩
def Bd(A:G_)(s:d_)(a:Int)(t:Tok)(c:Int)(u:Tok)(prog:v_)(w:World)(E:Value->d_->Prop)(Q:Value->d_->Prop)(h:Q (.bool (decide (a<c))) s):
  wpAny (model prog w) A (richCompare .Lt (.int a t) (.int c u)) Q E s :=
 (PyProof.Rows.lt_int h:wpAny (model prog w) A (compareOp .Lt (.int a t) (.int c u)) Q E s)
section
open PySem.SeqAt
open PySem.AutoSeq1 (wpAny_loadPart')
open PySem.MeetsSeq PySem.MeetsSeq2 PySem.MeetsSeq3
def pO(l b:Addr)(items items2:Array Value)(n n2:Nat)(dd dd2:Option Addr)(sl sl2:Array (Option Value))(ns ms:Λ)(hi:NZ items.toList ns)(hj:NZ items2.toList ms):
  Meets (Ow.«tuple.__lt__» ⟨[.ref l,.ref b],[]⟩)
   (λ_ R s=>s.heap.get? l=ψ { cls:=.type "tuple",dict:=dd,data:=.seq items n,slots:=sl }/\s.heap.get? b=ψ { cls:=.type "tuple",dict:=dd2,data:=.seq items2 n2,slots:=sl2 } /\
    R (.ok (.ret (.bool (lexLt ns ms)))) s) :=
 .of_wp λprog w A R s h=>by
  obtain⟨hp,g,d,tk,os⟩:=s;obtain⟨hl,hb,h⟩:=h;have f2:=AutoSeq1.sub_tuple_tuple;have z1:items.size=ns.length:=by rw [<- hi.length];simp
  have z2:items2.size=ms.length:=by rw [<- hj.length];simp
  wp_walk using wpAny_loadPart' hl,wpAny_loadPart' hb,wpAny_forIn_list _ (λrest b s'=>b.1=ω/\s'=⟨hp,g,d,tk,os⟩/\∃(vs ws:Ξ) (ns' ms':Λ),rest=vs.zip ws /\
   NZ vs ns'/\NZ ws ms'/\ns'.length+items2.size=ms'.length+items.size/\R (.ok (.ret (.bool (lexLt ns' ms')))) ⟨hp,g,d,tk,os⟩) _
  case turn =>
   rintro⟨y,x⟩ rest b s' ⟨hb',rfl,vs,ws,ns',ms',hz,hvi,hwi,hlen,hR⟩
   cases hvi with
   | nil=>rw [zip_nil_left] at hz;cases hz
   | cons a t hvi' =>
    cases hwi with
    | nil=>rw [zip_nil_right] at hz;cases hz
    | cons c u hwi' =>
     rw [zip_cons_cons] at hz;injection hz with hyx hrest;injection hyx with hy hx;subst hy hx;rw [lexLt_cons] at hR;simp only [Mm] at hlen;obtain⟨e,he,hiff⟩:=Bc A.in1 ⟨hp,g,d,tk,os⟩ a t c u;refine cn (he prog w _ _ ?_)
     cases e with
     | true =>
      rw [if_pos (hiff.mp rfl)] at hR
      wp_walk
      exact⟨rfl,rfl,_,_,_,_,hrest,hvi',hwi',by omega,hR⟩
     | false =>
      rw [if_neg (λq=>absurd (hiff.mpr q) l_)] at hR;have hri:=Bd A.in1 ⟨hp,g,d,tk,os⟩ a t c u prog w
      wp_walk using hri
      exact⟨_,rfl,by simpa using hR⟩
  case fin =>
   rintro⟨b1,b2⟩ s' ⟨hb',rfl,vs,ws,ns',ms',hz,hvi,hwi,hlen,hR⟩;simp only at hb';subst hb'
   have hv:lexLt ns' ms'=decide (items.size<items2.size):=by
    cases hvi with
    | nil =>
     cases hwi with
     | nil =>
      simp only [OC] at hlen;rw [pN];exact (decide_eq_false ⋯).symm
     | cons c u hw =>
      simp only [OC,Mm] at hlen;rw [nI];exact (decide_eq_true ⋯).symm
    | cons a t hv =>
     cases hwi with
     | nil =>
      simp only [OC,Mm] at hlen;rw [nJ];exact (decide_eq_false ⋯).symm
     | cons c u hw =>
      rw [zip_cons_cons] at hz;cases hz
   rw [hv] at hR
   wp_walk
   exact⟨_,rfl,by simpa [Builtin.Tuple.tupleCompareSizes] using hR⟩
  case h =>
   exact⟨rfl,rfl,items.toList,items2.toList,ns,ms,rfl,hi,hj,by omega,h⟩
end
variable {prog:v_}{w:World}{A:G_}{E:Value->d_->Prop}{s:d_}{b:Addr}{items:Array Value}{ns:Λ}{Q:Value->d_->Prop}
def lt_tupInts{l:Addr}{items2:Array Value}{ms:Λ}(hl:IsTup s.heap l items)(hb:IsTup s.heap b items2)(hi:NZ items.toList ns)(hj:NZ items2.toList ms)(hu:A.units<cLine)(h:Q (.bool (lexLt ns ms)) s):wpAny (model prog w) A (compareOp .Lt (.ref l) (.ref b)) Q E s:=by
 obtain⟨⟨cls,dd,data,sl⟩,ho,hc,n,hd⟩:=id hl;obtain⟨⟨cls2,dd2,data2,sl2⟩,ho2,hc2,n2,hd2⟩:=id hb;simp only at hc hd hc2 hd2;subst hc hd hc2 hd2
 exact richCompare_meets_room (op:=.Lt) ⟨_,ho,rfl⟩ ⟨_,ho2,rfl⟩ PySem.F.slot_tuple_lt PySem.F.entry_tuple_lt (PySem.F.args_tuple_lt_2 _ _) (pO l b items items2 n n2 dd dd2 sl sl2 ns ms hi hj)
  ⟨ho,ho2,show Nc (lexLt ns ms)≠Value.notImplemented/\Q (.bool (lexLt ns ms)) s from ⟨(λx=>nomatch x),h⟩⟩ hu
variable {t:Addr}
def cat_tup{vs ws:Ξ}(ht:IsTup s.heap t vs.toArray)(hb:IsTup s.heap b ws.toArray)(hv:vs≠[])(h1:ws=[]->Q (.ref t) s)(h2:ws≠[]->Q (.ref s⁻¹) { s with heap:=s.heap.push { cls:=.type "tuple",data:=.seq (vs++ws).toArray } })(hsz:vs.length+ws.length<=sizeLine):wpAny (model prog w) A (binaryOp .Add (.ref t) (.ref b)) Q E s:=by
 obtain⟨⟨cls,dd,data,sl⟩,ho,hc,n,hd⟩:=id ht;obtain⟨⟨cls2,dd2,data2,sl2⟩,ho2,hc2,n2,hd2⟩:=id hb;simp only at hc hd hc2 hd2;subst hc hd hc2 hd2;have e:vs.toArray++ws.toArray=(vs++ws).toArray:=by simp
 by_cases hw:ws=[]
 .exact Qp ⟨_,ho,rfl⟩ ⟨_,ho2,rfl⟩ P9 seq_tuple_add OV OI (Oq _ _)
   (tuple_addW1 t b vs.toArray ws.toArray n n2 dd dd2 sl sl2 (by simpa using hv) (by simp [hw])) ⟨ho,ho2,h1 hw⟩
 .refine Qp ⟨_,ho,rfl⟩ ⟨_,ho2,rfl⟩ P9 seq_tuple_add OV OI (Oq _ _)
   (tuple_addW2 t b vs.toArray ws.toArray n n2 dd dd2 sl sl2 (by simpa using hv) (by simpa using hw) (by rw [we,we];exact hsz)) ⟨ho,ho2,?_⟩
  rw [e];exact h2 hw
noncomputable def sIx(n d:Nat):Option Int->Nat
 | none=>d
 | some v=>if v<0 then (v+(n:Int)).toNat else min v.toNat n
def sIx_nat(n d k:Nat):sIx n d (ψ (k:Int))=min k n:=by
 show (if (k:Int)<0 then ((k:Int)+(n:Int)).toNat else min (k:Int).toNat n)=min k n;rw [if_neg ⋯,tj]
def sIx_le(n d:Nat)(hd:d<=n)(o:Option Int):sIx n d o<=n:=by
 cases o with
 | none=>exact hd
 | some v =>
  show (if v<0 then (v+(n:Int)).toNat else min v.toNat n)<=n
  by_cases hv:v<0
  .rw [if_pos hv];omega
  .rw [if_neg hv];exact min_le_right _ _
def clip_eq(v:Int)(n d:Nat):(if v<0 then max (v+(n:Int)) 0 else min v (n:Int))=((sIx n d (ψ v):Nat):Int):=by
 show (if v<0 then max (v+(n:Int)) 0 else min v (n:Int))=(((if v<0 then (v+(n:Int)).toNat else min v.toNat n):Nat):Int)
 by_cases hv:v<0
 .simp only [if_pos hv];omega
 .simp only [if_neg hv];omega
def wH(lo hi:Option Int)(n:Nat):Ol lo hi 1 (n:Int)=(((sIx n 0 lo:Nat):Int),((sIx n n hi:Nat):Int)):=by
 have h1:¬ ((1:Int)<0):=by omega
 unfold Ol;simp only [h1,if_false]
 refine Prod.ext ?_ ?_
 .cases lo with
  | none=>rfl
  | some v=>exact clip_eq v n 0
 .cases hi with
  | none=>rfl
  | some v=>exact clip_eq v n n
def wI(i j:Nat):Nv (i:Int) (j:Int) 1=j - i:=by
 unfold Nv;have h1:(1:Int) > 0:=by omega
 simp only [h1,if_true,ediv_one];split <;> omega
def oO{v:Value}{o:Option Int}{Q:Option Int->d_->Prop}(p:Qq v o)(h:Q o s):wpAny (model prog w) A (Builtin.Slice.slicePartIndex v) Q E s:=by
 cases p with
 | none=>exact slicePart_none h
 | int i t=>exact slicePart_int h
variable {lo hi:Option Int}{n:Nat}
def gy{sl:Addr}{vl vu:Value}{Q:Int×Int×Nat->d_->Prop}(hs:s.heap.IsSliceOf sl vl vu .none)(pl:Qq vl lo)(pu:Qq vu hi)(h:Q (((sIx n 0 lo:Nat):Int),1,sIx n n hi - sIx n 0 lo) s):wpAny (model prog w) A (PL (.ref sl) (pure (n:Int))) Q E s:=by
 obtain⟨os,hos,hcs,hds⟩:=id hs;unfold PL Builtin.Slice.sliceFields;refine cn (cn (MI hos hds (x:=vl) rfl (cn (MI hos hds (x:=vu) rfl (cn (MI hos hds (x:=.none) rfl (gV ?_)))))));refine cn (slicePart_none ?_);show wpAny _ _ (if ((1:Int) == 0)=η then _ else _) _ _ s;rw [if_neg (by decide)];refine cn (oO pl (cn (oO pu (cn (gV ?_)))))
 show wpAny _ _ (match Ol lo hi 1 (n:Int) with|(lo,hi)=>pure (lo,(1:Int),Nv lo hi 1)) _ _ s;rw [wH lo hi n];show wpAny _ _ (pure (((sIx n 0 lo:Nat):Int),(1:Int),Nv ((sIx n 0 lo:Nat):Int) ((sIx n n hi:Nat):Int) 1)) _ _ s;rw [wI];exact gV h
def Be(xs:Array Value)(i k:Nat):((g_ k).filterMap λ(m:Nat)=>xs[((i:Int)+(m:Int)*1).toNat]?).toArray=((xs.toList.drop i).take k).toArray:=by
 have e:(λ(m:Nat)=>xs[((i:Int)+(m:Int)*1).toNat]?)=λm=>xs[i+m]?:=by
  funext m;have:((i:Int)+(m:Int)*1).toNat=i+m:=by omega
  rw [this]
 rw [e];have:=pick_run xs i k;rw [Pf] at this;have e2:((λx=>xs[x]?) ∘ λx=>i+x)=λm=>xs[i+m]?:=rfl;rw [e2] at this;rw [this]
def getItem_tuple_cut{sl:Addr}{vl vu:Value}(ht:IsTup s.heap t items)(hs:s.heap.IsSliceOf sl vl vu .none)(pl:Qq vl lo)(pu:Qq vu hi)(hw:¬ (sIx items.size 0 lo=0/\sIx items.size items.size hi=items.size))(h:Q (.ref s⁻¹) { s with heap:=s.heap.push { cls:=.type "tuple",data:=.seq ((items.toList.drop (sIx items.size 0 lo)).take (sIx items.size items.size hi - sIx items.size 0 lo)).toArray } })(hsz:items.size<=sizeLine):wpAny (model prog w) A (getItem (.ref t) (.ref sl)) Q E s:=by
 have htake:sizeOk (.seq ((items.toList.drop (sIx items.size 0 lo)).take (sIx items.size items.size hi - sIx items.size 0 lo)).toArray):=by
  show ((items.toList.drop (sIx items.size 0 lo)).take (sIx items.size items.size hi - sIx items.size 0 lo)).toArray.size<=sizeLine;rw [we,MG,MQ,C0];omega
 have hj:sIx items.size items.size hi<=items.size:=sIx_le _ _ (f_ _) hi;obtain⟨os,hos,hcs,hds⟩:=id hs;have hTs:s.TypeIs (.ref sl) "slice":=⟨os,hos,hcs⟩
 unfold getItem
 try with_reducible refine Mw ?_
 first|refine cn (gV ?_)|skip
 refine cn (wpAny_sequenceKey ht.typeIs (by decide) ?_)
 refine cn (MF (name:=NR "__getitem__") ht.typeIs Mt
  (M8 Mt ht.typeIs entry_tuple_getitem ?_ (args_tuple_getitem _ _)))
 show wpAny _ _ (PM (.ref t) >>= _) _ _ s;refine cn (tupleItemsOf_ ht ?_);refine cn (OW hTs ?_);rw [if_pos (by decide)];refine cn (gy hs pl pu ?_)
 have hno:¬ ((((sIx items.size 0 lo:Nat):Int) == 0 && (1:Int) == 1 && (sIx items.size items.size hi - sIx items.size 0 lo) == items.size)=η):=by
  intro q;rw [Mg,Mg] at q;have q1:((sIx items.size 0 lo:Nat):Int)=0:=eq_of_beq q.1.1;have q2:sIx items.size items.size hi - sIx items.size 0 lo=items.size:=eq_of_beq q.2;exact hw ⟨by omega,by omega⟩
 show wpAny _ _ (if (((sIx items.size 0 lo:Nat):Int) == 0 && (1:Int) == 1 && (sIx items.size items.size hi - sIx items.size 0 lo) == items.size)=η then _ else _) _ _ s;rw [if_neg hno,Be]
 first
  | exact cn (m:=NF _) (MD (gV ⟨_,rfl,gV h⟩) htake)
  | exact cn (m:=NF _) (MD (cn (gV (gV ⟨_,rfl,gV h⟩))) htake)
  | exact cn (cn (m:=NF _) (MD (gV (gV ⟨_,rfl,gV h⟩)) htake))
  | exact cn (cn (m:=NF _) (MD (gV ⟨_,rfl,gV h⟩) htake))
end HT
namespace L2
open PySem PySem.Spec PyProof.Rows
abbrev TO:=St->Hp->(Option Int->Hp->Prop)->Prop
noncomputable def PO(X:Cx)(e:Option Expr)(t:TO):Prop :=
 ∀(pins:List (Addr×Obj)) (s:d_) (σ:St) (H:Hp) (Q:Option Int->Hp->Prop),Inv X pins σ H s->t σ H Q ->
  wpAny (model X.prog X.w) X.A (evalPart e X.env) (λu s'=>∃o H',Inv X pins σ H' s'/\Qq u o/\Q o H') X.xe s
def pP:TO:=λ_ H Q=>Q ω H
noncomputable def Bf(t:TE):TO:=λσ H Q=>t σ H λx H1=>∃i,x=.int i/\Q (ψ i) H1
variable {ns:Λ}
def bQ:∀{us:Ξ},bI (ns.map V.int) us->NZ us ns:=by
 induction ns with
 | nil=>intro us r;rw [P2] at r;cases r;exact .nil
 | cons n ns ih =>
  intro us r;rw [so] at r
  cases r with
  | cons r1 r2 =>
   obtain⟨t,e⟩:=r1;subst e;exact .cons n t (ih r2)
variable {X:Cx}
def cY:PO X ω pP:=by
 intro pins s σ H Q I h;rw [evalPart_none];exact gV ⟨ω,H,I,.none,h⟩
variable {e:Expr}{te:TE}
def bK(h:PE X e te):PO X (ψ e) (Bf te):=by
 intro pins s σ H Q I hw;rw [evalPart_some];refine thn (h pins s σ H _ I hw) λu s1 ⟨x,H1,I1,r1,q1⟩=>?_;obtain⟨i,rfl,q⟩:=q1;obtain⟨t,rfl⟩:=r1;exact⟨ψ i,H1,I1,.int i t,q⟩
variable {lo hi:Option Expr}
noncomputable def SlR(X:Cx)(r:V->Option Int->Option Int->Hp->VK->Prop):Prop :=
 ∀(pins:List (Addr×Obj)) (s:d_) (σ:St) (H:Hp) (x:V) (v vl vu:Value) (lo hi:Option Int) (sl:Addr) (Q:VK),Inv X pins σ H s->cC x v->s.heap.IsSliceOf sl vl vu .none->Qq vl lo->Qq vu hi->r x lo hi H Q ->
  ∃T id,typeLookup (.type T) "__getitem__"=pure (ψ (.builtin id))/\s.TypeIs v T/\wpAny (model X.prog X.w) X.A (getItem v (.ref sl)) (EP X pins σ Q) X.xe s
def SlR.or{r r':V->Option Int->Option Int->Hp->VK->Prop}(h:SlR X r)(h':SlR X r'):SlR X (λx lo hi H Q=>r x lo hi H Q\/r' x lo hi H Q):=by
 intro pins s σ H x v vl vu lo hi sl Q I rx hs pl pu q
 rcases q with q|q
 .exact h pins s σ H x v vl vu lo hi sl Q I rx hs pl pu q
 .exact h' pins s σ H x v vl vu lo hi sl Q I rx hs pl pu q
variable {tl th:TO}
noncomputable def tSl(r:V->Option Int->Option Int->Hp->VK->Prop)(te:TE)(tl th:TO):TE:=λσ H Q=>te σ H λx H1=>tl σ H1 λl H2=>th σ H2 λu H3=>r x l u H3 Q
variable {pos p2:Pos}
def bF{r:V->Option Int->Option Int->Hp->VK->Prop}(hr:SlR X r)(he:PE X e te)(hl:PO X lo tl)(hu:PO X hi th):PE X (.Subscript e (.Slice lo hi ω p2) pos) (tSl r te tl th):=by
 intro pins s σ H Q I h;refine Subscript_ (thn (he pins s σ H _ I h) λv s1 ⟨x,H1,I1,r1,q1⟩=>?_);refine wpAny_Slice (thn (hl pins s1 σ H1 _ I1 q1) λvl s2 ⟨l,H2,I2,pl,q2⟩=>thn (hu pins s2 σ H2 _ I2 q2) λvu s3 ⟨u,H3,I3,pu,q3⟩=>?_);rw [evalPart_none];refine gV ?_;have I4:Inv X pins σ H3 { s3 with heap:=s3.heap.push { cls:=.type "slice",data:=.fields #[vl,vu,.none] } }:=I3.kept (t':=s3.toks) λb ob q=>c_ _ q
 obtain⟨T,id,hT,ht,hg⟩:=hr pins { s3 with heap:=s3.heap.push { cls:=.type "slice",data:=.fields #[vl,vu,.none] } } σ H3 x v vl vu l u s3⁻¹ Q I4 r1 (Heap.IsSliceOf.new ..) pl pu q3;show wpAny (model X.prog X.w) X.A (subscriptTail e (.Slice lo hi ω p2) v (.ref s3⁻¹)) (EP X pins σ Q) X.xe { s3 with heap:=s3.heap.push { cls:=.type "slice",data:=.fields #[vl,vu,.none] } };exact tail_any (ops:=[.ref s3⁻¹,v]) ht hT hg (by with_unfolding_all rfl)
noncomputable def DY(xs:List V)(lo hi:Option Int):List V:=(xs.drop (HT.sIx xs.length 0 lo)).take (HT.sIx xs.length xs.length hi - HT.sIx xs.length 0 lo)
def lH(xs:List V)(lo hi:Option Int):(DY xs lo hi).length<=xs.length:=by
 unfold DY;rw [MG,MQ];omega
noncomputable def KY(K:b_):V->Option Int->Option Int->Hp->VK->Prop:=λx lo hi H Q=>∃a xs,x=.ref a/\SqT K H a xs /\
 ¬ (HT.sIx xs.length 0 lo=0/\HT.sIx xs.length xs.length hi=xs.length)/\∀p,H p=ω->Q (.ref p) (upd H p (.tup (DY xs lo hi)))
def GA:SlR X (KY X.K):=by
 intro pins s σ H x v vl vu lo hi sl Q I rx hs pl pu h;obtain⟨a,xs,rfl,hx,hw,q⟩:=h;cases rx;obtain⟨its,r,ht,hz⟩:=I.tuple hx;have hlen:its.toArray.size=xs.length:=by rw [we];exact r.length.symm
 refine⟨"tuple",_,Mt.lookup,ht.typeIs,?_⟩;refine HT.getItem_tuple_cut ht hs pl pu (by rw [hlen];exact hw) ?_ (by rw [hlen];exact hz);rw [hlen];refine⟨.ref s⁻¹,_,I.laid (t':=s.toks) (o:=.tup (DY xs lo hi)) (λb ob q=>c_ _ q) (f_ _) ?_,rfl,q _ (I.hok.fresh (f_ _))⟩;exact⟨Mn (lH xs lo hi) hz,_,(r.drop (HT.sIx xs.length 0 lo)).take (HT.sIx xs.length xs.length hi - HT.sIx xs.length 0 lo),IsTup.new _ _⟩
noncomputable def GB(K:b_):R2:=λx y H Q=>∃a b xs ys,x=.ref a/\y=.ref b/\SqT K H a xs/\SqT K H b ys/\xs≠[]/\xs.length+ys.length<=sizeLine /\
 (ys=[]->Q (.ref a) H)/\(ys≠[]->∀p,H p=ω->Q (.ref p) (upd H p (.tup (xs++ys))))
variable {xs:List V}{us:Ξ}
def bI.nil_iff(r:bI xs us):us=[] ↔ xs=[]:=by
 cases r with
 | nil=>simp
 | cons _ _=>simp
def DZ:OpR X (binaryOp .Add) (GB X.K):=by
 intro pins s σ H x y v u Q I rx ry h;obtain⟨a,b,xs,ys,rfl,rfl,ha,hb,hx,hz,q1,q2⟩:=h;cases rx;cases ry;obtain⟨its,r1,p1,_⟩:=I.tuple ha;obtain⟨its2,r2,p2,_⟩:=I.tuple hb;refine HT.cat_tup p1 p2 (λz=>hx (r1.nil_iff.mp z)) (λz=>⟨.ref a,H,I,rfl,q1 (r2.nil_iff.mp z)⟩) (λz=>?_) (by rw [<- r1.length,<- r2.length];exact hz);refine⟨.ref s⁻¹,_,I.laid (t':=s.toks) (o:=.tup (xs++ys)) (λb ob q=>c_ _ q) (f_ _) ?_,rfl,q2 (λw=>z (r2.nil_iff.mpr w)) _ (I.hok.fresh (f_ _))⟩
 exact⟨by rw [kx];exact hz,_,r1.append r2,IsTup.new _ _⟩
noncomputable def ixN(n:Nat)(i:Int):Option Nat:=if 0<=i then (if i<n then ψ i.toNat else ω) else if -(n:Int)<=i then ψ (i+n).toNat else ω
variable {α:Type}
noncomputable def atI(xs:List α)(i:Int):Option α:=(ixN xs.length i).bind λj=>xs[j]?
variable {n j:Nat}
def tz{i:Int}(h:ixN n i=ψ j):seqIndex? i n=ψ j/\j<n/\-(n:Int)<=i/\i<n:=by
 unfold ixN at h
 by_cases h0:0<=i
 .rw [if_pos h0] at h
  by_cases h1:i<n
  .rw [if_pos h1] at h;have e:i.toNat=j:=w_ h;exact⟨by rw [QP h0 h1,e],by omega,by omega,h1⟩
  .rw [if_neg h1] at h;cases h
 .rw [if_neg h0] at h
  by_cases h1:-(n:Int)<=i
  .rw [if_pos h1] at h;have e:(i+n).toNat=j:=w_ h;exact⟨by rw [Qr ⋯ h1,e],by omega,h1,by omega⟩
  .rw [if_neg h1] at h;cases h
def pQ{xs:List α}{i:Int}{v:α}(h:atI xs i=ψ v):∃j,seqIndex? i xs.length=ψ j/\xs[j]?=ψ v/\j<xs.length/\-(xs.length:Int)<=i/\i<xs.length:=by
 unfold atI at h
 cases e:ixN xs.length i with
 | none=>rw [e] at h;cases h
 | some j =>
  rw [e] at h;obtain⟨h1,h2,h3,h4⟩:=tz e;exact⟨j,h1,h,h2,h3,h4⟩
def D0{xs:List α}{v:α}(h:xs[j]?=ψ v):atI xs (j:Int)=ψ v:=by
 have hj:j<xs.length:=(k_.mp h).1
 have e:ixN xs.length (j:Int)=ψ j:=by
  unfold ixN;rw [if_pos ⋯,if_pos ⋯];simp
 unfold atI;rw [e];exact h
noncomputable def D1(b:Expr):Prop:=∀o i,subscripted b ξ o i=operate [o,i] (getItem o i)
noncomputable def IxR(X:Cx)(r:R2):Prop :=
 ∀(value slice:Expr) (pins:List (Addr×Obj)) (s:d_) (σ:St) (H:Hp) (x y:V) (v u:Value) (Q:VK),Inv X pins σ H s->cC x v->cC y u->r x y H Q ->
  subscripted slice ξ v u=operate [v,u] (getItem v u)->wpAny (model X.prog X.w) X.A (subscriptTail value slice v u) (EP X pins σ Q) X.xe s
noncomputable def MtR(X:Cx)(id:String)(r:V->List V->Hp->VK->Prop):Prop :=
 ∀(pins:List (Addr×Obj)) (s:d_) (σ:St) (H:Hp) (x:V) (xs:List V) (v:Value) (us:Ξ) (Q:VK),Inv X pins σ H s->cC x v->bI xs us->r x xs H Q ->
  wpAny (model X.prog X.w) X.A (call (.builtin id) (v::us)) (EP X pins σ Q) X.xe s
section
variable {r r':R2}
def IxR.or(h:IxR X r)(h':IxR X r'):IxR X (λx y H Q=>r x y H Q\/r' x y H Q):=by
 intro value slice pins s σ H x y v u Q I rx ry q hs
 rcases q with q|q
 .exact h value slice pins s σ H x y v u Q I rx ry q hs
 .exact h' value slice pins s σ H x y v u Q I rx ry q hs
variable {a b:Expr}{ta tb:TE}
def aV(hr:IxR X r)(ha:PE X a ta)(hb:PE X b tb)(hs:D1 b):PE X (.Subscript a b pos) (tOp r ta tb):=by
 intro pins s σ H Q I h;exact Subscript_ (Jx ha hb I h λv u s2 x y H2 I2 rx ry q=>hr a b pins s2 σ H2 x y v u Q I2 rx ry q (hs _ _))
noncomputable def Ji(K:b_):R2:=λx y H Q=>∃p xs i v,x=.ref p/\y=.int i/\SqL K H p xs/\atI xs i=ψ v/\Q v H
noncomputable def KZ(K:b_):R2:=λx y H Q=>∃p xs i v,x=.ref p/\y=.int i/\SqT K H p xs/\atI xs i=ψ v/\Q v H
noncomputable def LJ:R2:=λx y H Q=>∃z i c,x=.str z/\y=.int i/\z.length<=sizeLine/\atI z.cps.toList i=ψ c/\Q (.str ⟨#[c]⟩) H
def D2:IxR X (Ji X.K):=by
 intro value slice pins s σ H x y v u Q I rx ry h hs;obtain⟨p,xs,i,z,rfl,rfl,hq,he,q⟩:=h;cases rx;obtain⟨t,rfl⟩:=ry;obtain⟨its,r,pl,hz⟩:=I.list hq;obtain⟨j,h1,h2,h3,h4,h5⟩:=pQ he;obtain⟨w,ew,rw'⟩:=r.get h2;have hl:=r.length;have hn:=lC;have fin:EP X pins σ Q w s:=⟨z,H,I,rw',q⟩
 by_cases h0:0<=i
 .have hj:i.toNat=j:=by
   rw [QP h0 h5] at h1;exact w_ h1
  exact item_listR pl.isList h0 ⋯ (by rw [hj];simpa using ew) fin hs
 .have hj:(i+(its.toArray.size:Int)).toNat=j:=by
   rw [Qr ⋯ h4] at h1;rw [we,<- hl];exact w_ h1
  exact subscriptTail_builtinR (x:=w) pl.isList.typeIs slot_list_getitem.lookup
   (wpAny_getItem_list_neg (Q:=λr s'=>r=w/\EP X pins σ Q r s') pl.isList ⋯ (by rw [we] <;> omega) ⋯ (by rw [hj];simpa using ew) ⟨rfl,fin⟩) hs
def GC:IxR X (KZ X.K):=by
 intro value slice pins s σ H x y v u Q I rx ry h hs;obtain⟨p,xs,i,z,rfl,rfl,hq,he,q⟩:=h;cases rx;obtain⟨t,rfl⟩:=ry;obtain⟨its,r,pl,hz⟩:=I.tuple hq;obtain⟨j,h1,h2,h3,h4,h5⟩:=pQ he;obtain⟨w,ew,rw'⟩:=r.get h2;have hl:=r.length;have hn:=lC;have fin:EP X pins σ Q w s:=⟨z,H,I,rw',q⟩
 exact subscriptTail_builtinR (x:=w) pl.typeIs slot_tuple_getitem.lookup
  (getItem_tuple (j:=j) (Q:=λr s'=>r=w/\EP X pins σ Q r s') pl ⋯ ⋯ (by rw [we,<- hl];exact h1) (by simpa using ew) ⟨rfl,fin⟩) hs
def GD:IxR X LJ:=by
 intro value slice pins s σ H x y v u Q I rx ry h hs;obtain⟨z,i,c,rfl,rfl,hz,he,q⟩:=h;obtain⟨t,rfl⟩:=rx;obtain⟨t',rfl⟩:=ry;obtain⟨j,h1,h2,h3,h4,h5⟩:=pQ he;have hl:z.cps.toList.length=z.length:=by simp [Str.length]
 rw [hl] at h1 h4 h5;have hn:=lC
 exact tail_any (typeIs_str s z t) slot_str_getitem.lookup (getItem_str (c:=c) (by
  have e1:decide (i < -(2^63:Int))=false:=decide_eq_false ⋯;have e2:decide (i >= 2^63)=false:=decide_eq_false ⋯;rw [e1,e2,Bool.or_false]) (by rw [h1];simpa using h2) ⟨.str ⟨#[c]⟩,H,I.tok _,⟨_,rfl⟩,q⟩) hs
def wJ(its:Ξ)(n j:Nat)(u:Value):Nq (·.setIfInBounds j u) { cls:=.type "list",data:=.seq its.toArray n }={ cls:=.type "list",data:=.seq (its.set j u).toArray n }:=by
 simp [Nq]
variable {pins:List (Addr×Obj)}{σ:St}{H:Hp}{s:d_}
def Inv.lst{p:Addr}(I:Inv X pins σ H s)(h:H p=ψ (.lst xs)):
  ∃(its:Ξ) (n:Nat),bI xs its/\s.heap.get? p=ψ { cls:=.type "list",data:=.seq its.toArray n }/\xs.length<=sizeLine:=by
 obtain⟨z,its,n,r,e⟩:=I.hok p _ h;exact⟨its,n,r,e,z⟩
variable {its:Ξ}
def Inv.lstUpd{p:Addr}{ys:List V}{its':Ξ}{n':Nat}{f:Obj->Obj}(I:Inv X pins σ H s)(h:H p=ψ (.lst xs))(ho:s.heap.get? p=ψ { cls:=.type "list",data:=.seq its.toArray n })(hf:f { cls:=.type "list",data:=.seq its.toArray n }={ cls:=.type "list",data:=.seq its'.toArray n' })(r:bI ys its')(hz:ys.length<=sizeLine)(t:Nat):
  Inv X pins σ (upd H p (.lst ys)) { s with heap:=s.heap.update p f,toks:=t }:=by
 have e:(s.heap.update p f).get? p=ψ { cls:=.type "list",data:=.seq its'.toArray n' }:=by
  rw [Nu f ho (by rw [hf] <;> rfl),hf]
 refine I.write (x:=p) (e:=p) (by rw [h];trivial) (.inl rfl) (λb u hb q=>(Mx _ _ (Nh hb)).trans q) ⟨_,e⟩ ?_;exact⟨hz,its',n',r,e⟩
noncomputable def D3:V->V->V->Hp->(Hp->Prop)->Prop:=λo i v H Q=>∃p xs k j,o=.ref p/\i=.int k/\H p=ψ (.lst xs)/\ixN xs.length k=ψ j/\Q (upd H p (.lst (xs.set j v)))
def jt:Jw X D3:=by
 intro pins s σ H o i v ov iv u Q I ro ri rv h;obtain⟨p,xs,k,j,rfl,rfl,hp,hj,q⟩:=h;cases ro;obtain⟨t,rfl⟩:=ri;obtain⟨its,n,r,ho,hz⟩:=I.lst hp;obtain⟨h1,h2,h3,h4⟩:=tz hj;have hl:=r.length;have hn:=lC
 have I':Inv X pins σ (upd H p (.lst (xs.set j v))) { s with heap:=s.heap.update p (Nq (·.setIfInBounds j u)) } :=
  I.lstUpd hp ho (wJ its n j u) (r.set rv j) (by rw [My];exact hz) s.toks
 by_cases h0:0<=k
 .have hk:k.toNat=j:=by
   rw [QP h0 h4] at h1;exact w_ h1
  exact PySem.W.ki_setAt ho h0 ⋯ (by rw [we,<- hl];exact h4) (by rw [hk];exact⟨_,I',q⟩)
 .have hk:(k+(its.toArray.size:Int)).toNat=j:=by
   rw [Qr ⋯ h3] at h1;rw [we,<- hl];exact w_ h1
  exact PySem.W.ki_setBack ho ⋯ (by rw [we,<- hl];exact h3) ⋯ (by rw [hk];exact⟨_,I',q⟩)
def qS(lo hi:Option Int)(n:Nat):(sliceBounds lo hi ω n).1=((HT.sIx n 0 lo:Nat):Int)/\(sliceBounds lo hi ω n).2.1=((HT.sIx n n hi:Nat):Int)/\(sliceBounds lo hi ω n).2.2=1:=by
 refine⟨?_,?_,rfl⟩
 .cases lo with
  | none=>simp [sliceBounds,HT.sIx]
  | some i =>
   simp only [sliceBounds,HT.sIx,Option.getD_none,show (1:Int) > 0 by decide,if_true]
   by_cases h:i<0
   .simp only [h,if_true] <;> omega
   .simp only [h,if_false] <;> omega
 .cases hi with
  | none=>simp [sliceBounds,HT.sIx]
  | some i =>
   simp only [sliceBounds,HT.sIx,Option.getD_none,show (1:Int) > 0 by decide,if_true]
   by_cases h:i<0
   .simp only [h,if_true] <;> omega
   .simp only [h,if_false] <;> omega
def pR(its:Ξ)(lo hi:Option Int):slicePick its.toArray lo hi ω=((its.drop (HT.sIx its.length 0 lo)).take (HT.sIx its.length its.length hi - HT.sIx its.length 0 lo)).toArray:=by
 obtain⟨h1,h2,h3⟩:=qS lo hi its.toArray.size;unfold slicePick;rw [h1,h2,h3];simp only [sliceRange_one,pick_run,we] <;> rfl
noncomputable def K0(K:b_):V->Option Int->Option Int->Hp->VK->Prop:=λx lo hi H Q=>∃a xs,x=.ref a/\SqL K H a xs/\∀p,H p=ω->Q (.ref p) (upd H p (.lst (DY xs lo hi)))
def D4:SlR X (K0 X.K):=by
 intro pins s σ H x v vl vu lo hi sl Q I rx hs pl pu h;obtain⟨a,xs,rfl,hx,q⟩:=h;cases rx;obtain⟨its,r,ht,hz⟩:=I.list hx;have hlen:=r.length;refine⟨"list",_,slot_list_getitem.lookup,ht.isList.typeIs,?_⟩;refine wpAny_getItem_list_slice ht.isList hs pl pu .none (by simp) ?_ (by rw [we] <;> omega);rw [pR,<- hlen];refine⟨.ref s⁻¹,_,I.laid (t':=s.toks) (o:=.lst (DY xs lo hi)) (λb ob q=>c_ _ q) (f_ _) ?_,rfl,q _ (I.hok.fresh (f_ _))⟩
 exact⟨Mn (lH xs lo hi) hz,_,0,(r.drop (HT.sIx xs.length 0 lo)).take (HT.sIx xs.length xs.length hi - HT.sIx xs.length 0 lo),i_ _ rfl⟩
noncomputable def nK:V->Bool
 | .non=>η
 | .bl _=>η
 | .int _=>η
 | .str _=>η
 | _=>ξ
noncomputable def eqV:V->V->Bool
 | .non,.non=>η
 | .bl a,.bl b=>a == b
 | .bl a,.int b=>(if a then 1 else 0) == b
 | .int a,.bl b=>a == (if b then 1 else 0)
 | .int a,.int b=>a == b
 | .str a,.str b=>a == b
 | _,_=>ξ
variable {A:G_}{y:V}{u:Value}
def GE{x:V}{v:Value}(ry:cC y u)(rx:cC x v)(fy:nK y=η)(fx:nK x=η):SeqAt.EqAt A s u v (eqV y x):=by
 cases y with
 | non =>
  cases ry
  cases x with
  | non=>cases rx;exact SeqAt.EqAt.same _
  | bl b=>cases rx;exact SeqAt.EqAt.none_bool b
  | int b=>obtain⟨t,rfl⟩:=rx;exact SeqAt.EqAt.none_int b t
  | str b=>obtain⟨t,rfl⟩:=rx;exact SeqAt.EqAt.none_str b t
  | _=>exact absurd (show ξ=η from fx) l_
 | bl a =>
  cases ry
  cases x with
  | non=>cases rx;exact SeqAt.EqAt.bool_none a
  | bl b=>cases rx;exact SeqAt.EqAt.bool_bool a b
  | int b=>obtain⟨t,rfl⟩:=rx;exact SeqAt.EqAt.bool_int a b t
  | str b=>obtain⟨t,rfl⟩:=rx;exact SeqAt.EqAt.bool_str a b t
  | _=>exact absurd (show ξ=η from fx) l_
 | int a =>
  obtain⟨t',rfl⟩:=ry
  cases x with
  | non=>cases rx;exact SeqAt.EqAt.int_none a t'
  | bl b=>cases rx;exact SeqAt.EqAt.int_bool a t' b
  | int b=>obtain⟨t,rfl⟩:=rx;exact SeqAt.EqAt.int_int a t' b t
  | str b=>obtain⟨t,rfl⟩:=rx;exact SeqAt.EqAt.int_str a t' b t
  | _=>exact absurd (show ξ=η from fx) l_
 | str a =>
  obtain⟨t',rfl⟩:=ry
  cases x with
  | non=>cases rx;exact SeqAt.EqAt.str_none a t'
  | bl b=>cases rx;exact SeqAt.EqAt.str_bool a t' b
  | int b=>obtain⟨t,rfl⟩:=rx;exact SeqAt.EqAt.str_int a t' b t
  | str b=>obtain⟨t,rfl⟩:=rx;exact SeqAt.EqAt.str_str a t' b t
  | _=>exact absurd (show ξ=η from fx) l_
 | _=>exact absurd (show ξ=η from fy) l_
noncomputable def eqU(x:V)(u:Value):Bool:=match u with
 | .none=>eqV .non x
 | .bool b=>eqV (.bl b) x
 | .int i _=>eqV (.int i) x
 | .str z _=>eqV (.str z) x
 | _=>ξ
def CQ{x:V}(r:cC y u)(f:nK y=η):eqU x u=eqV y x:=by
 cases y with
 | non=>cases r;rfl
 | bl b=>cases r;rfl
 | int i=>obtain⟨t,rfl⟩:=r;rfl
 | str z=>obtain⟨t,rfl⟩:=r;rfl
 | _=>exact absurd (show ξ=η from f) l_
theorem lI{x:V}:∀{xs:List V}{us:Ξ},bI xs us->xs.all nK=η->us.any (eqU x)=xs.any λy=>eqV y x
 | _,_,.nil,_=>rfl
 | y::xs,u::us,.cons r t,f=>by
  rw [P_,Mg] at f;rw [N6,N6,CQ r f.1,lI t f.2]
theorem ju{x:V}{v:Value}(rx:cC x v)(fx:nK x=η):∀{xs:List V}{us:Ξ},bI xs us->xs.all nK=η->∀u∈us,SeqAt.EqAt A s u v (eqU x u)
 | _,_,.nil,_=>λu hu=>by cases hu
 | y::xs,u::us,.cons r t,f=>λu' hu=>by
  rw [P_,Mg] at f
  rcases B_.mp hu with rfl|hu
  .rw [CQ r f.1];exact GE r rx f.1 fx
  .exact ju rx fx t f.2 u' hu
noncomputable def inV(x:V)(xs:List V):Bool:=xs.any λy=>eqV y x
noncomputable def rIn(K:b_)(neg:Bool):R2:=λx y H Q=>∃p xs,y=.ref p/\(SqL K H p xs\/SqT K H p xs)/\nK x=η/\xs.all nK=η/\Q (.bl (if neg then !inV x xs else inV x xs)) H
def yn:OpR X (compareOp .In) (rIn X.K ξ):=by
 intro pins s σ H x y v u Q I rx ry h;obtain⟨p,xs,rfl,hq,fx,fs,q⟩:=h;cases ry
 rcases hq with hq|hq
 .obtain⟨its,r,pl,hz⟩:=I.list hq;refine SeqAt.in_listAt (eqU x) pl.isList (λw hw=>ju rx fx r fs w (by simpa using hw)) ⟨.bl _,H,I,rfl,?_⟩;rw [show its.toArray.any (eqU x)=its.any (eqU x) by simp,lI r fs];exact q
 .obtain⟨its,r,pl,hz⟩:=I.tuple hq;refine SeqAt.in_tupleAt (eqU x) pl (λw hw=>ju rx fx r fs w (by simpa using hw)) ⟨.bl _,H,I,rfl,?_⟩;rw [show its.toArray.any (eqU x)=its.any (eqU x) by simp,lI r fs];exact q
def qT:OpR X (compareOp .NotIn) (rIn X.K η):=by
 intro pins s σ H x y v u Q I rx ry h;obtain⟨p,xs,rfl,hq,fx,fs,q⟩:=h;cases ry
 rcases hq with hq|hq
 .obtain⟨its,r,pl,hz⟩:=I.list hq;refine SeqAt.notIn_listAt (eqU x) pl.isList (λw hw=>ju rx fx r fs w (by simpa using hw)) ⟨.bl _,H,I,rfl,?_⟩;rw [show its.toArray.any (eqU x)=its.any (eqU x) by simp,lI r fs];exact q
 .obtain⟨its,r,pl,hz⟩:=I.tuple hq;refine SeqAt.notIn_tupleAt (eqU x) pl (λw hw=>ju rx fx r fs w (by simpa using hw)) ⟨.bl _,H,I,rfl,?_⟩;rw [show its.toArray.any (eqU x)=its.any (eqU x) by simp,lI r fs];exact q
def ky:bD X (.builtin "len") (λxs H Q=>∃p ys,xs=[.ref p]/\(SqL X.K H p ys\/SqT X.K H p ys)/\Q (.int ys.length) H):=by
 intro pins s σ H xs us Q I r h;obtain⟨p,ys,rfl,hq,q⟩:=h;obtain⟨u,rfl,rx⟩:=d0 r;cases rx;have hn:=lC
 rcases hq with hq|hq
 .obtain⟨its,r',pl,hz⟩:=I.list hq;have hlen:=r'.length;exact Calls.call_len_list pl.isList (by simp only [we] <;> omega) ⟨.int ys.length,H,I.tok _,⟨s.toks+1,by rw [we,hlen]⟩,q⟩
 .obtain⟨its,r',pl,hz⟩:=I.tuple hq;have hlen:=r'.length;exact len_tuple pl (by simp only [we] <;> omega) ⟨.int ys.length,H,I.tok _,⟨s.toks+1,by rw [we,hlen]⟩,q⟩
def qU:bD X (.builtin "len") (λxs H Q=>∃z,xs=[.str z]/\z.length<=sizeLine/\Q (.int z.length) H):=by
 intro pins s σ H xs us Q I r h;obtain⟨z,rfl,hz,q⟩:=h;obtain⟨u,rfl,t,rfl⟩:=d0 r;have hn:=lC;exact len_str ⋯ ⟨.int z.length,H,I.tok _,⟨_,rfl⟩,q⟩
def bD.or{f:Value}{r r':List V->Hp->VK->Prop}(h:bD X f r)(h':bD X f r'):bD X f (λxs H Q=>r xs H Q\/r' xs H Q):=by
 intro pins s σ H xs us Q I rs q
 rcases q with q|q
 .exact h pins s σ H xs us Q I rs q
 .exact h' pins s σ H xs us Q I rs q
def qV:bD X (.type "list") (λxs H Q=>∃p ys,xs=[.ref p]/\(SqL X.K H p ys\/SqT X.K H p ys)/\∀l,H l=ω->Q (.ref l) (upd H l (.lst ys))):=by
 intro pins s σ H xs us Q I r h;obtain⟨p,ys,rfl,hq,q⟩:=h;obtain⟨u,rfl,rx⟩:=d0 r;cases rx
 have fin:∀(its:Ξ),bI ys its->ys.length<=sizeLine->∀(h':Heap) (c':Nat),(∀b o',s.heap.get? b=ψ o'->h'.get? b=ψ o') ->
   h'.get? s⁻¹=ψ { cls:=.type "list",dict:=ω,data:=.seq its.toArray c',slots:=#[] }->EP X pins σ Q (.ref s⁻¹) { s with heap:=h' }:=λits r' hz h' c' kp e =>
  ⟨.ref s⁻¹,_,I.laid (t':=s.toks) kp (f_ _) (show bN X.prog X.w _ h' _ (.lst ys) from ⟨hz,its,c',r',e⟩),rfl,q _ (I.hok.fresh (f_ _))⟩
 rcases hq with hq|hq
 .obtain⟨its,r',pl,hz⟩:=I.list hq;have hlen:=r'.length;obtain⟨o,ho,hc,n,hd⟩:=pl.isList;exact call_list_seq p (.inl rfl) ho hc hd (λh' c' kp e=>fin its r' hz h' c' kp e) (by simp only [we] <;> omega)
 .obtain⟨its,r',pl,hz⟩:=I.tuple hq;have hlen:=r'.length;obtain⟨o,ho,hc,n,hd⟩:=pl;exact call_list_seq p (.inr rfl) ho hc hd (λh' c' kp e=>fin its r' hz h' c' kp e) (by simp only [we] <;> omega)
def pS:bD X (.type "tuple") (λxs H Q=>∃p ys,xs=[.ref p]/\((SqL X.K H p ys/\∀l,H l=ω->Q (.ref l) (upd H l (.tup ys)))\/(SqT X.K H p ys/\Q (.ref p) H))):=by
 intro pins s σ H xs us Q I r h;obtain⟨p,ys,rfl,h⟩:=h;obtain⟨u,rfl,rx⟩:=d0 r;cases rx
 rcases h with ⟨hq,q⟩|⟨hq,q⟩
 .obtain⟨its,r',pl,hz⟩:=I.list hq;have hlen:=r'.length;refine call_tuple_list pl.isList (λh' kp=>?_) (by simp only [we] <;> omega);have I1:Inv X pins σ H { s with heap:=h' }:=I.kept (t':=s.toks) kp
  have I2:Inv X pins σ (upd H h'.objs.size (.tup ys)) { s with heap:=h'.push { cls:=.type "tuple",data:=.seq its.toArray } } :=
   I1.laid (t':=s.toks) (λb o e=>c_ _ e) (f_ _) (show bN X.prog X.w _ _ _ (.tup ys) from ⟨hz,its,r',IsTup.new _ _⟩)
  exact⟨.ref h'.objs.size,_,I2,rfl,q _ (I1.hok.fresh (f_ _))⟩
 .obtain⟨its,r',pl,hz⟩:=I.tuple hq;exact call_tuple_same pl ⟨.ref p,H,I,rfl,q⟩
noncomputable def tyV(K:b_)(T:String)(x:V)(H:Hp):Prop:=match x with
 | .str _=>T="str"
 | .int _=>T="int"
 | .ref p=>(T="list"/\∃xs,SqL K H p xs)\/(T="tuple"/\∃o,K.lookup p=ψ o/\o.cls=.type "tuple"/\o.dict=ω) \/
   (T="dict"/\((∃kvs,H p=ψ (.dK kvs))\/∃kvs,H p=ψ (.dT kvs)))\/(T="set"/\∃S n,H p=ψ (.set S n))
 | _=>False
def CS{T:String}{x:V}{v:Value}(I:Inv X pins σ H s)(r:cC x v)(ty:tyV X.K T x H):
  s.TypeIs v T/\∀a,v=.ref a->∃ob,s.heap.get? a=ψ ob/\ob.dict=none:=by
 cases x with
 | str z =>
  obtain⟨t,rfl⟩:=r;cases (show T="str" from ty);exact⟨typeIs_str s z t,λ_ e=>nomatch e⟩
 | int i =>
  obtain⟨t,rfl⟩:=r;cases (show T="int" from ty);exact⟨typeIs_int s i t,λ_ e=>nomatch e⟩
 | ref p =>
  cases r
  rcases ty with ⟨rfl,xs,hq⟩|⟨rfl,o,hk,hc,hd⟩|⟨rfl,hk⟩|⟨rfl,S,n,hk⟩
  .obtain⟨its,_,pl,_⟩:=I.list hq;refine⟨pl.isList.typeIs,λa e=>?_⟩;cases e;obtain⟨o,n,e,c,hd,_⟩:=pl;exact⟨o,e,hd⟩
  .refine⟨⟨o,I.kIn p o hk,hc⟩,λa e=>?_⟩;cases e;exact⟨o,I.kIn _ o hk,hd⟩
  .have z:∃o,s.heap.get? p=ψ o/\o.ExactDict:=by
    rcases hk with ⟨kvs,hk⟩|⟨kvs,hk⟩
    .obtain⟨_,_,_,_,o,_,_,e,ex,_⟩:=I.hok p _ hk;exact⟨o,e,ex⟩
    .obtain⟨_,_,_,_,o,_,_,e,ex,_⟩:=I.hok p _ hk;exact⟨o,e,ex⟩
   obtain⟨o,e,ex⟩:=z;refine⟨⟨o,e,ex.1⟩,λa e2=>?_⟩;cases e2;exact⟨o,e,ex.2.1⟩
  .obtain⟨o,_,_,_,e,ex,_⟩:=I.hok p _ hk;refine⟨⟨o,e,ex.1⟩,λa e2=>?_⟩;cases e2;exact⟨o,e,ex.2.1⟩
 | _=>exact Nf ty
noncomputable def K3(K:b_)(T:String)(r:V->List V->Hp->VK->Prop)(to:TE):TE:=λσ H Q=>to σ H λx H1=>tyV K T x H1/\r x [] H1 Q
noncomputable def tBM(K:b_)(T:String)(r:V->List V->Hp->VK->Prop)(to:TE)(t:TA):TE:=λσ H Q=>to σ H λx H1=>tyV K T x H1/\t σ H1 λxs H2=>r x xs H2 Q
variable {o:Expr}{to:TE}{name:Str}{apos cpos:Pos}{T id:String}{r:V->List V->Hp->VK->Prop}
def GF(pa:PlainAttrs T)(slot:Slot T name id)(hty:typeOf (.builtin id)=pure (.type "method_descriptor"))(hm:MtR X id r)(ho:PE X o to)(hbase:attributeBase o name X.env (eval o X.env)=eval o X.env:=by rfl)(hline:(apos.endLine == cpos.line)=true:=by rfl):PE X (.Call (.Attribute o name apos) [] [] cpos) (K3 X.K T r to):=by
 intro pins s σ H Q I h;refine wpAny_Call_method0_late hbase hline (thn (ho pins s σ H _ I h) λv s1 ⟨x,H1,I1,r1,ty,q1⟩=>?_);obtain⟨h1,h2⟩:=CS I1 r1 ty;exact⟨T,id,pa,slot,hty,h1,h2,OX rfl (PySem.evalArgs_none (hm pins s1 σ H1 x [] v [] Q I1 r1 .nil q1))⟩
variable {es:List Expr}{t:TA}
def JG(pa:PlainAttrs T)(slot:Slot T name id)(hty:typeOf (.builtin id)=pure (.type "method_descriptor"))(hm:MtR X id r)(ho:PE X o to)(ha:PA X (e::es) t)(hbase:attributeBase o name X.env (eval o X.env)=eval o X.env:=by rfl)(hfew:((backTo cpos (starEach (e::es) X.env)).all (λx=>!x.1) && (backToKw cpos (keywordEach [] X.env)).all (λx=>x.1.isSome)
   && decide ((e::es).length+([]:List Keyword).length+(if ([]:List Keyword).isEmpty then 0 else 1)<30))=true:=by rfl)(hline:(apos.endLine == cpos.line)=true:=by rfl)(hs:starEach (e::es) X.env=(ξ,eval e X.env)::starEach es X.env:=by rfl)(hplain:(backTo cpos (starEach es X.env)).any (·.1)=false:=by rfl):
  PE X (.Call (.Attribute o name apos) (e::es) [] cpos) (tBM X.K T r to t):=by
 intro pins s σ H Q I h;refine wpAny_Call_method_late hbase hfew hline rfl (thn (ho pins s σ H _ I h) λv s1 ⟨x,H1,I1,r1,ty,q1⟩=>?_);obtain⟨h1,h2⟩:=CS I1 r1 ty;refine⟨T,id,pa,slot,hty,h1,h2,?_⟩;have hA:=ha cpos pins s1 σ H1 _ I1 q1;rw [hs] at hA ⊢;refine OX (by show (ξ || (backTo cpos (starEach es X.env)).any (·.1))=ξ;rw [hplain] <;> rfl) (Calls.evalArgs_plain ?_);exact thn hA λus s2 ⟨vs,H2,I2,r2,q2⟩=>hm pins s2 σ H2 x vs v us Q I2 r1 r2 q2
end
noncomputable def MtM(X:Cx)(id:String)(r:V->List V->Hp->VK->Prop):Prop :=
 ∀(pins:List (Addr×Obj)) (s:d_) (σ:St) (H:Hp) (x:V) (xs:List V) (v:Value) (us:Ξ) (Q:VK),Inv X pins σ H s->cC x v->bI xs us->r x xs H Q ->
  wpAny (model X.prog X.w) X.A (call (.builtin id) (v::us)) (EP X pins σ Q) X.xe s
theorem bI.one:∀{x:V}{us:Ξ},bI [x] us->∃u,us=[u]/\cC x u
 | _,_,.cons r .nil=>⟨_,rfl,r⟩
theorem bI.zero:∀{us:Ξ},bI [] us->us=[]
 | _,.nil=>rfl
def bI.dropLast(h:bI xs us):bI xs.dropLast us.dropLast:=by
 induction h with
 | nil=>exact .nil
 | cons r t ih =>
  cases t with
  | nil=>exact .nil
  | cons q t'=>exact .cons r ih
theorem bI.eraseIdx:∀{xs:List V}{us:Ξ} (i:Nat),bI xs us->bI (xs.eraseIdx i) (us.eraseIdx i)
 | _,_,_,.nil=>.nil
 | _,_,0,.cons _ t=>t
 | _,_,i+1,.cons r t=>.cons r (bI.eraseIdx i t)
def bI.reverse(h:bI xs us):bI xs.reverse us.reverse:=by
 induction h with
 | nil=>exact .nil
 | cons r t ih=>rw [Qs,Qs];exact bI.append ih (.cons r .nil)
theorem bI.rep(h:bI xs us):∀k:Nat,bI (H_ k xs).flatten (H_ k us).flatten
 | 0=>.nil
 | k+1=>by
  rw [Na,Na,MM,MM];exact bI.append h (bI.rep h k)
def wK(l:List α):l.eraseIdx (l.length - 1)=l.dropLast:=by
 induction l with
 | nil=>rfl
 | cons a r ih =>
  cases r with
  | nil=>rfl
  | cons b r =>
   have e:(a::b::r).length - 1=((b::r).length - 1)+1:=by
    have h1:(a::b::r).length=r.length+2:=rfl;have h2:(b::r).length=r.length+1:=rfl;omega
   rw [e,eraseIdx_cons_succ,ih]
   all_goals rfl
theorem qW:∀(l:List α) (i:Nat),(l.eraseIdx i).length<=l.length
 | [],_=>f_ _
 | _::_,0=>le_succ _
 | _::r,i+1=>succ_le_succ (qW r i)
theorem qX(its:Ξ):∀(k:Nat) (acc:Ξ),
  QY (λx1 x2=>x1++x2) acc.toArray (H_ k its.toArray)=(acc++(H_ k its).flatten).toArray
 | 0,acc=>by simp
 | k+1,acc=>by
  have e:acc.toArray++its.toArray=(acc++its).toArray:=by simp
  have e2:(acc++its)++(H_ k its).flatten=acc++(H_ (k+1) its).flatten:=by
   rw [Na,MM,M0]
  rw [<- e2,<- qX its k (acc++its),<- e,Na,Qt]
variable {pins:List (Addr×Obj)}{σ:St}{H:Hp}{s:d_}{l:Addr}{ys:List V}{its:Ξ}{t':Nat}
def Inv.lset{its':Ξ}{f:Array Value->Array Value}(I:Inv X pins σ H s)(hH:H l=ψ (.lst xs))(e:s.heap.get? l=ψ { cls:=.type "list",data:=.seq its.toArray n })(hf:f its.toArray=its'.toArray)(hv:bI ys its')(hz:ys.length<=sizeLine):
  Inv X pins σ (upd H l (.lst ys)) { s with heap:=s.heap.update l (Nq f),toks:=t' }:=by
 have q:=PySem.IsL.update e f;rw [hf] at q;refine I.write (x:=l) (e:=l) (by rw [hH];exact trivial) (.inl rfl) (λb' u hb hu=>(Mx s.heap (Nq f) (Nh hb)).trans hu) ⟨_,q⟩ ?_;exact⟨hz,its',_,hv,q⟩
def Inv.lnew(I:Inv X pins σ H s)(hv:bI ys its)(hz:ys.length<=sizeLine):
  Inv X pins σ (upd H s⁻¹ (.lst ys)) { s with heap:=s.heap.push { cls:=.type "list",data:=.seq its.toArray },toks:=t' } :=
 I.laid (λ_ _ q=>c_ _ q) (f_ _) ⟨hz,its,0,hv,i_ _ rfl⟩
def Inv.fresh(I:Inv X pins σ H s):H s⁻¹=none:=I.hok.fresh (f_ _)
def Inv.lstM(I:Inv X pins σ H s)(hH:H l=ψ (.lst xs)):xs.length<=sizeLine/\∃(its:Ξ) (n:Nat),bI xs its/\xs.length=its.length/\s.heap.get? l=ψ { cls:=.type "list",data:=.seq its.toArray n }:=by
 obtain⟨z,its,n,r,e⟩:=I.hok l _ hH;exact⟨z,its,n,r,r.length,e⟩
def vh(h:n<=sizeLine):NG n=false:=by
 unfold NG;exact decide_eq_false ⋯
noncomputable def yo:V->List V->Hp->VK->Prop:=λx vs H Q=>∃l xs y,x=.ref l/\vs=[y]/\H l=ψ (.lst xs)/\xs.length<sizeLine/\Q .non (upd H l (.lst (xs++[y])))
def dh:MtM X "list.append" yo:=by
 intro pins s σ H x vs v us Q I rx rv h;obtain⟨l,xs,y,rfl,rfl,hH,hz,q⟩:=h;cases rx;obtain⟨u,rfl,ru⟩:=rv.one;obtain⟨z,its,n,r,hl,e⟩:=I.lstM hH;refine OD F.slot_list_append ⟨_,e,rfl⟩ F.entry_list_append (F.args_list_append_2 _ _) (PySem.list_append l its.toArray n u (by rw [we];omega)) ⟨e,?_⟩;refine⟨.non,_,I.lset (its':=its++[u]) hH e (by simp) (r.append (.cons ru .nil)) ?_,rfl,q⟩;rw [kx,length_singleton]
 omega
noncomputable def yp:V->List V->Hp->VK->Prop:=λx vs H Q=>∃l b xs zs,x=.ref l/\vs=[.ref b]/\H l=ψ (.lst xs)/\H b=ψ (.lst zs)/\xs.length+zs.length<=sizeLine/\Q .non (upd H l (.lst (xs++zs)))
def yq:MtM X "list.extend" yp:=by
 intro pins s σ H x vs v us Q I rx rv h;obtain⟨l,b,xs,zs,rfl,rfl,hH,hB,hz,q⟩:=h;cases rx;obtain⟨u,rfl,ru⟩:=rv.one;cases ru;obtain⟨z,its,n,r,hl,e⟩:=I.lstM hH;obtain⟨z2,its2,n2,r2,hl2,e2⟩:=I.lstM hB;have hsz:its.toArray.size+its2.toArray.size<=sizeLine:=by rw [we,we];omega
 have hlong:¬ (!its.toArray.isEmpty && NG (its.toArray.size+its2.toArray.size))=true:=by
  rw [vh hsz,PN];exact l_
 refine OD F.slot_list_extend ⟨_,e,rfl⟩ F.entry_list_extend (F.args_list_extend_2 _ _)
  (AutoSeq1.list_extend_list_list_0 l its.toArray n b its2.toArray n2 hlong (by rw [we];omega) ⋯) ⟨e,e2,?_⟩
 refine⟨.non,_,I.lset (its':=its++its2) hH e (by simp) (r.append r2) ?_,rfl,q⟩;rw [kx];omega
noncomputable def K4:V->List V->Hp->VK->Prop:=λx vs H Q=>∃l xs y,x=.ref l/\vs=[]/\H l=ψ (.lst xs)/\xs[xs.length - 1]?=ψ y/\Q y (upd H l (.lst xs.dropLast))
def GG:MtM X "list.pop" K4:=by
 intro pins s σ H x vs v us Q I rx rv h;obtain⟨l,xs,y,rfl,rfl,hH,hy,q⟩:=h;cases rx;have hus:=rv.zero;subst hus;obtain⟨z,its,n,r,hl,e⟩:=I.lstM hH;obtain⟨u,hu,ru⟩:=r.get hy
 have hy':its.toArray[its.toArray.size - 1]?=ψ u:=by
  show its.toArray[its.length - 1]?=ψ u;rw [<- NY,<- hl];exact hu
 refine OD F.slot_list_pop ⟨_,e,rfl⟩ F.entry_list_pop (F.args_list_pop_1 _) (MeetsSeq.list_pop_last l its.toArray n u hy' (by rw [we];omega)) ⟨e,?_⟩
 refine⟨y,_,I.lset (its':=its.dropLast) hH e ?_ r.dropLast ?_,ru,q⟩
 .show its.toArray.eraseIdxIfInBounds (its.toArray.size - 1)=its.dropLast.toArray;rw [we,PP,wK]
 .rw [length_dropLast];omega
noncomputable def CT:V->List V->Hp->VK->Prop:=λx vs H Q=>∃l xs i k y,x=.ref l/\vs=[.int i]/\H l=ψ (.lst xs)/\-(2^63)<=i/\i<2^63/\seqIndex? i xs.length=ψ k/\xs[k]?=ψ y/\Q y (upd H l (.lst (xs.eraseIdx k)))
def Bg:MtM X "list.pop" CT:=by
 intro pins s σ H x vs v us Q I rx rv h;obtain⟨l,xs,i,k,y,rfl,rfl,hH,h1,h2,hk,hy,q⟩:=h;cases rx;obtain⟨u,rfl,ru⟩:=rv.one;obtain⟨t,rfl⟩:=ru;obtain⟨z,its,n,r,hl,e⟩:=I.lstM hH;obtain⟨w,hw,rw'⟩:=r.get hy
 refine OD F.slot_list_pop ⟨_,e,rfl⟩ F.entry_list_pop (F.args_list_pop_2 _ _)
  (MeetsSeq.list_pop_at l its.toArray n i t k w (fitsIndex_both h1 h2) (by rw [we,<- hl];exact hk) (by rw [<- NY];exact hw) (by rw [we];omega)) ⟨e,?_⟩
 refine⟨y,_,I.lset (its':=its.eraseIdx k) hH e ?_ (r.eraseIdx k) ?_,rw',q⟩
 .show its.toArray.eraseIdxIfInBounds k=(its.eraseIdx k).toArray;rw [PP]
 .have:=qW xs k;omega
noncomputable def K5:R2:=λx y H Q=>∃l k xs,x=.ref l/\y=.int k/\H l=ψ (.lst xs)/\-(2^63)<=k/\k<2^63/\xs.length*k.toNat<=sizeLine /\
 ∀p,H p=ω->Q (.ref p) (upd H p (.lst (H_ k.toNat xs).flatten))
def D5(xs:List α)(k:Nat):(H_ k xs).flatten.length=k*xs.length:=by
 induction k with
 | zero=>simp
 | succ k ih=>rw [Na,MM,kx,ih,Qa,add_comm]
def GH:OpR X (binaryOp .Mult) K5:=by
 intro pins s σ H x y v u Q I rx ry h;obtain⟨l,k,xs,rfl,rfl,hH,h1,h2,hz,q⟩:=h;cases rx;obtain⟨t,rfl⟩:=ry;obtain⟨z,its,n,r,hl,e⟩:=I.lstM hH;have hlen:its.toArray.size*k.toNat<=sizeLine:=by rw [we,<- hl];exact hz
 have hcap:¬ its.toArray.size*k.toNat > (2^63 - 1) / 8:=by
  have:(sizeLine:Nat)<=(2^63 - 1) / 8:=by decide
  omega
 have hfit:¬ (!Builtin.List.listFitsIndex k)=true:=by
  rw [fitsIndex_both h1 h2];exact l_
 have hlong:¬ NG (its.toArray.size*k.toNat)=true:=by
  rw [vh hlen];exact l_
 have hnew:QY (λx1 x2=>x1++x2) #[] (H_ (if its.toArray.isEmpty=η then 0 else k.toNat) its.toArray)=(H_ k.toNat its).flatten.toArray:=by
  have f0:∀m:Nat,QY (λx1 x2=>x1++x2) #[] (H_ m its.toArray)=(H_ m its).flatten.toArray:=λm=>by
   have:=qX its m [];rw [nil_append] at this;exact this
  rw [f0]
  cases its with
  | nil=>simp
  | cons a r'=>rw [if_neg (by simp)]
 refine wpAny_binaryOp_repeat_ref (T:="list") (U:="int") (by decide) ⟨_,e,rfl⟩ (λs'=>typeIs_int s' k t) noFill_list_mul F.fills_int_mul F.slot_int_rmul repeat_list F.slot_int_index.lookup
  (OD F.slot_int_rmul (typeIs_int s k t) F.entry_int_rmul (F.args_int_rmul_2 _ _) (int___rmul___int_list k t l its.toArray n)
   ⟨e,rfl,⟨_,e,rfl⟩,OD F.slot_list_mul ⟨_,e,rfl⟩ F.entry_list_mul (F.args_list_mul_2 _ _) (AutoListH.list___mul___list_int_3 l its.toArray n k t hfit hcap hlong) ⟨e,?_⟩⟩)
 rw [hnew];exact⟨.ref _,_,I.lnew (t':=s.toks) (r.rep k.toNat) (by rw [D5,Nat.mul_comm];exact hz),rfl,q _ I.fresh⟩
end L2
namespace Att
open PySem PySem.W PySem.Calls PyProof.Rows
variable {h:Heap}
def lJ{P:Params}:∀(ns:Λ) (vs:Ξ),WellAll P h vs (ns.map WData.int)->NZ vs ns:=by
 intro ns
 induction ns with
 | nil =>
  intro vs w;rw [P2] at w;cases w;exact .nil
 | cons n ns ih =>
  intro vs w;rw [so] at w
  cases w with
  | cons a b =>
   cases a;exact .cons _ _ (ih _ b)
variable {n:Nat}
def yr{l:OpenLaw}(hn:l.most=ψ n){P:Params}{args:List WData}{vals:Ξ}(hpre:l.row.toRowW.claim.pre args=η)(hwl:WellAll P h vals args):
  ∃a vs ns,vals=[vx a]/\args=[WData.list (ns.map WData.int)]/\h.get? a=ψ { cls:=.type "list",data:=.seq vs.toArray }/\NZ vs ns/\ns.length<=n:=by
 have hsh:WShape.hasAll [] args [.list .int]=true:=(pre_splitW hpre).1;have hc:l.pre.holds [] { args:=args }=true:=(pre_splitW hpre).2;obtain⟨d,r,rfl,h1,h2⟩:=hasAllW_cons hsh;obtain rfl:=hasAllW_nil h2;obtain⟨xs,rfl,h3⟩:=hasW_list h1;obtain⟨ns,rfl⟩:=items_int h3
 have hlen:ns.length<=n:=by
  unfold OpenLaw.pre at hc
  have h4:(WTm.not (.lt (.lit (.int (n:Int))) (.len (.arg 0)))).holds [] { args:=[.list (ns.map .int)] }=true:=by
   have h4:=(holds_andW hc).1;rw [hn] at h4;exact h4
  have h5:=condW_of h4 (w_not (w_lt w_lit (w_len_list (w_arg rfl))));rw [cy] at h5;refine le_of_not_lt λq=>?_;have q':(n:Int)<((ns.length:Nat):Int):=by omega
  first
   | (rw [decide_eq_true q'] at h5;exact absurd h5 (by decide))
   | (simp at h5;omega)
 cases hwl with
 | cons w1 w2 =>
  cases w2
  cases w1 with
  | list ho hall=>exact⟨_,_,ns,rfl,rfl,ho,lJ ns _ hall,hlen⟩
def yt(l:OpenLaw)(args:List WData):l.row.toRowW.claim.post args (.bool η) args=true :=
 postW_of (r:=l.row.toRowW) (X:=(η == η))
  (show WShape.has [] (.bool η) .bool=η by first|rfl|decide|simp [WShape.has,WShape.arms,WShape.armsAll])
  (show (WTm.eq .res (.lit (.bool η))).value [] { args:=args,res:=ψ (.bool η),after:=args }=ψ (.bool (η == η)) from w_eq_bool (w_res rfl) w_lit) rfl
def attach_call{l:OpenLaw}{q:v_}{loose:List Str}{XP:(Θ)->Heap->Prop}{YP:World->Heap->Prop}{d:DefRec}(hn:l.most=ψ n)(hdf:d.params.defaults=[])(call:∀(w:World) (s₀ s₁:d_) (mg mb:Θ) (fa:Addr) (o:Obj) (pm cd doc:Value) (a:Addr) (vs:Ξ) (ns:Λ),
   Ground q loose [] XP w s₀ mg mb s₁.heap->YP w s₁.heap ->
   s₁.heap.get? fa=ψ o->o.data=.func (docDef d.name d.params d.body d.scope pm cd doc)->s₁.heap.CodeRec cd d.name->mg d.name=ψ (.ref fa) ->
   s₁.heap.get? a=ψ { cls:=.type "list",data:=.seq vs.toArray }->NZ vs ns->ns.length<=n->s₁.gens=#[] ->
   codeAny (model l.prog w) callerA (.call (.ref fa) ⟨[.ref a],[]⟩) (λr s'=>r=.ok (.ret (.bool η))/\OldK s₁.heap s'.heap/\s'.os=s₁.os/\PZ s'.gens) s₁):
  WalkO q loose XP YP l.row.toRowW d [] (λf vs=>PySem.call f vs):=by
 intro w s₀ s₁ mg mb G Y fa o pm cd doc dV kV ho hd hcd hD hmg hg args vals as hpre hlay hrd hwl hlo;obtain rfl:dV=.none:=Dflts.none hD hdf;obtain rfl:kV=.none:=Dflts.noKw hD;obtain⟨a,vs,ns,rfl,rfl,hobj,hints,hlen⟩:=yr hn hpre hwl;refine enter_call (OU (call w s₀ s₁ mg mb fa o pm cd doc a vs ns G Y ho (fd_plain hd) hcd hmg hobj hints hlen hg) λr s' hq=>?_);obtain⟨rfl,h2,h3,h4⟩:=hq;exact⟨.inl ⟨.bool η,.bool η,[],rfl,λ_=>rfl,.bool η,yt l _,λ_=>⟨List.Pairwise.nil,λ_ hm=>(nomatch hm)⟩⟩,h2,h3,h4⟩
end Att
namespace L2
open PySem PySem.Spec PyProof.Rows
theorem jw:∀{vs:Ξ}{ns:Λ},NZ vs ns->bI (ns.map V.int) vs
 | _,_,.nil=>.nil
 | _,_,.cons n t h=>.cons ⟨t,rfl⟩ (jw h)
noncomputable def JH(H:Hp):Prop:=∀b,H b=ω\/∃o xs,H b=ψ (.frz o (.lst xs))
variable {w:World}{K:b_}{mg:Θ}{a:Addr}{fd:MY}{x:Str}{ns:Λ}
def Bh{P:v_}{mb:Θ}{CX:CXT}{k:Nat}{fa:Addr}{sp:Sp}{s₁:d_}{vs:Ξ}(KX:K.In s₁.heap)(hns:s₁.heap.Ns mainGlobals mg)(hb:s₁.heap.Ns builtinsNs mb)(hbb:∀x:Str,x≠"__name__"->mb x=bootBuiltins x)(hlim:s₁.heap.NoLimit)(hg:s₁.gens=#[])(ha:s₁.heap.get? a=ψ { cls:=.type "list",data:=.seq vs.toArray })(hi:NZ vs ns)(hl:ns.length<=sizeLine)(hr:eW k callerA)(F:∀base:Heap,K.In base->base.Ns mainGlobals mg->pM P w K mg base CX k fa fd [x] sp)(hbind:∀(s:d_) (u:Value),Qo s fd ⟨[u],[]⟩ [(x,u)])(hsp:∀H:Hp,JH H->SqL K H a (ns.map V.int)->sp [.ref a] H (λv _=>v=.bl η) λ_ _ _=>False)(hCX:∀H e s',CX [] H s₁ (λ_ _ _=>False) e s'->False):
  codeAny (model P w) callerA (.call (.ref fa) ⟨[.ref a],[]⟩) (λr s'=>r=.ok (.ret (.bool η))/\OldK s₁.heap s'.heap/\s'.os=s₁.os/\PZ s'.gens) s₁:=by
 have rv:=jw hi;have lenV:=hi.length
 -- from an abstract heap in which nothing but the script may be tracked
 have core:∀H:Hp,JH H->SqL K H a (ns.map V.int)->HOk P w H s₁.heap->(∀b,H b≠ω->b=a)->(H a≠ω->K.lookup a=ω) ->
   codeAny (model P w) callerA (.call (.ref fa) ⟨[.ref a],[]⟩) (λr s'=>r=.ok (.ret (.bool η))/\OldK s₁.heap s'.heap/\s'.os=s₁.os/\PZ s'.gens) s₁:=by
  intro H hO hS hok hA hK;have base_of:∀{b:Addr}{o:Obj},s₁.heap.get? b=ψ o->H b=ω->(Ge s₁.heap H).get? b=ψ o:=λe n=>AZ e n
  have noA:∀{b:Addr}{o:Obj}{es:Array DictEntry}{ep:Nat},s₁.heap.get? b=ψ o->o.data=.dict es ep->H b=none:=λ{b o es ep} e d=>by
   cases q:H b with
   | none=>rfl
   | some u =>
    have e':b=a:=hA b (by rw [q];simp);subst e';rw [ha] at e;cases e;have d':Data.seq vs.toArray _=Data.dict es ep:=d;cases d'
  have nsK:∀{b:Addr}{m:Θ},s₁.heap.Ns b m->(Ge s₁.heap H).Ns b m:=λ{b m} ⟨o,es,ep,e,d,r⟩=>⟨o,es,ep,base_of e (noA e d),d,r⟩
  have hKb:K.In (Ge s₁.heap H):=λb o e=>base_of (KX b o e) (by
   cases q:H b with
   | none=>rfl
   | some u =>
    have e':b=a:=hA b (by rw [q];simp);subst e';rw [hK (by rw [q];simp)] at e;cases e)
  have hM:Mod K mg (Ge s₁.heap H):=⟨hKb,nsK hns,⟨mb,nsK hb,hbb⟩,let ⟨mc,h1,h2⟩:=hlim;⟨mc,nsK h1,h2⟩⟩
  have e0:DW P w K mg (Ge s₁.heap H) callerA [] s₁ H:=⟨rfl,hM,λb o e=>DL e,Pj (xY _ _),trivial,λb hb=>absurd (show b∈([]:List Addr) from hb) (by simp),hok,.of_eq hg,λ_ _ z=>nomatch (show ([]:List Addr)=_ from z)⟩
  refine OU ((F _ hKb (nsK hns)).run callerA [] s₁ H ⟨[.ref a],[]⟩ [.ref a] [.ref a] _ _ hr e0 (hbind s₁ (.ref a)) (.cons rfl .nil) (hsp H hO hS)) λr s' h=>?_
  cases r with
  | error e=>exact (hCX H e s' h).elim
  | ok fl =>
   cases fl with
   | next=>exact Nf h
   | brk=>exact Nf h
   | cont=>exact Nf h
   | ret u =>
    obtain⟨v,H',os,bare,un,hok',r',q⟩:=h;have q':v=.bl true:=q;subst q';obtain rfl:u=Nc true:=r';refine⟨rfl,OldK.of_keep λb o e=>?_,os,bare⟩
    cases q:H b with
    | none=>exact un.keep b o e q (by intro z;exact absurd (show b∈([]:List Addr) from z) (by simp)) (by simp)
    | some u =>
     rcases hO b with z|⟨ob,xs,z⟩
     .rw [q] at z;cases z
     .have z2:=un.frzs b ob _ z;obtain⟨e1,_⟩:=hok b _ z;obtain⟨e2,_⟩:=hok' b _ z2;rw [e] at e1;cases e1;exact e2
 cases hk:K.lookup a with
 | some o =>
  -- the script is one of the module's own objects
  have e:=KX a o hk;rw [ha] at e;cases e;refine core (λ_=>ω) (λ_=>.inl rfl) (.inr ⟨_,vs.toArray,_,hk,rfl,rfl,rfl,by rw [we,lenV];exact hl,by simpa using rv⟩) (λb u z=>by have z':(ω:Option HO)=ψ u:=z;cases z') (λb z=>absurd rfl z) λz=>absurd rfl z
 | none =>
  refine core (λb=>if b=a then ψ (.frz { cls:=.type "list",data:=.seq vs.toArray } (.lst (ns.map V.int))) else ω) (λb=>?_) (.inl (.inr ⟨{ cls:=.type "list",data:=.seq vs.toArray },if_pos rfl⟩)) (λb u z=>?_) (λb z=>?_) λ_=>hk
  .by_cases hb:b=a
   .exact .inr ⟨_,_,if_pos hb⟩
   .exact .inl (if_neg hb)
  .by_cases hb:b=a
   .have z':=(if_pos hb).symm.trans z;cases z';subst hb;exact⟨ha,by rw [cy];exact hl,vs,_,rv,ha⟩
   .have z':=(if_neg hb).symm.trans z;cases z'
  .by_cases hb:b=a
   .exact hb
   .exact absurd (if_neg hb) z
variable {n:Nat}
def D6{l:QD}{k:Nat}{q:v_}{loose:List Str}{XP:(Θ)->Heap->Prop}{YP:World->Heap->Prop}{d:DefRec}{K:Params->b_}{CX:World->CXT}{sp:World->Sp}(hn:l.most=ψ n)(hn2:n<=sizeLine)(hdf:d.params.defaults=[])(hr:eW k callerA)(hY:∀(w:World) (h:Heap),YP w h->(K w.params).In h)(F:∀(w:World) (mg:Θ) (fa:Addr) (h:Heap),(K w.params).In h->h.Ns mainGlobals mg->mg d.name=ψ (.ref fa) ->
   ∃fd:MY,(∀(s:d_) (u:Value),Qo s fd ⟨[u],[]⟩ [(x,u)]) /\
    ∀base:Heap,(K w.params).In base->base.Ns mainGlobals mg->pM l.prog w (K w.params) mg base (CX w) k fa fd [x] (sp w))(hsp:∀(w:World) (H:Hp) (a:Addr) (ns:Λ),ns.length<=n->JH H->SqL (K w.params) H a (ns.map V.int)->sp w [.ref a] H (λv _=>v=.bl η) λ_ _ _=>False)(hCX:∀(w:World) (H:Hp) (s:d_) (e:Value) (s':d_),CX w [] H s (λ_ _ _=>False) e s'->False):
  PySem.W.WalkO q loose XP YP l.row.toRowW d [] (λf vs=>PySem.call f vs):=by
 refine Att.attach_call hn hdf λw s₀ s₁ mg mb fa o pm cd doc a vs ns G Y ho hd hcd hmg hobj hints hlen hg=>?_;have KX:=hY w _ Y;obtain⟨fd,hb,hF⟩:=F w mg fa _ KX G.T.g hmg;exact Bh KX G.T.g G.T.b G.T.builtins G.T.nolimit hg hobj hints (Mn hlen hn2) hr hF hb (λH hO hS=>hsp w H a ns hlen hO hS) λH e s'=>hCX w H s₁ e s'
noncomputable def yu(s:Stmt)(j:Nat):Stmt:=match s with
 | .ClassDef _ _ _ body _ _ _ _ _ _ _=>body.getD j (.Pass ⟨0,0,0,0⟩)
 | _=>.Pass ⟨0,0,0,0⟩
noncomputable def b9(s:Stmt):Arguments:=match s with
 | .FunctionDef _ a _ _ _ _ _ _ _ _=>a
 | _=>{ posonlyargs:=[],args:=[],vararg:=ω,kwonlyargs:=[],kw_defaults:=[],kwarg:=ω,defaults:=[] }
noncomputable def aU(s:Stmt):List Stmt:=match s with
 | .FunctionDef _ _ b _ _ _ _ _ _ _=>b
 | _=>[]
noncomputable def ai(s:Stmt):Scope:=match s with
 | .FunctionDef _ _ _ _ _ _ sc _ _ _=>sc
 | _=>{ kind:=.function,names:=[],isGenerator:=ξ,isCoroutine:=ξ }
abbrev CX0:CXT:=λ_ _ _ _ _ _=>False
abbrev E0:XK:=λ_ _ _=>False
variable {X:Cx}
def Bj:oN CX0 X E0:=λ_ _ _ _ _ _ _ h=>h.elim
structure Fun (K:b_) (x qual:Str) (st:Stmt) (f:Addr) (fd:MY):Prop where
 ex:∃(oc:Value) (od:Option Addr) (kV doc pm:Value) (an:Option Addr) (cdv ct:Value) (osl:Array (Option Value)),
  fd=Me x qual (b9 st) (aU st) (ai st) .none kV doc pm an cdv ct/\K.lookup f=ψ ⟨oc,od,.func fd,osl⟩/\MH K cdv qual=η
 kp:Mb K (.ref f)=η
section
variable {P:v_}{base:Heap}{qual:Str}{st:Stmt}{N:List Str}
def Fun.ok{f:Addr}{ps:List Str}{k:Nat}{sp:Sp}(F:Fun K x qual st f fd)(S:aE N ps (ai st))(len:∀vs H Q E,sp vs H Q E->vs.length=ps.length)(hbody:∀(cdv:Value) (A:G_) (outer:List Env) (s:d_) (H:Hp) (vs:List V) (Q:VK) (E:XK),eW k (A.deeper (envOfC qual (ai st) s⁻¹ f cdv))->sp vs H Q E ->
   ∃t,PSs (qG CX0 P w K mg base N qual (ai st) f cdv A outer s H E).nox (aU st) t/\t { nx:=λ_ H'=>Q .non H',rt:=Q } (start N vs) H):pM P w K mg base CX0 (k+1) f fd ps sp:=by
 obtain⟨oc,od,kV,doc,pm,an,cdv,ct,osl,rfl,lk,hcd⟩:=F.ex;refine Gz lk hcd S len λA outer s H vs Q E hr hsp=>?_;obtain⟨t,h,q⟩:=hbody cdv A outer s H vs Q E hr hsp;exact⟨t,h.nox,q⟩
def Fun.binds{f:Addr}{ps:List Str}(F:Fun K x qual st f fd)(h:∀(kV doc pm:Value) (an:Option Addr) (cdv ct:Value) (us:Ξ),us.length=ps.length->bindArgs (Me x qual (b9 st) (aU st) (ai st) .none kV doc pm an cdv ct) ⟨us,[]⟩=pure (ps.zip us)):kS K fd ps []:=by
 obtain⟨oc,od,kV,doc,pm,an,cdv,ct,osl,rfl,lk,hcd⟩:=F.ex;exact .all (h kV doc pm an cdv ct)
variable {oc:Value}{od an:Option Addr}{pm ct:Value}
def yv{f:Addr}{osl:Array (Option Value)}{kV doc cdv:Value}(l:K.lookup f=ψ ⟨oc,od,.func (Me x qual (b9 st) (aU st) (ai st) .none kV doc pm an cdv ct),osl⟩)(c:MH K cdv qual=η)(k:Mb K (.ref f)=η):Fun K x qual st f (Me x qual (b9 st) (aU st) (ai st) .none kV doc pm an cdv ct):=⟨⟨oc,od,kV,doc,pm,an,cdv,ct,osl,rfl,l,c⟩,k⟩
end
variable {pos:Pos}
theorem pv(i:Nat)(hN:X.N[i]?=ψ x:=by rfl)(hv:Vis X.env.scope x:=by first|exact Qu rfl|exact Or.inr (Qu rfl)|exact Or.inr (Or.inr rfl))(hd:(x == ("__debug__":Str))=false:=by decide)(hcd:(x == ("__classdict__":Str))=false:=by decide):PE X (.Name x pos) (aS i):=Gf hN hv hd hcd
def S(l:Δ):Str:=⟨l.toArray⟩
def iw(l:Δ):(S l).length=l.length:=by simp [S,Str.length]
def JI(a b:Δ):S a++S b=S (a++b):=by
 show (⟨a.toArray++b.toArray⟩:Str)=⟨(a++b).toArray⟩
 rw [QQ]
def GI{a b:Δ}(h:S a=S b):a=b:=by
 have h':=congrArg (λx:Str=>x.cps.toList) h;simpa [S] using h'
def LK{a b:Δ}(h:a≠b):S a≠S b:=λe=>h (GI e)
def GJ{a b:Δ}:V.str (S a)=V.str (S b) ↔ a=b:=⟨λh=>GI (V.str.inj h),λh=>by rw [h]⟩
def GK(a b:Δ):decide (V.str (S a)=V.str (S b))=decide (a=b):=by
 by_cases h:a=b
 .rw [decide_eq_true h,decide_eq_true (GJ.mpr h)]
 .rw [decide_eq_false h,decide_eq_false (λz=>h (GJ.mp z))]
variable {α:Type}
noncomputable def dO(xs:List α)(lo hi:Option Int):List α:=(xs.drop (HT.sIx xs.length 0 lo)).take (HT.sIx xs.length xs.length hi - HT.sIx xs.length 0 lo)
def bU(xs:List α)(lo hi:Option Int):(dO xs lo hi).length<=xs.length:=by
 unfold dO;rw [MG,MQ];omega
def yw(xs:List V)(lo hi:Option Int):DY xs lo hi=dO xs lo hi:=rfl
def GL(lo hi:Option Int)(n:Nat):Ni lo hi 1 n=(g_ (HT.sIx n n hi - HT.sIx n 0 lo)).map (λk=>HT.sIx n 0 lo+k):=by
 have key:∀(o:Option Int) (d:Nat),d<=n->(match o with|none=>(d:Int)|some i=>max 0 (min (if i<0 then i+(n:Int) else i) (n:Int)))=((HT.sIx n d o:Nat):Int):=by
  intro o d hd
  cases o with
  | none=>rfl
  | some i =>
   show max 0 (min (if i<0 then i+(n:Int) else i) (n:Int))=_;rw [<- HT.clip_eq i n d]
   by_cases h:i<0
   .rw [if_pos h,if_pos h];omega
   .rw [if_neg h,if_neg h];omega
 have k1:=key lo 0 (NJ _);have k2:=key hi n (f_ _);unfold Ni;simp only [show (1:Int) > 0 by decide,if_true];refine Eq.trans (congrArg (λa=>sliceRange a _ 1) k1) (Eq.trans (congrArg (λb=>sliceRange _ b 1) k2) ?_);unfold sliceRange;simp only [show (1:Int) > 0 by decide,if_true];generalize HT.sIx n 0 lo=a;generalize HT.sIx n n hi=b
 have ec:(if (a:Int)<(b:Int) then ((b:Int) - (a:Int)+1 - 1) / 1 else 0).toNat=b - a:=by
  split <;> omega
 rw [ec];apply NL;intro k _;omega
def yx(l:List α)(a m:Nat):((g_ m).map (λk=>a+k)).filterMap (λi=>l[i]?)=(l.drop a).take m:=by
 induction m generalizing a with
 | zero=>simp
 | succ m ih =>
  rw [OY,so,Ms,OQ];have e:((λk=>a+k) ∘ Nat.succ)=λk=>(a+1)+k:=by funext k;simp;omega
  rw [e,ih (a+1)]
  cases h:l[a+0]? with
  | none =>
   have hl:l.length<=a:=by simpa using List.getElem?_eq_none_iff.mp h
   rw [N0 hl,N0 ⋯];simp
  | some v =>
   have hl:a<l.length:=by simpa using (k_.mp h).1
   have hv:l[a]=v:=by simpa using (k_.mp h).2
   rw [drop_eq_getElem_cons hl,hv];rfl
def D7(l:Δ)(lo hi:Option Int):Txt.slice (S l) lo hi=S (dO l lo hi):=by
 have e1:(Ni lo hi 1 (S l).length).filterMap ((S l).cps[·]?)=dO l lo hi:=by
  rw [GL,iw];have e:(λi:Nat=>(S l).cps[i]?)=λi:Nat=>l[i]?:=by funext i;simp [S]
  rw [e];exact yx l _ _
 unfold Txt.slice
 split
 .rename_i h;have h2:(Ni lo hi 1 (S l).length).length=(S l).length:=by simpa using h
  rw [GL,iw,cy,x_] at h2;have a0:=HT.sIx_le l.length 0 (NJ _) lo;have b0:=HT.sIx_le l.length l.length (f_ _) hi;unfold dO
  by_cases hz:l.length=0
  .have:l=[]:=MJ.mp hz;subst this;simp
  .have ha:HT.sIx l.length 0 lo=0:=by omega
   have hb:HT.sIx l.length l.length hi=l.length:=by omega
   rw [ha,hb];simp
 .rw [e1];rfl
def gL(l:List α)(k:Nat):dO l ω (ψ (k:Int))=l.take k:=by
 unfold dO;rw [HT.sIx_nat];show (l.drop 0).take (min k l.length - 0)=l.take k;rw [QX,Q1]
 by_cases h:k<=l.length
 .rw [Pm h]
 .rw [Pd ⋯,M2 (f_ _),M2 ⋯]
def jx(l:List α)(k:Nat):dO l (ψ (k:Int)) ω=l.drop k:=by
 unfold dO;rw [HT.sIx_nat];show (l.drop (min k l.length)).take (l.length - min k l.length)=l.drop k
 by_cases h:k<=l.length
 .rw [Pm h,M2 (by rw [MQ];exact f_ _)]
 .rw [Pd ⋯,sub_self,Qb,N0 ⋯]
def yz(l:List α)(i j:Nat):dO l (ψ (i:Int)) (ψ (j:Int))=(l.drop i).take (j - i):=by
 unfold dO;rw [HT.sIx_nat,HT.sIx_nat]
 by_cases h:i<=l.length
 .rw [Pm h]
  by_cases h2:j<=l.length
  .rw [Pm h2]
  .rw [Pd ⋯,M2 (by rw [MQ];omega),M2 (by rw [MQ];omega)]
 .have e:min i l.length=l.length:=Pd ⋯;rw [e,N0 (f_ _),N0 ⋯,take_nil,take_nil]
noncomputable def K6:V->Option Int->Option Int->Hp->VK->Prop:=λx lo hi H Q=>∃l,x=.str (S l)/\l.length<=sizeLine/\Q (.str (S (dO l lo hi))) H
def GM:SlR X K6:=by
 intro pins s σ H x v vl vu lo hi sl Q I rx hs pl pu h;obtain⟨l,rfl,hz,q⟩:=h;obtain⟨t,rfl⟩:=rx;refine⟨"str",_,slot_str_getitem.lookup,typeIs_str s _ t,?_⟩
 obtain⟨l',hl',el⟩:∃l':Option (Int×Tok),vl=partValue l'/\l'.map (·.1)=lo:=by
  cases pl with
  | none=>exact⟨ω,rfl,rfl⟩
  | int i t=>exact⟨ψ (i,t),rfl,rfl⟩
 obtain⟨u',hu',eu⟩:∃l':Option (Int×Tok),vu=partValue l'/\l'.map (·.1)=hi:=by
  cases pu with
  | none=>exact⟨ω,rfl,rfl⟩
  | int i t=>exact⟨ψ (i,t),rfl,rfl⟩
 subst hl' hu';refine wpAny_getItem_str_slice (l:=l') (u:=u') (st:=ω) hs rfl ?_;have hm:∀t' k,EP X pins σ Q (.str (Txt.slice (S l) lo hi) t') { s with toks:=k }:=λt' k=>⟨.str (S (dO l lo hi)),H,I.tok _,⟨t',by rw [D7]⟩,q⟩
 have hlen:(Txt.slice (S l) lo hi).length<=sizeLine:=Mn (Txt.slice_le _ _ _) (by rw [iw];exact hz);subst el eu;exact post_val_or_str ⟨hlen,hm⟩
noncomputable def xT(l:List α)(n:Int):List α:=(H_ n.toNat l).flatten
def yA(k:Nat)(l acc:Δ):(H_ k l.toArray).foldl (·++·) acc.toArray=(acc++(H_ k l).flatten).toArray:=by
 induction k generalizing acc with
 | zero=>simp
 | succ k ih =>
  rw [Na,Qt,QQ,ih (acc++l),Na,MM,M0]
def JJ(l:Δ)(n:Int):Txt.mul (S l) n=S (xT l n):=by
 unfold Txt.mul xT
 by_cases h:n<1
 .rw [if_pos h];have:n.toNat=0:=by omega
  rw [this];rfl
 .rw [if_neg h]
  split
  .rename_i h2;rw [iw] at h2;simp only [or_eq_true,beq_iff_eq] at h2
   rcases h2 with h2|h2
   .subst h2;simp [S]
   .have:l=[]:=MJ.mp h2;subst this;simp [S]
  .have e:=yA n.toNat l [];show (⟨_⟩:Str)=_
   have e':(H_ n.toNat (S l).cps).foldl (·++·) #[]=((H_ n.toNat l).flatten).toArray:=by
    simpa [S] using e
   rw [e'];rfl
def tD(l:List α)(n:Int):(xT l n).length=n.toNat*l.length:=by
 unfold xT;rw [length_flatten,map_replicate,sum_replicate_nat]
def wL:OpR X (binaryOp .Mult) (λx y H Q=>∃l n,x=.str (S l)/\y=.int n/\-1000000<=n/\n<=1000000/\n.toNat*l.length<=sizeLine/\Q (.str (S (xT l n))) H):=by
 intro pins s σ H x y v u Q I rx ry h;obtain⟨l,n,rfl,rfl,h1,h2,hz,q⟩:=h;obtain⟨t,rfl⟩:=rx;obtain⟨t',rfl⟩:=ry;have hs:sizeLine=16777216:=Pi;have hz':n.toNat*l.length<=16777216:=by rw [<- hs];exact hz
 refine SB.mul ⟨?_,λhn hc=>?_,λhn hc=>?_⟩ λt' k=>⟨.str (S (xT l n)),H,I.tok _,⟨t',by rw [JJ]⟩,q⟩
 .rw [decide_eq_false ⋯,decide_eq_false ⋯];rfl
 .rw [iw];intro hgt
  have hl:l.length<=16777216:=by
   have:1*l.length<=n.toNat*l.length:=Oh _ ⋯;omega
  have hdiv:(2^63 - 1:Int) / 1000000<=(2^63 - 1) / n:=by
   apply le_ediv_of_mul_le ⋯;have:=mul_le_mul_of_nonneg_left h2 (show (0:Int)<=(2^63 - 1) / 1000000 by decide);have e2:((2^63 - 1:Int) / 1000000)*1000000<=2^63 - 1:=by decide
   omega
  have e3:(2^63 - 1:Int) / 1000000=9223372036854:=by decide
  omega
 .rw [iw];have:l.length*n.toNat<=16777216:=by rw [Nat.mul_comm];exact hz'
  exact decide_eq_false ⋯
def yB:OpR X (compareOp .LtE) (λx y H Q=>∃i j,x=.str i/\y=.str j/\Q (.bl (!decide (j.cps.toList<i.cps.toList))) H):=by
 intro pins s σ H x y v u Q I rx ry h;obtain⟨i,j,rfl,rfl,q⟩:=h;obtain⟨t,rfl⟩:=rx;obtain⟨t',rfl⟩:=ry;exact PySem.P.le_str ⟨.bl _,H,I,rfl,q⟩
noncomputable def Its(xs:List V):It:=⟨λi _=>i<xs.length,λi H x H'=>H'=H/\xs[i]?=ψ x,λi _=>xs.length=i⟩
variable {M:Model}{A:G_}{E:Value->d_->Prop}{s:d_}{tg:Expr}{it:Addr}{u:Value}
def yC{Q:Unit->d_->Prop}(hu:∀a,u≠.ref a)(hQ:Q () s):wpAny M A (letOwnedTupleGo tg (.ref it) u) Q E s:=by
 unfold letOwnedTupleGo
 cases tg <;> first
  | exact gV hQ
  | (cases u <;> first
    | exact gV hQ
    | exact absurd rfl (hu _))
variable {xs:List V}
def jy{P:v_}{Pt:Nat->Value->Prop}{St:Nat->Heap->Prop}(W:∀A:G_,A.handled=ω->Walks P w A it [it] [it] n Pt St)(hn:xs.length=n)(hv:∀i v,i<n->Pt i v->∃x,xs[i]?=ψ x/\cC x v)(hsc:∀i v,Pt i v->∀a,v≠.ref a)(hobj:∀i h,St i h->∃o,h.get? it=ψ o/\∀v,o.data≠.cell v)(hfr:∀i h h',St i h->(∀b∈[it],∀o,h.get? b=ψ o->h'.get? b=ψ o)->St i h')(hself:∀(A:G_) (i:Nat) (s:d_) (Q:Value->d_->Prop) (E:Value->d_->Prop),St i s.heap->Q (.ref it) s->wpAny (model P w) A (pyIter (.ref it)) Q E s):
  CN P w K tg (Its xs) [it] it St where
 mem:=by simp
 obj:=λi h st b hb=>by
  have e:b=it:=by simpa using hb
  subst e;exact hobj i h st
 keep:=λi h h' st k=>hfr i h h' st k
 item:=by
  intro X hP hw hK hc i pins s σ H E I hf st hg;subst hP hw hK;obtain⟨f0,f1,f2,f3,f4,f5⟩:=hf it (by simp);refine (W X.A (I.ok.hd hc)).item i s _ _ (by rw [<- hn];exact hg) st λv h' tk hp st' kk=>?_;obtain⟨x,hx,rx⟩:=hv i v (by rw [<- hn];exact hg) hp;have I1:Inv X pins σ H { s with heap:=h',toks:=tk }:=I.turned (λb o hb e=>kk b o (by simpa using hb) e) f0 f1 f3 f4 f5;exact⟨v,rfl,yC (s:={ s with heap:=h',toks:=tk }) (hsc i v hp) ⟨x,H,I1,rx,⟨rfl,hx⟩,st',λb hb=>(hf b hb).1⟩⟩
 done:=by
  intro X hP hw hK hc i pins s σ H E I hf st hg;subst hP hw hK;obtain⟨f0,f1,f2,f3,f4,f5⟩:=hf it (by simp);have e:n=i:=hn.symm.trans hg;subst e;exact (W X.A (I.ok.hd hc)).done s _ _ st λh' tk kk=>⟨rfl,I.turned (λb o hb e=>kk b o (by simpa using hb) e) f0 f1 f3 f4 f5⟩
 self:=hself
noncomputable def gM(l:Δ):List V:=l.map λc=>V.str (S [c])
variable {l:Δ}{i:Nat}
def wM{x:V}(h:(gM l)[i]?=ψ x):∃c,l[i]?=ψ c/\x=.str (S [c]):=by
 unfold gM at h;rw [h_] at h
 cases e:l[i]? with
 | none=>rw [e] at h;cases h
 | some c=>rw [e] at h;exact⟨c,rfl,(w_ h).symm⟩
def jY(l:Δ):(gM l).length=l.length:=cy _
noncomputable def kT(i:Int)(n:Nat):List V:=(g_ n).map λ(k:Nat)=>V.int (i - k)
def jA(i:Int)(n:Nat):(kT i n).length=n:=by simp [kT]
def yD{i:Int}{k:Nat}{x:V}(h:(kT i n)[k]?=ψ x):k<n/\x=.int (i - k):=by
 unfold kT at h;rw [h_] at h
 by_cases hk:k<n
 .rw [Mj hk] at h;exact⟨hk,(w_ h).symm⟩
 .rw [C_ (by simp;omega)] at h;cases h
noncomputable def GN(ta:TA):TI:=λσ H R=>ta σ H λvs H1=>∃i j:Int,vs=[.int i,.int j,.int (-1)]/\(-(2^60)<=i/\i<2^60/\-(2^60)<=j/\j<2^60)/\R (Its (kT i (i - j).toNat)) H1
def iD(i j:Int):t_ i j (-1)=(((i - j).toNat:Nat):Int):=by
 unfold t_;rw [if_neg (by decide)];simp only [neg_neg,ediv_one];split <;> omega
variable {ta:TA}
def yE{a b c:Expr}{p:Pos}(hg:Gl X "range")(hm:X.mg "range"=ω)(ha:PA X [a,b,c] ta)(hs:starEach [a,b,c] X.env=[(ξ,eval a X.env),(ξ,eval b X.env),(ξ,eval c X.env)]:=by rfl)(hs2:starEach [b,c] X.env=[(ξ,eval b X.env),(ξ,eval c X.env)]:=by rfl):
  PI X tg (.Call (.Name "range" p) [a,b,c] [] pos) (GN ta):=by
 intro pins s σ H R I h;refine Call_ (eY I hg hm boot_range (I_ (thn (ha pos pins s σ H _ I h) λus s1 ⟨vs,H1,I1,r1,q1⟩=>?_) (by rw [hs,hs2]) (by rw [hs2];rfl)));obtain⟨i,j,e,⟨q1,q2,q3,q4⟩,q⟩:=q1;subst e
 cases r1 with
 | cons r rr =>
  cases rr with
  | cons r' rr =>
   cases rr with
   | cons r'' rr =>
    cases rr;obtain⟨t,rfl⟩:=r;obtain⟨t',rfl⟩:=r';obtain⟨t'',rfl⟩:=r'';refine call_range_3 (by decide) ?_ (.inl (Qm (by decide)))
    refine wpAny_pyIter_range (QN ..) ?_ ?_
    .unfold Om;rw [iD];simp only [j_,Mg,or_eq_true,decide_eq_true_eq,beq_iff_eq,show ¬ (-1:Int) > 0 by decide,if_false];omega
    have I2:Inv X pins σ H1 { s1 with heap:=s1.heap.push { cls:=.type "range",data:=.fields #[.int i t,.int j t',.int (-1) t''] },toks:=s1.toks }:=I1.kept λb o e=>c_ _ e
    refine⟨_,[(s1.heap.push { cls:=.type "range",data:=.fields #[.int i t,.int j t',.int (-1) t''] }).objs.size],_,Its (kT i (i - j).toNat),H1,rfl,I2.kept (t':=s1.toks) λb o e=>c_ _ e,
     jy (λA hA=>Walks.range hA _ i (-1) (i - j).toNat) (jA _ _) ?_ ?_ ?_ ?_ (λA i s Q E st q=>NP st q),?_,λb hb=>?_,q⟩
    .rintro k v hk ⟨t,rfl⟩
     refine⟨.int (i - k),?_,t,?_⟩
     .unfold kT;rw [h_,Mj hk];rfl
     .have e:i+(k:Int)*(-1)=i - k:=by omega
      rw [e]
    .rintro k v ⟨t,rfl⟩ a z;cases z
    .exact λk h st=>⟨_,st,λv z=>by
      have z':Data.fields _=Data.cell v:=z;cases z'⟩
    .exact λk h h' st kk=>kk _ (by simp) _ st
    .show QM _ _ (i+((0:Nat):Int)*(-1)) ((((i - j).toNat:Nat):Int) - ((0:Nat):Int)) (-1);rw [<- iD];simp only [natCast_zero,Int.zero_mul,Int.add_zero,Q2];exact i_ _ rfl
    .have e:b=(s1.heap.push { cls:=.type "range",data:=.fields #[.int i t,.int j t',.int (-1) t''] }).objs.size:=by simpa using hb
     subst e;exact I2.fpOk (f_ _) (I2.hok.fresh (f_ _))
def tE:bD X (.builtin "isinstance") (λxs H Q=>∃x n t b,xs=[x,.ty n]/\qF X.K H x t/\Nm X.K t (.type n)=ψ b/\Q (.bl b) H):=by
 intro pins s σ H xs us Q I r h;obtain⟨x,n,t,b,rfl,ty,e,q⟩:=h;obtain⟨u,w',rfl,rx,ry⟩:=A4 r;cases (show w'=MX n from ry);exact yj I rx ty e λtk=>⟨.bl b,H,I.tok _,rfl,q⟩
mutual
inductive DV (K:b_) (H:Hp):V->OE->Prop
 | non:DV K H .non .none
 | bl (b:Bool):DV K H (.bl b) (.bool b)
 | int (i:Int):DV K H (.int i) (.int i)
 | str (x:Str):DV K H (.str x) (.str x)
 | lst {a:Addr}{xs:List V}{ds:List OE}:SqL K H a xs->DVs K H xs ds->DV K H (.ref a) (.list ds)
 | tup {a:Addr}{xs:List V}{ds:List OE}:SqT K H a xs->DVs K H xs ds->DV K H (.ref a) (.tuple ds)
inductive DVs (K:b_) (H:Hp):List V->List OE->Prop
 | nil:DVs K H [] []
 | cons {x:V}{d:OE}{xs:List V}{ds:List OE}:DV K H x d->DVs K H xs ds->DVs K H (x::xs) (d::ds)
end
mutual
theorem DV.reads{pins:List (Addr×Obj)}{σ:St}{H:Hp}{s:d_}(I:Inv X pins σ H s):∀{x:V}{d:OE}{u:Value},DV X.K H x d->cC x u->∃as,Reads s.heap u d as
 | _,_,u,.non,r=>by cases (show u=M7 from r);exact⟨_,.none⟩
 | _,_,u,.bl b,r=>by cases (show u=Nc b from r);exact⟨_,.bool b⟩
 | _,_,u,.int i,r=>by obtain⟨t,e⟩:=(show ∃t,u=OH i t from r);subst e;exact⟨_,.int i t⟩
 | _,_,u,.str x,r=>by obtain⟨t,e⟩:=(show ∃t,u=Pa x t from r);subst e;exact⟨_,.str x t⟩
 | _,_,u,.lst (a:=a) hq hs,r=>by
  cases (show u=vx a from r);obtain⟨its,rv,pl,_⟩:=I.list hq;obtain⟨o,ho,hc,n,hd⟩:=pl.isList;obtain⟨as,ra⟩:=DVs.reads I hs rv;exact⟨_,.list ho hc hd ra⟩
 | _,_,u,.tup (a:=a) hq hs,r=>by
  cases (show u=vx a from r);obtain⟨its,rv,pl,_⟩:=I.tuple hq;obtain⟨o,ho,hc,n,hd⟩:=pl;obtain⟨as,ra⟩:=DVs.reads I hs rv;exact⟨_,.tuple ho hc hd ra⟩
theorem DVs.reads{pins:List (Addr×Obj)}{σ:St}{H:Hp}{s:d_}(I:Inv X pins σ H s):∀{xs:List V}{ds:List OE}{us:Ξ},DVs X.K H xs ds->bI xs us->∃as,ReadsAll s.heap us ds as
 | _,_,_,.nil,.nil=>⟨_,.nil⟩
 | _,_,_,.cons h hs,.cons r rs=>by
  obtain⟨as,ra⟩:=DV.reads I h r;obtain⟨bs,rb⟩:=DVs.reads I hs rs;exact⟨_,.cons ra rb⟩
end
noncomputable def JK(K:b_)(neg:Bool):R2:=λx y H Q=>∃da db,DV K H x da/\DV K H y db/\M3 da=η/\M3 db=η/\Q (.bl (if neg then !N7 da db else N7 da db)) H
def GO(hu:X.A.units+64<cLine):OpR X (compareOp .Eq) (JK X.K ξ):=by
 intro pins s σ H x y v u Q I rx ry h;obtain⟨da,db,ha,hb,sa,sb,q⟩:=h;obtain⟨as,ra⟩:=DV.reads I ha rx;obtain⟨bs,rb⟩:=DV.reads I hb ry;exact eq_dataH ra rb sa sb hu ⟨.bl _,H,I,rfl,q⟩
def GP(hu:X.A.units+64<cLine):OpR X (compareOp .NotEq) (JK X.K η):=by
 intro pins s σ H x y v u Q I rx ry h;obtain⟨da,db,ha,hb,sa,sb,q⟩:=h;obtain⟨as,ra⟩:=DV.reads I ha rx;obtain⟨bs,rb⟩:=DV.reads I hb ry;exact ne_dataH ra rb sa sb hu ⟨.bl _,H,I,rfl,q⟩
variable {H:Hp}
theorem DVs.ints:∀ns:Λ,DVs K H (ns.map V.int) (ns.map Qv)
 | []=>.nil
 | n::ns=>.cons (.int n) (DVs.ints ns)
theorem lK:∀ns ms:Λ,Os (ns.map Qv) (ms.map Qv)=decide (ns=ms)
 | [],[]=>by simp [Os]
 | [],_::_=>by simp [Os]
 | _::_,[]=>by simp [Os]
 | a::r,b::t=>by
  simp only [so,Os,N7,lK r t]
  by_cases h:a=b <;> by_cases h':r=t <;> simp [h,h']
def tG:MtR X "str.endswith" (λx xs H Q=>∃a b,x=.str (S a)/\xs=[.str (S b)]/\Q (.bl (decide (b <:+ a))) H):=by
 intro pins s σ H x xs v us Q I rx rs h;obtain⟨a,b,rfl,rfl,q⟩:=h;obtain⟨t,rfl⟩:=rx;obtain⟨u,rfl,t',rfl⟩:=d0 rs
 have e:Txt.endswith (S a) (S b)=decide (b <:+ a):=by
  unfold Txt.endswith OZ;rw [iw,iw]
  have e1:((S a).cps.extract (a.length - b.length) (a.length - b.length+b.length))=((a.drop (a.length - b.length)).take b.length).toArray:=by
   show a.toArray.extract _ _=_;rw [QE,N8];have e2:a.length - b.length+b.length - (a.length - b.length)=b.length:=by omega
   rw [e2]
  rw [e1]
  by_cases h:b <:+ a
  .rw [decide_eq_true h];have hl:=h.length_le;have hd:a.drop (a.length - b.length)=b:=(PQ.mp h).symm;rw [hd];simp [S,hl]
  .rw [decide_eq_false h]
   by_cases hl:b.length<=a.length
   .have hne:¬ (a.drop (a.length - b.length)).take b.length=b:=λz=>h (by
     rw [M2 (by rw [MQ];omega)] at z;exact PQ.mpr z.symm)
    simp only [and_eq_false_imp];intro _;show (((a.drop (a.length - b.length)).take b.length).toArray == b.toArray)=ξ;rw [beq_eq_false_iff_ne];intro z;exact hne (by simpa using congrArg Ql z)
   .rw [decide_eq_false ⋯];rfl
 exact SC.endswith ⟨.bl _,H,I,rfl,by rw [e];exact q⟩
variable {j:Nat}
def di(h:x=S l):PE X (.Constant (.str x) j pos) (tC (.str (S l))):=by
 subst h;exact Gg
def yF:bD X (.builtin "len") (λxs H Q=>∃l,xs=[.str (S l)]/\l.length<=sizeLine/\Q (.int l.length) H):=by
 intro pins s σ H xs us Q I r h;obtain⟨l,rfl,hz,q⟩:=h;exact qU pins s σ H _ us Q I r ⟨S l,rfl,by rw [iw];exact hz,by rw [iw];exact q⟩
noncomputable def GQ:R2:=λx y H Q=>∃l i c,x=.str (S l)/\y=.int i/\l.length<=sizeLine/\atI l i=ψ c/\Q (.str (S [c])) H
def D8:IxR X GQ:=by
 intro value slice pins s σ H x y v u Q I rx ry q hs;obtain⟨l,i,c,rfl,rfl,hz,ha,q⟩:=q;exact GD value slice pins s σ H _ _ v u Q I rx ry ⟨S l,i,c,rfl,rfl,by rw [iw];exact hz,ha,q⟩ hs
def D9:OpR X (binaryOp .Add) (λx y H Q=>∃i j,x=.str (S i)/\y=.str (S j)/\i.length+j.length<=sizeLine/\Q (.str (S (i++j))) H):=by
 intro pins s σ H x y v u Q I rx ry h;obtain⟨i,j,rfl,rfl,hz,q⟩:=h;exact wB pins s σ H _ _ v u Q I rx ry ⟨S i,S j,rfl,rfl,by rw [iw,iw];exact hz,by rw [JI];exact q⟩
def GR:OpR X (compareOp .Eq) (λx y H Q=>∃i j,x=.str (S i)/\y=.str (S j)/\Q (.bl (decide (i=j))) H):=by
 intro pins s σ H x y v u Q I rx ry h;obtain⟨i,j,rfl,rfl,q⟩:=h;exact JA pins s σ H _ _ v u Q I rx ry ⟨rfl,by rw [GK];exact q⟩
def GS:OpR X (compareOp .NotEq) (λx y H Q=>∃i j,x=.str (S i)/\y=.str (S j)/\Q (.bl (!decide (i=j))) H):=by
 intro pins s σ H x y v u Q I rx ry h;obtain⟨i,j,rfl,rfl,q⟩:=h;exact JB pins s σ H _ _ v u Q I rx ry ⟨rfl,by rw [GK];exact q⟩
def GT:OpR X (compareOp .Eq) (rI0 λi j=>.bl (decide (i=j))):=FK λ_ _ _ _ _ _ _ q=>eq_int (by rw [beq_eq_decide_eq];exact q)
def GU:OpR X (compareOp .NotEq) (rI0 λi j=>.bl (!decide (i=j))):=FK λ_ _ _ _ _ _ _ q=>ne_int (by rw [bne,beq_eq_decide_eq];exact q)
def yG:bD X (.builtin "len") (λxs H Q=>∃p ys,xs=[.ref p]/\SqL X.K H p ys/\Q (.int ys.length) H):=by
 intro pins s σ H xs us Q I r h;obtain⟨p,ys,e,hq,q⟩:=h;exact ky pins s σ H xs us Q I r ⟨p,ys,e,.inl hq,q⟩
def yH:bD X (.builtin "len") (λxs H Q=>∃p ys,xs=[.ref p]/\SqT X.K H p ys/\Q (.int ys.length) H):=by
 intro pins s σ H xs us Q I r h;obtain⟨p,ys,e,hq,q⟩:=h;exact ky pins s σ H xs us Q I r ⟨p,ys,e,.inr hq,q⟩
structure Cal (P:v_) (w:World) (K:b_) (mg:Θ) (base:Heap) (k:Nat) (x:Str) (ps:List Str) (sp:Sp):Prop where
 ex:∃(f:Addr) (fd:MY),pM P w K mg base CX0 k f fd ps sp/\kS K fd ps []/\Mb K (.ref f)=η/\mg x=ψ (.ref f)/\∃oc od osl,K.lookup f=ψ ⟨oc,od,.func fd,osl⟩
structure aZ (K:b_) (mg:Θ) (x:Str) (st:Stmt):Prop where
 ex:∃(f:Addr) (fd:MY),Fun K x x st f fd/\mg x=ψ (.ref f)
section
variable {P:v_}{base:Heap}{st:Stmt}{N ps:List Str}{k:Nat}{sp:Sp}
def aZ.ok(D:aZ K mg x st)(S:aE N ps (ai st))(hb:∀(kV doc pm:Value) (an:Option Addr) (cdv ct:Value) (us:Ξ),us.length=ps.length->bindArgs (Me x x (b9 st) (aU st) (ai st) .none kV doc pm an cdv ct) ⟨us,[]⟩=pure (ps.zip us))(len:∀vs H Q E,sp vs H Q E->vs.length=ps.length)(hbody:∀(f:Addr) (cdv:Value) (A:G_) (outer:List Env) (s:d_) (H:Hp) (vs:List V) (Q:VK) (E:XK),eW k (A.deeper (envOfC x (ai st) s⁻¹ f cdv))->sp vs H Q E ->
   ∃t,PSs (qG CX0 P w K mg base N x (ai st) f cdv A outer s H E).nox (aU st) t/\t { nx:=λ_ H'=>Q .non H',rt:=Q } (start N vs) H):Cal P w K mg base (k+1) x ps sp:=by
 obtain⟨f,fd,F,hm⟩:=D.ex
 have lk:∃oc od osl,K.lookup f=ψ ⟨oc,od,.func fd,osl⟩:=by
  obtain⟨oc,od,kV,doc,pm,an,cdv,ct,osl,rfl,lk,hcd⟩:=F.ex;exact⟨oc,od,osl,lk⟩
 exact⟨f,fd,F.ok S len λcdv A outer s H vs Q E hr h=>hbody f cdv A outer s H vs Q E hr h,F.binds hb,F.kp,hm,lk⟩
variable {h:Heap}{oc:Value}{od an:Option Addr}{pm ct:Value}
def aZ.mk'{f:Addr}{osl:Array (Option Value)}{kV doc cdv:Value}(X:K.In h)(G:h.Ns mainGlobals mg)(a:Eo K mainGlobals x=ψ (ψ (.ref f)))(l:K.lookup f=ψ ⟨oc,od,.func (Me x x (b9 st) (aU st) (ai st) .none kV doc pm an cdv ct),osl⟩)(c:MH K cdv x=η)(k:Mb K (.ref f)=η):aZ K mg x st:=⟨f,_,yv (st:=st) l c k,NV X G a⟩
end
section
variable {k:Nat}{ps:List Str}{sp:Sp}{p:Pos}{e:Expr}{es:List Expr}{t:TA}
def GV(C:Cal X.prog X.w X.K X.mg X.base k x ps sp)(hr:eW k X.A)(ha:PA X (e::es) t)(hg:Gl X x:=by rfl)(hdb:(x == ("__debug__":Str))=false:=by decide)(he:starEach (e::es) X.env=(ξ,eval e X.env)::starEach es X.env:=by rfl)(hpl:(backTo pos (starEach es X.env)).any (·.1)=false:=by rfl):PE X (.Call (.Name x p) (e::es) [] pos) (dA sp [] E0 t):=by
 obtain⟨f,fd,F,hb,hk,hm,_⟩:=C.ex;exact yk F hr hg hm hk hb .nil Bj ha hdb he hpl
end
noncomputable def wN(K:b_):Sp:=λvs H Q _=>∃(a:Addr) (ns:Λ),vs=[.ref a]/\SqL K H a (ns.map V.int)/\ns.length<=63/\∀H',Q (.bl η) H'
variable {st:Stmt}
def GW{P:v_}{fa:Addr}{k:Nat}(hfa:mg "law"=ψ (.ref fa))(D:aZ K mg "law" st)(hbind:∀(kV doc pm:Value) (an:Option Addr) (cdv ct:Value) (s:d_) (v:Value),Qo s (Me "law" "law" (b9 st) (aU st) (ai st) .none kV doc pm an cdv ct) ⟨[v],[]⟩ [(x,v)])(h:∀base:Heap,Cal P w K mg base k "law" [x] (wN K)):
  ∃fd:MY,(∀(s:d_) (v:Value),Qo s fd ⟨[v],[]⟩ [(x,v)])/\∀base:Heap,K.In base->base.Ns mainGlobals mg->pM P w K mg base CX0 k fa fd [x] (wN K):=by
 obtain⟨f,fd,F,hm⟩:=D.ex;have e:=hfa.symm.trans hm;cases e;obtain⟨oc,od,kV,doc,pm,an,cdv,ct,osl,rfl,lk,hcd⟩:=F.ex;refine⟨_,λs v=>hbind kV doc pm an cdv ct s v,λbase kb nb=>?_⟩;obtain⟨f',fd',F',_,_,hm',oc',od',osl',lk'⟩:=(h base).ex;have e:=hfa.symm.trans hm';cases e;rw [lk] at lk';cases lk';exact F'
def GX{l:QD}{q:v_}{loose:List Str}{XP:(Θ)->Heap->Prop}{YP:World->Heap->Prop}{d:DefRec}{K:Params->b_}{k:Nat}(hn:l.most=ψ 63)(hdf:d.params.defaults=[])(hr:eW k callerA)(hY:∀(w:World) (h:Heap),YP w h->(K w.params).In h)(F:∀(w:World) (mg:Θ) (fa:Addr) (h:Heap),(K w.params).In h->h.Ns mainGlobals mg->mg d.name=ψ (.ref fa) ->
   ∃fd:MY,(∀(s:d_) (u:Value),Qo s fd ⟨[u],[]⟩ [(x,u)])/\∀base:Heap,(K w.params).In base->base.Ns mainGlobals mg->pM l.prog w (K w.params) mg base CX0 k fa fd [x] (wN (K w.params))):
  PySem.W.WalkO q loose XP YP l.row.toRowW d [] (λf vs=>PySem.call f vs) :=
 D6 (n:=63) (k:=k) (x:=x) (CX:=λ_=>CX0) (sp:=λw=>wN (K w.params)) hn (by decide) hdf hr hY F (λ_ _ a ns hl _ hS=>⟨a,ns,rfl,hS,hl,λ_=>rfl⟩) λ_ _ _ _ _ z=>z
variable {β:Type}
def Ea{f:α->β}{xs:List α}{i:Int}{v:α}(h:atI xs i=ψ v):atI (xs.map f) i=ψ (f v):=by
 unfold atI at h ⊢;rw [cy]
 cases e:ixN xs.length i with
 | none=>rw [e] at h;cases h
 | some j =>
  rw [e] at h;show (xs.map f)[j]?=ψ (f v);have h':xs[j]?=ψ v:=h;rw [h_,h'];rfl
def gA{xs:List α}{i:Int}{v:α}(h:xs[j]?=ψ v)(e:i=(j:Int)):atI xs i=ψ v:=by subst e;exact D0 h
def sz(n:Nat)(h:n<=1000000):n<=sizeLine:=by rw [Pi];omega
def Bk{x:V}(h:(ns.map V.int)[i]?=ψ x):∃z,ns[i]?=ψ z/\x=.int z:=by
 rw [h_] at h
 cases e:ns[i]? with
 | none=>rw [e] at h;cases h
 | some z=>rw [e] at h;exact⟨z,rfl,(w_ h).symm⟩
variable {t:TS}
noncomputable def GY(t:TS):TS:=λD σ H=>∃J:St->Hp->Prop,t { D with nx:=J } σ H/\∀σ' H',J σ' H'->D.nx σ' H'
def fT(h:PS X st t):PS X st (GY t):=by
 intro pins s σ H D I q;obtain⟨J,q1,q2⟩:=q;refine thn (h pins s σ H _ I q1) λf s' r=>?_
 cases f with
 | next=>obtain⟨σ',H',I',r'⟩:=r;exact⟨σ',H',I',q2 σ' H' r'⟩
 | brk=>exact r
 | cont=>exact r
 | ret u=>exact r
def Bl(f:α->β)(xs:List α)(lo hi:Option Int):dO (xs.map f) lo hi=(dO xs lo hi).map f:=by
 unfold dO;rw [cy,Qd,map_drop]
theorem eh{c:Addr}:∀(names:List (Str×MZ)) (n:Nat) (acc:List (Str×Addr)),(cellsFrom n names acc).lookup x=ψ c->(n<=c/\(x,NW)∈names)\/acc.lookup x=ψ c
 | [],n,acc,h=>.inr h
 | (y,k)::r,n,acc,h=>by
  unfold cellsFrom at h
  split at h
  .rename_i hk;have hk':k=.cell:=by simpa using hk
   subst hk'
   rcases eh r (n+1) ((y,n)::acc) h with ⟨h1,h2⟩|h1
   .exact .inl ⟨by omega,n_ _ h2⟩
   .rw [M4] at h1
    cases e:x == y with
    | true =>
     rw [e] at h1;have:n=c:=w_ h1;have ex:x=y:=by simpa using e
     subst ex;exact .inl ⟨by omega,q_⟩
    | false=>rw [e] at h1;exact .inr h1
  .rcases eh r n acc h with ⟨h1,h2⟩|h1
   .exact .inl ⟨h1,n_ _ h2⟩
   .exact .inr h1
theorem fU:∀(names:List (Str×MZ)) (n:Nat) (acc:List (Str×Addr)),(x,NW)∉names->(cellsFrom n names acc).lookup x=acc.lookup x
 | [],_,_,_=>rfl
 | (y,k)::r,n,acc,h=>by
  unfold cellsFrom
  split
  .rename_i hk;have hk':k=.cell:=by simpa using hk
   subst hk';rw [fU r (n+1) _ (λz=>h (n_ _ z)),M4]
   have:(x == y)=false:=by
    rw [beq_eq_false_iff_ne];intro e;subst e;exact h q_
   rw [this]
  .exact fU r n acc (λz=>h (n_ _ z))
theorem fV{y:Str}{c:Addr}:∀(names:List (Str×MZ)) (n:Nat) (acc:List (Str×Addr)),(∀z d,acc.lookup z=ψ d->d<n) ->
  (cellsFrom n names acc).lookup x=ψ c->(cellsFrom n names acc).lookup y=ψ c->n<=c->x=y
 | [],n,acc,ha,h1,h2,hc=>absurd (ha x c h1) (not_lt.mpr hc)
 | (z,k)::r,n,acc,ha,h1,h2,hc=>by
  unfold cellsFrom at h1 h2
  split at h1
  .rename_i hk;rw [if_pos hk] at h2
   have ha':∀w d,((z,n)::acc).lookup w=ψ d->d<n+1:=λw d e=>by
    rw [M4] at e
    cases q:w == z with
    | true=>rw [q] at e;cases e;exact Mu _
    | false=>rw [q] at e;exact NH (ha w d e)
   by_cases hcn:n+1<=c
   .exact fV r (n+1) _ ha' h1 h2 hcn
   .have e:c=n:=Nat.le_antisymm (not_lt.mp hcn) hc;subst e
    have key:∀w:Str,(cellsFrom (c+1) r ((z,c)::acc)).lookup w=ψ c->w=z:=λw hw=>by
     rcases eh r (c+1) _ hw with ⟨q,_⟩|q
     .exact absurd q (not_succ_le_self _)
     .rw [M4] at q
      cases q2:w == z with
      | true=>simpa using q2
      | false=>rw [q2] at q;exact absurd (ha w c q) (Md _)
    rw [key x h1,key y h2]
  .rename_i hk;rw [if_neg hk] at h2;exact fV r n acc ha h1 h2 hc
noncomputable def iT(env:Env):List (Str×MZ)->List (Str×Addr)->List (Str×Addr)
 | [],acc=>acc
 | (n,k)::r,acc=>if (k == .free)=true then iT env r ((n,(env.cells.lookup n).getD 0)::acc) else iT env r acc
variable {env:Env}
theorem fW{c:Addr}:∀(names:List (Str×MZ)) (acc:List (Str×Addr)),(iT env names acc).lookup x=ψ c->((x,Ot)∈names/\c=(env.cells.lookup x).getD 0)\/acc.lookup x=ψ c
 | [],acc,h=>.inr h
 | (y,k)::r,acc,h=>by
  unfold iT at h
  split at h
  .rename_i hk;have hk':k=.free:=by simpa using hk
   subst hk'
   rcases fW r _ h with ⟨h1,h2⟩|h1
   .exact .inl ⟨n_ _ h1,h2⟩
   .rw [M4] at h1
    cases e:x == y with
    | true =>
     rw [e] at h1;have ex:x=y:=by simpa using e
     subst ex;exact .inl ⟨q_,(w_ h1).symm⟩
    | false=>rw [e] at h1;exact .inr h1
  .rcases fW r acc h with ⟨h1,h2⟩|h1
   .exact .inl ⟨n_ _ h1,h2⟩
   .exact .inr h1
theorem jB:∀(names:List (Str×MZ)) (acc:List (Str×Addr)),((x,Ot)∈names\/(acc.lookup x).isSome=η)->((iT env names acc).lookup x).isSome=η
 | [],acc,h=>h.elim (λz=>nomatch z) id
 | (y,k)::r,acc,h=>by
  unfold iT
  split
  .rename_i hk;refine jB r _ ?_
   by_cases e:(x == y)=η
   .exact .inr (by rw [M4,e];rfl)
   .rcases h with h|h
    .rcases B_.mp h with z|z
     .cases z;exact absurd (by simp) e
     .exact .inl z
    .exact .inr (by rw [M4];rw [not_eq_true] at e;rw [e];exact h)
  .rename_i hk;refine jB r acc ?_
   rcases h with h|h
   .rcases B_.mp h with z|z
    .cases z;exact absurd rfl hk
    .exact .inl z
   .exact .inr h
variable {scope:Scope}
def gC(h:∀x∈scope.names,x.2=.free->∃c,env.cells.lookup x.1=ψ c):closureFor scope env=pure (iT env scope.names []):=by
 unfold closureFor
 have key:∀(names:List (Str×MZ)) (acc:List (Str×Addr)),(∀x∈names,x.2=.free->∃c,env.cells.lookup x.1=ψ c) ->
   (forIn names acc λ(x:Str×MZ) (r:List (Str×Addr))=>(if (x.2 == Ot)=η then do let y <- cellOf env x.1;pure (MS ((x.1,y)::r)) else pure (MS r):Sem _))=pure (iT env names acc):=by
  intro names
  induction names with
  | nil=>intro acc _;rfl
  | cons p r ih =>
   intro acc hp;obtain⟨n,k⟩:=p;rw [Qw];have hr:∀x∈r,x.2=.free->∃c,env.cells.lookup x.1=ψ c:=λx hx=>hp x (n_ _ hx);unfold iT
   by_cases hk:(k == Ot)=η
   .obtain⟨c,hc⟩:=hp (n,k) q_ (by simpa using hk);have hc':env.cells.lookup n=ψ c:=hc;have e1:cellOf env n=pure c:=by unfold cellOf;rw [hc']
    simp only [hk,if_true];rw [e1,hc'];simp only [pure_bind];exact ih _ hr
   .rw [if_neg hk,if_neg hk];simp only [pure_bind];exact ih _ hr
 have e:=key scope.names [] h;have e2:∀(m:Sem (List (Str×Addr))),(m >>= λr=>pure r)=m:=λm=>bind_pure m;rw [<- e]
 first
  | rfl
  | exact (e2 _)
noncomputable def pT(scope:Scope)(C:Addr)(env:Env):Env :=
 { scope:=relabel scope env,locals:=C,globals:=env.globals,cells:=cellsFrom (C+1) scope.names (iT env scope.names []),qual:=env.qual,func:=ω,code:=env.code,frame:=env.frame,builtins:=env.builtins }
noncomputable def bf(X:Cx)(N':List Str)(scope:Scope)(s:d_)(H:Hp)(fp:List Addr)(pins:List (Addr×Obj)):Cx :=
 { X with N:=N',s₀:=s,H₀:=H,env:=pT scope s⁻¹ X.env,outer:=X.stack,stack:=X.stack,ex:=fp,fn:=λx=>decide ((x,NW)∈scope.names),pn:=X.pn++pins,xe:=λ_ _=>False }
noncomputable def lN(sc0:Scope)(N:List Str)(scope:Scope)(N':List Str)(ix:List (Option Nat)):Bool :=
 decide (scope.kind=.function) && scope.names.all (λy=>(!decide (y.2=.local) || decide (scope.names.lookup y.1=ψ .local)) &&
  (!decide (y.2=.free) || ((decide (sc0.names.lookup y.1=ψ .cell) || decide (sc0.names.lookup y.1=ψ .free)) && !decide ((y.1,NW)∈scope.names)))) &&
 decide (N'.length=ix.length) && (N'.zip ix).all (λp=>match p.2 with|none=>η|some j=>decide (N[j]?=ψ p.1) && decide (scope.names.lookup p.1=ψ .free))
structure vk (env:Env) (N:List Str) (scope:Scope) (N':List Str) (ix:List (Option Nat)):Prop where
 kind:scope.kind=.function
 loc:∀y∈scope.names,y.2=.local->scope.names.lookup y.1=ψ .local
 free:∀y∈scope.names,y.2=.free->(env.kindOf y.1=ψ .cell\/env.kindOf y.1=ψ .free)/\(y.1,NW)∉scope.names
 len:N'.length=ix.length
 slot:∀(i:Nat) (x:Str) (j:Nat),N'[i]?=ψ x->ix[i]?=ψ (ψ j)->N[j]?=ψ x/\scope.names.lookup x=ψ .free
variable {N:List Str}{ix:List (Option Nat)}
def lO{N':List Str}(h:lN env.scope N scope N' ix=η):vk env N scope N' ix:=by
 unfold lN at h;simp only [Mg,decide_eq_true_eq,N9] at h;obtain⟨⟨⟨h1,h2⟩,h3⟩,h4⟩:=h
 refine⟨h1,λy hy e=>?_,λy hy e=>?_,h3,λi x j e1 e2=>?_⟩
 .have:=(h2 y hy).1;rw [e] at this;simpa using this
 .have:=(h2 y hy).2;rw [e] at this;simpa [Env.kindOf] using this
 .have hm:(x,ψ j)∈N'.zip ix:=by
   refine Mc (i:=i) ?_;rw [getElem?_zip_eq_some];exact⟨e1,e2⟩
  have:=h4 _ hm;simpa using this
noncomputable def rlf(env:Env)(p:Str×MZ):Str×MZ:=match p with|(n,k)=>if (k == Ot && env.scope.kind == .function && env.kindOf n == ψ .cell) then (n,.cell) else (n,k)
def yI(env:Env)(n:Str)(k:MZ):∃k',rlf env (n,k)=(n,k')/\(k'=k\/(k=.free/\k'=.cell)):=by
 unfold rlf
 by_cases c:(k == Ot && env.scope.kind == .function && env.kindOf n == ψ .cell)=η
 .refine⟨.cell,if_pos c,.inr ⟨?_,rfl⟩⟩;simp only [Mg,beq_iff_eq] at c;exact c.1.1
 .exact⟨k,if_neg c,.inl rfl⟩
theorem vm{env:Env}:∀{names:List (Str×MZ)}{x:Str},names.lookup x=ψ .free->(names.map (rlf env)).lookup x=ψ .cell\/(names.map (rlf env)).lookup x=ψ .free
 | [],_,h=>by simp at h
 | (n,k)::r,x,h=>by
  have ih:=@vm env r x;obtain⟨k',e,hk'⟩:=yI env n k;rw [so,e]
  cases hx:x == n with
  | true =>
   simp only [M4,hx] at h ⊢;have hk:k=.free:=w_ h
   rcases hk' with z|z
   .right;rw [z,hk]
   .left;rw [z.2]
  | false =>
   simp only [M4,hx] at h ⊢;exact ih h
theorem pU{env:Env}:∀{names:List (Str×MZ)}{x:Str}{k':MZ},(names.map (rlf env)).lookup x=ψ k'->k'=.cell\/k'=.free->names.lookup x=ψ .cell\/names.lookup x=ψ .free
 | [],_,_,h,_=>by simp at h
 | (n,k)::r,x,k',h,hk'=>by
  have ih:=@pU env r x k';obtain⟨k2,e,hk2⟩:=yI env n k;rw [so,e] at h
  cases hx:x == n with
  | true =>
   simp only [M4,hx] at h ⊢;have:k2=k':=w_ h;subst this
   rcases hk2 with z|z
   .rw [<- z]
    rcases hk' with q|q
    .left;rw [q]
    .right;rw [q]
   .right;rw [z.1]
  | false =>
   simp only [M4,hx] at h ⊢;exact ih h hk'
def qY{c:Addr}:∀(names:List (Str×MZ)) (n:Nat) (acc:List (Str×Addr)),(cellsFrom n names acc).lookup x=ψ c->(x,c)∈cellsFrom n names []\/acc.lookup x=ψ c:=by
 have app:∀(names:List (Str×MZ)) (n:Nat) (acc:List (Str×Addr)),cellsFrom n names acc=cellsFrom n names []++acc:=by
  intro names
  induction names with
  | nil=>intro n acc;rfl
  | cons p r ih =>
   intro n acc;obtain⟨y,k⟩:=p;unfold cellsFrom
   split
   .rw [ih (n+1) ((y,n)::acc),ih (n+1) [(y,n)],M0];rfl
   .exact ih n acc
 intro names n acc h;rw [app] at h;rw [lookup_append] at h
 cases e:(cellsFrom n names []).lookup x with
 | some d =>
  rw [e] at h;have:d=c:=by simpa using h
  subst this;exact .inl (mem_of_lookup e)
 | none=>rw [e] at h;exact .inr (by simpa using h)
noncomputable def qZ(ix:List (Option Nat))(σ:St):St:=ix.map λo=>match o with
 | none=>ω
 | some j=>match σ[j]? with
  | some v=>v
  | none=>ω
variable {pins:List (Addr×Obj)}{σ:St}
def vn{N':List Str}{fp:List Addr}(ok:vk X.env X.N scope N' ix)(I:Inv X pins σ H s)(hf:∀b∈fp,tw X pins H b)(hfl:∀b∈fp,b<s⁻¹):
  Inv (bf X N' scope s H fp pins) [] (qZ ix σ) H { s with heap:=pushCells (s.heap.push { cls:=.type "dict",data:=.dict #[] }) scope.names }:=by
 have hk4:∀b o,s.heap.get? b=ψ o->(pushCells (s.heap.push { cls:=.type "dict",data:=.dict #[] }) scope.names).get? b=ψ o:=λb o e=>Pn _ _ b o (c_ _ e)
 have hclo:∀x c,(iT X.env scope.names []).lookup x=ψ c->X.env.cells.lookup x=ψ c:=λx c e=>by
  rcases fW scope.names [] e with ⟨h1,h2⟩|h1
  .obtain⟨d,hd⟩:=I.ok.has x (ok.free _ h1 rfl).1;rw [hd] at h2 ⊢;rw [h2];rfl
  .cases h1
 have hcl:∀x c,X.env.cells.lookup x=ψ c->c<s⁻¹:=λx c e=>by
  obtain⟨v,q⟩:=I.cell x c e;exact q.lt
 have own:=cellsFrom_ok scope.names (s.heap.push { cls:=.type "dict",data:=.dict #[] }) (s⁻¹+1) [] ⟨λ_ _ hm=>(nomatch hm),List.Pairwise.nil⟩ (by rw [Mi];exact f_ _);rw [Mi] at own
 have cases:∀x c,(cellsFrom (s⁻¹+1) scope.names (iT X.env scope.names [])).lookup x=ψ c ->
   ((pushCells (s.heap.push { cls:=.type "dict",data:=.dict #[] }) scope.names).IsCell c ω/\s⁻¹+1<=c)\/X.env.cells.lookup x=ψ c:=λx c e=>by
  rcases qY _ _ _ e with h|h
  .exact .inl (own.empty x c h)
  .exact .inr (hclo x c h)
 have fs':∀b,b∈frs X.stack->b<s⁻¹:=λb hb=>by
  rcases B_.mp (I.stkSub b hb) with z|z
  .rw [z];exact I.lt
  .by_cases q:b<s⁻¹
   .exact q
   .exact absurd z (I.nofs (not_lt.mp q))
 have cix:(bf X N' scope s H fp pins).Ok:=by
  refine⟨I.ok.mod,ok.kind,I.ok.glob,I.ok.blt,f_ _,λx y c h1 h2=>?_,λx hx=>?_,λx c hx e=>?_,I.ok.hd,I.ok.frames,.inl rfl,λb hb=>⟨Mh (hfl b hb),λx c e=>?_⟩,λb o e=>I.bs b o e,Mn I.ok.bsz I.sz,λb o e hb=>?_,λb hb=>?_,I.stack,I.stkFree,I.ok.tb.un I.base⟩
  .rcases cases x c h1 with ⟨_,z⟩|z
   .exact fV scope.names _ _ (λw d e=>NH (hcl w d (hclo w d e))) h1 h2 z
   .rcases cases y c h2 with ⟨_,z2⟩|z2
    .exact absurd (hcl x c z) (not_lt.mpr (Pg z2))
    .exact I.ok.inj x y c z z2
  .have hx':scope.names.lookup x=ψ .cell\/scope.names.lookup x=ψ .free:=by
    rcases hx with z|z
    .exact pU (env:=X.env) z (.inl rfl)
    .exact pU (env:=X.env) z (.inr rfl)
   rcases hx' with z|z
   .exact NE.mp (NQ scope.names _ _ (.inl z))
   .exact NE.mp (NQ scope.names _ _ (.inr (jB _ _ (.inl (mem_of_lookup z)))))
  .have hx':(x,NW)∈scope.names:=of_decide_eq_true hx
   rcases cases x c e with ⟨_,z⟩|z
   .exact Pg z
   .rcases qY _ _ _ e with h|h
    .exact Pg (own.empty x c h).2
    .rcases fW scope.names [] h with ⟨h1,_⟩|h1
     .exact absurd hx' (ok.free _ h1 rfl).2
     .cases h1
  .intro z
   rcases cases x c e with ⟨_,z2⟩|z2
   .rw [z] at z2;exact absurd (hfl b hb) (not_lt.mpr (Pg z2))
   .exact (hf b hb).2.2.2.2.1 x c z2 z
  .rcases (hf b hb).2.2.2.1 with z|z
   .exact I.ok.noex b o e z
   .exact absurd (m_ (I.ok.bs b o e).1) (not_lt.mpr z)
  .intro z
   rcases B_.mp (I.stkSub b z) with q|q
   .exact (hf b hb).2.1 q
   .exact (hf b hb).2.2.1 q
 refine⟨cix,rfl,I.bare,Un.kept hk4,⟨λ_=>ω,?_,λi x v e1 e2 e3=>?_⟩,λx c e=>?_,I.hok.fresh (f_ _),λx c e=>?_,λp hp=>?_,I.hok.kept hk4,?_⟩
 .exact (Heap.Ns.new s.heap (.type "dict")).keeps (Pn _ _)
 .have e2':∃j,ix[i]?=ψ (ψ j)/\σ[j]?=ψ (ψ v):=by
   unfold qZ at e2;rw [h_] at e2
   cases q:ix[i]? with
   | none=>rw [q] at e2;cases e2
   | some o =>
    rw [q] at e2
    cases o with
    | none=>cases (w_ e2)
    | some j =>
     refine⟨j,rfl,?_⟩;have e2'':(match σ[j]? with|some v=>v|none=>ω)=ψ v:=w_ e2
     cases r:σ[j]? with
     | none=>rw [r] at e2'';cases e2''
     | some w=>rw [r] at e2'';exact congrArg ψ e2''
  obtain⟨j,hj,hv⟩:=e2';obtain⟨hN,hfr⟩:=ok.slot i x j e1 hj;have hk:=(ok.free _ (mem_of_lookup hfr) rfl).1
  have hvis:Vis X.env.scope x:=by
   rcases hk with z|z
   .exact .inr (.inl z)
   .exact .inr (.inr z)
  obtain⟨m,hn,hl⟩:=I.loc;obtain⟨u,ru,lk⟩:=hl j x v hN hv hvis
  refine⟨u,ru,.inr ⟨?_,?_⟩⟩
  .exact vm (env:=X.env) hfr
  .rcases lk with ⟨z,_⟩|⟨_,c,hc,hcell⟩
   .rcases hk with q|q
    .rw [z] at q;cases q
    .rw [z] at q;cases q
   .refine⟨c,?_,hcell.keeps hk4⟩;show (cellsFrom (s⁻¹+1) scope.names (iT X.env scope.names [])).lookup x=ψ c;rw [fU scope.names _ _ (ok.free _ (mem_of_lookup hfr) rfl).2];obtain⟨d,hd⟩:=NE.mp (jB (env:=X.env) scope.names [] (.inl (mem_of_lookup hfr)));rw [hd,<- hclo x d hd,hc]
 .rcases cases x c e with ⟨z,_⟩|z
  .exact⟨ω,z⟩
  .obtain⟨v,q⟩:=I.cell x c z;exact⟨v,q.keeps hk4⟩
 .rcases cases x c e with ⟨_,z⟩|z
  .exact I.hok.fresh (Pg z)
  .exact I.freeC x c z
 .have hp':p∈X.pn++pins:=by simpa [bf] using hp
  obtain⟨q1,q2,q3,q4,q5⟩:=I.pin p hp';refine⟨hk4 _ _ q1,q2,Mh (m_ q1),λz=>?_,q5⟩
  rcases B_.mp (I.stkSub p.1 z) with q|q
  .exact q3 q
  .exact q4 q
 .unfold qZ;rw [cy];exact ok.len.symm
variable {qual:Str}
def eA{globals:Addr}{cl:List (Str×Addr)}{func:Option Addr}{code:Value}{Q:Env->d_->Prop}(hQ:Q { scope:=scope,locals:=s⁻¹,globals:=globals,cells:=cellsFrom (s⁻¹+1) scope.names cl,qual:=qual,func:=func,code:=env.code,frame:=env.frame,builtins:=env.builtins }
   { s with heap:=pushCells (s.heap.push { cls:=.type "dict",data:=.dict #[] }) scope.names }):
  wpAny M A (newFunctionEnv scope globals cl [] qual func code (ψ env)) Q E s:=by
 simp only [newFunctionEnv,Option.isSome_some,if_true];refine cn (wpAny_alloc ?_);refine cn (wpAny_layCells _ (λname kind cells=>by cases hkc:kind == NW <;> simp [hkc]) _ _ _ _ ?_);rw [show ({ s with heap:=s.heap.push { cls:=.type "dict",data:=.dict #[] } }:d_).heap.objs.size=s⁻¹+1 from Mi ..];simp only [forIn_nil];exact cn (gV (gV hQ))
variable {prog:v_}{R:Result->d_->Prop}
theorem rc{elt target iter:Expr}{ifs:List Expr}{it acc:Value}(I:Nat->d_->Prop)(turn:∀n s,I n s->wpAny (model prog w) A (pyNext it) (λr s₁=>match r with
   | none=>R (.ok .next) s₁
   | some v=>wpAny (model prog w) A (letOwnedTupleGo target it v) (λ_ s₂=>wpAny (model prog w) A (assign target env v) (λ_ s₃ =>
     wpAny (model prog w) A (forIn ifs η λc r=>if r=η then do let ok <- isTrue c env (eval c env);pure (MS ok) else pure (MS r)) (λok s₄ =>
      if ok=η then wpAny (model prog w) A (eval elt env) (λx s₅ =>
       wpAny (model prog w) A (call (.builtin "list.append") [acc,x]) (λ_ s₆=>∃m,m<n/\I m s₆) (λ_ _=>False) s₅) (λ_ _=>False) s₄
      else ∃m,m<n/\I m s₄) (λ_ _=>False) s₃) (λ_ _=>False) s₂) (λ_ _=>False) s₁) (λ_ _=>False) s)(n:Nat)(h:I n s):
  codeAny (model prog w) A (.compLoop (.ListComp elt [⟨target,iter,ifs,0⟩] scope pos) 0 it acc env) R s:=by
 refine codeAny_loop rfl I (λn s hI=>?_) n h;show wpAny _ A ((compTurn (.ListComp elt [⟨target,iter,ifs,0⟩] scope pos) 0 it acc env).onRaise (λx=>do noteFrame x env;theTreesLotGoes x)) _ _ s;refine wpAny_noted ?_;rw [compTurn_list];refine cn (Nj (cn (Ml (turn n s hI) (λr s₁ h₁=>?_) λ_ _ h'=>h'.elim)))
 cases r with
 | none=>exact gV h₁
 | some v =>
  refine cn (Ml h₁ (λ_ s₂ h₂=>?_) λ_ _ h'=>h'.elim);refine cn (Ml h₂ (λ_ s₃ h₃=>cn (Ml h₃ (λok s₄ h₄=>?_) λ_ _ h'=>h'.elim)) λ_ _ h'=>h'.elim)
  cases ok with
  | false=>exact gV ⟨rfl,h₄⟩
  | true =>
   exact cn (cn (Ml h₄ (λx s₅ h₅=>cn (Ml h₅ (λ_ s₆ h₆=>gV (gV ⟨rfl,h₆⟩)) λ_ _ h'=>h'.elim)) λ_ _ h'=>h'.elim))
noncomputable def PIf(X:Cx)(ifs:List Expr)(t:TT):Prop :=
 ∀(pins:List (Addr×Obj)) (s:d_) (σ:St) (H:Hp) (Q:Bool->Hp->Prop),Inv X pins σ H s->t σ H Q ->
  wpAny (model X.prog X.w) X.A (forIn ifs η λc r=>if r=η then do let ok <- isTrue c X.env (eval c X.env);pure (MS ok) else pure (MS r)) (TP X pins σ Q) X.xe s
def iU:TT:=λ_ H Q=>Q η H
def bu:PIf X [] iU:=λ_ _ _ H _ I h=>wpAny_tests_nil ⟨H,I,h⟩
def iV{c:Expr}{t:TT}(h:PT X c t):PIf X [c] t:=λpins s σ H Q I q=>wpAny_tests_one (h pins s σ H Q I q)
noncomputable def wO(ix:List (Option Nat))(wi:TI)(g:TG)(tts:TT)(te:TE):TE:=λσ H Q=>wi σ H λJ H1=>∀D,H1 D=ω->∃W:Nat->Nat->St->Hp->Prop,(∃m,W 0 m (qZ ix σ) (upd H1 D (.lst [])))/\∀i m τ H2,W i m τ H2 ->
 (J.stop i H2/\Q (.ref D) H2)\/(J.go i H2/\∀x H3,J.yld i H2 x H3->g x τ H3 λτ2 H4=>tts τ2 H4 λok H5=>if ok=η then te τ2 H5 λv H6=>∃ys,H6 D=ψ (.lst ys)/\ys.length<sizeLine/\∃m',m'<m/\W (i+1) m' τ2 (upd H6 D (.lst (ys++[v])))
  else ∃m',m'<m/\W (i+1) m' τ2 H5)
variable {iter elt:Expr}{ifs:List Expr}{N':List Str}{wi:TI}{g:TG}{tts:TT}{te:TE}
def re{use:Option (Value->Sem Unit)}{Qf:Value->d_->Prop}{p':Pos}{Q:VK}(hc:X.calm=η)(ok:vk X.env X.N scope N' ix)(hi:PI X tg iter wi)(blk:∀s H fp pn,PG (bf X N' scope s H fp pn) tg g/\PIf (bf X N' scope s H fp pn) ifs tts/\PE (bf X N' scope s H fp pn) elt te)(hs:∀x,foldedSetIterable iter X.env x=pure x)(I:Inv X pins σ H s)(hw:wO ix wi g tts te σ H Q)(fin:∀D C H' s',Inv X pins σ H' s'->Q (.ref D) H'->(∃m,s'.heap.Ns C m)->H' C=ω->X.s₀.heap.objs.size<=C->C≠X.env.locals->(∀x c,X.env.cells.lookup x=ψ c->c≠C)->C∉X.fs->(∀p∈X.pn++pins,p.1≠C) ->
   compPost (model X.prog X.w) X.A X.xe use Qf (.ref D) C (.ok .next) s'):
  wpAny (model X.prog X.w) X.A (comprehension (.ListComp elt [⟨tg,iter,ifs,0⟩] scope pos) scope X.env p' (newList []) ξ (eval iter X.env) use) Qf X.xe s:=by
 have hclos:closureFor scope X.env=pure (iT X.env scope.names []):=gC λy hy e=>I.ok.has y.1 (ok.free y hy e).1;refine wpAny_comprehension_free (use:=use) rfl hs hclos ok.kind ok.loc (thn (hi pins s σ H _ I hw) λv s1 h1=>thn h1 λitv s2 h2=>?_);obtain⟨it,fp,tn,J,H2,e,I2,T,st2,f2,hW⟩:=h2;subst e;obtain⟨W,⟨m0,w0⟩,turn⟩:=hW s2⁻¹ (I2.hok.fresh (f_ _))
 have hfl:∀b∈fp,b<s2⁻¹:=λb hb=>by
  obtain⟨o,e,_⟩:=T.obj 0 _ st2 b hb;exact m_ e
 refine MD ?_
 have I3:Inv X pins σ (upd H2 s2⁻¹ (.lst [])) { s2 with heap:=s2.heap.push { cls:=.type "list",dict:=ω,data:=.seq ([]:Ξ).toArray } } :=
  I2.laid (t':=s2.toks) (λb o e=>c_ _ e) (f_ _) (show bN X.prog X.w _ _ _ (.lst []) from ⟨NJ _,[],0,.nil,i_ _ rfl⟩)
 have st3:tn 0 (s2.heap.push { cls:=.type "list",dict:=ω,data:=.seq ([]:Ξ).toArray }):=T.keep 0 _ _ st2 λb _ o e=>c_ _ e;have f3:∀b∈fp,tw X pins (upd H2 s2⁻¹ (.lst [])) b:=λb hb=>⟨by rw [ax (Mh (hfl b hb))];exact (f2 b hb).1,(f2 b hb).2⟩
 have hfl3:∀b∈fp,b<(s2.heap.push { cls:=.type "list",dict:=ω,data:=.seq ([]:Ξ).toArray }).objs.size:=λb hb=>by rw [Mi];exact NH (hfl b hb)
 generalize hs3:({ s2 with heap:=s2.heap.push { cls:=.type "list",dict:=ω,data:=.seq ([]:Ξ).toArray } }:d_)=s3 at I3 ⊢;have eh3:s3.heap=s2.heap.push { cls:=.type "list",dict:=ω,data:=.seq ([]:Ξ).toArray }:=by rw [<- hs3]
 rw [<- eh3] at st3 hfl3;generalize hH3:upd H2 s2⁻¹ (.lst [])=H3 at I3 f3 w0;generalize hD:s2⁻¹=D at *;refine eA ?_;have I4:=vn ok I3 f3 hfl3;obtain⟨hg,ht,he⟩:=blk s3 H3 fp pins;have st4:tn 0 (pushCells (s3.heap.push { cls:=.type "dict",data:=.dict #[] }) scope.names):=T.keep 0 _ _ st3 λb _ o e=>Pn _ _ b o (c_ _ e)
 have stat:∀{H':Hp},(∀b∈fp,H' b=ω)->∀b∈fp,tw (bf X N' scope s3 H3 fp pins) [] H' b:=λhn b hb=>by
  refine⟨hn b hb,Mh (hfl3 b hb),I4.ok.exfs b hb,.inl hb,(I4.ok.exf b hb).2,λp hp=>?_⟩;have hp':p∈X.pn++pins:=by simpa [bf] using hp
  exact (f2 b hb).2.2.2.2.2 p hp'
 have loop:∀(s4:d_),Inv (bf X N' scope s3 H3 fp pins) [] (qZ ix σ) H3 s4->tn 0 s4.heap ->
   codeAny (model X.prog X.w) X.A (.compLoop (.ListComp elt [⟨tg,iter,ifs,0⟩] scope pos) 0 (.ref it) (.ref D) (pT scope s3⁻¹ X.env)) (compPost (model X.prog X.w) X.A X.xe use Qf (.ref D) s3⁻¹) s4:=by
  intro s4 I4 st4;refine rc (λn s'=>∃i τ H',Inv (bf X N' scope s3 H3 fp pins) [] τ H' s'/\tn i s'.heap/\(∀b∈fp,H' b=ω)/\W i n τ H') ?_ m0 ⟨0,_,H3,I4,st4,λb hb=>(f3 b hb).1,w0⟩;rintro n s5 ⟨i,τ,H5,I5,st5,fr5,w5⟩
  rcases turn i n τ H5 w5 with ⟨stop,qn⟩|⟨go,step⟩
  .refine thn (T.done (bf X N' scope s3 H3 fp pins) rfl rfl rfl hc i [] s5 τ H5 (λ_ _=>False) I5 (stat fr5) st5 stop) λr s6 ⟨hr,I6⟩=>?_;subst hr;have I7:Inv X pins σ H5 s6:=I3.call' (ch:=fp) I6.os I6.base I6.hok I6.bare λb hb=>⟨(f2 b hb).2.2.2.1,(f2 b hb).2.1,(f2 b hb).2.2.2.2.1,(f2 b hb).2.2.2.2.2⟩
   obtain⟨m6,hn6,_⟩:=I6.loc
   refine fin D s3⁻¹ H5 s6 I7 qn ⟨m6,hn6⟩ I6.free ?_ ?_ ?_ ?_ ?_
   .exact I3.sz
   .exact Oo I3.lt
   .intro x c e z;obtain⟨v,q⟩:=I3.cell x c e;have:=q.lt;rw [z] at this;exact Md _ this
   .exact I3.nofs (f_ _)
   .intro p hp z;have:=m_ (I3.pin p hp).1;rw [z] at this;exact Md _ this
  .refine thn (T.item (bf X N' scope s3 H3 fp pins) rfl rfl rfl hc i [] s5 τ H5 (λ_ _=>False) I5 (stat fr5) st5 go) λr s6 ⟨u,hr,h6⟩=>?_;subst hr;refine thn h6 λ_ s7 ⟨x,H7,I7,r7,y7,st7,fr7⟩=>?_;have I7':=I7.pinned (stat fr7) (T.obj _ _ st7)
   have again:∀{s8:d_}{τ8:St}{H8:Hp},Inv (bf X N' scope s3 H3 fp pins) ([]++lB fp s7.heap) τ8 H8 s8->(∃m',m'<n/\W (i+1) m' τ8 H8) ->
     ∃m,m<n/\∃i τ H',Inv (bf X N' scope s3 H3 fp pins) [] τ H' s8/\tn i s8.heap/\(∀b∈fp,H' b=ω)/\W i m τ H':=λ{s8 τ8 H8} I8 ⟨m',hm,w8⟩=>by
    refine⟨m',hm,i+1,τ8,H8,I8.unpinned,T.keep _ _ _ st7 λb hb o e=>(I8.pin (b,o) (r_ _ (r_ _ (c7 hb e)))).1,λb hb=>?_,w8⟩;obtain⟨o,e,d⟩:=T.obj _ _ st7 b hb;exact (I8.pin (b,o) (r_ _ (r_ _ (c7 hb e)))).2.1
   refine thn (hg _ s7 τ H7 x u _ I7' r7 (step x H7 y7)) λ_ s8 ⟨τ8,H8,I8,q8⟩=>?_;refine thn (ht _ s8 τ8 H8 _ I8 q8) λokb s9 ⟨H9,I9,q9⟩=>?_
   cases okb with
   | false =>
    rw [if_neg l_] at q9;rw [if_neg l_];exact again I9 q9
   | true =>
    rw [if_pos rfl] at q9;rw [if_pos rfl];refine thn (he _ s9 τ8 H9 _ I9 q9) λv10 s10 ⟨x10,H10,I10,r10,q10⟩=>?_;obtain⟨ys,hD10,hz,m',hm,w10⟩:=q10;refine thn (dh (X:=bf X N' scope s3 H3 fp pins) _ s10 τ8 H10 (.ref D) [x10] (.ref D) [v10] (λ_ H'=>∃m',m'<n/\W (i+1) m' τ8 H') I10 rfl (.cons r10 .nil) ⟨D,ys,x10,rfl,rfl,hD10,hz,m',hm,w10⟩) λ_ s11 ⟨_,H11,I11,_,q11⟩=>?_;exact again I11 q11
 exact codeAny_compStart_list (loop _ I4 st4) (T.self X.A 0 _ _ _ st4 (loop _ I4 st4))
def bP(N':List Str)(ix:List (Option Nat))(hc:X.calm=η)(hi:PI X tg iter wi)(blk:∀s H fp pn,PG (bf X N' scope s H fp pn) tg g/\PIf (bf X N' scope s H fp pn) ifs tts/\PE (bf X N' scope s H fp pn) elt te)(chk:lN X.env.scope X.N scope N' ix=η)(hs:∀x,foldedSetIterable iter X.env x=pure x:=by intro _;rfl):
  PE X (.ListComp elt [⟨tg,iter,ifs,0⟩] scope pos) (wO ix wi g tts te):=by
 intro pins s σ H Q I hw;rw [eval_ListComp];refine re (use:=ω) hc (lO chk) hi blk hs I hw λD C H' s' I' q hm hn h1 h2 h3 h4 h5=>?_;obtain⟨m,hm⟩:=hm;refine⟨m,hm,λh' sb=>⟨.ref D,H',?_,rfl,q⟩⟩;exact I'.turned (t':=s'.toks) (λb o hb e=>(sb.2 b hb).trans e) hn h2 (.inr h1) h3 h5
theorem gO{pos' cpos:Pos}(N':List Str)(ix:List (Option Nat))(hN:X.N.Nodup)(hi:X.N[i]?=ψ x)(hx:Loc X.env.scope x)(hc:X.calm=η)(hit:PI X tg iter wi)(blk:∀s H fp pn,PG (bf X N' scope s H fp pn) tg g/\PIf (bf X N' scope s H fp pn) ifs tts/\PE (bf X N' scope s H fp pn) elt te)(chk:lN X.env.scope X.N scope N' ix=η)(hsw:swapsWith (.ListComp elt [⟨tg,iter,ifs,0⟩] scope cpos) (ψ (.Name x pos')) pos.line X.env=pure true:=by rfl)(hs:∀x,foldedSetIterable iter X.env x=pure x:=by intro _;rfl)(hf:X.fn x=η\/X.env.scope.names.lookup x=ψ .local:=by first|exact .inl rfl|exact .inr rfl|assumption):
  PS X (.Assign [.Name x pos'] (.ListComp elt [⟨tg,iter,ifs,0⟩] scope cpos) pos) (FJ (wO ix wi g tts te) (bE i)):=by
 intro pins s σ H D I hw;rw [exec_Assign_Name_used _ _ _ _ hsw];refine cn (Nj (cn ?_));show wpAny _ X.A (do let _ <- comprehension (.ListComp elt [⟨tg,iter,ifs,0⟩] scope cpos) scope X.env _ (newList []) ξ (eval iter X.env) (ψ (assign (.Name x pos') X.env))) _ _ s;refine cn (thn (re (use:=ψ (assign (.Name x pos') X.env)) (Qf:=λ_ s'=>SP X pins D .next s') hc (lO chk) hit blk hs I hw λD' C H' s' I' q hm hn h1 h2 h3 h4 h5=>?_) λ_ s' q=>gV (gV q))
 obtain⟨m,oC,es,ep,hoC,hdC,hrC⟩:=hm
 have Ip:Inv X (pins++[(C,oC)]) σ H' s':=I'.pins_of λp hp=>(Mv.mp hp).elim (λz=>I'.pin p (r_ _ z)) λz=>by
  have e:p=(C,oC):=by simpa using z
  subst e;exact⟨hoC,hn,h2,h4,λv z=>by rw [hdC] at z;cases z⟩
 refine wpAny_assign_Name (ik (v:=.ref D') Ip hN hi hx rfl (λs2 I2=>?_) hf);have hC2:s2.heap.get? C=ψ oC:=(I2.pin (C,oC) (by simp)).1;have I2':Inv X pins (σ.set i (ψ (.ref D'))) H' s2:=I2.pins_of λp hp=>I2.pin p (r_ _ (Mf _ hp));refine⟨m,⟨oC,es,ep,hC2,hdC,hrC⟩,λh' sb=>⟨_,H',?_,q⟩⟩;exact I2'.turned (t':=s2.toks) (λb o hb e=>(sb.2 b hb).trans e) hn h2 (.inr h1) h3 h5
noncomputable def CU(p:Addr)(a b c:Int):HO:=.ext λh=>∃t u v,IsRange h p a b c t u v
noncomputable def tH(a c:Int)(n:Nat):List V:=(g_ n).map λ(k:Nat)=>V.int (a+k*c)
def wP{a c:Int}{acc:Array Value}(h:ItemsOf (λi v=>∃t,v=.int (a+i*c) t) acc n):bI (tH a c n) acc.toList:=by
 obtain⟨hn,hi⟩:=h
 have key:∀(m:Nat) (us:Ξ) (f:Nat->Int),us.length=m->(∀i u,us[i]?=ψ u->∃t,u=OH (f i) t)->bI ((g_ m).map λk=>V.int (f k)) us:=by
  intro m
  induction m with
  | zero=>intro us f hl _;rw [MJ] at hl;subst hl;exact .nil
  | succ m ih =>
   intro us f hl hu
   cases us with
   | nil=>simp at hl
   | cons u r =>
    rw [OY,so,Ms];refine .cons (hu 0 u rfl) (ih r (λk=>f (k+1)) (by simpa using hl) λi v e=>hu (i+1) v (by simpa using e))
 refine key n acc.toList (λk=>a+k*c) (by simpa using hn) λi u e=>?_;exact hi i u (by simpa using e)
def yJ(a c:Int)(n:Nat):(tH a c n).length=n:=by simp [tH]
def Bm{a b c:Int}{t u v:Tok}{tk:Nat}(I:Inv X pins σ H s):
  Inv X pins σ (upd H s⁻¹ (CU s⁻¹ a b c)) { s with heap:=s.heap.push { cls:=.type "range",data:=.fields #[.int a t,.int b u,.int c v] },toks:=tk }:=by
 refine I.laid (λb o e=>c_ _ e) (f_ _) ⟨⟨t,u,v,QN ..⟩,⟨_,i_ _ rfl⟩,λh1 h2 ⟨t,u,v,z⟩ k=>⟨t,u,v,k _ z⟩⟩
def lP{a:Expr}{p:Pos}(hg:Gl X "range")(hm:X.mg "range"=ω)(ha:PA X [a] ta)(hs:starEach [a] X.env=[(ξ,eval a X.env)]:=by rfl):
  PE X (.Call (.Name "range" p) [a] [] pos) (λσ H Q=>ta σ H λvs H1=>∃j:Int,vs=[.int j]/\∀p,H1 p=ω->Q (.ref p) (upd H1 p (CU p 0 j 1))):=by
 intro pins s σ H Q I h;refine Call_ (eY I hg hm boot_range (I_ (thn (ha pos pins s σ H _ I h) λus s1 ⟨vs,H1,I1,r1,q1⟩=>?_) hs rfl));obtain⟨j,e,q⟩:=q1;subst e
 cases r1 with
 | cons r rr =>
  cases rr;obtain⟨t,rfl⟩:=r;exact call_range_1 ⟨.ref s1⁻¹,_,Bm I1,rfl,q _ (I1.hok.fresh (f_ _))⟩
noncomputable def JL(K:b_)(mk:List V->HO):List V->Hp->VK->Prop:=λxs H Q=>∃p a b c n,xs=[.ref p]/\H p=ψ (CU p a b c)/\Om a b c=η/\t_ a b c=((n:Nat):Int)/\n<=1000000/\∀l,H l=ω->Q (.ref l) (upd H l (mk (tH a c n)))
def wQ(hc:X.calm=η):bD X (.type "list") (JL X.K .lst):=by
 intro pins s σ H xs us Q I r h;obtain⟨p,a,b,c,n,rfl,hp,hsm,hsz,hn,q⟩:=h;obtain⟨u,rfl,rx⟩:=d0 r;cases rx;obtain⟨⟨t,u,v,hr⟩,_,_⟩:=(show bN X.prog X.w H s.heap p (CU p a b c) from I.hok p _ hp)
 have hs:sizeLine=16777216:=Pi;refine call_list_range (I.ok.hd hc) hr hsm hsz ⋯ λh' tk acc c' hk e hacc=>?_;exact⟨.ref s⁻¹,_,I.laid (t':=tk) hk (f_ _) (show bN X.prog X.w _ h' _ (.lst (tH a c n)) from ⟨by rw [yJ];omega,acc.toList,c',wP hacc,by simpa using e⟩),rfl,q _ (I.hok.fresh (f_ _))⟩
def yK:typeLookup (.type "list_reverseiterator") "__len__"=pure none:=by rw [typeLookup_type,builtinLookup_eq_fast];kernel_rfl
def Bn:typeLookup (.type "list_reverseiterator") "__length_hint__"=pure (ψ (.builtin "list_reverseiterator.__length_hint__")):=by rw [typeLookup_type,builtinLookup_eq_fast];kernel_rfl
variable {I l:Addr}
def Bo{Q:Bool->d_->Prop}{i:Int}(hit:s.heap.IsRevIter I l i)(h:Q ξ s):wpAny (model prog w) A (Px (.ref I)) Q E s:=by
 unfold Px;refine cn (Oy hit.typeIs yK ?_);show wpAny _ A (specialOf (vx I) (NR "__length_hint__") >>= _) _ _ _;refine cn (Oy hit.typeIs Bn ?_)
 (generalize hid:("list_reverseiterator.__length_hint__":String)=id0;(fail_if_success (clear hid id0));wp_delta;rw [show splitId id0=ψ ("list_reverseiterator","__length_hint__") from by subst hid;decide +kernel];subst hid)
 refine cn (Oi (b:=η) hit.typeIs (by rw [PR];kernel_rfl) ?_);exact gV h
variable {items:Array Value}
theorem wR(hh:A.handled=ω)(hit:s.heap.IsRevIter I l ((items.size:Int) - 1))(hl:s.heap.IsList l items)(hlI:l≠I)(hsz:items.size<=sizeLine)(Sx:Addr)(res:Value)(c₀:Nat)(hS:s.heap.get? Sx=ψ { cls:=.type "list",data:=.seq #[] c₀ })(hSI:Sx≠I)(hSl:Sx≠l)(hR:∀h' tk acc' c',(∀b o,b≠Sx->b≠I->s.heap.get? b=ψ o->h'.get? b=ψ o)->h'.get? Sx=ψ { cls:=.type "list",dict:=ω,data:=.seq acc' c',slots:=#[] } ->
   ItemsOf (λi v=>items[items.size - 1 - i]?=ψ v) acc' items.size->R (.ok (.ret res)) { s with heap:=h',toks:=tk }):
  wpAny (model prog w) A.in1 (ME (.ref Sx) (.ref I) res)
   (λfin s'=>match fin with|.done f=>R (.ok f) s'|.again c'=>c'.quiet=η/\codeAny (model prog w) A c' R s') (λe s'=>R (.error e) s') s:=by
 have hSf:Sx∉[I,l]:=λhm=>by
  rcases B_.mp hm with e|e
  .exact hSI e
  .exact hSl (u_.mp e)
 have W:=(Walks.listRev (prog:=prog) (w:=w) (A:=A.in1) hh I l hlI items).toS;unfold ME;refine cn (OW (T:="list_reverseiterator") hit.typeIs ?_);have h1:Builtin.List.listSameRef (.ref Sx) (.ref I)=false:=by simp [Builtin.List.listSameRef,hSI]
 have h2:(MX "list_reverseiterator" == MX "list")=false:=by decide
 have h3:(MX "list_reverseiterator" == MX "tuple")=false:=by decide
 simp only [h1,h2,h3,Bool.or_false,NX,if_false];refine cn (wpAny_pyIter_revIter hit ?_);refine cn (Mw (Bo hit ?_));refine wpAny_ite_split (λhab=>absurd hab (by decide)) (λ_=>?_);refine gV ⟨Ou F.plain_extend_loop _,codeAny_extend_loopS W hsz Sx hSf res items.size 0 _ #[] c₀ rfl (NJ _) ⟨NJ _,by simpa using hit,hl⟩ hS (ItemsOf.nil _) λs' acc' c' hm hS' hacc=>?_⟩
 rw [Moved.eq_with hm];refine hR s'.heap s'.toks acc' c' (λb o hb hbI e=>hm.heap b o (λhmem=>?_) e) hS' hacc
 rcases B_.mp hmem with e'|hmem
 .exact hb e'
 .exact hbI (u_.mp hmem)
theorem pV(hh:A.handled=ω)(hit:s.heap.IsRevIter I l ((items.size:Int) - 1))(hl:s.heap.IsList l items)(hlI:l≠I)(hsz:items.size<=sizeLine)(Sx:Addr)(hS:s.heap.get? Sx=ψ { cls:=.type "list",data:=.seq #[] })(hSI:Sx≠I)(hSl:Sx≠l)(hR:∀h' tk acc' c',(∀b o,b≠Sx->b≠I->s.heap.get? b=ψ o->h'.get? b=ψ o)->h'.get? Sx=ψ { cls:=.type "list",dict:=ω,data:=.seq acc' c',slots:=#[] } ->
   ItemsOf (λi v=>items[items.size - 1 - i]?=ψ v) acc' items.size->R (.ok (.ret .none)) { s with heap:=h',toks:=tk }):
  wpAny (model prog w) A.in1 (Ow.«list.__init__» ⟨[.ref Sx,.ref I],[]⟩)
   (λfin s'=>match fin with|.done f=>R (.ok f) s'|.again c'=>c'.quiet=η/\codeAny (model prog w) A c' R s') (λe s'=>R (.error e) s') s:=by
 show wpAny _ _ (do let old <- Builtin.List.listItems (.ref Sx);Builtin.List.listUpdate (.ref Sx) (λ_=>#[]);letGo old.toList.reverse;ME (.ref Sx) (.ref I) .none) _ _ s;refine cn ?_;unfold Builtin.List.listItems;refine cn (MK hS rfl (gV ?_));show wpAny _ _ (updateSeq Sx (λ_=>#[]) >>= λ_=>letGo (#[]:Array Value).toList.reverse >>= λ_=>ME (.ref Sx) (.ref I) .none) _ _ s
 refine cn (Po hS rfl ?_);have hS₂:=Nu (Nq (λ_=>(#[]:Array Value))) hS rfl
 have oth:∀b o,b≠Sx->s.heap.get? b=ψ o->(s.heap.update Sx (Nq (λ_=>(#[]:Array Value)))).get? b=ψ o :=
  λb o hb e=>(Mx _ _ (Nh hb)).trans e
 refine cn (N_ ?_);refine wR hh (hit.at λo e=>oth I o (Nh hSI) e) (hl.at λo e=>oth l o (Nh hSl) e) hlI hsz Sx .none _ hS₂ hSI hSl λh' tk acc' c' hk hS' hacc=>?_;exact hR h' tk acc' c' (λb o hb hbI e=>hk b o hb hbI (oth b o hb e)) hS' hacc
variable {Q:Value->d_->Prop}
def pW(hh:A.handled=ω)(hit:s.heap.IsRevIter I l ((items.size:Int) - 1))(hl:s.heap.IsList l items)(hlI:l≠I)(hsz:items.size<=sizeLine)(hQ:∀h' tk acc' c',(∀b o,b≠I->s.heap.get? b=ψ o->h'.get? b=ψ o) ->
   h'.get? s⁻¹=ψ { cls:=.type "list",dict:=ω,data:=.seq acc' c',slots:=#[] }->ItemsOf (λi v=>items[items.size - 1 - i]?=ψ v) acc' items.size->Q (.ref s⁻¹) { s with heap:=h',toks:=tk }):
  wpAny (model prog w) A (call (.type "list") [.ref I]) Q E s:=by
 refine callType_codes (Q₁:=λobj s₁=>obj=.ref s⁻¹/\s₁={ s with heap:=s.heap.push { cls:=.type "list",data:=.seq #[] } }) F.called_list (F.typeCall_list_1 _) F.entry_list_init
  (code_list_new _ ⟨rfl,rfl⟩) λobj s₁ h₁=>?_
 obtain⟨rfl,rfl⟩:=h₁;have hS:(s.heap.push { cls:=.type "list",data:=.seq #[] }).get? s⁻¹=ψ { cls:=.type "list",data:=.seq #[] }:=i_ _ rfl
 have hSI:s⁻¹≠I:=by
  obtain⟨o,ho,_⟩:=hit;exact Oo (m_ ho)
 have hSl:s⁻¹≠l:=by
  obtain⟨o,ho,_⟩:=hl;exact Oo (m_ ho)
 refine⟨⟨_,hS,rfl⟩,F.args_list_init_2 _ _,pV (A:=A.in1) hh (hit.at λo e=>c_ _ e) (hl.push _) hlI hsz _ hS hSI hSl λh' tk acc' c' hk hS' hacc=>?_⟩;exact⟨rfl,hQ h' tk acc' c' (λb o hb e=>hk b o (Mh (m_ e)) hb (c_ _ e)) hS' hacc⟩
variable {its:Ξ}
def Bp(r:bI xs its){acc:Array Value}(h:ItemsOf (λi v=>its.toArray[its.toArray.size - 1 - i]?=ψ v) acc its.toArray.size):bI xs.reverse acc.toList:=by
 have e:acc.toList=its.reverse:=by
  obtain⟨hn,hi⟩:=h;apply NA;intro i
  by_cases hil:i<its.length
  .have hia:i<acc.size:=by rw [hn];simpa using hil
   have:=hi i acc[i] (by simp);rw [getElem?_reverse hil];have e1:acc.toList[i]?=ψ acc[i]:=by simp
   rw [e1,<- this];simp
  .have hna:acc.toList.length=its.length:=by simpa using hn
   rw [C_ ⋯,C_ (by rw [QR];omega)]
 rw [e];exact r.reverse
variable {e:Expr}{p p1 p2:Pos}
def wT(hc:X.calm=η)(he:PE X e te)(hg1:Gl X "list")(hm1:X.mg "list"=ω)(hg2:Gl X "reversed")(hm2:X.mg "reversed"=ω)(hs:starEach [.Call (.Name "reversed" p1) [e] [] p2] X.env=[(ξ,eval (.Call (.Name "reversed" p1) [e] [] p2) X.env)]:=by rfl)(hs2:starEach [e] X.env=[(ξ,eval e X.env)]:=by rfl):
  PE X (.Call (.Name "list" p) [.Call (.Name "reversed" p1) [e] [] p2] [] pos) (λσ H Q=>te σ H λx H1=>∃a xs,x=.ref a/\SqL X.K H1 a xs/\∀l,H1 l=ω->Q (.ref l) (upd H1 l (.lst xs.reverse))):=by
 intro pins s σ H Q I h;refine Call_ (eY I hg1 hm1 OJ (I_ ?_ hs rfl));rw [hs];show wpAny _ _ (spliced ((ξ,eval (.Call (.Name "reversed" p1) [e] [] p2) X.env)::backTo pos [])) _ _ s;refine Nn ?_;refine Call_ (eY I hg2 hm2 boot_reversed (I_ ?_ hs2 rfl));rw [hs2];show wpAny _ _ (spliced ((ξ,eval e X.env)::backTo p2 [])) _ _ s
 refine Nn (thn (he pins s σ H _ I h) λu s1 ⟨x,H1,I1,r1,q1⟩=>Nz ?_);obtain⟨a,xs,rfl,hS,q⟩:=q1;cases r1;obtain⟨its,rv,pl,hz⟩:=I1.list hS;have hlen:=rv.length;refine call_reversed_list pl.isList ?_;refine Nz ?_
 have hal:a<s1⁻¹:=by
  obtain⟨o,ho,_⟩:=pl.isList;exact m_ ho
 have I2:Inv X pins σ H1 { s1 with heap:=s1.heap.push (revObj a ((its.toArray.size:Int) - 1)) }:=I1.kept (t':=s1.toks) λb o e=>c_ _ e;refine pW (I1.ok.hd hc) (I:=s1⁻¹) (l:=a) (items:=its.toArray) ⟨_,i_ _ rfl,rfl,rfl⟩ (pl.isList.push _) (Mh hal) (by rw [we];omega) λh' tk acc' c' hk eL hacc=>?_;have hfI:=I1.fpOk (H':=H1) (f_ s1⁻¹) (I1.hok.fresh (f_ _))
 obtain⟨f0,f1,f2,f3,f4,f5⟩:=hfI;have hLn:H1 (s1.heap.push (revObj a ((its.toArray.size:Int) - 1))).objs.size=none:=I2.hok.fresh (f_ _);have hLlt:∀b o,(s1.heap.push (revObj a ((its.toArray.size:Int) - 1))).get? b=ψ o->b≠(s1.heap.push (revObj a ((its.toArray.size:Int) - 1))).objs.size:=λb o e=>Mh (m_ e);have nit:∀b u,H1 b=ψ u->b≠s1⁻¹:=λb u e z=>by rw [z,f0] at e;cases e
 have neL:∀b u,H1 b=ψ u->b≠(s1.heap.push (revObj a ((its.toArray.size:Int) - 1))).objs.size:=λb u e z=>by rw [z,hLn] at e;cases e
 have hokT:HOk X.prog X.w H1 h':=λb u e=>by
  refine (I2.hok b u e).stay (λc v hc q=>hk c v ?_ q) (λ_ q=>q) λ_ _ q=>q
  rcases hc with z|z
  .rw [z];exact nit b u e
  .exact nit c _ z
 refine⟨.ref _,upd H1 (s1.heap.push (revObj a ((its.toArray.size:Int) - 1))).objs.size (.lst xs.reverse),?_,rfl,q _ hLn⟩
 refine I2.step (g':=s1.gens) (d':=s1.drawn) (t':=tk) (ch:=[s1⁻¹]) (λb hb=>?_) (λb o _ _ hc e _=>hk b o (λz=>hc (by simp [z])) e) (λb o _ _ hc e _=>⟨o.slots,hk b o (λz=>hc (by simp [z])) e⟩)
  (λb o _ e n=>by rw [ax (hLlt b o e)];exact n) (λb o hc e=>⟨o,hk b o (λz=>hc (by simp [z])) e⟩) (λb ys e=>by rw [ax (neL b _ e)];exact e) (λb o u e=>by rw [ax (neL b _ e)];exact e)
  (λb ps e=>⟨#[],by rw [ax (neL b _ e),e];simp⟩) (λm hm=>?_) ?_ I2.bare
 .have e:b=s1⁻¹:=by simpa using hb
  subst e;exact⟨f3,f1,f4,f5⟩
 .obtain⟨o,es,ep,ho,r⟩:=hm;exact⟨o,es,ep,hk _ o (Nh f1) ho,r⟩
 .intro b u e
  by_cases hb:b=(s1.heap.push (revObj a ((its.toArray.size:Int) - 1))).objs.size
  .subst hb;rw [aI] at e;cases e;exact⟨by rw [QR];exact hz,acc'.toList,c',Bp rv hacc,by simpa using eL⟩
  .rw [ax hb] at e
   refine (hokT b u e).stay (λc v _ q=>q) (λc q=>?_) λc ys q=>?_
   .rw [ax (neL c _ q)];exact q
   .rw [ax (neL c _ q)];exact q
noncomputable def fj(k:Bool)(h:Heap)(a:Addr)(its:Array Value):Prop:=∃o,h.get? a=ψ o/\o.cls=.type (cond k "tuple" "list")/\∃n,o.data=.seq its n
noncomputable def cK(k:Bool)(h:Heap)(it a:Addr)(i:Nat):Prop:=∃o,h.get? it=ψ o/\o.cls=.type (cond k "tuple_iterator" "list_iterator")/\o.data=.fields #[.ref a,.int i 0]
variable {h h':Heap}
def fj.mv{k:Bool}{its:Array Value}(r:fj k h a its)(f:∀o,h.get? a=ψ o->h'.get? a=ψ o):fj k h' a its:=let ⟨o,e,q⟩:=r;⟨o,f o e,q⟩
def cK.mv{k:Bool}(r:cK k h it a i)(f:∀o,h.get? it=ψ o->h'.get? it=ψ o):cK k h' it a i:=let ⟨o,e,q⟩:=r;⟨o,f o e,q⟩
section
variable {P:v_}{its:Array Value}
def rf{x:Value}(W:s.heap.IsTupleIter it a i)(R:s.heap.IsTuple a its)(hx:its[i]?=ψ x)(hQ:∀h',h'.IsTupleIter it a (i+1)->Of it s.heap h'->Q x { s with heap:=h' }):wpAny (model P w) A (K_ (.ref it)) Q E s:=by
 have hT:=W.typeIs;obtain⟨o,ho,c,d⟩:=W;obtain⟨ol,hol,_,nl,dl⟩:=R;unfold K_;refine cn (MF (name:=NR "__next__") hT F.slot_tuple_iterator_next (M8 F.slot_tuple_iterator_next hT F.entry_tuple_iterator_next ?_ (F.args_tuple_iterator_next_1 _)));refine cn (m:=field (.ref it) 0) (MI ho d (x:=.ref a) rfl ?_);have nn:¬ ((vx a == M7)=η):=l_
 show wpAny _ _ (if (vx a == M7)=η then _ else _) _ _ s;rw [if_neg nn];refine cn (m:=field (.ref it) 1) (MI ho d (x:=.int i 0) rfl ?_);refine cn (m:=seqItems? (.ref a)) (MK hol dl ?_);simp only [tj,hx];exact cn (wpAny_setField ho d (by simp) (gV ⟨x,rfl,gV (hQ _ ⟨_,Nu _ ho (Obj.isFreed_of_fields (Obj.data_mapFields d _)),(Obj.cls_mapFields ..).trans c,by rw [Obj.data_mapFields d];simp [rawInt]⟩ (Heap.SameBut.update ..))⟩))
def tI(hh:A.handled=ω)(W:s.heap.IsTupleIter it a i)(R:s.heap.IsTuple a its)(hx:its[i]?=ω)(hE:∀h' e,QS it s.heap h'->(∃o,h'.get? e=ψ o/\o.cls=.type "StopIteration")->E (.ref e) { s with heap:=h' }):wpAny (model P w) A (K_ (.ref it)) Q E s:=by
 have hT:=W.typeIs;obtain⟨o,ho,c,d⟩:=W;obtain⟨ol,hol,_,nl,dl⟩:=R;unfold K_;refine cn (MF (name:=NR "__next__") hT F.slot_tuple_iterator_next (M8 F.slot_tuple_iterator_next hT F.entry_tuple_iterator_next ?_ (F.args_tuple_iterator_next_1 _)));refine cn (m:=field (.ref it) 0) (MI ho d (x:=.ref a) rfl ?_);have nn:¬ ((vx a == M7)=η):=l_
 show wpAny _ _ (if (vx a == M7)=η then _ else _) _ _ s;rw [if_neg nn];refine cn (m:=field (.ref it) 1) (MI ho d (x:=.int i 0) rfl ?_);refine cn (m:=seqItems? (.ref a)) (MK hol dl ?_);simp only [tj,hx];refine cn (Pe (cn (wpAny_setField ho d (by simp) (cn (m:=newExc (.type "StopIteration") []) ?_))));simp only [newExc,newTuple]
 refine cn (MD (cn (m:=firstArgMember _ _) (Oa (a:=M7) (by first|rfl|(simp only [firstArgMember];rfl)) (MD ?_ (by size_fits)))) (by size_fits));simp only [raiseNew];refine cn (wpAny_handled ?_)
 first|rw [show A.in1.handled=ω from hh]|rw [hh]
 exact cn (gV (wpAny_throw (hE _ _ (((Heap.SameBut.update ..).extBut.push _).push _) ⟨_,i_ _ rfl,rfl⟩)))
variable {k:Bool}
def e7{x:Value}(W:cK k s.heap it a i)(R:fj k s.heap a its)(hx:its[i]?=ψ x)(hQ:∀h',cK k h' it a (i+1)->Of it s.heap h'->Q x { s with heap:=h' }):wpAny (model P w) A (K_ (.ref it)) Q E s:=by
 cases k with
 | false=>exact wpAny_nextOf_list_item W R hx hQ
 | true=>exact rf W R hx hQ
def fX(hh:A.handled=ω)(W:cK k s.heap it a i)(R:fj k s.heap a its)(hx:its[i]?=ω)(hE:∀h' e,QS it s.heap h'->(∃o,h'.get? e=ψ o/\o.cls=.type "StopIteration")->E (.ref e) { s with heap:=h' }):wpAny (model P w) A (K_ (.ref it)) Q E s:=by
 cases k with
 | false=>exact wpAny_nextOf_list_end hh W R hx hE
 | true=>exact tI hh W R hx hE
end
structure ZA (z U V i j:Addr):Prop where
 Uz:U≠z
 Vz:V≠z
 iz:i≠z
 jz:j≠z
 UV:U≠V
 Ui:U≠i
 Uj:U≠j
 Vi:V≠i
 Vj:V≠j
 ij:i≠j
section
variable {P:v_}{k l:Bool}{z U V i j c:Addr}{xs ys:Array Value}{x y v:Value}
def Eb(D:ZA z U V i j)(az:a≠z)(cz:c≠z)(ci:c≠i)(cV:c≠V)(hz:IsZip s.heap z U V .none)(hU:OF s.heap U (.ref i) (.ref j))(hV:OF s.heap V u v)(W1:cK k s.heap i a n)(W2:cK l s.heap j c n)(R1:fj k s.heap a xs)(R2:fj l s.heap c ys)(hx:xs[n]?=ψ x)(hy:ys[n]?=ψ y)(hQ:∀h',IsZip h' z U V (rawInt s⁻¹)->OF h' V x y->cK k h' i a (n+1)->cK l h' j c (n+1)->OF h' s⁻¹ x y->h'.objs.size=s⁻¹+1 ->
   (∀b o,b≠z->b≠V->b≠i->b≠j->s.heap.get? b=ψ o->h'.get? b=ψ o)->Q (.ref s⁻¹) { s with heap:=h' }):
  wpAny (model P w) A (Ow.«zip.__next__» ⟨[.ref z],[]⟩) (λf s'=>∃r,f=.done (.ret r)/\Q r s') E s:=by
 refine cn (m:=field (.ref z) 2) (MI hz rfl (x:=.bool ξ) rfl (cn (m:=field (.ref z) 3) (MI hz rfl (x:=.ref U) rfl (cn (MK hU rfl ?_)))));refine cn (m:=MR (.ref z)) ?_;unfold MR;refine cn (MI hz rfl (x:=.none) rfl (gV ?_));simp only [if_true];refine cn (Pe (cn (MI hz rfl (x:=.ref V) rfl (cn (Nr hz (by simp) λg1 z1 b1=>cn ?_)))))
 replace z1:IsZip g1 z U V .ellipsis:=z1
 simp only [zipIdx_cons,zipIdx_nil,Qw,forIn_nil];have e1:=b1.extBut;refine cn (cn (Ph (cn (m:=K_ (.ref i)) (e7 (W1.mv λo e=>e1 _ o D.iz e) (R1.mv λo e=>e1 _ o az e) hx λg2 w1 b2=>gV ?_))));have e2:=b2.extBut;have v2:OF g2 V u v:=e2 _ _ D.Vi (e1 _ _ D.Vz hV);refine cn (MK v2 rfl (cn (Pk v2 λg3 v3 b3=>cn (N_ (gV ?_)))))
 replace v3:OF g3 V x v:=v3
 have e3:=b3.extBut;refine cn (cn (Ph (cn (m:=K_ (.ref j)) (e7 (W2.mv λo e=>e3 _ o D.Vj.symm (e2 _ o D.ij.symm (e1 _ o D.jz e))) (R2.mv λo e=>e3 _ o cV (e2 _ o ci (e1 _ o cz e))) hy λg4 w2 b4=>gV ?_))));have e4:=b4.extBut;have v4:OF g4 V x v:=e4 _ _ D.Vj v3;refine cn (MK v4 rfl (cn (Pk v4 λg5 v5 b5=>cn (N_ (gV (gV ?_))))))
 replace v5:OF g5 V x y:=v5
 have e5:=b5.extBut;refine cn (MK v5 rfl (cn (wpAny_newTuple ?_)));have sz:g5.objs.size=s⁻¹:=by rw [b5.1,b4.1,b3.1,b2.1,b1.1]
 have z5:IsZip g5 z U V .ellipsis:=e5 _ _ D.Vz.symm (e4 _ _ D.jz.symm (e3 _ _ D.Vz.symm (e2 _ _ D.iz.symm z1)));have k5:∀b o,b≠z->b≠V->b≠i->b≠j->s.heap.get? b=ψ o->g5.get? b=ψ o:=λb o q1 q2 q3 q4 e=>e5 _ _ q2 (e4 _ _ q4 (e3 _ _ q2 (e2 _ _ q3 (e1 _ _ q1 e))));have w15:cK k g5 i a (n+1):=w1.mv λo e=>e5 _ o D.Vi.symm (e4 _ o D.ij (e3 _ o D.Vi.symm e));have w25:cK l g5 j c (n+1):=w2.mv λo e=>e5 _ o D.Vj.symm e
 have zlt:z<g5.objs.size:=m_ z5;refine cn (m:=On (.ref z) (.ref g5.objs.size)) ?_;unfold On;have z6:IsZip (g5.push { cls:=.type "tuple",data:=.seq #[x,y] }) z U V .ellipsis:=c_ _ z5;refine cn (Nr z6 (by simp) λg7 z7 b7=>?_)
 replace z7:IsZip g7 z U V (rawInt g5.objs.size):=z7
 refine Nr z7 (by simp) λg8 z8 b8=>?_
 replace z8:IsZip g8 z U V (rawInt g5.objs.size):=z8
 have up:∀b o,b≠z->g5.get? b=ψ o->g8.get? b=ψ o:=λb o q e=>b8.extBut _ _ q (b7.extBut _ _ q (c_ _ e));have t8:OF g8 g5.objs.size x y:=b8.extBut _ _ (Oo zlt) (b7.extBut _ _ (Oo zlt) (i_ _ rfl));have s8:g8.objs.size=g5.objs.size+1:=by rw [b8.1,b7.1,Mi]
 rw [sz] at z8 t8 s8;refine gV ⟨_,rfl,?_⟩;show Q (.ref g5.objs.size) _;rw [sz];exact hQ g8 z8 (up _ _ D.Vz v5) (w15.mv λo e=>up _ o D.iz e) (w25.mv λo e=>up _ o D.jz e) t8 s8 λb o q1 q2 q3 q4 e=>up b o q1 (k5 b o q1 q2 q3 q4 e)
def GZ{Q:Fin->d_->Prop}(hh:A.handled=ω)(D:ZA z U V i j)(az:a≠z)(cz:c≠z)(ci:c≠i)(cV:c≠V)(hz:IsZip s.heap z U V .none)(hU:OF s.heap U (.ref i) (.ref j))(hV:OF s.heap V u v)(W1:cK k s.heap i a n)(W2:cK l s.heap j c n)(R1:fj k s.heap a xs)(R2:fj l s.heap c ys)(hend:xs[n]?=ω\/ys[n]?=ω)(hE:∀h' e,(∀b o,b≠z->b≠V->b≠i->b≠j->s.heap.get? b=ψ o->h'.get? b=ψ o)->(∃o,h'.get? e=ψ o/\o.cls=.type "StopIteration")->E (.ref e) { s with heap:=h' }):
  wpAny (model P w) A (Ow.«zip.__next__» ⟨[.ref z],[]⟩) Q E s:=by
 refine cn (m:=field (.ref z) 2) (MI hz rfl (x:=.bool ξ) rfl (cn (m:=field (.ref z) 3) (MI hz rfl (x:=.ref U) rfl (cn (MK hU rfl ?_)))));refine cn (m:=MR (.ref z)) ?_;unfold MR;refine cn (MI hz rfl (x:=.none) rfl (gV ?_));simp only [if_true];refine cn (Pe (cn (MI hz rfl (x:=.ref V) rfl (cn (Nr hz (by simp) λg1 z1 b1=>cn ?_)))))
 replace z1:IsZip g1 z U V .ellipsis:=z1
 simp only [zipIdx_cons,zipIdx_nil,Qw,forIn_nil];have e1:=b1.extBut
 cases hx:xs[n]? with
 | none =>
  refine cn (cn (Ph (cn (m:=K_ (.ref i)) (fX hh (W1.mv λo e=>e1 _ o D.iz e) (R1.mv λo e=>e1 _ o az e) hx λg2 e b2 he=>?_))));obtain⟨oe,ge,ce⟩:=he;have z2:IsZip g2 z U V .ellipsis:=b2 _ _ D.iz.symm z1;have ez:e≠z:=λq=>by subst q;rw [z2] at ge;cases ge;simp at ce
  exact Nr z2 (by simp) λg3 _ b3=>hE g3 e (λb o q1 _ q3 _ q=>b3.extBut _ _ q1 (b2 _ _ q3 (e1 _ _ q1 q))) ⟨oe,b3.extBut _ _ ez ge,ce⟩
 | some x =>
  have hy:ys[n]?=none:=by
   rcases hend with q|q
   .rw [hx] at q;cases q
   .exact q
  refine cn (cn (Ph (cn (m:=K_ (.ref i)) (e7 (W1.mv λo e=>e1 _ o D.iz e) (R1.mv λo e=>e1 _ o az e) hx λg2 w1 b2=>gV ?_))));have e2:=b2.extBut;have v2:OF g2 V u v:=e2 _ _ D.Vi (e1 _ _ D.Vz hV);refine cn (MK v2 rfl (cn (Pk v2 λg3 v3 b3=>cn (N_ (gV ?_)))))
  have e3:=b3.extBut;refine cn (cn (Ph (cn (m:=K_ (.ref j)) (fX hh (W2.mv λo e=>e3 _ o D.Vj.symm (e2 _ o D.ij.symm (e1 _ o D.jz e))) (R2.mv λo e=>e3 _ o cV (e2 _ o ci (e1 _ o cz e))) hy λg4 e b4 he=>?_))));obtain⟨oe,ge,ce⟩:=he;have z4:IsZip g4 z U V .ellipsis:=b4 _ _ D.jz.symm (e3 _ _ D.Vz.symm (e2 _ _ D.iz.symm z1));have ez:e≠z:=λq=>by subst q;rw [z4] at ge;cases ge;simp at ce
  exact Nr z4 (by simp) λg5 _ b5=>hE g5 e (λb o q1 q2 q3 q4 q=>b5.extBut _ _ q1 (b4 _ _ q4 (e3 _ _ q2 (e2 _ _ q3 (e1 _ _ q1 q))))) ⟨oe,b5.extBut _ _ ez ge,ce⟩
end
noncomputable def Sq(k:Bool)(K:b_)(H:Hp)(a:Addr)(xs:List V):Prop:=cond k (SqT K H a xs) (SqL K H a xs)
section
variable {k:Bool}
def Inv.row(I:Inv X pins σ H s)(h:Sq k X.K H a xs):∃its:Ξ,bI xs its/\fj k s.heap a its.toArray/\xs.length<=sizeLine:=by
 cases k with
 | false=>obtain⟨its,r,p,z⟩:=I.list h;exact⟨its,r,p.isList,z⟩
 | true=>obtain⟨its,r,p,z⟩:=I.tuple h;exact⟨its,r,p,z⟩
variable {ys:List V}
def Inv.row_inj(I:Inv X pins σ H s)(h:Sq k X.K H a xs)(h':Sq k X.K H a ys):xs=ys:=by
 cases k with
 | false=>exact I.list_inj h h'
 | true=>exact I.tuple_inj h h'
def yL{u:HO}(r:Rd H a u):∃v,H a=ψ v:=by
 rcases r with r|⟨o,r⟩ <;> exact⟨_,r⟩
variable {b:Addr}
def Inv.row_ne(I:Inv X pins σ H s)(h:Sq k X.K H a xs)(f:tw X pins H b):a≠b:=by
 have kk:∀o,X.K.lookup a=ψ o->a≠b:=λo e z=>by
  have e1:=I.ok.mod.kin a o e
  rcases f.2.2.2.1 with q|q
  .exact I.ok.noex a o e1 (z ▸ q)
  .exact absurd (A_ (m_ (I.ok.bs a o e1).1) (z ▸ q)) (Md _)
 have hh:∀u,H a=ψ u->a≠b:=λu e z=>by rw [z,f.1] at e;cases e
 cases k with
 | false =>
  rcases h with r|⟨o,its,n,e,_⟩
  .obtain⟨v,e⟩:=yL r;exact hh v e
  .exact kk o e
 | true =>
  rcases h with r|⟨o,its,n,e,_⟩
  .obtain⟨v,e⟩:=yL r;exact hh v e
  .exact kk o e
variable {c:Addr}{t':Nat}
def Inv.yielded{T:Addr}{zs:List V}{ch:List Addr}(I:Inv X pins σ H s)(hf:∀b∈ch,tw X pins H b)(hT:s⁻¹<=T)(kp:∀b o,b∉ch->s.heap.get? b=ψ o->h'.get? b=ψ o)(new:bN X.prog X.w (upd H T (.tup zs)) h' T (.tup zs)):Inv X pins σ (upd H T (.tup zs)) { s with heap:=h',toks:=t' }:=by
 have hn:H T=none:=I.hok.fresh hT;have nT:∀b u,H b=ψ u->b≠T:=λb u e z=>by rw [z,hn] at e;cases e
 have oT:∀b o,s.heap.get? b=ψ o->b≠T:=λb o e z=>absurd (A_ (m_ e) (z ▸ hT)) (Md _);have nc:∀b u,H b=ψ u->b∉ch:=λb u e z=>by rw [(hf b z).1] at e;cases e
 refine I.step (g':=s.gens) (d':=s.drawn) (ch:=ch) (λb hb=>⟨(hf b hb).2.2.2.1,(hf b hb).2.1,(hf b hb).2.2.2.2.1,(hf b hb).2.2.2.2.2⟩) (λb o _ _ hc e _=>kp b o hc e) (λb o _ _ hc e _=>⟨o.slots,kp b o hc e⟩)
  (λb o _ e n=>by rw [ax (oT b o e)];exact n) (λb o hc e=>⟨o,kp b o hc e⟩) (λb xs e=>by rw [ax (nT b _ e)];exact e) (λb o u e=>by rw [ax (nT b _ e)];exact e)
  (λb ps e=>⟨#[],by rw [ax (nT b _ e),e];simp⟩) (λm hm=>?_) (λb u e=>?_) I.bare
 .obtain⟨o,es,ep,ho,r⟩:=hm;exact⟨o,es,ep,kp _ o (λz=>(hf _ z).2.1 rfl) ho,r⟩
 .by_cases hb:b=T
  .subst hb;rw [aI] at e;cases e;exact new
  .rw [ax hb] at e;refine (I.hok b u e).stay (λc v hc q=>kp c v ?_ q) (λc q=>by rw [ax (nT c _ q)];exact q) λc xs q=>by rw [ax (nT c _ q)];exact q
   rcases hc with z|z
   .rw [z];exact nc b u e
   .exact nc c _ z
end
noncomputable def Itz(k l:Bool)(K:b_)(a c:Addr):It :=
  ⟨λi H=>∃xs ys x y,Sq k K H a xs/\Sq l K H c ys/\xs[i]?=ψ x/\ys[i]?=ψ y,
   λi H p H'=>∃T x y,H T=ω/\p=.ref T/\(∀xs,Sq k K H a xs->xs[i]?=ψ x)/\(∀ys,Sq l K H c ys->ys[i]?=ψ y)/\H'=upd H T (.tup [x,y]),
   λi H=>∃xs ys,Sq k K H a xs/\Sq l K H c ys/\(xs.length<=i\/ys.length<=i)⟩
variable {es:List Expr}
def Bq{P:v_}{ct:Nat}{tp:Pos}{k l:Bool}{c z U V i j:Addr}(D:ZA z U V i j):
  CN P w K (.Tuple es ct tp) (Itz k l K a c) [z,U,V,i,j] z (λn h=>IsZip h z U V .none/\OF h U (.ref i) (.ref j)/\(∃u v,OF h V u v)/\cK k h i a n/\cK l h j c n) where
 mem:=by simp
 obj:=λn h st b hb=>by
  obtain⟨hz,hU,⟨u,v,hV⟩,⟨o1,g1,c1,d1⟩,⟨o2,g2,c2,d2⟩⟩:=st;simp only [B_,MV,or_false] at hb
  rcases hb with rfl|rfl|rfl|rfl|rfl
  .exact⟨_,hz,λv q=>by cases q⟩
  .exact⟨_,hU,λv q=>by cases q⟩
  .exact⟨_,hV,λv q=>by cases q⟩
  .exact⟨_,g1,λv q=>by rw [d1] at q;cases q⟩
  .exact⟨_,g2,λv q=>by rw [d2] at q;cases q⟩
 keep:=λn h h' st kk=>by
  obtain⟨hz,hU,⟨u,v,hV⟩,w1,w2⟩:=st;exact⟨kk z (by simp) _ hz,kk U (by simp) _ hU,⟨u,v,kk V (by simp) _ hV⟩,w1.mv λo e=>kk i (by simp) o e,w2.mv λo e=>kk j (by simp) o e⟩
 item:=by
  intro X hP hw hK hc n pins s σ H E I hf st hg;subst hP hw hK;obtain⟨xs,ys,x,y,q1,q2,hx,hy⟩:=hg;obtain⟨hz,hU,⟨u,v,hV⟩,w1,w2⟩:=st;obtain⟨its,rv,p,_⟩:=I.row q1;obtain⟨jts,rv',p',_⟩:=I.row q2;obtain⟨ux,hux,rx⟩:=rv.get hx;obtain⟨uy,huy,ry⟩:=rv'.get hy;have hT:s.TypeIs (.ref z) "zip":=⟨_,hz,rfl⟩
  have nz:=I.row_ne q1 (hf z (by simp));have mz:=I.row_ne q2 (hf z (by simp));have mi:=I.row_ne q2 (hf i (by simp));have mV:=I.row_ne q2 (hf V (by simp));unfold pyNext
  refine cn (wpAny_attempt (MF (name:=NR "__next__") hT F.slot_zip_next (M8 F.slot_zip_next hT F.entry_zip_next
   (Eb (x:=ux) (y:=uy) D nz mz mi mV hz hU hV w1 w2 p p' (by simpa using hux) (by simpa using huy) λh' a1 a2 a3 a4 a5 a6 a7=>gV ?_) (F.args_zip_next_1 _))))
  refine⟨_,rfl,wpAny_letOwnedTupleGo_zip a1 λg gz gs=>?_⟩;have lt:∀{b o},s.heap.get? b=ψ o->s⁻¹≠b:=λe=>Oo (m_ e)
  have kp:∀b o,b∉[z,V,i,j]->s.heap.get? b=ψ o->g.get? b=ψ o:=λb o hb e=>by
   simp only [B_,MV,or_false,not_or] at hb;exact gs.extBut _ _ hb.1 (a7 b o hb.1 hb.2.1 hb.2.2.1 hb.2.2.2 e)
  have I2:Inv X pins σ (upd H s⁻¹ (.tup [x,y])) { s with heap:=g,toks:=s.toks }:=I.yielded (ch:=[z,V,i,j]) (λb hb=>hf b (by
   simp only [B_,MV,or_false] at hb ⊢;rcases hb with q|q|q|q <;> simp [q])) (f_ _) kp ⟨by show 2<=sizeLine;decide,[ux,uy],.cons rx (.cons ry .nil),_,gs.extBut _ _ (lt hz) a5,rfl,_,rfl⟩
  refine⟨.ref s⁻¹,_,I2,rfl,⟨_,x,y,I.hok.fresh (f_ _),rfl,λxs' q=>by rw [I.row_inj q q1];exact hx,λys' q=>by rw [I.row_inj q q2];exact hy,rfl⟩,
   ⟨gz,gs.extBut _ _ D.Uz (a7 _ _ D.Uz D.UV D.Ui D.Uj hU),⟨_,_,gs.extBut _ _ D.Vz a2⟩,a3.mv λo e=>gs.extBut _ o D.iz e,a4.mv λo e=>gs.extBut _ o D.jz e⟩,λb hb=>?_⟩
  rw [ax ?_]
  .exact (hf b hb).1
  .intro q;subst q;simp only [B_,MV,or_false] at hb;obtain⟨o1,g1,_⟩:=w1;obtain⟨o2,g2,_⟩:=w2
   rcases hb with q|q|q|q|q
   .exact lt hz q
   .exact lt hU q
   .exact lt hV q
   .exact lt g1 q
   .exact lt g2 q
 done:=by
  intro X hP hw hK hc n pins s σ H E I hf st hg;subst hP hw hK;obtain⟨xs,ys,q1,q2,hend⟩:=hg;obtain⟨hz,hU,⟨u,v,hV⟩,w1,w2⟩:=st;obtain⟨its,rv,p,_⟩:=I.row q1;obtain⟨jts,rv',p',_⟩:=I.row q2;have e1:=rv.length;have e2:=rv'.length;have hT:s.TypeIs (.ref z) "zip":=⟨_,hz,rfl⟩
  unfold pyNext
  refine cn (wpAny_attempt (MF (name:=NR "__next__") hT F.slot_zip_next (M8 F.slot_zip_next hT F.entry_zip_next
   (GZ (I.ok.hd hc) D (I.row_ne q1 (hf z (by simp))) (I.row_ne q2 (hf z (by simp))) (I.row_ne q2 (hf i (by simp))) (I.row_ne q2 (hf V (by simp))) hz hU hV w1 w2 p p' ?_ λh' e hk he=>?_) (F.args_zip_next_1 _))))
  .rcases hend with q|q
   .exact .inl (by simp;omega)
   .exact .inr (by simp;omega)
  .obtain⟨o,ho,hcl⟩:=he;refine cn (Oi (T:="StopIteration") (b:=η) ⟨o,ho,hcl⟩ isSubtype_stop (gV ⟨rfl,?_⟩))
   exact I.step (g':=s.gens) (d':=s.drawn) (t':=s.toks) (ch:=[z,V,i,j]) (λb hb=>by
     have q:=hf b (by
      simp only [B_,MV,or_false] at hb ⊢;rcases hb with q|q|q|q <;> simp [q])
     exact⟨q.2.2.2.1,q.2.1,q.2.2.2.2.1,q.2.2.2.2.2⟩) (λb o _ _ hc e _=>by
     simp only [B_,MV,or_false,not_or] at hc;exact hk b o hc.1 hc.2.1 hc.2.2.1 hc.2.2.2 e) (λb o _ _ hc e _=>⟨o.slots,by
     simp only [B_,MV,or_false,not_or] at hc;exact hk b o hc.1 hc.2.1 hc.2.2.1 hc.2.2.2 e⟩) (λ_ _ _ _ q=>q) (λb o hc e=>⟨o,by
     simp only [B_,MV,or_false,not_or] at hc;exact hk b o hc.1 hc.2.1 hc.2.2.1 hc.2.2.2 e⟩) (λ_ _ e=>e) (λ_ _ _ e=>e) (λb ps e=>⟨#[],by rw [e];simp⟩) (λm hm=>by
     obtain⟨o,es,ep,ho,r⟩:=hm;exact⟨o,es,ep,hk _ o (hf z (by simp)).2.1.symm (hf V (by simp)).2.1.symm (hf i (by simp)).2.1.symm (hf j (by simp)).2.1.symm ho,r⟩) (λb u e=>by
     have nn:∀b u,H b=ψ u->b≠z/\b≠V/\b≠i/\b≠j:=λb u e=>⟨λq=>(by rw [q,(hf z (by simp)).1] at e;cases e),λq=>(by rw [q,(hf V (by simp)).1] at e;cases e),λq=>(by rw [q,(hf i (by simp)).1] at e;cases e),λq=>(by rw [q,(hf j (by simp)).1] at e;cases e)⟩
     refine (I.hok b u e).stay (λc v hc q=>?_) (λ_ q=>q) λ_ _ q=>q
     have n4:c≠z/\c≠V/\c≠i/\c≠j:=by
      rcases hc with q|q
      .rw [q];exact nn b u e
      .exact nn c _ q
     exact hk c v n4.1 n4.2.1 n4.2.2.1 n4.2.2.2 q) I.bare
 self:=λ_ _ _ _ _ st h=>wpAny_pyIter_zip st.1 h
def JM(n:Nat):ZA (n+4) (n+2) (n+3) n (n+1):=by
 refine⟨?_,?_,?_,?_,?_,?_,?_,?_,?_,?_⟩ <;> (intro h;have h2:@Eq Nat _ _:=h;omega)
section
variable {k:Bool}
abbrev kU(k:Bool)(a:Addr):Obj:={ cls:=.type (cond k "tuple_iterator" "list_iterator"),data:=.fields #[.ref a,.int 0 0] }
variable {P:v_}
def fG{its:Array Value}(R:fj k s.heap a its)(hQ:Q (.ref s⁻¹) { s with heap:=s.heap.push (kU k a) }):wpAny (model P w) A (pyIter (.ref a)) Q E s:=by
 cases k with
 | false=>exact NB R hQ
 | true=>exact NS R hQ
abbrev zg1(h:Heap)(k:Bool)(a:Addr):Heap:=h.push (kU k a)
variable {l:Bool}
abbrev zg2(h:Heap)(k l:Bool)(a c:Addr):Heap:=(zg1 h k a).push (kU l c)
abbrev zg3(h:Heap)(k l:Bool)(a c:Addr):Heap:=(zg2 h k l a c).push { cls:=.type "tuple",data:=.seq #[.ref h.objs.size,.ref (zg1 h k a).objs.size] }
abbrev zg4(h:Heap)(k l:Bool)(a c:Addr):Heap:=(zg3 h k l a c).push { cls:=.type "tuple",data:=.seq #[.none,.none] }
abbrev zg5(h:Heap)(k l:Bool)(a c:Addr):Heap:=(zg4 h k l a c).push { cls:=.type "zip",data:=.fields #[.none,.bool ξ,.bool ξ,.ref (zg2 h k l a c).objs.size,.ref (zg3 h k l a c).objs.size] }
def Ec(k l:Bool)(a c:Addr)(xs ys:Array Value):Meets (Ow.«zip.__new__» ⟨[.type "zip",.ref a,.ref c],[]⟩) (λ_ R s=>fj k s.heap a xs/\fj l s.heap c ys /\
   R (.ok (.ret (.ref (zg4 s.heap k l a c).objs.size))) { s with heap:=zg5 s.heap k l a c }) :=
 .of_wp λprog w A R s h=>by
  obtain⟨hp,g,d,tk,os⟩:=s;obtain⟨r1,r2,h⟩:=h;have hsub:=sub_zip;have R1:fj k (Shared.heap ⟨hp,g,d,tk,os⟩) a xs:=r1;have R2:fj l (Shared.heap ⟨hp.push (kU k a),g,d,tk,os⟩) c ys:=r2.mv λo e=>c_ _ e
  wp_walk using fG R1,fG R2
  exact⟨_,rfl,h⟩
def Ed{c:Addr}{xs ys:Array Value}(r1:fj k s.heap a xs)(r2:fj l s.heap c ys)(h:∀h',IsZip h' (s⁻¹+4) (s⁻¹+2) (s⁻¹+3) .none->OF h' (s⁻¹+2) (.ref s⁻¹) (.ref (s⁻¹+1)) ->
   OF h' (s⁻¹+3) .none .none->cK k h' s⁻¹ a 0->cK l h' (s⁻¹+1) c 0->(∀b o,s.heap.get? b=ψ o->h'.get? b=ψ o)->Q (.ref (s⁻¹+4)) { s with heap:=h' }):
  wpAny (model P w) A (call (.type "zip") [.ref a,.ref c]) Q E s:=by
 refine callType_new F.called_zip (by decide) (F.typeCall_zip_2 _ _) (F.newCall_zip_2 _ _) (λobj=>F.args_object_init_3 obj _ _) F.entry_zip_new (Ec k l a c xs ys) ⟨r1,r2,?_⟩;have z1:(zg1 s.heap k a).objs.size=s⁻¹+1:=Mi ..;have z2:(zg2 s.heap k l a c).objs.size=s⁻¹+2:=by rw [Mi,z1]
 have z3:(zg3 s.heap k l a c).objs.size=s⁻¹+3:=by rw [Mi,z2]
 have z4:(zg4 s.heap k l a c).objs.size=s⁻¹+4:=by rw [Mi,z3]
 have m4:∀b o,(zg4 s.heap k l a c).get? b=ψ o->(zg5 s.heap k l a c).get? b=ψ o:=λb o e=>c_ _ e;have m3:∀b o,(zg3 s.heap k l a c).get? b=ψ o->(zg5 s.heap k l a c).get? b=ψ o:=λb o e=>m4 b o (c_ _ e);have m2:∀b o,(zg2 s.heap k l a c).get? b=ψ o->(zg5 s.heap k l a c).get? b=ψ o:=λb o e=>m3 b o (c_ _ e);have m1:∀b o,(zg1 s.heap k a).get? b=ψ o->(zg5 s.heap k l a c).get? b=ψ o:=λb o e=>m2 b o (c_ _ e)
 have g5:(zg5 s.heap k l a c).get? (zg4 s.heap k l a c).objs.size=ψ _:=i_ _ rfl;have g4:=m4 _ _ (i_ (zg3 s.heap k l a c) (o:={ cls:=.type "tuple",data:=.seq #[.none,.none] }) rfl);have g3:=m3 _ _ (i_ (zg2 s.heap k l a c) (o:={ cls:=.type "tuple",data:=.seq #[.ref s⁻¹,.ref (zg1 s.heap k a).objs.size] }) rfl);have g2:=m2 _ _ (i_ (zg1 s.heap k a) (o:=kU l c) rfl)
 have g1:=m1 _ _ (i_ s.heap (o:=kU k a) rfl);show _/\_;rw [z2,z3,z4] at g5;rw [z1,z2] at g3;rw [z3] at g4;rw [z1] at g2;rw [z4];exact⟨⟨_,g5,rfl⟩,h _ g5 g3 g4 ⟨_,g1,rfl,rfl⟩ ⟨_,g2,rfl,rfl⟩ λb o e=>m1 b o (c_ _ e)⟩
end
noncomputable def stA(a b:Δ)(i:Nat):Bool:=decide (i+b.length<=a.length/\(a.drop i).take b.length=b)
noncomputable def fnd(a b:Δ)(lo:Nat):Int:=match (OK lo (a.length+1 - lo)).find? (stA a b) with|some k=>(k:Int)|none=>-1
theorem rg(s sub:Str)(hi:Nat):∀(l:Δ) (st:Array Nat×Nat),st.fst.size=1->(forIn l st (Pp s sub hi 1)).run.fst=st.fst
 | [],_,_=>rfl
 | x::l,st,h=>by
  rw [Qw];unfold Pp;rw [if_neg (λz=>by have:=z.1.1.1;omega)];exact rg s sub hi l (st.fst,st.snd) h
theorem rh(s sub:Str)(hi:Nat)(p:Nat->Bool)(hp:∀i,p i=η ↔ (i+sub.length<=hi/\OZ s sub i=η)):∀(l:Δ) (free:Nat),(∀i∈l,free<=i) ->
  (forIn l ((#[]:Array Nat),free) (Pp s sub hi 1)).run.fst=(match l.find? p with|some k=>#[k]|none=>#[])
 | [],_,_=>rfl
 | x::l,free,hf=>by
  rw [Qw,NT];unfold Pp;have hx:free<=x:=hf x (q_ ..)
  cases c:p x with
  | true =>
   have hc:=(hp x).mp c;rw [if_pos ⟨⟨⟨by simp,hx⟩,hc.1⟩,hc.2⟩];exact rg s sub hi l (#[x],x+sub.length) rfl
  | false =>
   rw [if_neg (λz=>by
    have:=(hp x).mpr ⟨z.1.2,z.2⟩;rw [c] at this;cases this)]
   exact rh s sub hi p hp l free λi h=>hf i (n_ _ h)
def Ee(a b:Δ)(i:Nat):OZ (S a) (S b) i=decide ((a.drop i).take b.length=b):=by
 unfold OZ;rw [iw]
 have e1:((S a).cps.extract i (i+b.length))=((a.drop i).take b.length).toArray:=by
  show a.toArray.extract _ _=_;rw [QE,N8];congr 2;omega
 rw [e1];show (((a.drop i).take b.length).toArray == b.toArray)=_
 by_cases h:(a.drop i).take b.length=b
 .rw [decide_eq_true h,h];simp
 .rw [decide_eq_false h,beq_eq_false_iff_ne];intro z;exact h (by simpa using congrArg Ql z)
theorem yM(a b:Δ)(lo:Nat):(match OL (S a) (S b) lo (S a).length 1 with|k::_=>(k:Int)|[]=>-1)=fnd a b lo:=by
 rw [StrLaws.occ_eq,iw,rh (S a) (S b) a.length (stA a b) (λi=>?_) _ lo (λi hi=>(Py.mp hi).1)]
 .unfold fnd;cases (OK lo (a.length+1 - lo)).find? (stA a b) <;> rfl
 .unfold stA;rw [Ee,iw];simp
def Br:MtR X "str.find" (λx xs H Q=>∃a b,x=.str (S a)/\xs=[.str (S b)]/\Q (.int (fnd a b 0)) H):=by
 intro pins s σ H x xs v us Q I rx rs h;obtain⟨a,b,rfl,rfl,q⟩:=h;obtain⟨t,rfl⟩:=rx;obtain⟨u,rfl,t',rfl⟩:=d0 rs;have e:Txt.find (S a) (S b)=fnd a b 0:=yM a b 0;exact SC.find ⟨.int _,H,I.tok _,⟨_,rfl⟩,by rw [e];exact q⟩
def vo{a b:Δ}{lo:Nat}(h:fnd a b lo≠-1):∃k:Nat,fnd a b lo=(k:Int)/\lo<=k/\stA a b k=η/\∀j,lo<=j->j<k->stA a b j=false:=by
 unfold fnd at h ⊢
 cases e:(OK lo (a.length+1 - lo)).find? (stA a b) with
 | none=>rw [e] at h;exact absurd rfl h
 | some k =>
  obtain⟨h1,h2⟩:=find?_eq_some_iff_append.mp e;obtain⟨as,bs,hl,hn⟩:=h2;have hk:k∈OK lo (a.length+1 - lo):=by rw [hl];simp
  refine⟨k,rfl,(Py.mp hk).1,h1,λj hj1 hj2=>?_⟩;have hj:j∈OK lo (a.length+1 - lo):=Py.mpr ⟨hj1,by have:=(Py.mp hk).2;omega⟩;have hs:(OK lo (a.length+1 - lo)).Pairwise (·<·):=List.pairwise_lt_range';rw [hl] at hj hs
  rcases Mv.mp hj with z|z
  .have:=hn j z;simpa using this
  .rcases B_.mp z with z|z
   .omega
   .have:=(pairwise_cons.mp (pairwise_append.mp hs).2.1).1 j z;omega
def Bs{a b:Δ}{lo:Nat}(h:fnd a b lo=-1):∀j,lo<=j->stA a b j=false:=by
 unfold fnd at h
 cases e:(OK lo (a.length+1 - lo)).find? (stA a b) with
 | some k=>rw [e] at h;simp only at h;omega
 | none =>
  intro j hj
  by_cases hlt:j<a.length+1
  .have:=find?_eq_none.mp e j (Py.mpr ⟨hj,by omega⟩);simpa using this
  .unfold stA;rw [decide_eq_false (λz=>by have:=z.1;omega)]
def lQ:isSubtype (.type "range_iterator") (.type "reversed")=pure false:=by rw [PR];kernel_rfl
def lR(r:Addr)(a b c:Int)(t u v:Tok)(hc0:¬(!(j_ a && j_ b && j_ c && j_ (-c) && j_ (a - c) && j_ (t_ a b c)))=η):
  Meets (Ow.«range.__reversed__» ⟨[.ref r],[]⟩) (λ_ R s=>s.heap.get? r=ψ { cls:=.type "range",dict:=ω,data:=.fields #[.int a t,.int b u,.int c v],slots:=#[] }/\R (.ok (.ret (vx s⁻¹))) { s with heap:=s.heap.push { cls:=MX (if (j_ a && j_ b && j_ c && j_ (-c) && j_ (a - c) && j_ (t_ a b c))=η then "range_iterator" else "longrange_iterator"),data:=.fields #[rawInt (a+(t_ a b c - 1)*c),rawInt (t_ a b c),rawInt (-c)] } }) :=
 .of_wp λprog w A R s h=>by obtain⟨hp,g,d,tk,os⟩:=s;obtain⟨hl,h⟩:=h;wp_walk;exact⟨_,rfl,h⟩
def iW{r:Addr}{a b c:Int}{t u v:Tok}{Q₁:Value->d_->Prop}(hr:IsRange s.heap r a b c t u v)(hs:(j_ a && j_ b && j_ c && j_ (-c) && j_ (a - c) && j_ (t_ a b c))=η)(h:Q₁ (.ref s⁻¹) { s with heap:=s.heap.push { cls:=.type "range_iterator",data:=.fields #[rawInt (a+(t_ a b c - 1)*c),rawInt (t_ a b c),rawInt (-c)] } }):
  codeAny (model prog w) A (.call (.builtin "reversed.__new__") ⟨[.type "reversed",.ref r],[]⟩) (wants Q₁ E) s:=by
 have hT:s.TypeIs (.ref r) "range":=⟨_,hr,rfl⟩
 refine QF ?_;show wpAny _ A.in1 (do checkBuiltinCall "reversed.__new__" ⟨[.type "reversed",.ref r],[]⟩;again (.builtin "reversed.__new__" ⟨[.type "reversed",.ref r],[]⟩)) _ _ s;refine cn (Oa (F.newCall_reversed_1 _) (gV ⟨Ou F.plain_reversed_new _,Nx F.entry_reversed_new ?_⟩));rw [Ob F.plain_reversed_new _];unfold Ow.«reversed.__new__»
 refine cn (Oa (newClass_reversed _) ?_)
 try dsimp only
 refine cn (Oa (a:=()) (by first|rfl|kernel_rfl) ?_);refine cn (Oa (a:=()) (by first|rfl|kernel_rfl) ?_)
 try dsimp only
 refine cn (Oy hT F.slot_range_reversed.lookup ?_)
 try dsimp only
 refine cn (Oa (F.slot_range_reversed.bind _) ?_)
 try dsimp only
 first
 | rw [if_neg (show ¬ ((Value.builtin "range.__reversed__" == M7)=η) from l_)]
 | (show wpAny _ _ (if (Value.builtin "range.__reversed__" == M7)=true then _ else _) _ _ _;rw [if_neg (show ¬ ((Value.builtin "range.__reversed__" == M7)=true) from l_)])
 refine cn (Pe ?_)
 refine cn (m:=runValue (.call (.builtin "range.__reversed__") ⟨[.ref r],[]⟩)) (show wpAny _ _ (call (.builtin "range.__reversed__") [.ref r]) _ _ _ from
  OD F.slot_range_reversed hT F.entry_range_reversed (F.args_range_reversed_1 _) (lR r a b c t u v (by rw [hs];decide)) ⟨hr,?_⟩)
 simp only [hs,if_true]
 first
 | exact gV h
 | exact cn (gV (gV h))
def iX{r:Addr}{a b c:Int}{t u v:Tok}(hr:IsRange s.heap r a b c t u v)(hs:(j_ a && j_ b && j_ c && j_ (-c) && j_ (a - c) && j_ (t_ a b c))=η)(h:Q (.ref s⁻¹) { s with heap:=s.heap.push { cls:=.type "range_iterator",data:=.fields #[rawInt (a+(t_ a b c - 1)*c),rawInt (t_ a b c),rawInt (-c)] } }):
  wpAny (model prog w) A (call (.type "reversed") [.ref r]) Q E s:=by
 refine callType_other (U:="range_iterator") (Q₁:=λobj s₁=>obj=.ref s⁻¹/\s₁={ s with heap:=s.heap.push { cls:=.type "range_iterator",data:=.fields #[rawInt (a+(t_ a b c - 1)*c),rawInt (t_ a b c),rawInt (-c)] } }) (by decide +kernel) F.create_reversed ⟨_,_,F.mro_reversed⟩ F.made_reversed lQ (F.typeCall_reversed_1 _) (iW hr hs ⟨rfl,rfl⟩) ?_;rintro obj s₁ ⟨rfl,rfl⟩
 exact⟨⟨_,i_ _ rfl,rfl⟩,h⟩
def kz(j:Int):t_ 0 j 1=((j.toNat:Nat):Int):=by
 unfold t_;rw [if_pos (by decide)];simp only [ediv_one];split <;> omega
noncomputable def G0(ta:TA):TI:=λσ H R=>ta σ H λvs H1=>∃j:Int,vs=[.int j]/\(-(2^60)<=j/\j<2^60)/\R (Its (kT (j - 1) j.toNat)) H1
def tJ{a:Expr}(hg2:Gl X "reversed")(hm2:X.mg "reversed"=ω)(hg:Gl X "range")(hm:X.mg "range"=ω)(ha:PA X [a] ta)(hs:starEach [.Call (.Name "range" p1) [a] [] p2] X.env=[(ξ,eval (.Call (.Name "range" p1) [a] [] p2) X.env)]:=by rfl)(hs2:starEach [a] X.env=[(ξ,eval a X.env)]:=by rfl):
  PI X tg (.Call (.Name "reversed" p) [.Call (.Name "range" p1) [a] [] p2] [] pos) (G0 ta):=by
 intro pins s σ H R I h;refine Call_ (eY I hg2 hm2 boot_reversed (I_ ?_ hs rfl));rw [hs];show wpAny _ _ (spliced ((ξ,eval (.Call (.Name "range" p1) [a] [] p2) X.env)::backTo pos [])) _ _ s;refine Nn ?_;refine Call_ (eY I hg hm boot_range (I_ (thn (ha p2 pins s σ H _ I h) λus s1 ⟨vs,H1,I1,r1,q1⟩=>?_) hs2 rfl));obtain⟨j,e,⟨b1,b2⟩,q⟩:=q1
 subst e
 cases r1 with
 | cons r rr =>
  cases rr;obtain⟨t,rfl⟩:=r;refine call_range_1 (Nz ?_)
  refine iX (QN ..) ?_ ?_
  .rw [kz];simp only [j_,Mg,decide_eq_true_eq];omega
  rw [kz,show (0:Int)+((j.toNat:Nat) - 1)*1=((j.toNat:Nat):Int) - 1 by omega];refine NP (x:=((j.toNat:Nat):Int) - 1) (left:=((j.toNat:Nat):Int)) (step:=-1) (i_ _ rfl) ?_;have I2:Inv X pins σ H1 { s1 with heap:=s1.heap.push { cls:=.type "range",data:=.fields #[.int 0 s1.toks,.int j t,.int 1 (s1.toks+1)] },toks:=s1.toks+1+1 }:=I1.kept λb o e=>c_ _ e
  refine⟨_,[(s1.heap.push { cls:=.type "range",data:=.fields #[.int 0 s1.toks,.int j t,.int 1 (s1.toks+1)] }).objs.size],_,Its (kT (j - 1) j.toNat),H1,rfl,I2.kept (t':=s1.toks+1+1) λb o e=>c_ _ e,
   jy (λA hA=>Walks.range hA _ (((j.toNat:Nat):Int) - 1) (-1) j.toNat) (jA _ _) ?_ ?_ ?_ ?_ (λA i s Q E st q=>NP st q),?_,λb hb=>?_,q⟩
  .rintro k v hk ⟨t,rfl⟩
   refine⟨.int (j - 1 - k),?_,t,?_⟩
   .unfold kT;rw [h_,Mj hk];rfl
   .have e:((j.toNat:Nat):Int) - 1+(k:Int)*(-1)=j - 1 - k:=by omega
    rw [e]
  .rintro k v ⟨t,rfl⟩ a z;cases z
  .exact λk h st=>⟨_,st,λv z=>by
    have z':Data.fields _=Data.cell v:=z;cases z'⟩
  .exact λk h h' st kk=>kk _ (by simp) _ st
  .show QM _ _ (((j.toNat:Nat):Int) - 1+((0:Nat):Int)*(-1)) (((j.toNat:Nat):Int) - ((0:Nat):Int)) (-1);simp only [natCast_zero,Int.zero_mul,Int.add_zero,Q2];exact i_ _ rfl
  .have e:b=(s1.heap.push { cls:=.type "range",data:=.fields #[.int 0 s1.toks,.int j t,.int 1 (s1.toks+1)] }).objs.size:=by simpa using hb
   subst e;exact I2.fpOk (f_ _) (I2.hok.fresh (f_ _))
noncomputable def Itk(k:Bool)(K:b_)(a:Addr):It:=cond k (Itt K a) (Itl K a)
noncomputable def G1(K:b_):R2:=λx y H Q=>∃l b xs zs,x=.ref l/\y=.ref b/\SqL K H l xs/\SqL K H b zs/\xs.length+zs.length<=sizeLine/\∀p,H p=ω->Q (.ref p) (upd H p (.lst (xs++zs)))
def Ef:OpR X (binaryOp .Add) (G1 X.K):=by
 intro pins s σ H x y v u Q I rx ry h;obtain⟨l,b,xs,zs,rfl,rfl,hH,hB,hz,q⟩:=h;cases rx;cases ry;obtain⟨its,r,pl,hl⟩:=I.list hH;obtain⟨its2,r2,pl2,hl2⟩:=I.list hB;obtain⟨⟨cls,dd,data,sl⟩,ho,hc,n,hd⟩:=pl.isList;obtain⟨⟨cls2,dd2,data2,sl2⟩,ho2,hc2,n2,hd2⟩:=pl2.isList;simp only at hc hd hc2 hd2;subst hc hd hc2 hd2;have n1:=r.length;have n2':=r2.length;have ea:its.toArray++its2.toArray=(its++its2).toArray:=by simp
 have fin:EP X pins σ Q (.ref s⁻¹) { s with heap:=s.heap.push { cls:=.type "list",data:=.seq (its.toArray++its2.toArray) } }:=by
  rw [ea];exact⟨.ref _,_,I.lnew (t':=s.toks) (r.append r2) (by rw [kx];omega),rfl,q _ I.fresh⟩
 exact Qp ⟨_,ho,rfl⟩ ⟨_,ho2,rfl⟩ noFill_list_add seq_list_add PySem.F.slot_list_add PySem.F.entry_list_add (PySem.F.args_list_add_2 _ _) (list_addW l b its.toArray its2.toArray n n2 dd dd2 sl sl2 (by simp;omega)) ⟨ho,ho2,fin⟩
noncomputable def oQ(n:Nat)(d:OE):Prop:=d.canLay0=η/\d.depth<=n
def oQ.shaped{d:OE}(h:oQ n d)(hn:n<=64):M3 d=true:=by
 unfold M3;rw [h.1,decide_eq_true (Mn h.2 hn)];rfl
theorem tK{n:Nat}:∀{ds:List OE},(∀d∈ds,oQ n d)->O0 ds=η/\Oz ds<=n
 | [],_=>⟨rfl,NJ _⟩
 | d::ds,h=>by
  obtain⟨a,b⟩:=tK (ds:=ds) λx hx=>h x (n_ _ hx);obtain⟨c,e⟩:=h d q_;simp only [O0,Oz,a,c];exact⟨rfl,max_le.mpr ⟨e,b⟩⟩
def oQ.list{ds:List OE}(h:∀d∈ds,oQ n d):oQ (n+1) (.list ds):=by
 obtain⟨a,b⟩:=tK h;exact⟨by simp only [O3];exact a,by simp only [Pz];omega⟩
def oQ.tuple{ds:List OE}(h:∀d∈ds,oQ n d):oQ (n+1) (.tuple ds):=by
 obtain⟨a,b⟩:=tK h;exact⟨by simp only [O3];exact a,by simp only [Pz];omega⟩
def oQ.int(i:Int):oQ 0 (.int i):=⟨by simp [O3],by simp [Pz]⟩
noncomputable def Lts(l:Δ):Prop:=∀c∈l,97<=c/\c<=122
def Lts.app{a b:Δ}(x:Lts a)(y:Lts b):Lts (a++b):=λc h=>(Mv.mp h).elim (x c) (y c)
def Lts.one{c:Nat}(h:97<=c/\c<=122):Lts [c]:=λd hd=>by
 have:d=c:=by simpa using hd
 subst this;exact h
def Lts.take{a:Δ}(x:Lts a)(n:Nat):Lts (a.take n):=λc h=>x c (mem_of_mem_take h)
def Lts.drop{a:Δ}(x:Lts a)(n:Nat):Lts (a.drop n):=λc h=>x c (mem_of_mem_drop h)
def Lts.cut{a:Δ}(x:Lts a)(lo hi:Option Int):Lts (dO a lo hi):=(x.drop _).take _
def Lts.rep{a:Δ}(x:Lts a)(n:Int):Lts (xT a n):=λc h=>by
 unfold xT at h;obtain⟨l,h1,h2⟩:=mem_flatten.mp h;rw [eq_of_mem_replicate h1] at h2;exact x c h2
def oQ.str{l:Δ}(h:Lts l):oQ 0 (.str (S l)):=by
 refine⟨?_,by simp [Pz]⟩;simp only [O3,PyData.strOk,S];rw [Array.all_eq_true];intro i hi;have:=h l[i] (MB _);simp only [getElem_toArray,decide_eq_true_eq];omega
def rj(ns:Λ):∀d∈ns.map Qv,oQ 0 d:=λd hd=>by
 obtain⟨i,_,rfl⟩:=Mp.mp hd;exact oQ.int i
variable {ws:Γ}
def wU(h:∀w∈ws,Lts w):∀d∈ws.map (λw=>PyData.str (S w)),oQ 0 d:=λd hd=>by
 obtain⟨i,hi,rfl⟩:=Mp.mp hd;exact oQ.str (h i hi)
def rk(h:∀w∈ws,Lts w):M3 (.list (ws.map λw=>PyData.str (S w)))=true:=(oQ.list (wU h)).shaped (by decide)
def Bt{d:OE}(h:M3 d=η):N7 d d=true:=SeqAt.eqv_refl d (SeqAt.canLay_of_shaped h)
theorem lS(p:Nat->Prop)(h0:p 0):∀n,0<n->∃k,k<n/\p k/\∀j,j<n->p j->j<=k
 | 0,h=>absurd h (by decide)
 | 1,_=>⟨0,by decide,h0,λj hj _=>by omega⟩
 | n+2,_=>by
  obtain⟨k,h1,h2,h3⟩:=lS p h0 (n+1) ⋯
  by_cases c:p (n+1)
  .exact⟨n+1,by omega,c,λj hj _=>by omega⟩
  .refine⟨k,by omega,h2,λj hj hp=>?_⟩
   by_cases e:j=n+1
   .subst e;exact absurd hp c
   .exact h3 j ⋯ hp
variable {κ:Type} [DecidableEq κ]
noncomputable def qH(kvs:List (κ×V))(k:κ):Option V:=(kvs.find? λkv=>decide (kv.1=k)).map (·.2)
noncomputable def wV(kvs:List (κ×V))(k:κ)(v:V):List (κ×V) :=
 if (kvs.any λkv=>decide (kv.1=k))=η then kvs.map (λkv=>if kv.1=k then (kv.1,v) else kv) else kvs++[(k,v)]
noncomputable def tM(kvs:List (κ×V))(k:κ):List (κ×V):=kvs.filter λkv=>decide (kv.1≠k)
def li{p:κ×V}{r:List (κ×V)}{k:κ}(e:p.1=k):qH (p::r) k=ψ p.2:=by simp [qH,NT,e]
def lj{p:κ×V}{r:List (κ×V)}{k:κ}(e:¬ p.1=k):qH (p::r) k=qH r k:=by simp [qH,NT,e]
theorem vp(k:κ):∀kvs:List (κ×V),(kvs.any λkv=>decide (kv.1=k))=(qH kvs k).isSome
 | []=>rfl
 | p::r=>by
  rw [N6]
  by_cases e:p.1=k
  .simp only [li e,decide_eq_true e,Bool.true_or,Option.isSome_some]
  .rw [lj e,decide_eq_false e,P6];exact vp k r
def lT(kvs:List (κ×V))(k:κ)(v:V):(wV kvs k v).length<=kvs.length+1:=by
 unfold wV
 split
 .rw [cy];omega
 .rw [kx,Mm,OC];omega
def qL.isSome_eq{o:Option V}{u:Option Value}(r:qL o u):o.isSome=u.isSome:=by
 cases o with
 | none=>cases u with
  | none=>rfl
  | some _=>exact (show False from r).elim
 | some _=>cases u with
  | none=>exact (show False from r).elim
  | some _=>rfl
variable {kvs:List (κ×V)}
def KV.val{vs:List (κ×Value)}(r:KV kvs vs)(k:κ):qL (qH kvs k) (valueAt vs k):=by
 unfold KV at r
 induction r with
 | nil=>exact MO
 | @cons p q ps qs h t ih =>
  obtain⟨h1,h2⟩:=h
  by_cases e:p.1=k
  .have e':q.1=k:=h1.symm.trans e;have b:valueAt (q::qs) k=ψ q.2:=by simp [valueAt,NT,e']
   rw [li e,b];exact h2
  .have e':¬ q.1=k:=λz=>e (h1.trans z);have b:valueAt (q::qs) k=valueAt qs k:=by simp [valueAt,NT,e']
   rw [lj e,b];exact ih
def KV.any{vs:List (κ×Value)}(r:KV kvs vs)(k:κ):(kvs.any λkv=>decide (kv.1=k))=vs.any λkv=>decide (kv.1=k):=by
 unfold KV at r
 induction r with
 | nil=>rfl
 | cons h t ih=>rw [N6,N6,ih,h.1]
variable {y:V}
def KV.repl{vs:List (κ×Value)}(r:KV kvs vs)(k:κ)(ry:cC y u):
  KV (kvs.map λkv=>if kv.1=k then (kv.1,y) else kv) (vs.map λkv=>if kv.1=k then (kv.1,u) else kv):=by
 unfold KV at r ⊢
 induction r with
 | nil=>exact .nil
 | @cons p q ps qs h t ih =>
  rw [so,so];refine .cons ?_ ih;obtain⟨h1,h2⟩:=h
  by_cases e:p.1=k
  .rw [if_pos e,if_pos (h1.symm.trans e)];exact⟨h1,ry⟩
  .rw [if_neg e,if_neg (λz=>e (h1.trans z))];exact⟨h1,h2⟩
def KV.put{vs:List (κ×Value)}(r:KV kvs vs)(k:κ)(ry:cC y u):KV (wV kvs k y) (stored vs k u):=by
 unfold wV stored;rw [r.any k]
 by_cases e:(vs.any λkv=>decide (kv.1=k))=η
 .rw [if_pos e,if_pos e];exact r.repl k ry
 .rw [if_neg e,if_neg e];exact Paired.snoc r ⟨rfl,ry⟩
def KV.drop{vs:List (κ×Value)}(r:KV kvs vs)(k:κ):KV (tM kvs k) (without vs k):=by
 unfold KV at r ⊢;unfold tM without
 induction r with
 | nil=>exact .nil
 | @cons p q ps qs h t ih =>
  obtain⟨h1,h2⟩:=h;rw [Oc,Oc]
  by_cases e:p.1=k
  .have a:¬ decide (p.1≠k)=true:=by simp [e]
   have b:¬ decide (q.1≠k)=true:=by simp [h1.symm.trans e]
   rw [if_neg a,if_neg b];exact ih
  .have e':¬ q.1=k:=λz=>e (h1.trans z);have a:decide (p.1≠k)=true:=by simp [e]
   have b:decide (q.1≠k)=true:=by simp [e']
   rw [if_pos a,if_pos b];exact .cons ⟨h1,h2⟩ ih
def KV.length{vs:List (κ×Value)}(r:KV kvs vs):kvs.length=vs.length:=Paired.length r
def Bu(kvs:List (κ×V))(k:κ):(tM kvs k).length<=kvs.length:=NM _ _
def yN{P:v_}{k:Key}(r:cC (kV k) u):(cB P w).is k u=true:=by
 cases k with
 | inl i=>obtain⟨t,e⟩:=(show ∃t,u=OH i t from r);subst e;exact sY P w i t
 | inr x=>obtain⟨t,e⟩:=(show ∃t,u=Pa x t from r);subst e;exact sZ P w x t
theorem rm{P:v_}:∀{ks:List Key}{us:Ξ},bI (ks.map kV) us->ItemsAre (cB P w) ks us
 | [],_,r=>by rw [P2] at r;cases r;exact .nil
 | k::ks,_,r=>by
  rw [so] at r
  cases r with
  | cons h t=>exact .cons (yN h) (rm t)
abbrev KT(H:Hp):List (List Key×V)->List (List Key×Addr×Value)->Prop:=Paired λp q=>p.1=q.1/\H q.2.1=ψ (.tup (p.1.map kV))/\cC p.2 q.2.2
def KT.val{kvs:List (List Key×V)}{xs:List (List Key×Addr×Value)}(r:KT H kvs xs)(k:List Key):qL (qH kvs k) ((atKey xs k).map (·.2)):=by
 induction r with
 | nil=>exact MO
 | @cons p q ps qs h t ih =>
  obtain⟨h1,_,h2⟩:=h
  by_cases e:p.1=k
  .have e':q.1=k:=h1.symm.trans e;have b:atKey (q::qs) k=ψ q.2:=by simp [atKey,NT,e']
   rw [li e,b];exact h2
  .have e':¬ q.1=k:=λz=>e (h1.trans z);have b:atKey (q::qs) k=atKey qs k:=by simp [atKey,NT,e']
   rw [lj e,b];exact ih
def KT.repl{kvs:List (List Key×V)}{xs:List (List Key×Addr×Value)}(r:KT H kvs xs)(k:List Key)(ry:cC y u):
  KT H (kvs.map λkv=>if kv.1=k then (kv.1,y) else kv) (xs.map (putAt k u)):=by
 induction r with
 | nil=>exact .nil
 | @cons p q ps qs h t ih =>
  rw [so,so];refine .cons ?_ ih;obtain⟨h1,h2,h3⟩:=h;unfold putAt
  by_cases e:p.1=k
  .rw [if_pos e,if_pos (h1.symm.trans e)];exact⟨h1,h2,ry⟩
  .rw [if_neg e,if_neg (λz=>e (h1.trans z))];exact⟨h1,h2,h3⟩
variable {b:Addr}
def KT.put{kvs:List (List Key×V)}{xs:List (List Key×Addr×Value)}(r:KT H kvs xs)(k:List Key)(hb:H b=ψ (.tup (k.map kV)))(ry:cC y u):
  KT H (wV kvs k y) (storedH xs k b u):=by
 have e:(kvs.any λkv=>decide (kv.1=k))=(atKey xs k).isSome:=by
  rw [vp,(r.val k).isSome_eq,P3]
 unfold wV storedH;rw [e]
 by_cases q:(atKey xs k).isSome=η
 .rw [if_pos q,if_pos q];exact r.repl k ry
 .rw [if_neg q,if_neg q];exact Paired.snoc r ⟨rfl,hb,ry⟩
variable {H':Hp}
def KT.keeps{kvs:List (List Key×V)}{xs:List (List Key×Addr×Value)}(r:KT H kvs xs)(ht:∀b ys,H b=ψ (.tup ys)->H' b=ψ (.tup ys)):KT H' kvs xs :=
 Paired.mapP r λ_ _ z=>⟨z.1,ht _ _ z.2.1,z.2.2⟩
section
variable {P:v_}
def G2{u:HO}(ok:HOk P w H h)(e:Rd H a u):bN P w H h a u:=e.ok ok
def wW{kvs:List (Key×V)}(ok:HOk P w H h)(e:Rd H a (.dK kvs)):kvs.length<=sizeLine/\(a == sysModules)=ξ/\∃vs,KV kvs vs/\h.DictOf (cB P w) a vs :=
 show bN P w H h a (.dK kvs) from G2 ok e
def Bv{kvs:List (Key×V)}(ok:HOk P w H h)(e:H a=ψ (.dK kvs)):kvs.length<=sizeLine/\(a == sysModules)=ξ/\∃vs,KV kvs vs/\h.DictOf (cB P w) a vs:=wW ok (.inl e)
variable {ks:List Key}
def vq(ok:HOk P w H h)(e:H a=ψ (.tup (ks.map kV))):(tupleKind (cB P w)).is h ks a:=by
 obtain⟨_,its,r,o,h1,h2,n,h3⟩:=(show bN P w H h a (.tup (ks.map kV)) from ok a _ e)
 exact⟨o,its.toArray,n,h1,h2,h3,by simpa using rm r⟩
def yO{kvs:List (List Key×V)}(ok:HOk P w H h)(e:Rd H a (.dT kvs)):kvs.length<=sizeLine/\(a == sysModules)=ξ /\
  ∃xs,KT H kvs xs/\h.DictOfH (tupleKind (cB P w)) a xs:=by
 obtain⟨z,y,xs,r,o,es,ep,h1,h2,h3,h4,h5⟩:=(show bN P w H h a (.dT kvs) from G2 ok e)
 refine⟨z,y,xs,r,o,es,ep,h1,h2,h3,h4,λx hx=>?_,h5⟩
 have all:∀{l:List (List Key×V)}{m:List (List Key×Addr×Value)},KT H l m->∀x∈m,(tupleKind (cB P w)).is h x.1 x.2.1:=by
  intro l m q
  induction q with
  | nil=>intro x hx;exact nomatch hx
  | @cons p q ps qs hq t ih =>
   intro x hx
   rcases B_.mp hx with e|hx
   .subst e;exact vq ok (by rw [<- hq.1];exact hq.2.1)
   .exact ih x hx
 exact all r x hx
def JN{kvs:List (List Key×V)}(ok:HOk P w H h)(e:H a=ψ (.dT kvs)):kvs.length<=sizeLine/\(a == sysModules)=ξ /\
  ∃xs,KT H kvs xs/\h.DictOfH (tupleKind (cB P w)) a xs:=yO ok (.inl e)
end
noncomputable def AM(H:Hp)(a:Addr)(y:V)(r:Option V):Prop :=
 (∃kvs k,Rd H a (.dK kvs)/\y=kV k/\r=qH kvs k)\/∃kvs k b,Rd H a (.dT kvs)/\y=.ref b/\H b=ψ (.tup (k.map kV))/\r=qH kvs k
noncomputable def G3(H:Hp)(a:Addr)(y v:V)(H':Hp):Prop :=
 (∃kvs k,H a=ψ (.dK kvs)/\y=kV k/\kvs.length<sizeLine/\H'=upd H a (.dK (wV kvs k v))) \/
 ∃kvs k b,H a=ψ (.dT kvs)/\y=.ref b/\H b=ψ (.tup (k.map kV))/\kvs.length<sizeLine/\H'=upd H a (.dT (wV kvs k v))
def AM.k{kvs:List (Key×V)}{k:Key}(e:H a=ψ (.dK kvs)):AM H a (kV k) (qH kvs k):=.inl ⟨kvs,k,.inl e,rfl,rfl⟩
variable {v:V}
def G3.k{kvs:List (Key×V)}{k:Key}(e:H a=ψ (.dK kvs))(hl:kvs.length<sizeLine):G3 H a (kV k) v (upd H a (.dK (wV kvs k v))):=.inl ⟨kvs,k,e,rfl,hl,rfl⟩
def Inv.big(I:Inv X pins σ H s):sysModules<s⁻¹:=by
 have h:mainGlobals<s⁻¹:=(I.mod.glob.keeps I.bk).lt;exact Nat.lt_trans (by decide) h
variable {o:Option V}
def yP(hu:A.units+1<cLine)(I:Inv X pins σ H s)(g:AM H a y (ψ v))(ry:cC y u)(h:∀w' s',Inv X pins σ H s'->cC v w'->Q w' s'):
  wpAny (model X.prog X.w) A (getItem (.ref a) u) Q E s:=by
 rcases g with ⟨kvs,k,e,ey,l⟩|⟨kvs,k,b,e,ey,eb,l⟩
 .subst ey;obtain⟨z,hd,vs,rel,dd⟩:=wW I.hok e;obtain⟨w',hw,rw'⟩:=qL.some_of (v:=v) (o:=valueAt vs k) (by rw [l];exact rel.val k);exact wpAny_getItem_of (yN ry) dd.mapOf hw (h w' _ (I.tok _) rw')
 .subst ey;cases (show u=vx b from ry);obtain⟨z,hd,xs,rel,dd⟩:=yO I.hok e;obtain⟨w',hw,rw'⟩:=qL.some_of (v:=v) (o:=(atKey xs k).map (·.2)) (by rw [l];exact rel.val k);obtain⟨p,hp,hp2⟩:=OP.mp hw;refine wpAny_getItem_heap (PU hu) (vq I.hok eb) dd hp ?_;rw [hp2];exact h w' _ (I.tok _) rw'
def Eg(hu:A.units+1<cLine)(I:Inv X pins σ H s)(g:AM H a y o)(ry:cC y u)(h:∀s',Inv X pins σ H s'->Q (.bool (!o.isSome)) s'):
  wpAny (model X.prog X.w) A (compareOp .NotIn u (.ref a)) Q E s:=by
 rcases g with ⟨kvs,k,e,ey,l⟩|⟨kvs,k,b,e,ey,eb,l⟩
 .subst ey;obtain⟨z,hd,vs,rel,dd⟩:=wW I.hok e;refine wpAny_notIn_of (yN ry) hd dd.mapOf ?_;rw [<- (rel.val k).isSome_eq,<- l];exact h _ (I.tok _)
 .subst ey;cases (show u=vx b from ry);obtain⟨z,hd,xs,rel,dd⟩:=yO I.hok e;refine wpAny_notIn_heap (PU hu) (vq I.hok eb) hd dd ?_;have q:=(rel.val k).isSome_eq;rw [P3] at q;rw [<- q,<- l];exact h _ (I.tok _)
variable {t':Nat}
def tO{ob:HO}(I:Inv X pins σ H s)(mu:Mut (H a))(hs:Of a s.heap h')(he:∃q,h'.get? a=ψ q)(new:bN X.prog X.w (upd H a ob) h' a ob):
  Inv X pins σ (upd H a ob) { s with heap:=h',toks:=t' } :=
 I.write (x:=a) (e:=a) mu (.inl rfl) (λb q hb z=>(hs.2 b hb).trans z) he new
def CV{P:v_}{kvs:List (Key×V)}{vs:List (Key×Value)}(z:kvs.length<=sizeLine)(hd:(a == sysModules)=ξ)(rel:KV kvs vs)(dd:h'.DictOf (cB P w) a vs):
  bN P w H' h' a (.dK kvs):=⟨z,hd,vs,rel,dd⟩
variable {r:Value}
def yQ{Q:Unit->d_->Prop}(hu:A.units+1<cLine)(I:Inv X pins σ H s)(g:G3 H a y v H')(ry:cC y u)(rv:cC v r)(h:∀s',Inv X pins σ H' s'->Q () s'):
  wpAny (model X.prog X.w) A (setItem (.ref a) u r) Q E s:=by
 rcases g with ⟨kvs,k,e,ey,l,eH⟩|⟨kvs,k,b,e,ey,eb,l,eH⟩
 .subst ey eH;obtain⟨z,hd,vs,rel,dd⟩:=Bv I.hok e;have hz:vs.length<=sizeLine:=by rw [<- rel.length];exact z
  have hl:(wV kvs k v).length<=sizeLine:=by have:=lT kvs k v;omega
  refine wpAny_setItem_pairs (hsz:=hz) (yN ry) dd λh' dd' hs=>h _ ?_;have he:∃q,h'.get? a=ψ q:=let ⟨q,_,_,hq,_⟩:=dd';⟨q,hq⟩
  exact tO I (by rw [e];exact MO) hs he (CV hl hd (rel.put k rv) dd')
 .subst ey eH;cases (show u=vx b from ry);obtain⟨z,hd,xs,rel,dd⟩:=JN I.hok e;have hz:xs.length<=sizeLine:=by rw [<- Paired.length rel];exact z
  have hl:(wV kvs k v).length<=sizeLine:=by have:=lT kvs k v;omega
  refine wpAny_setItem_heap (hsz:=hz) (PU hu) (vq I.hok eb) dd λh' dd' hs=>h _ ?_;obtain⟨q,es,ep,hq,h2,h3,h4,_,h5⟩:=dd';refine tO I (by rw [e];exact MO) hs ⟨q,hq⟩ ⟨hl,hd,_,(rel.put k eb rv).keeps λc ys ec=>?_,q,es,ep,hq,h2,h3,h4,h5⟩;rw [ax (Jr ec e (λz=>nomatch z))];exact ec
section
variable {kvs:List (Key×V)}{k:Key}
def JO{more:Ξ}(I:Inv X pins σ H s)(e:H a=ψ (.dK kvs))(ry:cC (kV k) u)(l:qH kvs k=ψ v)(hm:more=[]\/∃x,more=[x])(h:∀w' s',Inv X pins σ (upd H a (.dK (tM kvs k))) s'->cC v w'->Q w' s'):wpAny (model X.prog X.w) A (call (.builtin "dict.pop") (.ref a::u::more)) Q E s:=by
 obtain⟨z,hd,vs,rel,dd⟩:=Bv I.hok e;obtain⟨w',hw,rw'⟩:=qL.some_of (v:=v) (o:=valueAt vs k) (by rw [<- l];exact rel.val k)
 have hp:(keyPart u).isSome=true:=by
  cases k with
  | inl i=>obtain⟨t,q⟩:=(show ∃t,u=OH i t from ry);subst q;rfl
  | inr x=>obtain⟨t,q⟩:=(show ∃t,u=Pa x t from ry);subst q;rfl
 have ha:argsOk "dict.pop" ⟨.ref a::u::more,[]⟩:=by
  rcases hm with q|⟨x,q⟩
  .subst q;exact PySem.F.args_dict_pop_2 _ _
  .subst q;exact PySem.F.args_dict_pop_3 _ _ _
 refine call_meetsIn QH dd.typeIs PySem.F.entry_dict_pop ha (meets_dict_pop_there (cB X.prog X.w) a (yN ry) more hm hp)
  ⟨vs,w',dd,by rw [<- rel.length];exact z,hw,λh' dd' hs=>h w' _ ?_ rw'⟩
 have he:∃q,h'.get? a=ψ q:=let ⟨q,_,_,hq,_⟩:=dd';⟨q,hq⟩
 exact tO I (by rw [e];exact MO) hs he (CV (Mn (Bu kvs k) z) hd (rel.drop k) dd')
def JP(I:Inv X pins σ H s)(e:Rd H a (.dK kvs))(h:∀t s',Inv X pins σ H s'->Q (.int kvs.length t) s'):wpAny (model X.prog X.w) A (call (.builtin "len") [.ref a]) Q E s:=by
 obtain⟨z,hd,vs,rel,dd⟩:=wW I.hok e;refine call_len_dict hd dd (by rw [<- rel.length];rw [Pi] at z;omega) ?_;rw [<- rel.length];exact h _ _ (I.tok _)
end
noncomputable def JQ(i:Expr):Prop:=∀ov iv,subscripted i ξ ov iv=operate [ov,iv] (getItem ov iv)
def Eh{value slice:Expr}{T id:String}(hl:typeLookup (.type T) "__getitem__"=pure (ψ (.builtin id)))(hs:JQ slice)(h:wpAny (model prog w) A (eval value env) (λo s₁=>wpAny (model prog w) A (eval slice env) (λi s₂=>s₂.TypeIs o T/\wpAny (model prog w) A (getItem o i) Q E s₂) E s₁) E s):
  wpAny (model prog w) A (eval (.Subscript value slice pos) env) Q E s:=by
 refine Subscript_ (Ml h (λo s₁ h₁=>Ml h₁ (λi s₂ h₂=>?_) λ_ _ x=>x) λ_ _ x=>x);obtain⟨hT,h₂⟩:=h₂;unfold subscriptTail;refine cn ?_;rw [getitemInPython_of_ne hT.not_modules];refine cn (Oy hT hl ?_)
 have fin:wpAny (model prog w) A (subscripted slice ξ o i) (λr s₃=>wpAny (model prog w) A (letTemporaryGo value o r >>= λ_=>pure r) Q E s₃) E s₂:=by
  rw [hs o i];exact wpAny_operating (Ml h₂ (λr s₃ h₃=>cn (wpAny_letTemporaryGo (gV h₃))) λ_ _ x=>x)
 first
  | exact gV (cn fin)
  | exact cn (gV (cn fin))
  | exact cn fin
def tP(I:Inv X pins σ H s)(g:AM H a y o):s.TypeIs (.ref a) "dict":=by
 rcases g with ⟨kvs,k,e,_,_⟩|⟨kvs,k,b,e,_,_,_⟩
 .obtain⟨_,_,vs,_,dd⟩:=wW I.hok e;exact dd.typeIs
 .obtain⟨_,_,xs,_,dd⟩:=yO I.hok e;exact dd.typeIs
noncomputable def JR(td ty:TE):TE:=λσ H Q=>td σ H λx H1=>ty σ H1 λy H2=>∃a v,x=.ref a/\AM H2 a y (ψ v)/\Q v H2
noncomputable def Ei(td ty tv:TE):TS:=λD σ H=>tv σ H λv H1=>td σ H1 λx H2=>ty σ H2 λy H3=>∃a H4,x=.ref a/\G3 H3 a y v H4/\D.nx σ H4
section
variable {o i:Expr}{td ty:TE}
def Ej(hu:X.A.units+1<cLine)(ho:PE X o td)(hi:PE X i ty)(hs:JQ i):PE X (.Subscript o i pos) (JR td ty):=by
 intro pins s σ H Q I h;refine Eh PySem.F.slot_dict_getitem.lookup hs (thn (ho pins s σ H _ I h) λu s1 ⟨x,H1,I1,rx,q1⟩=>thn (hi pins s1 σ H1 _ I1 q1) λiv s2 ⟨y,H2,I2,ry,a,v,ex,g,q2⟩=>?_);subst ex;obtain rfl:u=vx a:=rx;exact⟨tP I2 g,yP hu I2 g ry λw' s3 I3 rw'=>⟨v,H2,I3,rw',q2⟩⟩
variable {value:Expr}{pos':Pos}{tv:TE}
def Ek(hu:X.A.units+1<cLine)(ho:PE X o td)(hi:PE X i ty)(hv:PE X value tv)(hs:swapsWith value (ψ (.Subscript o i pos')) pos.line X.env=pure ξ):
  PS X (.Assign [.Subscript o i pos'] value pos) (Ei td ty tv):=by
 intro pins s σ H D I h;refine wpAny_Assign_Subscript (thn (hv pins s σ H _ I h) λr s1 ⟨v,H1,I1,rv,q1⟩=>thn (ho pins s1 σ H1 _ I1 q1) λu s2 ⟨x,H2,I2,rx,q2⟩=>thn (hi pins s2 σ H2 _ I2 q2) λiv s3 ⟨y,H3,I3,ry,a,H4,ex,g,q3⟩=>?_) hs;subst ex;obtain rfl:u=vx a:=rx;exact yQ hu I3 g ry rv λs4 I4=>⟨σ,H4,I4,q3⟩
end
def Bw{P:v_}(h:Heap)(hb:sysModules<h.objs.size):bN P w H (h.push { cls:=.type "dict",data:=.dict #[] }) h.objs.size (.dK []) :=
 ⟨NJ _,beq_eq_false_iff_ne.mpr (Nh (Mh hb)),[],.nil,Heap.DictOf.new h⟩
noncomputable def CW:TE:=λ_ H Q=>∀p,H p=ω->Q (.ref p) (upd H p (.dK []))
def vt:PE X (.Dict [] [] pos) CW:=λpins s σ H Q I h =>
 wpAny_Dict_empty ⟨.ref s⁻¹,_,I.laid (a:=s⁻¹) (o:=.dK []) (t':=s.toks) (λ_ _ q=>c_ _ q) (f_ _) (Bw s.heap I.big),rfl,h _ (I.hok.fresh (f_ _))⟩
structure M1 (X:Cx) (o:Expr) (m:Str) (apos:Pos) (e:Expr) (cpos:Pos):Prop where
 base:attributeBase o m X.env (eval o X.env)=eval o X.env
 few:((backTo cpos (starEach [e] X.env)).all (λx=>!x.1) && (backToKw cpos (keywordEach [] X.env)).all (λx=>x.1.isSome)
  && decide (([e]:List Expr).length+([]:List Keyword).length+(if ([]:List Keyword).isEmpty then 0 else 1)<30))=η
 line:(apos.endLine == cpos.line)=η
 trees:backTo cpos (starEach [e] X.env)=[(ξ,eval e X.env)]
noncomputable def IsD(H:Hp)(a:Addr):Prop:=(∃kvs,Rd H a (.dK kvs))\/∃kvs,Rd H a (.dT kvs)
def G4(I:Inv X pins σ H s)(d:IsD H a):
  s.TypeIs (.ref a) "dict"/\(∀b,vx a=.ref b->∃ob,s.heap.get? b=ψ ob/\ob.dict=ω)/\(a == sysModules)=false:=by
 rcases d with ⟨kvs,e⟩|⟨kvs,e⟩
 .obtain⟨_,hd,vs,_,dd⟩:=wW I.hok e;refine⟨dd.typeIs,λb q=>?_,hd⟩;cases q;obtain⟨ob,_,_,h1,h2,_⟩:=dd;exact⟨ob,h1,h2.2.1⟩
 .obtain⟨_,hd,xs,_,dd⟩:=yO I.hok e;refine⟨dd.typeIs,λb q=>?_,hd⟩;cases q;obtain⟨ob,_,_,h1,h2,_⟩:=dd;exact⟨ob,h1,h2.2.1⟩
noncomputable def CY(td ty:TE):TE:=λσ H Q=>td σ H λx H1=>∃a,x=.ref a/\IsD H1 a/\ty σ H1 λy H2=>∃kvs k v,H2 a=ψ (.dK kvs)/\y=kV k/\qH kvs k=ψ v/\Q v (upd H2 a (.dK (tM kvs k)))
section
variable {o:Expr}{apos cpos:Pos}{td ty:TE}
def Bx(ho:PE X o td)(he:PE X e ty)(m:M1 X o "pop" apos e cpos):PE X (.Call (.Attribute o "pop" apos) [e] [] cpos) (CY td ty):=by
 intro pins s σ H Q I h;refine wpAny_Call_method m.base m.few m.line PySem.F.plainAttrs_dict QH PySem.F.type_dict_pop (thn (ho pins s σ H _ I h) λu s1 ⟨x,H1,I1,rx,a,ex,d,q1⟩=>?_);subst ex;obtain rfl:u=vx a:=rx;obtain⟨t1,t2,_⟩:=G4 I1 d;refine⟨t1,t2,?_⟩;rw [m.trees];refine OX rfl (Calls.evalArgs_plain (Nn (thn (he pins s1 σ H1 _ I1 q1) λiv s2 ⟨y,H2,I2,ry,kvs,k,v,ea,ey,l,q2⟩=>Nz ?_)))
 subst ey;exact JO I2 ea ry l (.inl rfl) λw' s3 I3 rw'=>⟨v,_,I3,rw',q2⟩
end
def ll{i:Int}(hg:Gl X x)(h:∃t,X.mg x=ψ (.int i t))(hd:(x == ("__debug__":Str))=false:=by decide):PE X (.Name x pos) (tC (.int i)):=by
 obtain⟨t,e⟩:=h;exact DN (u:=.int i t) hg e ⟨t,rfl⟩ hd
structure G5 (P:v_) (w:World) (K:b_) (mg:Θ) (base:Heap) (k:Nat) (x:Str) (ps:List Str) (dvs:List V) (sp:Sp):Prop where
 ex:∃(f:Addr) (fd:MY),pM P w K mg base CX0 k f fd ps sp/\(∀n,n<=dvs.length->∃ds,bI (dvs.drop n) ds/\kS K fd ps ds)/\Mb K (.ref f)=η/\mg x=ψ (.ref f)
structure vv (K:b_) (mg:Θ) (x:Str) (st:Stmt) (dvs:List V):Prop where
 ex:∃(f dT:Addr) (oc:Value) (od an dd:Option Addr) (kV doc pm cdv ct:Value) (osl sl:Array (Option Value)) (items:Ξ) (n:Nat),
  K.lookup f=ψ ⟨oc,od,.func (Me x x (b9 st) (aU st) (ai st) (.ref dT) kV doc pm an cdv ct),osl⟩/\MH K cdv x=η/\Mb K (.ref f)=η/\mg x=ψ (.ref f) /\
  K.lookup dT=ψ ⟨.type "tuple",dd,.seq items.toArray n,sl⟩/\bI dvs items
section
variable {P:v_}{base:Heap}{ps:List Str}{k:Nat}{sp:Sp}{dvs:List V}
def vv.ok(D:vv K mg x st dvs)(S:aE N ps (ai st))(hb:∀(dT:Addr) (kV doc pm:Value) (an:Option Addr) (cdv ct:Value) (items:Ξ) (us:Ξ) (n:Nat),items.length=dvs.length->n<=dvs.length->(us++items.drop n).length=ps.length ->
   ∃k,bindArgs (Me x x (b9 st) (aU st) (ai st) (.ref dT) kV doc pm an cdv ct) ⟨us,[]⟩=seqItems? (.ref dT) >>= k/\k (ψ items.toArray)=pure (ps.zip (us++items.drop n)))(len:∀vs H Q E,sp vs H Q E->vs.length=ps.length)(hbody:∀(f:Addr) (cdv:Value) (A:G_) (outer:List Env) (s:d_) (H:Hp) (vs:List V) (Q:VK) (E:XK),eW k (A.deeper (envOfC x (ai st) s⁻¹ f cdv))->sp vs H Q E ->
   ∃t,PSs (qG CX0 P w K mg base N x (ai st) f cdv A outer s H E).nox (aU st) t/\t { nx:=λ_ H'=>Q .non H',rt:=Q } (start N vs) H):G5 P w K mg base (k+1) x ps dvs sp:=by
 obtain⟨f,dT,oc,od,an,dd,kV,doc,pm,cdv,ct,osl,sl,items,n,lk,hcd,kp,hm,lt,rv⟩:=D.ex;have hl:=rv.length
 refine⟨f,_,Gz lk hcd S len λA outer s H vs Q E hr hsp=>?_,λj hj=>⟨items.drop j,rv.drop j,λs us X hlen=>?_⟩,kp,hm⟩
 .obtain⟨t,h,q⟩:=hbody f cdv A outer s H vs Q E hr hsp;exact⟨t,h.nox,q⟩
 .obtain⟨k,h1,h2⟩:=hb dT kV doc pm an cdv ct items us j hl.symm hj hlen;exact BindsTo.of_defaults rfl (X dT _ lt) rfl h1 h2
end
section
variable {k:Nat}{ps:List Str}{sp:Sp}{t:TA}{dvs:List V}
def El(j:Nat)(C:G5 X.prog X.w X.K X.mg X.base k x ps dvs sp)(hr:eW k X.A)(hj:j<=dvs.length)(ha:PA X (e::es) t)(hg:Gl X x:=by rfl)(hdb:(x == ("__debug__":Str))=false:=by decide)(he:starEach (e::es) X.env=(ξ,eval e X.env)::starEach es X.env:=by rfl)(hpl:(backTo pos (starEach es X.env)).any (·.1)=false:=by rfl):PE X (.Call (.Name x p) (e::es) [] pos) (dA sp (dvs.drop j) E0 t):=by
 obtain⟨f,fd,F,hb,hk,hm⟩:=C.ex;obtain⟨ds,rv,hb⟩:=hb j hj;exact yk F hr hg hm hk hb rv Bj ha hdb he hpl
def G6{x:V}{t:Value}(I:Inv X pins σ H s)(rx:cC x u)(ty:qF X.K H x t):
  ∃Hq:Heap->Prop,PySem.W.KitX X.K u t Hq/\Hq s.heap/\u≠.builtin "__main__.__loader__#opaque":=by
 cases ty with
 | non=>cases (show u=M7 from rx);exact⟨_,PySem.W.kitx_none,MO,λz=>nomatch z⟩
 | bl y=>cases (show u=Nc y from rx);exact⟨_,PySem.W.kitx_bool,MO,λz=>nomatch z⟩
 | int i=>obtain⟨t,q⟩:=(show ∃t,u=OH i t from rx);cases q;exact⟨_,PySem.W.kitx_int,MO,λz=>nomatch z⟩
 | str y=>obtain⟨t,q⟩:=(show ∃t,u=Pa y t from rx);cases q;exact⟨_,PySem.W.kitx_str,MO,λz=>nomatch z⟩
 | flt y=>obtain⟨t,q⟩:=(show ∃t,u=QL y t from rx);cases q;exact⟨_,PySem.W.kitx_float,MO,λz=>nomatch z⟩
 | @lst a xs ea =>
  cases (show u=vx a from rx);obtain⟨_,_,n,_,h1⟩:=(show bN X.prog X.w H s.heap a (.lst xs) from I.hok a _ ea)
  exact⟨_,OS,⟨_,h1,rfl⟩,λz=>nomatch z⟩
 | @frz a ob xs ea =>
  cases (show u=vx a from rx);obtain⟨_,_,_,n,_,h1⟩:=(show bN X.prog X.w H s.heap a (.frz ob (.lst xs)) from I.hok a _ ea)
  exact⟨_,OS,⟨_,h1,rfl⟩,λz=>nomatch z⟩
 | @tup a xs ea =>
  cases (show u=vx a from rx);obtain⟨_,_,_,p⟩:=(show bN X.prog X.w H s.heap a (.tup xs) from I.hok a _ ea)
  obtain⟨o,h1,h2,_⟩:=p;exact⟨_,PySem.W.kitx_tuple,⟨o,h1,h2⟩,λz=>nomatch z⟩
 | @dK a kvs ea =>
  cases (show u=vx a from rx);obtain⟨_,_,vs,_,p⟩:=(show bN X.prog X.w H s.heap a (.dK kvs) from I.hok a _ ea)
  obtain⟨o,es,ep,h1,h2,_⟩:=p;exact⟨_,OT,⟨o,h1,h2.1⟩,λz=>nomatch z⟩
 | @dT a kvs ea =>
  cases (show u=vx a from rx);obtain⟨_,_,xs,_,o,es,ep,h1,h2,_⟩:=(show bN X.prog X.w H s.heap a (.dT kvs) from I.hok a _ ea)
  exact⟨_,OT,⟨o,h1,h2.1⟩,λz=>nomatch z⟩
 | @ins a C dx fs ea cl ha hn htk hm =>
  cases (show u=vx a from rx);obtain⟨mA,O,_⟩:=lG I.hok ea;obtain⟨od,J,_⟩:=O.look;exact⟨_,PySem.W.kitx_own (cl.get _) cl.hd ha hn htk hm,J,λz=>nomatch z⟩
theorem vw:∀{ts:List String}{us:Ξ},bI (ts.map V.ty) us->us=ts.map MX
 | [],_,.nil=>rfl
 | t::ts,_,.cons r rr=>by rw [vw rr,show _=MX t from r];rfl
def rp:bD X (.builtin "isinstance") (λxs H Q=>∃(x:V) (p:Addr) (ts:List String) (t:Value) (b:Bool),xs=[x,.ref p]/\qF X.K H x t/\H p=ψ (.tup (ts.map V.ty))/\O4 X.K t (ts.map MX)=ψ b/\Q (.bl b) H):=by
 intro pins s σ H xs us Q I r h;obtain⟨x,p,ts,t,b,rfl,ty,hp,e,q⟩:=h;obtain⟨u,w',rfl,rx,ry⟩:=A4 r;cases (show w'=vx p from ry);obtain⟨Hq,Z,hq,hx⟩:=G6 I rx ty;obtain⟨its,rv,⟨⟨cls,dd,data,sl⟩,ho,hc,n,hd⟩,_⟩:=I.tuple (SqT.of hp);simp only at hc hd;subst hc hd;exact PySem.W.kia_tup Z I.kIn hq ho (by rw [vw rv];exact e) hx λtk=>⟨.bl b,H,I.tok _,rfl,q⟩
def pX(bs:List Bool):(g_ bs.length).all (λi=>bs.getD i ξ)=bs.all id:=by
 induction bs with
 | nil=>rfl
 | cons b bs ih=>rw [Mm,OY,P_,all_map,P_,<- ih];rfl
def pY(bs:List Bool):(g_ bs.length).any (λi=>bs.getD i ξ)=bs.any id:=by
 induction bs with
 | nil=>rfl
 | cons b bs ih=>rw [Mm,OY,N6,any_map,N6,<- ih];rfl
def yR{bs:List Bool}(r:bI (bs.map V.bl) its){v:Value}(h:its.toArray[i]?=ψ v):v=.bool (bs.getD i ξ):=by
 have h':its[i]?=ψ v:=by simpa using h
 have hl:=r.length;rw [cy] at hl;have hi:i<bs.length:=by have:=(k_.mp h').1;omega
 obtain⟨u,e1,e2⟩:=r.get (i:=i) (x:=V.bl bs[i]) (by rw [h_,cx hi];rfl);rw [h'] at e1;cases e1;rw [show v=Nc bs[i] from e2,e_,cx hi];rfl
def By(hc:X.calm=η):bD X (.builtin "all") (λxs H Q=>∃(p:Addr) (bs:List Bool),xs=[.ref p]/\SqL X.K H p (bs.map V.bl)/\Q (.bl (bs.all id)) H):=by
 intro pins s σ H xs us Q I r h;obtain⟨p,bs,rfl,hS,q⟩:=h;obtain⟨u,rfl,ru⟩:=d0 r;cases (show u=vx p from ru);obtain⟨its,rv,pl,hz⟩:=I.list hS;have hl:=rv.length;rw [cy] at hl;have hps:p<s⁻¹:=let ⟨o,ho,_⟩:=pl.isList;m_ ho
 obtain⟨f0,f1,f2,f3,f4,f5⟩:=I.fpOk (H':=H) (f_ s⁻¹) (I.hok.fresh (f_ _))
 refine call_all_walk (NB pl.isList ⟨s⁻¹,_,_,its.toArray.size,_,_,λi=>bs.getD i ξ,rfl,Walks.list (by exact I.ok.hd hc) s⁻¹ p (Mh hps) its.toArray,⟨⟨_,i_ _ rfl,rfl,rfl⟩,pl.isList.push _⟩,λi v s Q E hP hQ=>?_,λh' tk hk=>?_⟩)
 .rw [yR rv hP];exact MC hQ
 .have I1:Inv X pins σ H { s with heap:=s.heap.push { cls:=.type "list_iterator",data:=.fields #[.ref p,.int 0 0] } }:=I.kept (t':=s.toks) λb o e=>c_ _ e;have I2:=I1.turned (h':=h') (t':=tk) (it:=s⁻¹) (λb o hb e=>hk b o (by simpa using hb) e) f0 f1 f3 f4 f5;refine⟨.bl (bs.all id),H,I2,?_,q⟩;show Nc _=Nc _;rw [we,<- hl,pX]
def Bz(hc:X.calm=η):bD X (.builtin "any") (λxs H Q=>∃(p:Addr) (bs:List Bool),xs=[.ref p]/\SqL X.K H p (bs.map V.bl)/\Q (.bl (bs.any id)) H):=by
 intro pins s σ H xs us Q I r h;obtain⟨p,bs,rfl,hS,q⟩:=h;obtain⟨u,rfl,ru⟩:=d0 r;cases (show u=vx p from ru);obtain⟨its,rv,pl,hz⟩:=I.list hS;have hl:=rv.length;rw [cy] at hl;have hps:p<s⁻¹:=let ⟨o,ho,_⟩:=pl.isList;m_ ho
 obtain⟨f0,f1,f2,f3,f4,f5⟩:=I.fpOk (H':=H) (f_ s⁻¹) (I.hok.fresh (f_ _))
 refine call_any_walk (NB pl.isList ⟨s⁻¹,_,_,its.toArray.size,_,_,λi=>bs.getD i ξ,rfl,Walks.list (by exact I.ok.hd hc) s⁻¹ p (Mh hps) its.toArray,⟨⟨_,i_ _ rfl,rfl,rfl⟩,pl.isList.push _⟩,λi v s Q E hP hQ=>?_,λh' tk hk=>?_⟩)
 .rw [yR rv hP];exact MC hQ
 .have I1:Inv X pins σ H { s with heap:=s.heap.push { cls:=.type "list_iterator",data:=.fields #[.ref p,.int 0 0] } }:=I.kept (t':=s.toks) λb o e=>c_ _ e;have I2:=I1.turned (h':=h') (t':=tk) (it:=s⁻¹) (λb o hb e=>hk b o (by simpa using hb) e) f0 f1 f3 f4 f5;refine⟨.bl (bs.any id),H,I2,?_,q⟩;show Nc _=Nc _;rw [we,<- hl,pY]
end
section
def yS:bD X (.builtin "len") (λxs H Q=>∃p kvs,xs=[.ref p]/\Rd H p (.dK kvs)/\Q (.int kvs.length) H):=by
 intro pins s σ H xs us Q I r h;obtain⟨p,kvs,rfl,hd,q⟩:=h;obtain⟨u,rfl,ru⟩:=d0 r;cases (show u=vx p from ru);exact JP I hd λt s' I'=>⟨.int kvs.length,H,I',⟨t,rfl⟩,q⟩
end
noncomputable def bZ(K:b_)(x:Str):Addr:=match Eo K mainGlobals x with
 | some (ψ (.ref C))=>C
 | _=>0
variable {C:Addr}
def BA(h:Eo K mainGlobals x=ψ (ψ (.ref C))):bZ K x=C:=by unfold bZ;rw [h]
structure Jj (P:v_) (w:World) (K:b_) (mg:Θ) (base:Heap) (k:Nat) (C:Addr) (m:Str) (ps:List Str) (sp:Sp):Prop where
 ex:∃(f:Addr) (fd:MY),pM P w K mg base CX0 k f fd ps sp/\kS K fd ps []/\Jh K C m f
structure G7 (P:v_) (w:World) (K:b_) (mg:Θ) (base:Heap) (k:Nat) (C:Addr) (x:Str) (ps:List Str) (sp:Sp):Prop where
 ex:∃(f:Addr) (fd:MY),pM P w K mg base CX0 k f fd ps sp/\kS K fd ps []/\Mk K C f/\mg x=ψ (.ref C)
structure vy (K:b_) (C:Addr) (m qual:Str) (st:Stmt):Prop where
 ex:∃(f:Addr) (fd:MY),Fun K m qual st f fd/\Jh K C m f
structure vz (K:b_) (mg:Θ) (C:Addr) (x qual:Str) (st:Stmt):Prop where
 ex:∃(f:Addr) (fd:MY),Fun K "__init__" qual st f fd/\Mk K C f/\mg x=ψ (.ref C)
section
variable {P:v_}{base:Heap}{m:Str}{ps:List Str}{k:Nat}{sp:Sp}
def vy.ok(D:vy K C m qual st)(S:aE N ps (ai st))(hb:∀(kV doc pm:Value) (an:Option Addr) (cdv ct:Value) (us:Ξ),us.length=ps.length->bindArgs (Me m qual (b9 st) (aU st) (ai st) .none kV doc pm an cdv ct) ⟨us,[]⟩=pure (ps.zip us))(len:∀vs H Q E,sp vs H Q E->vs.length=ps.length)(hbody:∀(f:Addr) (cdv:Value) (A:G_) (outer:List Env) (s:d_) (H:Hp) (vs:List V) (Q:VK) (E:XK),eW k (A.deeper (envOfC qual (ai st) s⁻¹ f cdv))->sp vs H Q E ->
   ∃t,PSs (qG CX0 P w K mg base N qual (ai st) f cdv A outer s H E).nox (aU st) t/\t { nx:=λ_ H'=>Q .non H',rt:=Q } (start N vs) H):Jj P w K mg base (k+1) C m ps sp:=by
 obtain⟨f,fd,F,hm⟩:=D.ex;exact⟨f,fd,F.ok S len λcdv A outer s H vs Q E hr h=>hbody f cdv A outer s H vs Q E hr h,F.binds hb,hm⟩
def vz.ok(D:vz K mg C x qual st)(S:aE N ps (ai st))(hb:∀(kV doc pm:Value) (an:Option Addr) (cdv ct:Value) (us:Ξ),us.length=ps.length->bindArgs (Me "__init__" qual (b9 st) (aU st) (ai st) .none kV doc pm an cdv ct) ⟨us,[]⟩=pure (ps.zip us))(len:∀vs H Q E,sp vs H Q E->vs.length=ps.length)(hbody:∀(f:Addr) (cdv:Value) (A:G_) (outer:List Env) (s:d_) (H:Hp) (vs:List V) (Q:VK) (E:XK),eW k (A.deeper (envOfC qual (ai st) s⁻¹ f cdv))->sp vs H Q E ->
   ∃t,PSs (qG CX0 P w K mg base N qual (ai st) f cdv A outer s H E).nox (aU st) t/\t { nx:=λ_ H'=>Q .non H',rt:=Q } (start N vs) H):G7 P w K mg base (k+1) C x ps sp:=by
 obtain⟨f,fd,F,hm,e⟩:=D.ex;exact⟨f,fd,F.ok S len λcdv A outer s H vs Q E hr h=>hbody f cdv A outer s H vs Q E hr h,F.binds hb,hm,e⟩
end
section
variable {k:Nat}{ps:List Str}{sp:Sp}{t:TA}
def Em(M:G7 X.prog X.w X.K X.mg X.base k C x ps sp)(hr:eW (k+1) X.A)(ha:PA X (e::es) t)(hg:Gl X x:=by rfl)(hdb:(x == ("__debug__":Str))=false:=by decide)(he:starEach (e::es) X.env=(ξ,eval e X.env)::starEach es X.env:=by rfl)(hpl:(backTo pos (starEach es X.env)).any (·.1)=false:=by rfl):PE X (.Call (.Name x p) (e::es) [] pos) (A8 C sp [] E0 t):=by
 obtain⟨f,fd,F,hb,hk,hm⟩:=M.ex;exact DX hk F hr hg hm hb .nil Bj ha hdb he hpl
variable {m:Str}{apos:Pos}{o:Expr}{ta:TE}
def vA{pl:Sem Bool}(he:PE X o ta)(c:Cls X.K C)(M:Jj X.prog X.w X.K X.mg X.base k C m ps sp)(hr:eW k X.A)(ht:eval (.Call (.Attribute o m apos) [] [] pos) X.env=(do
   let ov <- eval o X.env
   standAt apos.atName
   let (f,first) <- holding [ov] (getMethod ov m pl)
   callWith pos f first (backTo pos (starEach [] X.env)) (backToKw pos (keywordEach [] X.env))):=by rfl):
  PE X (.Call (.Attribute o m apos) [] [] pos) (A7 C m sp [] E0 ta dz):=by
 obtain⟨f,fd,F,hb,hm⟩:=M.ex;exact A9 (pl:=pl) he c hm F hr hb .nil Bj ht
end
def yT(k:Bool)(hh:A.handled=ω)(it a:Addr)(hne:a≠it)(its:Array Value):
  Draws prog w A it [it,a] its.size (λi v=>its[i]?=ψ v) (λi h=>cK k h it a i/\fj k h a its) where
 live:=λ_ _ st=>let ⟨o,ho,_⟩:=st.1;⟨o,ho⟩
 frame:=λ_ _ _ st hk=>⟨st.1.mv λo e=>hk it (by simp) o e,st.2.mv λo e=>hk a (by simp) o e⟩
 item:=λi s Q E hi st hQ=>by
  refine e7 st.1 st.2 (x:=its[i]) (by simp [hi]) λh' hit' hs'=>?_;exact hQ _ h' s.toks (by simp [hi]) ⟨hit',st.2.mv λo e=>hs'.extBut _ o hne e⟩ hs'
 done:=λs Q E st hE=>fX hh st.1 st.2 (by simp) hE
noncomputable def Ite(k:Bool)(K:b_)(a:Addr):It :=
  ⟨λi H=>∃xs x,Sq k K H a xs/\xs[i]?=ψ x,
   λi H p H'=>∃T x,H T=ω/\p=.ref T/\(∀xs,Sq k K H a xs->xs[i]?=ψ x)/\H'=upd H T (.tup [.int (i:Int),x]),
   λi H=>∃xs,Sq k K H a xs/\xs.length<=i⟩
def yU{P:v_}{ct:Nat}{tp:Pos}{k:Bool}{e:Addr}(hei:e≠it):
  CN P w K (.Tuple es ct tp) (Ite k K a) [e,it] e (λn h=>(∃old,IsEnum h e it ((n:Nat):Int) old)/\cK k h it a n) where
 mem:=by simp
 obj:=λn h st b hb=>by
  obtain⟨⟨old,he⟩,o1,g1,c1,d1⟩:=st;simp only [B_,MV,or_false] at hb
  rcases hb with rfl|rfl
  .exact⟨_,he,λv q=>by cases q⟩
  .exact⟨_,g1,λv q=>by rw [d1] at q;cases q⟩
 keep:=λn h h' st kk=>by
  obtain⟨⟨old,he⟩,w1⟩:=st;exact⟨⟨old,kk e (by simp) _ he⟩,w1.mv λo q=>kk it (by simp) o q⟩
 item:=by
  intro X hP hw hK hc n pins s σ H E I hf st hg;subst hP hw hK;obtain⟨xs,x,q1,hx⟩:=hg;obtain⟨⟨old,he⟩,w1⟩:=st;obtain⟨its,rv,p,_⟩:=I.row q1;obtain⟨ux,hux,rx⟩:=rv.get hx;have ne:=I.row_ne q1 (hf e (by simp));have ni:=I.row_ne q1 (hf it (by simp))
  have hlt:n<its.toArray.size:=by
   have:=(k_.mp hux).1;simpa using this
  have hhd:X.A.in1.handled=none:=by exact I.ok.hd hc
  refine wpAny_pyNext_enum_itemD (yT k hhd it a ni its.toArray) he ⟨w1,p⟩ hlt hei (by simp [hei,Nh ne]) λy h' tk hP ho hst ht hsz hk=>?_
  have hy:y=ux:=by
   have h1:its[n]?=ψ y:=by simpa using hP
   rw [hux] at h1;exact (w_ h1).symm
  subst hy;refine⟨_,rfl,wpAny_letOwnedTupleGo_enum ho λg ge gs=>?_⟩;have lt:∀{b o},s.heap.get? b=ψ o->s⁻¹≠b:=λq=>Oo (m_ q)
  have kp:∀b o,b∉[e,it]->s.heap.get? b=ψ o->g.get? b=ψ o:=λb o hb q=>by
   simp only [B_,MV,or_false,not_or] at hb;exact gs.extBut _ _ hb.1 (hk b o hb.1 hb.2 q)
  have I2:Inv X pins σ (upd H s⁻¹ (.tup [.int (n:Int),x])) { s with heap:=g,toks:=tk+1 }:=I.yielded (ch:=[e,it]) (λb hb=>hf b hb) (f_ _) kp
   ⟨by show 2<=sizeLine;decide,[.int (n:Int) tk,y],.cons ⟨tk,rfl⟩ (.cons rx .nil),_,gs.extBut _ _ (lt he) ht,rfl,_,rfl⟩
  refine⟨.ref s⁻¹,_,I2,rfl,⟨_,x,I.hok.fresh (f_ _),rfl,λxs' q=>by rw [I.row_inj q q1];exact hx,rfl⟩,⟨⟨y,by simpa using ge⟩,hst.1.mv λo q=>gs.extBut _ o (Nh hei) q⟩,λb hb=>?_⟩
  rw [ax ?_]
  .exact (hf b hb).1
  .intro q;subst q;simp only [B_,MV,or_false] at hb;obtain⟨o1,g1,_⟩:=w1
   rcases hb with q|q
   .exact lt he q
   .exact lt g1 q
 done:=by
  intro X hP hw hK hc n pins s σ H E I hf st hg;subst hP hw hK;obtain⟨xs,q1,hend⟩:=hg;obtain⟨⟨old,he⟩,w1⟩:=st;obtain⟨its,rv,p,_⟩:=I.row q1;have e1:=rv.length;have ni:=I.row_ne q1 (hf it (by simp));have hhd:X.A.in1.handled=none:=by exact I.ok.hd hc
  obtain⟨f0,f1,f2,f3,f4,f5⟩:=hf it (by simp)
  -- the walk's end is wherever the row has no item
  have hT:s.TypeIs (.ref e) "enumerate":=⟨_,he,rfl⟩
  unfold pyNext
  refine cn (wpAny_attempt (MF (name:=NR "__next__") hT F.slot_enumerate_next
   (M8 F.slot_enumerate_next hT F.entry_enumerate_next ?_ (F.args_enumerate_next_1 _))))
  show wpAny _ _ (field (.ref e) 2 >>= _) _ _ _;refine cn (MI he rfl (x:=.ref it) rfl ?_);refine cn (fX hhd w1 p (by simp;omega) λh' x he' hx'=>?_);obtain⟨o,ho,hcl⟩:=hx';refine cn (Oi (T:="StopIteration") (b:=η) ⟨o,ho,hcl⟩ isSubtype_stop ?_);exact gV ⟨rfl,I.turned (t':=s.toks) (λb o hb q=>he' b o hb q) f0 f1 f3 f4 f5⟩
 self:=λ_ _ _ _ _ st h=>let ⟨⟨_,he⟩,_⟩:=st;wpAny_pyIter_enum he h
section
variable {k:Bool}
def BB(k:Bool)(a:Addr)(xs:Array Value):Meets (Ow.«enumerate.__new__» ⟨[.type "enumerate",.ref a],[]⟩) (λ_ R s=>fj k s.heap a xs /\
   R (.ok (.ret (.ref (s.heap.push (kU k a)).objs.size))) { s with heap:=(s.heap.push (kU k a)).push { cls:=.type "enumerate",data:=.fields #[.none,.bool ξ,.ref s⁻¹,rawInt 0,.none,.none] } }) :=
 .of_wp λprog w A R s h=>by
  obtain⟨hp,g,d,tk,os⟩:=s;obtain⟨r1,h⟩:=h;have hsub:=sub_enumerate;have R1:fj k (Shared.heap ⟨hp,g,d,tk,os⟩) a xs:=r1;obtain⟨⟨cls,dd,data,sl⟩,ho,hc,n,hd⟩:=id r1;simp only at hc hd;subst hc hd
  wp_walk using NI ho
  refine wpAny_stack_any λst=>gV ?_
  split
  .rename_i c _ _ _ _ _
   cases (c == MX "enumerate")
   .wp_walk using NI ho,fG R1
    exact⟨_,rfl,h⟩
   .wp_walk using NI ho,fG R1
    exact⟨_,rfl,h⟩
  .wp_walk using NI ho,fG R1
   exact⟨_,rfl,h⟩
variable {P:v_}
def BC{xs:Array Value}(r1:fj k s.heap a xs)(h:∀h',IsEnum h' (s⁻¹+1) s⁻¹ 0 .none->cK k h' s⁻¹ a 0->(∀b o,s.heap.get? b=ψ o->h'.get? b=ψ o)->Q (.ref (s⁻¹+1)) { s with heap:=h' }):
  wpAny (model P w) A (call (.type "enumerate") [.ref a]) Q E s:=by
 refine callType_new F.called_enumerate (by decide) (F.typeCall_enumerate_1 _) (F.newCall_enumerate_1 _) (λobj=>F.args_object_init_2 obj _) F.entry_enumerate_new (BB k a xs) ⟨r1,?_⟩;have z1:(s.heap.push (kU k a)).objs.size=s⁻¹+1:=Mi ..;have g2:((s.heap.push (kU k a)).push { cls:=.type "enumerate",data:=.fields #[.none,.bool ξ,.ref s⁻¹,rawInt 0,.none,.none] }).get? (s.heap.push (kU k a)).objs.size=ψ _:=i_ _ rfl
 have g1:=c_ { cls:=.type "enumerate",data:=.fields #[.none,.bool ξ,.ref s⁻¹,rawInt 0,.none,.none] } (i_ s.heap (o:=kU k a) rfl);show _/\_;rw [z1] at g2 ⊢;exact⟨⟨_,g2,rfl⟩,h _ g2 ⟨_,g1,rfl,rfl⟩ λb o q=>c_ _ (c_ _ q)⟩
end
noncomputable def BD(K:b_)(ta:TA):TI:=λσ H R=>ta σ H λvs H1=>∃k a,vs=[.ref a]/\(∃xs,Sq k K H1 a xs)/\R (Ite k K a) H1
variable {ct:Nat}{tp:Pos}
def En{a:Expr}(hg:Gl X "enumerate")(hm:X.mg "enumerate"=ω)(ha:PA X [a] ta)(hs:starEach [a] X.env=[(ξ,eval a X.env)]:=by rfl):
  PI X (.Tuple es ct tp) (.Call (.Name "enumerate" p) [a] [] pos) (BD X.K ta):=by
 intro pins s σ H R I h;refine Call_ (eY I hg hm boot_enumerate (I_ (thn (ha pos pins s σ H _ I h) λus s1 ⟨vs,H1,I1,r1,q1⟩=>?_) hs rfl));obtain⟨k,a,e,⟨xs,q1⟩,q⟩:=q1;subst e
 cases r1 with
 | cons r rr =>
  cases rr;cases r;obtain⟨its,rv,p,_⟩:=I1.row q1;refine BC p λh' g1 g2 kk=>wpAny_pyIter_enum g1 ?_;have I2:Inv X pins σ H1 { s1 with heap:=h',toks:=s1.toks }:=I1.kept kk;refine⟨s1⁻¹+1,[s1⁻¹+1,s1⁻¹],_,_,H1,rfl,I2,yU (k:=k) (a:=a) (it:=s1⁻¹) (Oo (Mu _)),⟨⟨_,g1⟩,g2⟩,λb hb=>?_,q⟩
  have hle:s1⁻¹<=b:=by
   simp only [B_,MV,or_false] at hb
   rcases hb with e|e
   .rw [e];exact PC _ _
   .rw [e];exact f_ _
  exact I1.fpOk hle (I1.hok.fresh hle)
def yV(hc:X.calm=η):bD X (.builtin "min") (λxs H Q=>∃(p:Addr) (ns:Λ),xs=[.ref p]/\SqL X.K H p (ns.map V.int)/\0<ns.length/\∀m:Int,m∈ns->(∀a∈ns,m<=a)->Q (.int m) H):=by
 intro pins s σ H xs us Q I r h;obtain⟨p,ns,rfl,hS,hne,q⟩:=h;obtain⟨u,rfl,ru⟩:=d0 r;cases (show u=vx p from ru);obtain⟨its,rv,pl,hz⟩:=I.list hS;have hi:=bQ rv;have hl:=pl.isList;obtain⟨ys,e⟩:=hi.allInts.items;have hns:ns=ys.toList.map (·.1):=by rw [<- hi.numsOf,<- Ov,<- e]
 have hsz:0<ys.size:=by
  have h3:=hne;rw [hns,cy,C0] at h3;exact h3
 rw [e] at hl;refine min_intList (by exact I.ok.hd hc) hl hsz λv h' tk hv hk=>?_;obtain⟨t,rfl⟩:=OM hv;obtain⟨h1,h2⟩:=argBest_lt (numAt ys) (ys.size - 1)
 refine⟨.int _,H,I.kept (t':=tk) hk,⟨t,rfl⟩,q _ ?_ λa ha=>?_⟩
 .rw [hns,O5];exact getD_mem (by rw [cy,C0];omega)
 .rw [hns] at ha;obtain⟨j,hj,rfl⟩:=mem_getD ha;rw [cy,C0] at hj;rw [<- O5];exact h2 j ⋯
theorem jZ(ns:Λ):∀k,k<=ns.length->preSum (λi=>ns.getD i 0) k=(ns.take k).sum
 | 0,_=>rfl
 | k+1,h=>by
  rw [preSum,jZ ns k ⋯,NU,cx ⋯,Qx,e_,cx ⋯];simp
def rq(hc:X.calm=η):bD X (.builtin "sum") (λxs H Q=>∃(p:Addr) (ns:Λ),xs=[.ref p]/\SqL X.K H p (ns.map V.int)/\Q (.int ns.sum) H):=by
 intro pins s σ H xs us Q I r h;obtain⟨p,ns,rfl,hS,q⟩:=h;obtain⟨u,rfl,ru⟩:=d0 r;cases (show u=vx p from ru);obtain⟨its,rv,pl,hz⟩:=I.list hS;have hi:=bQ rv;have hl:=pl.isList;obtain⟨ys,e⟩:=hi.allInts.items;have hns:ns=ys.toList.map (·.1):=by rw [<- hi.numsOf,<- Ov,<- e]
 rw [e] at hl;refine sum_intListG (by exact I.ok.hd hc) hl λh' tk t' hk=>⟨.int ns.sum,H,I.kept (t':=tk) hk,⟨t',?_⟩,q⟩
 have hlen:ys.size=ns.length:=by rw [hns,cy,C0]
 have hnum:numAt ys=λi=>ns.getD i 0:=by
  funext i;rw [O5,hns]
 rw [hnum,hlen,jZ ns ns.length (f_ _),M5]
noncomputable def BE(K:b_)(ta:TA):TI:=λσ H R=>ta σ H λvs H1=>∃k l a c,vs=[.ref a,.ref c]/\(∃xs ys,Sq k K H1 a xs/\Sq l K H1 c ys)/\R (Itz k l K a c) H1
def Ep{a b:Expr}(hg:Gl X "zip")(hm:X.mg "zip"=ω)(ha:PA X [a,b] ta)(hs:starEach [a,b] X.env=[(ξ,eval a X.env),(ξ,eval b X.env)]:=by rfl)(hs2:starEach [b] X.env=[(ξ,eval b X.env)]:=by rfl):
  PI X (.Tuple es ct tp) (.Call (.Name "zip" p) [a,b] [] pos) (BE X.K ta):=by
 intro pins s σ H R I h;refine Call_ (eY I hg hm boot_zip (I_ (thn (ha pos pins s σ H _ I h) λus s1 ⟨vs,H1,I1,r1,q1⟩=>?_) (by rw [hs,hs2]) (by rw [hs2];rfl)));obtain⟨k,l,a,c,e,⟨xs,ys,q1,q2⟩,q⟩:=q1;subst e
 cases r1 with
 | cons r rr =>
  cases rr with
  | cons r' rr =>
   cases rr;cases r;cases r';obtain⟨its,rv,p,_⟩:=I1.row q1;obtain⟨jts,rv',p',_⟩:=I1.row q2;refine Ed p p' λh' g1 g2 g3 g4 g5 kk=>wpAny_pyIter_zip g1 ?_;have I2:Inv X pins σ H1 { s1 with heap:=h',toks:=s1.toks }:=I1.kept kk
   refine⟨s1⁻¹+4,[s1⁻¹+4,s1⁻¹+2,s1⁻¹+3,s1⁻¹,s1⁻¹+1],_,_,H1,rfl,I2,Bq (i:=s1⁻¹) (j:=s1⁻¹+1)
    (JM _),⟨g1,g2,⟨_,_,g3⟩,g4,g5⟩,λb hb=>?_,q⟩
   have hle:s1⁻¹<=b:=by
    simp only [B_,MV,or_false] at hb
    rcases hb with e|e|e|e|e
    .rw [e];exact PC _ _
    .rw [e];exact PC _ _
    .rw [e];exact PC _ _
    .rw [e];exact f_ _
    .rw [e];exact PC _ _
   exact I1.fpOk hle (I1.hok.fresh hle)
variable {ta:TE}{f:Str}
def dQ(K:b_)(eK:X.K=K)(he:PE X e ta)(hb:attributeBase e f X.env (eval e X.env)=eval e X.env):PE X (.Attribute e f pos) (yi K ta f):=eK ▸ Gx he hb
noncomputable def JS(K:b_):List V->Hp->VK->Prop:=λxs H Q=>∃p ys,xs=[.ref p]/\SqL K H p ys/\Q (.int ys.length) H
noncomputable def JT(K:b_):List V->Hp->VK->Prop:=λxs H Q=>∃p ys,xs=[.ref p]/\SqT K H p ys/\Q (.int ys.length) H
noncomputable def K7(K:b_):List V->Hp->VK->Prop:=λxs H Q=>∃x n t b,xs=[x,.ty n]/\qF K H x t/\Nm K t (.type n)=ψ b/\Q (.bl b) H
noncomputable def yW(K:b_):List V->Hp->VK->Prop:=λxs H Q=>∃p ys,xs=[.ref p]/\(SqL K H p ys\/SqT K H p ys)/\∀l,H l=ω->Q (.ref l) (upd H l (.lst ys))
section
variable {o:Expr}{to:TE}{t:TA}{name:Str}{apos cpos:Pos}{T id:String}{r:V->List V->Hp->VK->Prop}
def e8(K:b_)(eK:X.K=K)(pa:PlainAttrs T)(slot:Slot T name id)(hty:typeOf (.builtin id)=pure (.type "method_descriptor"))(hm:MtR X id r)(ho:PE X o to)(ha:PA X (e::es) t)(hbase:attributeBase o name X.env (eval o X.env)=eval o X.env:=by rfl)(hfew:((backTo cpos (starEach (e::es) X.env)).all (λx=>!x.1) && (backToKw cpos (keywordEach [] X.env)).all (λx=>x.1.isSome)
   && decide ((e::es).length+([]:List Keyword).length+(if ([]:List Keyword).isEmpty then 0 else 1)<30))=true:=by rfl)(hline:(apos.endLine == cpos.line)=true:=by rfl)(hs:starEach (e::es) X.env=(ξ,eval e X.env)::starEach es X.env:=by rfl)(hplain:(backTo cpos (starEach es X.env)).any (·.1)=false:=by rfl):
  PE X (.Call (.Attribute o name apos) (e::es) [] cpos) (tBM K T r to t):=eK ▸ JG pa slot hty hm ho ha hbase hfew hline hs hplain
end
noncomputable def iY(c:Bool)(A B:Prop):Prop:=match c with|true=>A|false=>B
variable {B:Prop}
def wX{c:Bool}{A:Prop}(h1:c=η->A)(h2:c=ξ->B):iY c A B:=by
 cases c with
 | true=>exact h1 rfl
 | false=>exact h2 rfl
def eB{p:Prop}[Decidable p]{A B:Prop}(h1:p->A)(h2:¬ p->B):iY (decide p) A B:=wX (λh=>h1 (of_decide_eq_true h)) (λh=>h2 (of_decide_eq_false h))
def tQ{p:Prop}[Decidable p]{A B:Prop}(h1:¬ p->A)(h2:p->B):iY (!decide p) A B:=wX (λh=>h1 λz=>by rw [decide_eq_true z] at h;cases h) (λh=>h2 (by
 by_cases z:p
 .exact z
 .rw [decide_eq_false z] at h;cases h))
def JU{p:Prop}[Decidable p]{A B:Prop}(h:p)(hA:A):iY (decide p) A B:=eB (λ_=>hA) (λz=>absurd h z)
def JV{p:Prop}[Decidable p]{A B:Prop}(h:¬ p)(hB:B):iY (decide p) A B:=eB (λz=>absurd z h) (λ_=>hB)
def G8{p:Prop}[Decidable p]{A B:Prop}(h:¬ p)(hA:A):iY (!decide p) A B:=tQ (λ_=>hA) (λz=>absurd z h)
def G9{p:Prop}[Decidable p]{A B:Prop}(h:p)(hB:B):iY (!decide p) A B:=tQ (λz=>absurd h z) (λ_=>hB)
def tS{c:Bool}{A:Prop}(h:iY c B A):iY (!c) A B:=by
 cases c <;> exact h
def LL{c:Bool}{A:Prop}(h:c=η)(hA:A):iY c A B:=by subst h;exact hA
def LN{c:Bool}{A:Prop}(h:c=ξ)(hB:B):iY c A B:=by subst h;exact hB
def JW{c:Bool}{A:Prop}(h:c=ξ)(hA:A):iY (!c) A B:=by subst h;exact hA
def Er{c:Bool}{A:Prop}(h:c=η)(hB:B):iY (!c) A B:=by subst h;exact hB
inductive D where
 | non|bl (b:Bool)|int (i:Int)|str (l:Δ)|ty (n:String)
 | lst (ds:List D)|tup (ds:List D)|scr (ns:Λ)|dic (ks:List Key) (ds:List D)|fdc (ks:List Key) (ds:List D)|obj (c:Str) (ns:List Str) (ds:List D)|exc (c:Str) (ns:List Str) (ds:List D)
noncomputable def XAt(x C:Addr)(dd:Option Addr)(new:Bool)(h:Heap):Prop:=∃o vs,h.get? x=ψ o/\o.cls=.ref C/\o.dict=dd/\o.data=.fields vs/\1<vs.size/\(new=η->vs[1]?=ψ .none)
noncomputable def cZ(A:Ψ)(a:Addr):Addr->Prop:=λb=>A b\/b=a
noncomputable def FL(K:b_)(O:Ψ)(H:Hp)(a:Addr)(xs:List V):Prop :=
 (¬ O a/\Rd H a (.lst xs))\/∃(o:Obj) (its:Array Value) (n:Nat),K.lookup a=ψ o/\o.cls=.type "list"/\o.dict=ω/\o.data=.seq its n/\its.size<=sizeLine/\bI xs its.toList
variable {O:Ψ}
def FL.sq(h:FL K O H a xs):SqL K H a xs:=h.elim (λz=>.inl z.2) .inr
noncomputable def aG(O:Ψ)(H:Hp)(O':Ψ)(H':Hp):Prop:=∀b o,¬ O b->H b=ψ o->¬ O' b/\H' b=ψ o
variable {O':Ψ}
def Rd.keeps{u:HO}(k:aG O H O' H')(n:¬ O a)(r:Rd H a u):¬ O' a/\Rd H' a u:=by
 rcases r with e|⟨o,e⟩
 .exact⟨(k _ _ n e).1,.inl (k _ _ n e).2⟩
 .exact⟨(k _ _ n e).1,.inr ⟨o,(k _ _ n e).2⟩⟩
def FL.keeps(k:aG O H O' H')(h:FL K O H a xs):FL K O' H' a xs:=by
 rcases h with ⟨n,r⟩|r
 .exact .inl (r.keeps k n)
 .exact .inr r
mutual
inductive FV (K:b_) (O:Ψ) (H:Hp):V->D->Prop
 | non:FV K O H .non .non
 | bl (b:Bool):FV K O H (.bl b) (.bl b)
 | int (i:Int):FV K O H (.int i) (.int i)
 | str (l:Δ):l.length<=1000000->FV K O H (.str (S l)) (.str l)
 | ty (n:String):FV K O H (.ty n) (.ty n)
 | scr {a:Addr}{ns:Λ}:FL K O H a (ns.map V.int)->FV K O H (.ref a) (.scr ns)
 | lst {a:Addr}{xs:List V}{ds:List D}:¬ O a->H a=ψ (.lst xs)->FVs K O H xs ds->FV K O H (.ref a) (.lst ds)
 | tup {a:Addr}{xs:List V}{ds:List D}:¬ O a->H a=ψ (.tup xs)->FVs K O H xs ds->FV K O H (.ref a) (.tup ds)
 | dic {a:Addr}{kvs:List (Key×V)}{ks:List Key}{ds:List D}:¬ O a->H a=ψ (.dK kvs)->kvs.map y_=ks->FVs K O H (kvs.map Mo) ds->FV K O H (.ref a) (.dic ks ds)
 | fdc {a:Addr}{o:Obj}{kvs:List (Key×V)}{ks:List Key}{ds:List D}:¬ O a->H a=ψ (.frz o (.dK kvs))->kvs.map y_=ks->FVs K O H (kvs.map Mo) ds->FV K O H (.ref a) (.fdc ks ds)
 | obj {a dx:Addr}{c:Str}{fs:List (Str×V)}{ns:List Str}{ds:List D}:¬ O a->H a=ψ (.ins (bZ K c) dx fs)->fs.map y_=ns->FVs K O H (fs.map Mo) ds->FV K O H (.ref a) (.obj c ns ds)
 | exc0 {a:Addr}{c:Str}{new:Bool}:¬ O a->H a=ψ (.ext (XAt a (bZ K c) ω new))->FV K O H (.ref a) (.exc c [] [])
 | exc1 {a dx:Addr}{c:Str}{new:Bool}{fs:List (Str×V)}{ns:List Str}{ds:List D}:¬ O a->¬ O dx->H a=ψ (.ext (XAt a (bZ K c) (ψ dx) new))->H dx=ψ (.xd fs)->fs.map y_=ns->FVs K O H (fs.map Mo) ds->FV K O H (.ref a) (.exc c ns ds)
inductive FVs (K:b_) (O:Ψ) (H:Hp):List V->List D->Prop
 | nil:FVs K O H [] []
 | cons {x:V}{d:D}{xs:List V}{ds:List D}:FV K O H x d->FVs K O H xs ds->FVs K O H (x::xs) (d::ds)
end
mutual
theorem FV.keeps(k:aG O H O' H'):∀{v:V}{d:D},FV K O H v d->FV K O' H' v d
 | _,_,.non=>.non
 | _,_,.bl b=>.bl b
 | _,_,.int i=>.int i
 | _,_,.str l h=>.str l h
 | _,_,.ty n=>.ty n
 | _,_,.scr s=>.scr (s.keeps k)
 | _,_,.lst n e f=>.lst (k _ _ n e).1 (k _ _ n e).2 (FVs.keeps k f)
 | _,_,.tup n e f=>.tup (k _ _ n e).1 (k _ _ n e).2 (FVs.keeps k f)
 | _,_,.dic n e m f=>.dic (k _ _ n e).1 (k _ _ n e).2 m (FVs.keeps k f)
 | _,_,.fdc n e m f=>.fdc (k _ _ n e).1 (k _ _ n e).2 m (FVs.keeps k f)
 | _,_,.obj n e m f=>.obj (k _ _ n e).1 (k _ _ n e).2 m (FVs.keeps k f)
 | _,_,.exc0 n e=>.exc0 (k _ _ n e).1 (k _ _ n e).2
 | _,_,.exc1 n n2 e e2 m f=>.exc1 (k _ _ n e).1 (k _ _ n2 e2).1 (k _ _ n e).2 (k _ _ n2 e2).2 m (FVs.keeps k f)
theorem FVs.keeps(k:aG O H O' H'):∀{vs:List V}{ds:List D},FVs K O H vs ds->FVs K O' H' vs ds
 | _,_,.nil=>.nil
 | _,_,.cons a b=>.cons (FV.keeps k a) (FVs.keeps k b)
end
theorem FVs.length:∀{vs:List V}{ds:List D},FVs K O H vs ds->vs.length=ds.length
 | _,_,.nil=>rfl
 | _,_,.cons _ b=>by rw [Mm,Mm,b.length]
theorem FVs.get:∀{vs:List V}{ds:List D}{i:Nat}{v:V},FVs K O H vs ds->vs[i]?=ψ v->∃d,ds[i]?=ψ d/\FV K O H v d
 | _,_,0,_,.cons a _,e=>by simp at e;subst e;exact⟨_,rfl,a⟩
 | _,_,i+1,v,.cons _ b,e=>by
  obtain⟨d,h1,h2⟩:=b.get (i:=i) (v:=v) (by simpa using e);exact⟨d,by simpa using h1,h2⟩
theorem FVs.getD:∀{vs:List V}{ds:List D}{i:Nat}{d:D},FVs K O H vs ds->ds[i]?=ψ d->∃v,vs[i]?=ψ v/\FV K O H v d
 | _,_,0,_,.cons a _,e=>by simp at e;subst e;exact⟨_,rfl,a⟩
 | _,_,i+1,v,.cons _ b,e=>by
  obtain⟨d,h1,h2⟩:=b.getD (i:=i) (d:=v) (by simpa using e);exact⟨d,by simpa using h1,h2⟩
theorem FVs.append:∀{vs ws:List V}{ds es:List D},FVs K O H vs ds->FVs K O H ws es->FVs K O H (vs++ws) (ds++es)
 | _,_,_,_,.nil,s=>s
 | _,_,_,_,.cons a b,s=>.cons a (b.append s)
theorem FVs.set{d:D}(f:FV K O H v d):∀{vs:List V}{ds:List D} (i:Nat),FVs K O H vs ds->FVs K O H (vs.set i v) (ds.set i d)
 | _,_,_,.nil=>.nil
 | _,_,0,.cons _ t=>.cons f t
 | _,_,i+1,.cons q t=>.cons q (FVs.set f i t)
theorem FVs.take:∀{vs:List V}{ds:List D} (n:Nat),FVs K O H vs ds->FVs K O H (vs.take n) (ds.take n)
 | _,_,0,_=>.nil
 | _,_,_+1,.nil=>.nil
 | _,_,n+1,.cons r t=>.cons r (t.take n)
theorem FVs.drop:∀{vs:List V}{ds:List D} (n:Nat),FVs K O H vs ds->FVs K O H (vs.drop n) (ds.drop n)
 | _,_,0,r=>r
 | _,_,_+1,.nil=>.nil
 | _,_,n+1,.cons _ t=>t.drop n
theorem FVs.reverse:∀{vs:List V}{ds:List D},FVs K O H vs ds->FVs K O H vs.reverse ds.reverse
 | _,_,.nil=>.nil
 | _,_,.cons r t=>by rw [Qs,Qs];exact t.reverse.append (.cons r .nil)
theorem FVs.ints:∀{vs:List V}{ns:Λ},FVs K O H vs (ns.map D.int)->vs=ns.map V.int
 | _,[],.nil=>rfl
 | _,n::r,h=>by
  cases h with
  | cons a b=>cases a;rw [FVs.ints b];rfl
theorem FVs.of_ints:∀ns:Λ,FVs K O H (ns.map V.int) (ns.map D.int)
 | []=>.nil
 | n::r=>.cons (.int n) (FVs.of_ints r)
theorem FVs.bls:∀{vs:List V}{bs:List Bool},FVs K O H vs (bs.map D.bl)->vs=bs.map V.bl
 | _,[],.nil=>rfl
 | _,n::r,h=>by
  cases h with
  | cons a b=>cases a;rw [FVs.bls b];rfl
inductive PV where
 | dat (d:D)|own (ds:List D)|ins (c:Str) (ns:List Str) (ds:List D)|odc (ks:List Key) (ds:List D)
noncomputable def PV.isOwn:PV->Bool
 | .dat _=>ξ
 | _=>η
noncomputable def PV.d:PV->D
 | .dat d=>d
 | .own ds=>.lst ds
 | .ins c ns ds=>.obj c ns ds
 | .odc ks ds=>.dic ks ds
abbrev PSt:=List (Option PV)
noncomputable def Wr(ρ:PSt)(σ:St)(b:Addr):Prop:=∃(i:Nat) (p:PV),ρ[i]?=ψ (ψ p)/\p.isOwn=η/\σ[i]?=ψ (ψ (.ref b))
noncomputable def OO(A:Ψ)(ρ:PSt)(σ:St)(b:Addr):Prop:=A b\/Wr ρ σ b
noncomputable def RS(K:b_)(O:Ψ)(H:Hp):PV->V->Prop
 | .dat d,v=>FV K O H v d
 | .own ds,v=>∃a xs,v=.ref a/\H a=ψ (.lst xs)/\FVs K O H xs ds
 | .ins c ns ds,v=>∃a dx fs,v=.ref a/\H a=ψ (.ins (bZ K c) dx fs)/\fs.map y_=ns/\FVs K O H (fs.map Mo) ds
 | .odc ks ds,v=>∃a kvs,v=.ref a/\H a=ψ (.dK kvs)/\kvs.map y_=ks/\FVs K O H (kvs.map Mo) ds
structure Rel (K:b_) (A:Ψ) (ρ:PSt) (σ:St) (H:Hp):Prop where
 len:ρ.length=σ.length
 get:∀(i:Nat) (p:PV),ρ[i]?=ψ (ψ p)->∃v,σ[i]?=ψ (ψ v)/\RS K (OO A ρ σ) H p v
 dj:∀(i j:Nat) (p q:PV) (v:V),ρ[i]?=ψ (ψ p)->ρ[j]?=ψ (ψ q)->p.isOwn=η->q.isOwn=η->σ[i]?=ψ (ψ v)->σ[j]?=ψ (ψ v)->i=j
 dom:∀b,A b->H b≠ω
 sep:∀b,A b->¬ Wr ρ σ b
structure Fr (ρ:PSt) (σ:St) (H:Hp) (ρ':PSt) (H':Hp):Prop where
 kp:∀b o,¬ Wr ρ σ b->H b=ψ o->H' b=ψ o
 dm:∀b,H b≠ω->H' b≠ω
 ow:∀b,Wr ρ' σ b->Wr ρ σ b
def Fr.refl(ρ:PSt)(σ:St)(H:Hp):Fr ρ σ H ρ H:=⟨λ_ _ _ h=>h,λ_ h=>h,λ_ h=>h⟩
variable {ρ ρ1:PSt}{H1:Hp}
def Fr.trans{ρ2:PSt}{H2:Hp}(a:Fr ρ σ H ρ1 H1)(b:Fr ρ1 σ H1 ρ2 H2):Fr ρ σ H ρ2 H2 :=
 ⟨λc o n h=>b.kp c o (λz=>n (a.ow c z)) (a.kp c o n h),λc h=>b.dm c (a.dm c h),λc h=>a.ow c (b.ow c h)⟩
def Fr.keeps{ρ':PSt}{A:Ψ}(f:Fr ρ σ H ρ' H'):aG (OO A ρ σ) H (OO A ρ' σ) H':=λb o n h =>
 ⟨λz=>z.elim (λz=>n (.inl z)) (λz=>n (.inr (f.ow b z))),f.kp b o (λz=>n (.inr z)) h⟩
def Fr.new{p:Addr}{o:HO}(h:H p=ω):Fr ρ σ H ρ (upd H p o) :=
 ⟨λb u _ e=>by rw [ax (aR e h)];exact e,λb e=>by
  by_cases z:b=p
  .rw [z,aI];exact nofun
  .rw [ax z];exact e,λ_ h=>h⟩
def aG.fresh{p:Addr}{o:HO}(h:H p=ω):aG O H (cZ O p) (upd H p o):=λb u n e =>
 ⟨λz=>z.elim n (λz=>by rw [z,h] at e;cases e),by rw [ax (aR e h)];exact e⟩
def aG.less(h:∀b,O' b->O b):aG O H O' H:=λb o n e=>⟨λz=>n (h b z),e⟩
def RS.keeps{p:PV}(k:aG O H O' H')(w:p.isOwn=η->∀a,v=.ref a->H' a=H a)(h:RS K O H p v):RS K O' H' p v:=by
 cases p with
 | dat d=>exact FV.keeps k h
 | own ds =>
  obtain⟨a,xs,e,g,f⟩:=h;exact⟨a,xs,e,by rw [w rfl a e];exact g,f.keeps k⟩
 | ins c ns ds =>
  obtain⟨a,dx,fs,e,g,m,f⟩:=h;exact⟨a,dx,fs,e,by rw [w rfl a e];exact g,m,f.keeps k⟩
 | odc ks ds =>
  obtain⟨a,kvs,e,g,m,f⟩:=h;exact⟨a,kvs,e,by rw [w rfl a e];exact g,m,f.keeps k⟩
def RS.ref{p:PV}(h:RS K O H p v)(o:p.isOwn=η):∃a u,v=.ref a/\H a=ψ u:=by
 cases p with
 | dat d=>cases o
 | own ds=>obtain⟨a,xs,e,g,f⟩:=h;exact⟨a,_,e,g⟩
 | ins c ns ds=>obtain⟨a,dx,fs,e,g,m,f⟩:=h;exact⟨a,_,e,g⟩
 | odc ks ds=>obtain⟨a,kvs,e,g,m,f⟩:=h;exact⟨a,_,e,g⟩
def Rel.wr{A:Ψ}(R:Rel K A ρ σ H)(h:Wr ρ σ b):H b≠none:=by
 obtain⟨i,p,e,o,s⟩:=h;obtain⟨v,s',r⟩:=R.get i p e;rw [s] at s';cases s';obtain⟨a,u,e1,e2⟩:=r.ref o;cases e1;rw [e2];exact nofun
def Rel.oo{A:Ψ}(R:Rel K A ρ σ H)(h:H b=ω):¬ OO A ρ σ b:=λz=>z.elim (λz=>R.dom b z h) (λz=>R.wr z h)
def Rel.grow{A:Ψ}(R:Rel K A ρ σ H){p:Addr}{o:HO}(h:H p=ω):Rel K A ρ σ (upd H p o):=by
 have k:aG (OO A ρ σ) H (OO A ρ σ) (upd H p o):=Fr.keeps (Fr.new h);refine⟨R.len,λi q e=>?_,R.dj,λb z=>(Fr.new (ρ:=ρ) (σ:=σ) h).dm b (R.dom b z),R.sep⟩;obtain⟨v,s,r⟩:=R.get i q e;refine⟨v,s,r.keeps k λow a ea=>?_⟩;obtain⟨a',u,e1,e2⟩:=r.ref ow;rw [ea] at e1;cases e1;rw [ax (aR e2 h)]
def Rel.growA{A:Ψ}(R:Rel K A ρ σ H){p:Addr}{o:HO}(h:H p=ω):Rel K (cZ A p) ρ σ (upd H p o):=by
 have k:aG (OO A ρ σ) H (OO (cZ A p) ρ σ) (upd H p o):=λb u n e=>by
  refine⟨λz=>?_,by rw [ax (aR e h)];exact e⟩
  rcases z with (z|z)|z
  .exact n (.inl z)
  .rw [z,h] at e;cases e
  .exact n (.inr z)
 refine⟨R.len,λi q e=>?_,R.dj,λb z=>?_,λb z w=>?_⟩
 .obtain⟨v,s,r⟩:=R.get i q e;refine⟨v,s,r.keeps k λow a ea=>?_⟩;obtain⟨a',u,e1,e2⟩:=r.ref ow;rw [ea] at e1;cases e1;rw [ax (aR e2 h)]
 .rcases z with z|z
  .exact (Fr.new (ρ:=ρ) (σ:=σ) h).dm b (R.dom b z)
  .rw [z,aI];exact nofun
 .rcases z with z|z
  .exact R.sep b z w
  .exact R.wr w (by rw [z];exact h)
def Rel.less{A A':Ψ}(R:Rel K A ρ σ H)(h:∀b,A' b->A b):Rel K A' ρ σ H:=by
 refine⟨R.len,λi q e=>?_,R.dj,λb z=>R.dom b (h b z),λb z=>R.sep b (h b z)⟩;obtain⟨v,s,r⟩:=R.get i q e;exact⟨v,s,r.keeps (aG.less λb z=>z.imp (h b) id) λ_ _ _=>rfl⟩
def Rel.write{A:Ψ}(R:Rel K A ρ σ H){p q:PV}{o:HO}(e:ρ[i]?=ψ (ψ p))(ow:p.isOwn=η)(ow':q.isOwn=η)(es:σ[i]?=ψ (ψ (.ref a)))(new:RS K (OO A ρ σ) (upd H a o) q (.ref a)):Rel K A (ρ.set i (ψ q)) σ (upd H a o)/\Fr ρ σ H (ρ.set i (ψ q)) (upd H a o):=by
 have hi:i<ρ.length:=(k_.mp e).1;have wa:Wr ρ σ a:=⟨i,p,e,ow,es⟩
 have weq:∀b,Wr (ρ.set i (ψ q)) σ b ↔ Wr ρ σ b:=λb=>by
  constructor
  .rintro⟨j,r,e1,o1,s1⟩
   by_cases z:i=j
   .subst z;exact⟨i,p,e,ow,s1⟩
   .rw [p_ z] at e1;exact⟨j,r,e1,o1,s1⟩
  .rintro⟨j,r,e1,o1,s1⟩
   by_cases z:i=j
   .subst z;exact⟨i,q,tf hi,ow',s1⟩
   .exact⟨j,r,by rw [p_ z];exact e1,o1,s1⟩
 have oeq:OO A (ρ.set i (ψ q)) σ=OO A ρ σ:=funext λb=>propext (or_congr Iff.rfl (weq b));have kp:∀b u,¬ Wr ρ σ b->H b=ψ u->upd H a o b=ψ u:=λb u n h=>by rw [ax (λz=>n (by rw [z];exact wa))];exact h
 have k:aG (OO A ρ σ) H (OO A ρ σ) (upd H a o):=λb u n h=>⟨n,kp b u (λz=>n (.inr z)) h⟩
 have dm:∀b,H b≠ω->upd H a o b≠none:=λb n=>by
  by_cases z:b=a
  .rw [z,aI];exact nofun
  .rw [ax z];exact n
 refine⟨⟨by rw [My];exact R.len,λj r e1=>?_,λj l p1 q1 v e1 e2 o1 o2 s1 s2=>?_,λb z=>dm b (R.dom b z),λb z w=>R.sep b z ((weq b).mp w)⟩,⟨kp,dm,λb w=>(weq b).mp w⟩⟩
 .rw [oeq]
  by_cases z:i=j
  .subst z;rw [tf hi] at e1;cases e1;exact⟨_,es,new⟩
  .rw [p_ z] at e1;obtain⟨v,s,rr⟩:=R.get j r e1;refine⟨v,s,rr.keeps k λow2 b eb=>?_⟩;rw [ax];intro zz;subst zz;rw [eb] at s;exact z (R.dj i j p r _ e e1 ow ow2 es s)
 .have ex:∀(m:Nat) (x:PV),(ρ.set i (ψ q))[m]?=ψ (ψ x)->x.isOwn=η->∃y:PV,ρ[m]?=ψ (ψ y)/\y.isOwn=true:=λm x em ox=>by
   by_cases z:i=m
   .subst z;exact⟨p,e,ow⟩
   .rw [p_ z] at em;exact⟨x,em,ox⟩
  obtain⟨y1,h1,h2⟩:=ex j p1 e1 o1;obtain⟨y2,h3,h4⟩:=ex l q1 e2 o2;exact R.dj j l y1 y2 v h1 h3 h2 h4 s1 s2
def Rel.frz{A:Ψ}(R:Rel K A ρ σ H){p:PV}(e:ρ[i]?=ψ (ψ p)):
  Rel K A (ρ.set i (ψ (.dat p.d))) σ H/\Fr ρ σ H (ρ.set i (ψ (.dat p.d))) H:=by
 have hi:i<ρ.length:=(k_.mp e).1
 have ex:∀(m:Nat) (x:PV),(ρ.set i (ψ (.dat p.d)))[m]?=ψ (ψ x)->x.isOwn=η->m≠i/\ρ[m]?=ψ (ψ x):=λm x em ox=>by
  by_cases z:i=m
  .subst z;rw [tf hi] at em;cases em;cases ox
  .rw [p_ z] at em;exact⟨λq=>z q.symm,em⟩
 have ow:∀b,Wr (ρ.set i (ψ (.dat p.d))) σ b->Wr ρ σ b:=λb ⟨j,r,e1,o1,s1⟩=>⟨j,r,(ex j r e1 o1).2,o1,s1⟩
 have k:aG (OO A ρ σ) H (OO A (ρ.set i (ψ (.dat p.d))) σ) H:=aG.less λb z=>z.imp id (ow b);refine⟨⟨by rw [My];exact R.len,λj r e1=>?_,λj l p1 q1 v e1 e2 o1 o2 s1 s2=>R.dj j l p1 q1 v (ex j p1 e1 o1).2 (ex l q1 e2 o2).2 o1 o2 s1 s2,R.dom,λb z w=>R.sep b z (ow b w)⟩,⟨λ_ _ _ h=>h,λ_ h=>h,ow⟩⟩
 by_cases z:i=j
 .subst z;rw [tf hi] at e1;cases e1;obtain⟨v,s,r⟩:=R.get i p e;refine⟨v,s,?_⟩
  have na:∀a,v=.ref a->p.isOwn=η->¬ OO A (ρ.set i (ψ (.dat p.d))) σ a:=λa ea oo z=>by
   subst ea
   rcases z with z|⟨j,r,e1,o1,s1⟩
   .exact R.sep a z ⟨i,p,e,oo,s⟩
   .obtain⟨n1,n2⟩:=ex j r e1 o1;exact n1 (R.dj j i r p _ n2 e o1 oo s1 s)
  cases p with
  | dat d=>exact FV.keeps k r
  | own ds =>
   obtain⟨a,xs,rfl,g,f⟩:=r;exact .lst (na a rfl rfl) g (f.keeps k)
  | ins c ns ds =>
   obtain⟨a,dx,fs,rfl,g,m,f⟩:=r;exact .obj (na a rfl rfl) g m (f.keeps k)
  | odc ks ds =>
   obtain⟨a,kvs,rfl,g,m,f⟩:=r;exact .dic (na a rfl rfl) g m (f.keeps k)
 .rw [p_ z] at e1;obtain⟨v,s,r⟩:=R.get j _ e1;exact⟨v,s,r.keeps k λ_ _ _=>rfl⟩
abbrev PKt:=PV->PSt->Prop
abbrev PTE:=PSt->PKt->Prop
abbrev PTT:=PSt->(Bool->PSt->Prop)->Prop
inductive AV where
 | v (d:D)|sl (i:Nat)
abbrev PA1:=PSt->(AV->PSt->Prop)->Prop
abbrev PTA:=PSt->(List AV->PSt->Prop)->Prop
noncomputable def Out(K:b_)(A:Ψ)(ρ:PSt)(σ:St)(H0 H:Hp):PV->V->Prop
 | .dat d,v=>Rel K A ρ σ H/\FV K (OO A ρ σ) H v d
 | .own ds,v=>∃a xs,v=.ref a/\¬ A a/\H0 a=ω/\H a=ψ (.lst xs)/\Rel K (cZ A a) ρ σ H/\FVs K (OO (cZ A a) ρ σ) H xs ds
 | .ins c ns ds,v=>∃a dx fs,v=.ref a/\¬ A a/\H0 a=ω/\H a=ψ (.ins (bZ K c) dx fs)/\fs.map y_=ns/\Rel K (cZ A a) ρ σ H/\FVs K (OO (cZ A a) ρ σ) H (fs.map Mo) ds
 | .odc ks ds,v=>∃a kvs,v=.ref a/\¬ A a/\H0 a=ω/\H a=ψ (.dK kvs)/\kvs.map y_=ks/\Rel K (cZ A a) ρ σ H/\FVs K (OO (cZ A a) ρ σ) H (kvs.map Mo) ds
noncomputable def LE(K:b_)(te:TE)(pe:PTE):Prop:=∀(A:Ψ) (ρ:PSt) (σ:St) (H:Hp) (Q:PKt) (Q':VK),Rel K A ρ σ H->pe ρ Q ->
 (∀v H' p ρ',Q p ρ'->Fr ρ σ H ρ' H'->Out K A ρ' σ H H' p v->Q' v H')->te σ H Q'
noncomputable def LT(K:b_)(tt:TT)(pt:PTT):Prop:=∀(A:Ψ) (ρ:PSt) (σ:St) (H:Hp) (Q:Bool->PSt->Prop) (Q':Bool->Hp->Prop),Rel K A ρ σ H->pt ρ Q ->
 (∀b H' ρ',Q b ρ'->Fr ρ σ H ρ' H'->Rel K A ρ' σ H'->Q' b H')->tt σ H Q'
noncomputable def AOk(K:b_)(O:Ψ)(σ:St)(H:Hp):AV->V->Prop
 | .v d,v=>FV K O H v d
 | .sl i,v=>σ[i]?=ψ (ψ v)
noncomputable def LA1(K:b_)(te:TE)(pa:PA1):Prop:=∀(A:Ψ) (ρ:PSt) (σ:St) (H:Hp) (Q:AV->PSt->Prop) (Q':VK),Rel K A ρ σ H->pa ρ Q ->
 (∀v H' av ρ',Q av ρ'->Fr ρ σ H ρ' H'->Rel K A ρ' σ H'->AOk K (OO A ρ' σ) σ H' av v->Q' v H')->te σ H Q'
inductive Es (K:b_) (O:Ψ) (σ:St) (H:Hp):List AV->List V->Prop
 | nil:Es K O σ H [] []
 | cons {a:AV}{v:V}{as:List AV}{vs:List V}:AOk K O σ H a v->Es K O σ H as vs->Es K O σ H (a::as) (v::vs)
noncomputable def LAs(K:b_)(ta:TA)(pa:PTA):Prop:=∀(A:Ψ) (ρ:PSt) (σ:St) (H:Hp) (Q:List AV->PSt->Prop) (Q':List V->Hp->Prop),Rel K A ρ σ H->pa ρ Q ->
 (∀vs H' as ρ',Q as ρ'->Fr ρ σ H ρ' H'->Rel K A ρ' σ H'->Es K (OO A ρ' σ) σ H' as vs->Q' vs H')->ta σ H Q'
def AOk.keeps{a:AV}(k:aG O H O' H')(h:AOk K O σ H a v):AOk K O' σ H' a v:=by
 cases a with
 | v d=>exact FV.keeps k h
 | sl i=>exact h
variable {A:Ψ}{H0:Hp}
def Out.frz{p:PV}(h:Out K A ρ σ H0 H p v):Rel K A ρ σ H/\FV K (OO A ρ σ) H v p.d:=by
 cases p with
 | dat d=>exact h
 | own ds =>
  obtain⟨a,xs,rfl,na,_,e,R,f⟩:=h;refine⟨R.less λb z=>.inl z,.lst (λz=>?_) e (f.keeps (aG.less λb z=>z.imp .inl id))⟩;exact z.elim na (λz=>R.sep a (.inr rfl) z)
 | ins c ns ds =>
  obtain⟨a,dx,fs,rfl,na,_,e,m,R,f⟩:=h;refine⟨R.less λb z=>.inl z,.obj (λz=>?_) e m (f.keeps (aG.less λb z=>z.imp .inl id))⟩;exact z.elim na (λz=>R.sep a (.inr rfl) z)
 | odc ks ds =>
  obtain⟨a,kvs,rfl,na,_,e,m,R,f⟩:=h;refine⟨R.less λb z=>.inl z,.dic (λz=>?_) e m (f.keeps (aG.less λb z=>z.imp .inl id))⟩;exact z.elim na (λz=>R.sep a (.inr rfl) z)
def Out.h0{p:PV}(h:Out K A ρ σ H0 H p v)(dm:∀b,H1 b≠ω->H0 b≠ω):Out K A ρ σ H1 H p v:=by
 have k:∀a,H0 a=ω->H1 a=none:=λa e=>by
  cases z:H1 a with
  | none=>rfl
  | some o=>exact absurd e (dm a (by rw [z];exact nofun))
 cases p with
 | dat d=>exact h
 | own ds=>obtain⟨a,xs,e1,na,e2,r⟩:=h;exact⟨a,xs,e1,na,k a e2,r⟩
 | ins c ns ds=>obtain⟨a,dx,fs,e1,na,e2,r⟩:=h;exact⟨a,dx,fs,e1,na,k a e2,r⟩
 | odc ks ds=>obtain⟨a,kvs,e1,na,e2,r⟩:=h;exact⟨a,kvs,e1,na,k a e2,r⟩
noncomputable def Gr(H H':Hp):Prop:=∀b o,H b=ψ o->H' b=ψ o
def Gr.fr(g:Gr H H'):Fr ρ σ H ρ H':=⟨λb o _ h=>g b o h,λb h=>by
 cases e:H b with
 | none=>exact absurd e h
 | some o=>rw [g b o e];exact nofun,λ_ h=>h⟩
def Gr.new{p:Addr}{o:HO}(h:H p=ω):Gr H (upd H p o):=λb u e=>by rw [ax (aR e h)];exact e
def Gr.refl(H:Hp):Gr H H:=λ_ _ h=>h
def Rel.gr(R:Rel K A ρ σ H)(g:Gr H H'):Rel K A ρ σ H':=by
 refine⟨R.len,λi q e=>?_,R.dj,λb z=>(g.fr (ρ:=ρ) (σ:=σ)).dm b (R.dom b z),R.sep⟩;obtain⟨v,s,r⟩:=R.get i q e;refine⟨v,s,r.keeps (g.fr (ρ:=ρ) (σ:=σ)).keeps λow a ea=>?_⟩;obtain⟨a',u,e1,e2⟩:=r.ref ow;rw [ea] at e1;cases e1;rw [e2];exact g _ _ e2
def Rel.grA(R:Rel K A ρ σ H)(g:Gr H H'){p:Addr}(h:H p=ω)(h':H' p≠ω):Rel K (cZ A p) ρ σ H':=by
 have k:aG (OO A ρ σ) H (OO (cZ A p) ρ σ) H':=λb u n e=>by
  refine⟨λz=>?_,g _ _ e⟩
  rcases z with (z|z)|z
  .exact n (.inl z)
  .rw [z,h] at e;cases e
  .exact n (.inr z)
 refine⟨R.len,λi q e=>?_,R.dj,λb z=>?_,λb z w=>?_⟩
 .obtain⟨v,s,r⟩:=R.get i q e;refine⟨v,s,r.keeps k λow a ea=>?_⟩;obtain⟨a',u,e1,e2⟩:=r.ref ow;rw [ea] at e1;cases e1;rw [e2];exact g _ _ e2
 .rcases z with z|z
  .exact (g.fr (ρ:=ρ) (σ:=σ)).dm b (R.dom b z)
  .rw [z];exact h'
 .rcases z with z|z
  .exact R.sep b z w
  .exact R.wr w (by rw [z];exact h)
noncomputable def sW(K:b_)(O:Ψ)(H0 H:Hp):PV->V->Prop
 | .dat d,v=>FV K O H v d
 | .own ds,v=>∃a xs,v=.ref a/\H0 a=ω/\H a=ψ (.lst xs)/\FVs K (cZ O a) H xs ds
 | .ins c ns ds,v=>∃a dx fs,v=.ref a/\H0 a=ω/\H a=ψ (.ins (bZ K c) dx fs)/\fs.map y_=ns/\FVs K (cZ O a) H (fs.map Mo) ds
 | .odc ks ds,v=>∃a kvs,v=.ref a/\H0 a=ω/\H a=ψ (.dK kvs)/\kvs.map y_=ks/\FVs K (cZ O a) H (kvs.map Mo) ds
def sW.out{p:PV}(R:Rel K A ρ σ H)(g:Gr H H')(h:sW K (OO A ρ σ) H H' p v):Out K A ρ σ H H' p v:=by
 cases p with
 | dat d=>exact⟨R.gr g,h⟩
 | own ds =>
  obtain⟨a,xs,rfl,e0,e,f⟩:=h;refine⟨a,xs,rfl,λz=>R.dom a z e0,e0,e,R.grA g e0 (by rw [e];exact nofun),f.keeps (aG.less λb z=>?_)⟩
  rcases z with (z|z)|z
  .exact .inl (.inl z)
  .exact .inr z
  .exact .inl (.inr z)
 | ins c ns ds =>
  obtain⟨a,dx,fs,rfl,e0,e,m,f⟩:=h;refine⟨a,dx,fs,rfl,λz=>R.dom a z e0,e0,e,m,R.grA g e0 (by rw [e];exact nofun),f.keeps (aG.less λb z=>?_)⟩
  rcases z with (z|z)|z
  .exact .inl (.inl z)
  .exact .inr z
  .exact .inl (.inr z)
 | odc ks ds =>
  obtain⟨a,kvs,rfl,e0,e,m,f⟩:=h;refine⟨a,kvs,rfl,λz=>R.dom a z e0,e0,e,m,R.grA g e0 (by rw [e];exact nofun),f.keeps (aG.less λb z=>?_)⟩
  rcases z with (z|z)|z
  .exact .inl (.inl z)
  .exact .inr z
  .exact .inl (.inr z)
noncomputable def FVc(K:b_)(O:Ψ)(H:Hp)(v:V)(d:D):Prop:=FV K O H v d\/(∃a xs ds,v=.ref a/\d=.lst ds/\H a=ψ (.lst xs)/\FVs K O H xs ds) \/
 (∃a dx c fs ns ds,v=.ref a/\d=.obj c ns ds/\H a=ψ (.ins (bZ K c) dx fs)/\fs.map y_=ns/\FVs K O H (fs.map Mo) ds) \/
 ∃a kvs ks ds,v=.ref a/\d=.dic ks ds/\H a=ψ (.dK kvs)/\kvs.map y_=ks/\FVs K O H (kvs.map Mo) ds
noncomputable def cont(ρ:PSt):AV->Option D
 | .v d=>ψ d
 | .sl i=>match ρ[i]? with|some (ψ p)=>ψ p.d|_=>ω
def Rel.cont{av:AV}{d:D}(R:Rel K A ρ σ H)(h:AOk K (OO A ρ σ) σ H av v)(e:L2.cont ρ av=ψ d):FVc K (OO A ρ σ) H v d:=by
 cases av with
 | v d'=>cases e;exact .inl h
 | sl i =>
  have h:σ[i]?=ψ (ψ v):=h;simp only [L2.cont] at e
  split at e
  .rename_i p ep;cases e;obtain⟨v',s,r⟩:=R.get i p ep;rw [h] at s;cases s
   cases p with
   | dat d=>exact .inl r
   | own ds=>obtain⟨a,xs,e1,e2,f⟩:=r;exact .inr (.inl ⟨a,xs,ds,e1,rfl,e2,f⟩)
   | ins c ns ds=>obtain⟨a,dx,fs,e1,e2,m,f⟩:=r;exact .inr (.inr (.inl ⟨a,dx,c,fs,ns,ds,e1,rfl,e2,m,f⟩))
   | odc ks ds=>obtain⟨a,kvs,e1,e2,m,f⟩:=r;exact .inr (.inr (.inr ⟨a,kvs,ks,ds,e1,rfl,e2,m,f⟩))
  .cases e
variable {ds:List D}
def FVc.lst(h:FVc K O H v (.lst ds)):∃a xs,v=.ref a/\H a=ψ (.lst xs)/\FVs K O H xs ds:=by
 rcases h with h|⟨a,xs,ds',e1,e2,e3,f⟩|⟨a,dx,c,fs,ns,ds',e1,e2,_⟩|⟨a,kvs,ks,ds',e1,e2,_⟩
 .cases h with
  | lst n s f=>exact⟨_,_,rfl,s,f⟩
 .cases e2;exact⟨a,xs,e1,e3,f⟩
 .cases e2
 .cases e2
def FVc.fv{d:D}(h:FVc K O H v d)(n:∀ds,d≠.lst ds)(n':∀c ns ds,d≠.obj c ns ds)(n'':∀ks ds,d≠.dic ks ds:=by nofun):FV K O H v d:=by
 rcases h with h|⟨a,xs,ds',e1,e2,e3,f⟩|⟨a,dx,c,fs,ns,ds',e1,e2,_⟩|⟨a,kvs,ks,ds',e1,e2,_⟩
 .exact h
 .exact absurd e2 (n _)
 .exact absurd e2 (n' _ _ _)
 .exact absurd e2 (n'' _ _)
variable {ks:List Key}
def FVc.dic(h:FVc K O H v (.dic ks ds)):∃a kvs,v=.ref a/\H a=ψ (.dK kvs)/\kvs.map y_=ks/\FVs K O H (kvs.map Mo) ds:=by
 rcases h with h|⟨_,_,_,_,e2,_⟩|⟨_,_,_,_,_,_,_,e2,_⟩|⟨a,kvs,_,_,e1,e2,e3,m,f⟩
 .cases h with
  | dic n e m f=>exact⟨_,_,rfl,e,m,f⟩
 .cases e2
 .cases e2
 .cases e2;exact⟨a,kvs,e1,e3,m,f⟩
def FVc.tup(h:FVc K O H v (.tup ds)):∃a xs,v=.ref a/\¬ O a/\H a=ψ (.tup xs)/\FVs K O H xs ds:=by
 cases h.fv nofun nofun with
 | tup n s f=>exact⟨_,_,rfl,n,s,f⟩
def FVc.scr(h:FVc K O H v (.scr ns)):∃a,v=.ref a/\SqL K H a (ns.map V.int):=by
 cases h.fv nofun nofun with
 | scr s=>exact⟨_,rfl,s.sq⟩
def FVc.int{i:Int}(h:FVc K O H v (.int i)):v=.int i:=by cases h.fv nofun nofun;rfl
def FVc.bl{i:Bool}(h:FVc K O H v (.bl i)):v=.bl i:=by cases h.fv nofun nofun;rfl
def FVc.str{i:Δ}(h:FVc K O H v (.str i)):v=.str (S i)/\i.length<=1000000:=by
 cases h.fv nofun nofun with
 | str _ z=>exact⟨rfl,z⟩
def pC(d:D):PTE:=λρ Q=>Q (.dat d) ρ
noncomputable def yX(i:Nat):PTE:=λρ Q=>match ρ[i]? with
 | some (ψ (.dat d))=>Q (.dat d) ρ
 | some (ψ (.own ds))=>Q (.dat (.lst ds)) (ρ.set i (ψ (.dat (.lst ds))))
 | some (ψ (.ins c ns ds))=>Q (.dat (.obj c ns ds)) (ρ.set i (ψ (.dat (.obj c ns ds))))
 | _=>False
noncomputable def pSl(i:Nat):PA1:=λρ Q=>match ρ[i]? with
 | some (ψ (.dat d))=>Q (.v d) ρ
 | some (ψ (.own _))=>Q (.sl i) ρ
 | some (ψ (.ins _ _ _))=>Q (.sl i) ρ
 | _=>False
noncomputable def pFz(pe:PTE):PA1:=λρ Q=>pe ρ λp ρ1=>Q (.v p.d) ρ1
def iy:PTA:=λρ Q=>Q [] ρ
noncomputable def dk(pa:PA1)(pr:PTA):PTA:=λρ Q=>pa ρ λa ρ1=>pr ρ1 λas ρ2=>Q (a::as) ρ2
def JX{d:D}(h:∀O H,FV K O H v d):LE K (tC v) (pC d):=λA ρ σ H Q Q' R q k=>k v H (.dat d) ρ q (Fr.refl _ _ _) ⟨R,h _ _⟩
def le_int{i:Int}:LE K (tC (.int i)) (pC (.int i)):=JX λ_ _=>.int i
def nL{i:Bool}:LE K (tC (.bl i)) (pC (.bl i)):=JX λ_ _=>.bl i
def le_str{l:Δ}(h:l.length<=1000000:=by decide):LE K (tC (.str (S l))) (pC (.str l)):=JX λ_ _=>.str l h
def jC:LE K (aS i) (yX i):=by
 intro A ρ σ H Q Q' R q k;unfold yX at q
 split at q
 .rename_i d e;obtain⟨v,s,r⟩:=R.get i _ e;exact⟨v,s,k v H (.dat d) ρ q (Fr.refl _ _ _) ⟨R,r⟩⟩
 .rename_i ds e;obtain⟨R',f⟩:=R.frz e;obtain⟨v,s,r⟩:=R'.get i _ (tf (k_.mp e).1);exact⟨v,s,k v H (.dat (.lst ds)) _ q f ⟨R',r⟩⟩
 .rename_i c ns ds e;obtain⟨R',f⟩:=R.frz e;obtain⟨v,s,r⟩:=R'.get i _ (tf (k_.mp e).1);exact⟨v,s,k v H (.dat (.obj c ns ds)) _ q f ⟨R',r⟩⟩
 .exact q.elim
def fH:LA1 K (aS i) (pSl i):=by
 intro A ρ σ H Q Q' R q k;unfold pSl at q
 split at q
 .rename_i d e;obtain⟨v,s,r⟩:=R.get i _ e;exact⟨v,s,k v H _ ρ q (Fr.refl _ _ _) R r⟩
 .rename_i e;obtain⟨v,s,r⟩:=R.get i _ e;exact⟨v,s,k v H _ ρ q (Fr.refl _ _ _) R s⟩
 .rename_i e;obtain⟨v,s,r⟩:=R.get i _ e;exact⟨v,s,k v H _ ρ q (Fr.refl _ _ _) R s⟩
 .exact q.elim
variable {pe:PTE}
def ah(h:LE K ta pe):LA1 K ta (pFz pe):=λA ρ σ H Q Q' R q k=>h A ρ σ H _ Q' R q λv H' p ρ' q f o=>k v H' _ ρ' q f o.frz.1 o.frz.2
def ac:LAs K dz iy:=λA ρ σ H Q Q' R q k=>k [] H [] ρ q (Fr.refl _ _ _) R .nil
variable {pa:PA1}{tr:TA}{pr:PTA}
def aa(h:LA1 K ta pa)(hr:LAs K tr pr):LAs K (aL ta tr) (dk pa pr):=λA ρ σ H Q Q' R q k =>
 h A ρ σ H _ _ R q λv H1 a ρ1 q1 f1 R1 o1=>hr A ρ1 σ H1 _ _ R1 q1 λvs H2 as ρ2 q2 f2 R2 o2=>k _ H2 _ ρ2 q2 (f1.trans f2) R2 (.cons (o1.keeps f2.keeps) o2)
noncomputable def LO(K:b_)(r:R2)(f:D->D->(PV->Prop)->Prop):Prop:=∀(O:Ψ) (H:Hp) (x y:V) (a b:D) (Q:PV->Prop) (Q':VK),(∀b,O b->H b≠ω)->FVc K O H x a->FVc K O H y b->f a b Q ->
 (∀v H' p,Q p->Gr H H'->sW K O H H' p v->Q' v H')->r x y H Q'
noncomputable def op2(f:D->D->(PV->Prop)->Prop)(ρ:PSt)(x y:AV)(Q:PKt):Prop:=match cont ρ x,cont ρ y with
 | some a,ψ b=>f a b λp=>Q p ρ
 | _,_=>False
variable {pb:PA1}
noncomputable def pOp(f:D->D->(PV->Prop)->Prop)(pa pb:PA1):PTE:=λρ Q=>pa ρ λx ρ1=>pb ρ1 λy ρ2=>op2 f ρ2 x y Q
def Rel.dom2(R:Rel K A ρ σ H):∀b,OO A ρ σ b->H b≠none:=λb z=>z.elim (R.dom b) R.wr
variable {tb:TE}
def ak{r:R2}{f:D->D->(PV->Prop)->Prop}(o:LO K r f)(ha:LA1 K ta pa)(hb:LA1 K tb pb):LE K (tOp r ta tb) (pOp f pa pb):=λA ρ σ H Q Q' R q k =>
 ha A ρ σ H _ _ R q λv H1 a ρ1 q1 f1 R1 o1=>hb A ρ1 σ H1 _ _ R1 q1 λw H2 b ρ2 q2 f2 R2 o2=>by
  unfold op2 at q2
  split at q2
  .rename_i da db e1 e2;exact o _ H2 v w da db _ _ R2.dom2 (R2.cont (o1.keeps f2.keeps) e1) (R2.cont o2 e2) q2 λz H3 p q3 g ov=>k z H3 p ρ2 q3 ((f1.trans f2).trans g.fr) ((ov.out R2 g).h0 λb z=>f2.dm b (f1.dm b z))
  .exact q2.elim
noncomputable def LU(K:b_)(r:V->Hp->VK->Prop)(f:D->(PV->Prop)->Prop):Prop:=∀(O:Ψ) (H:Hp) (x:V) (a:D) (Q:PV->Prop) (Q':VK),(∀b,O b->H b≠ω)->FVc K O H x a->f a Q ->
 (∀v H' p,Q p->Gr H H'->sW K O H H' p v->Q' v H')->r x H Q'
noncomputable def op1(f:D->(PV->Prop)->Prop)(ρ:PSt)(x:AV)(Q:PKt):Prop:=match cont ρ x with
 | some a=>f a λp=>Q p ρ
 | _=>False
noncomputable def pUn(f:D->(PV->Prop)->Prop)(pa:PA1):PTE:=λρ Q=>pa ρ λx ρ1=>op1 f ρ1 x Q
def wY{r:V->Hp->VK->Prop}{f:D->(PV->Prop)->Prop}(o:LU K r f)(ha:LA1 K ta pa):LE K (tUn r ta) (pUn f pa):=λA ρ σ H Q Q' R q k =>
 ha A ρ σ H _ _ R q λv H1 a ρ1 q1 f1 R1 o1=>by
  unfold op1 at q1
  split at q1
  .rename_i da e1;exact o _ H1 v da _ _ R1.dom2 (R1.cont o1 e1) q1 λz H3 p q3 g ov=>k z H3 p ρ1 q3 (f1.trans g.fr) ((ov.out R1 g).h0 λb z=>f1.dm b z)
  .exact q1.elim
inductive FO (K:b_) (O:Ψ) (H:Hp):List V->List D->Prop
 | nil:FO K O H [] []
 | cons {x:V}{d:D}{xs:List V}{ds:List D}:FVc K O H x d->FO K O H xs ds->FO K O H (x::xs) (d::ds)
noncomputable def conts(ρ:PSt):List AV->Option (List D)
 | []=>ψ []
 | a::r=>match cont ρ a,conts ρ r with
  | some d,ψ ds=>ψ (d::ds)
  | _,_=>ω
theorem Rel.conts(R:Rel K A ρ σ H):∀{as:List AV}{vs:List V}{ds:List D},Es K (OO A ρ σ) σ H as vs->L2.conts ρ as=ψ ds->FO K (OO A ρ σ) H vs ds
 | _,_,_,.nil,e=>by cases e;exact .nil
 | _,_,_,.cons a b,e=>by
  unfold L2.conts at e
  split at e
  .rename_i e1 e2;cases e;exact .cons (R.cont a e1) (R.conts b e2)
  .cases e
noncomputable def LC(K:b_)(r:List V->Hp->VK->Prop)(f:List D->(PV->Prop)->Prop):Prop:=∀(O:Ψ) (H:Hp) (xs:List V) (as:List D) (Q:PV->Prop) (Q':VK),(∀b,O b->H b≠ω)->FO K O H xs as->f as Q ->
 (∀v H' p,Q p->Gr H H'->sW K O H H' p v->Q' v H')->r xs H Q'
noncomputable def opN(f:List D->(PV->Prop)->Prop)(ρ:PSt)(as:List AV)(Q:PKt):Prop:=match conts ρ as with
 | some ds=>f ds λp=>Q p ρ
 | _=>False
noncomputable def pCB(f:List D->(PV->Prop)->Prop)(pr:PTA):PTE:=λρ Q=>pr ρ λas ρ1=>opN f ρ1 as Q
def aK{r:List V->Hp->VK->Prop}{f:List D->(PV->Prop)->Prop}(o:LC K r f)(ha:LAs K tr pr):LE K (tCB r tr) (pCB f pr):=λA ρ σ H Q Q' R q k =>
 ha A ρ σ H _ _ R q λvs H1 as ρ1 q1 f1 R1 o1=>by
  unfold opN at q1
  split at q1
  .rename_i ds e1;exact o _ H1 vs ds _ _ R1.dom2 (R1.conts o1 e1) q1 λz H3 p q3 g ov=>k z H3 p ρ1 q3 (f1.trans g.fr) ((ov.out R1 g).h0 λb z=>f1.dm b z)
  .exact q1.elim
noncomputable def avD:List AV->Option (List D)
 | []=>ψ []
 | .v d::r=>match avD r with|some ds=>ψ (d::ds)|none=>ω
 | .sl _::_=>ω
theorem Es.avD:∀{as:List AV}{vs:List V}{ds:List D},Es K O σ H as vs->L2.avD as=ψ ds->FVs K O H vs ds
 | _,_,_,.nil,e=>by cases e;exact .nil
 | .v d::r,_,_,.cons a b,e=>by
  simp only [L2.avD] at e
  split at e
  .rename_i e1;cases e;exact .cons a (b.avD e1)
  .cases e
 | .sl i::r,_,_,.cons a b,e=>by cases e
noncomputable def LP(pr:PTA):PTE:=λρ Q=>pr ρ λas ρ1=>match avD as with
 | some ds=>ds.length<=1000000/\Q (.own ds) ρ1
 | _=>False
noncomputable def LQ(pr:PTA):PTE:=λρ Q=>pr ρ λas ρ1=>match avD as with
 | some ds=>ds.length<=1000000/\Q (.dat (.tup ds)) ρ1
 | _=>False
def dq(ha:LAs K tr pr):LE K (KW tr) (LP pr):=λA ρ σ H Q Q' R q k =>
 ha A ρ σ H _ _ R q λvs H1 as ρ1 q1 f1 R1 o1=>by
  split at q1
  .rename_i ds e1;have fs:=o1.avD e1;refine⟨sz _ (by rw [fs.length];exact q1.1),λp hp=>k _ _ (.own ds) ρ1 q1.2 (f1.trans (Fr.new hp)) ?_⟩;have g:Gr H1 (upd H1 p (.lst vs)):=Gr.new hp;exact (sW.out (p:=.own ds) R1 g ⟨p,vs,rfl,hp,aI,fs.keeps (aG.fresh hp)⟩).h0 λb z=>f1.dm b z
  .exact q1.elim
def rz(ha:LAs K tr pr):LE K (Gy tr) (LQ pr):=λA ρ σ H Q Q' R q k =>
 ha A ρ σ H _ _ R q λvs H1 as ρ1 q1 f1 R1 o1=>by
  split at q1
  .rename_i ds e1;have fs:=o1.avD e1;refine⟨sz _ (by rw [fs.length];exact q1.1),λp hp=>k _ _ (.dat (.tup ds)) ρ1 q1.2 (f1.trans (Fr.new hp)) ⟨R1.grow hp,?_⟩⟩;exact .tup (R1.oo hp) aI (fs.keeps (Fr.new hp).keeps)
  .exact q1.elim
noncomputable def pB(pe:PTE):PTT:=λρ Q=>pe ρ λp ρ1=>match p with
 | .dat (.bl b)=>Q b ρ1
 | _=>False
def vB(h:LE K ta pe):LT K (tB ta) (pB pe):=λA ρ σ H Q Q' R q k=>h A ρ σ H _ _ R q λv H1 p ρ1 q1 f1 o1=>by
 split at q1
 .rename_i b;obtain⟨R1,f⟩:=o1;cases f;exact⟨b,rfl,k b H1 ρ1 q1 f1 R1⟩
 .exact q1.elim
def fJ(h:LE K ta pe):LT K (qN ta) (pB pe):=vB h
noncomputable def LR(a b:PTT):PTT:=λρ Q=>a ρ λc ρ1=>iY c (b ρ1 Q) (Q ξ ρ1)
noncomputable def pOr(a b:PTT):PTT:=λρ Q=>a ρ λc ρ1=>iY c (Q η ρ1) (b ρ1 Q)
noncomputable def JY(a:PTT):PTT:=λρ Q=>a ρ λc ρ1=>Q (!c) ρ1
variable {tta ttb:TT}{pta ptb:PTT}
def oS(ha:LT K tta pta)(hb:LT K ttb ptb):LT K (Js tta ttb) (LR pta ptb):=λA ρ σ H Q Q' R q k=>ha A ρ σ H _ _ R q λc H1 ρ1 q1 f1 R1=>by
 cases c with
 | true=>exact hb A ρ1 σ H1 _ _ R1 q1 λb H2 ρ2 q2 f2 R2=>k b H2 ρ2 q2 (f1.trans f2) R2
 | false=>exact k ξ H1 ρ1 q1 f1 R1
def wZ(ha:LT K tta pta)(hb:LT K ttb ptb):LT K (tOr tta ttb) (pOr pta ptb):=λA ρ σ H Q Q' R q k=>ha A ρ σ H _ _ R q λc H1 ρ1 q1 f1 R1=>by
 cases c with
 | false=>exact hb A ρ1 σ H1 _ _ R1 q1 λb H2 ρ2 q2 f2 R2=>k b H2 ρ2 q2 (f1.trans f2) R2
 | true=>exact k η H1 ρ1 q1 f1 R1
def iE(ha:LT K tta pta):LT K (Jt tta) (JY pta):=λA ρ σ H Q Q' R q k=>ha A ρ σ H _ _ R q λc H1 ρ1 q1 f1 R1=>k _ H1 ρ1 q1 f1 R1
noncomputable def JZ(a b:PTE):PTE:=λρ Q=>a ρ λp ρ1=>match p with
 | .dat (.bl c)=>iY c (b ρ1 Q) (Q (.dat (.bl ξ)) ρ1)
 | _=>False
noncomputable def J0(a:PTE):PTE:=λρ Q=>a ρ λp ρ1=>match p with
 | .dat (.bl c)=>Q (.dat (.bl (!c))) ρ1
 | _=>False
variable {pe':PTE}
def oU(ha:LE K ta pe)(hb:LE K tb pe'):LE K (DO ta tb) (JZ pe pe'):=λA ρ σ H Q Q' R q k=>ha A ρ σ H _ _ R q λv H1 p ρ1 q1 f1 o1=>by
 split at q1
 .rename_i c;obtain⟨R1,f⟩:=o1;cases f;refine⟨c,rfl,?_⟩
  cases c with
  | true=>exact hb A ρ1 σ H1 _ _ R1 q1 λb H2 p2 ρ2 q2 f2 o2=>k b H2 p2 ρ2 q2 (f1.trans f2) (o2.h0 λb z=>f1.dm b z)
  | false=>exact k _ H1 _ ρ1 q1 f1 ⟨R1,.bl ξ⟩
 .exact q1.elim
def yY(ha:LE K ta pe):LE K (Gi ta) (J0 pe):=λA ρ σ H Q Q' R q k=>ha A ρ σ H _ _ R q λv H1 p ρ1 q1 f1 o1=>by
 split at q1
 .rename_i c;obtain⟨R1,f⟩:=o1;cases f;exact⟨c,rfl,k _ H1 _ ρ1 q1 f1 ⟨R1,.bl (!c)⟩⟩
 .exact q1.elim
noncomputable def pIf(t:PTT)(a b:PTE):PTE:=λρ Q=>t ρ λc ρ1=>iY c (a ρ1 Q) (b ρ1 Q)
def J1(ht:LT K tta pta)(ha:LE K ta pe)(hb:LE K tb pe'):LE K (tIf tta ta tb) (pIf pta pe pe'):=λA ρ σ H Q Q' R q k=>ht A ρ σ H _ _ R q λc H1 ρ1 q1 f1 R1=>by
 cases c with
 | true=>exact ha A ρ1 σ H1 _ _ R1 q1 λb H2 p2 ρ2 q2 f2 o2=>k b H2 p2 ρ2 q2 (f1.trans f2) (o2.h0 λb z=>f1.dm b z)
 | false=>exact hb A ρ1 σ H1 _ _ R1 q1 λb H2 p2 ρ2 q2 f2 o2=>k b H2 p2 ρ2 q2 (f1.trans f2) (o2.h0 λb z=>f1.dm b z)
abbrev F2:=D->D->(PV->Prop)->Prop
noncomputable def fI0(g:Int->Int->D):F2
 | .int i,.int j,Q=>Q (.dat (g i j))
 | _,_,_=>False
noncomputable def fI(C:Int->Int->Prop)(g:Int->Int->D):F2
 | .int i,.int j,Q=>C i j/\Q (.dat (g i j))
 | _,_,_=>False
def Et{g:Int->Int->V}{g':Int->Int->D}(h:∀i j O H,FV K O H (g i j) (g' i j)):LO K (rI0 g) (fI0 g'):=by
 intro O H x y a b Q Q' dom fx fy q k;unfold fI0 at q
 split at q
 .rename_i i j;exact⟨i,j,fx.int,fy.int,k _ H _ q (Gr.refl _) (h i j _ _)⟩
 .exact q.elim
def Jk{C:Int->Int->Prop}{g:Int->Int->V}{g':Int->Int->D}(h:∀i j O H,FV K O H (g i j) (g' i j)):LO K (rI C g) (fI C g'):=by
 intro O H x y a b Q Q' dom fx fy q k;unfold fI at q
 split at q
 .rename_i i j;exact⟨i,j,fx.int,fy.int,q.1,k _ H _ q.2 (Gr.refl _) (h i j _ _)⟩
 .exact q.elim
def dR{p:Addr}(hp:H p=ω)(f:FVs K O H xs ds):sW K O H (upd H p (.lst xs)) (.own ds) (.ref p) :=
 ⟨p,xs,rfl,hp,aI,f.keeps (aG.fresh hp)⟩
def lU{p:Addr}(dom:∀b,O b->H b≠ω)(hp:H p=ω)(f:FVs K O H xs ds):sW K O H (upd H p (.tup xs)) (.dat (.tup ds)) (.ref p) :=
 .tup (λz=>dom p z hp) aI (f.keeps λb o n e=>⟨n,by rw [ax (aR e hp)];exact e⟩)
noncomputable def J3:R2:=λx y H Q=>∃i j,x=.str (S i)/\y=.str (S j)/\i.length+j.length<=sizeLine/\Q (.str (S (i++j))) H
noncomputable def Eu(K:b_):R2:=λx y H Q=>rI0 (λi j=>.int (i+j)) x y H Q\/J3 x y H Q\/G1 K x y H Q\/GB K x y H Q
def J4(K:b_)(e:X.K=K):OpR X (binaryOp .Add) (Eu K):=by
 subst e;exact OpR.or Gq (OpR.or D9 (OpR.or Ef DZ))
noncomputable def J5:F2
 | .int i,.int j,Q=>Q (.dat (.int (i+j)))
 | .str a,.str b,Q=>a.length+b.length<=1000000/\Q (.dat (.str (a++b)))
 | .lst a,.lst b,Q=>a.length+b.length<=1000000/\Q (.own (a++b))
 | .scr a,.lst b,Q=>a.length+b.length<=1000000/\Q (.own (a.map .int++b))
 | .tup a,.tup b,Q=>a≠[]/\a.length+b.length<=1000000/\Q (.dat (.tup (a++b)))
 | _,_,_=>False
def CZ:LO K (Eu K) J5:=by
 intro O H x y a b Q Q' dom fx fy q k;unfold J5 at q
 split at q
 .rename_i i j;exact .inl ⟨i,j,fx.int,fy.int,k _ H _ q (Gr.refl _) (.int _)⟩
 .rename_i i j;exact .inr (.inl ⟨i,j,fx.str.1,fy.str.1,sz _ q.1,k _ H _ q.2 (Gr.refl _) (.str _ (by rw [kx];exact q.1))⟩)
 .rename_i i j;obtain⟨a,xs,rfl,e1,f1⟩:=fx.lst;obtain⟨b,ys,rfl,e2,f2⟩:=fy.lst;exact .inr (.inr (.inl ⟨a,b,xs,ys,rfl,rfl,SqL.of e1,SqL.of e2,sz _ (by rw [f1.length,f2.length];exact q.1),λp hp=>k _ _ _ q.2 (Gr.new hp) (dR hp (f1.append f2))⟩))
 .rename_i i j;obtain⟨a,rfl,e1⟩:=fx.scr;obtain⟨b,ys,rfl,e2,f2⟩:=fy.lst;exact .inr (.inr (.inl ⟨a,b,_,ys,rfl,rfl,e1,SqL.of e2,sz _ (by rw [cy,f2.length];exact q.1),λp hp=>k _ _ _ q.2 (Gr.new hp) (dR hp ((FVs.of_ints i).append f2))⟩))
 .rename_i i j;obtain⟨a,xs,rfl,n1,e1,f1⟩:=fx.tup;obtain⟨b,ys,rfl,n2,e2,f2⟩:=fy.tup;have l1:=f1.length;have l2:=f2.length
  refine .inr (.inr (.inr ⟨a,b,xs,ys,rfl,rfl,SqT.of e1,SqT.of e2,λz=>q.1 ?_,sz _ (by rw [l1,l2];exact q.2.1),λz=>?_,λ_ p hp=>k _ _ _ q.2.2 (Gr.new hp) (lU dom hp (f1.append f2))⟩))
  .exact MJ.mp (by rw [<- l1,z];rfl)
  .have:j=[]:=MJ.mp (by rw [<- l2,z];rfl);subst this;exact k _ H _ q.2.2 (Gr.refl _) (by rw [Mr];exact .tup n1 e1 f1)
 .exact q.elim
def jD:LO K (rI0 λi j=>.int (i - j)) (fI0 λi j=>.int (i - j)):=Et λ_ _ _ _=>.int _
def bO:LO K (rI (λ_ j=>0<j) λi j=>.int (i % j)) (fI (λ_ j=>0<j) λi j=>.int (i % j)):=Jk λ_ _ _ _=>.int _
def fY:LO K (rI Jy λi j=>.int (i / j)) (fI (λ_ j=>0<j/\j<1073741824) λi j=>.int (i / j)):=Jk λ_ _ _ _=>.int _
def lV:LO K (rI Jz λi j=>.int (i^j.toNat)) (fI (λi j=>0<=j/\j<=1000000/\i.natAbs<2^64) λi j=>.int (i^j.toNat)):=Jk λ_ _ _ _=>.int _
noncomputable def J6:R2:=λx y H Q=>∃l n,x=.str (S l)/\y=.int n/\-1000000<=n/\n<=1000000/\n.toNat*l.length<=sizeLine/\Q (.str (S (xT l n))) H
noncomputable def Ev:R2:=λx y H Q=>rI Jg (λi j=>.int (i*j)) x y H Q\/J6 x y H Q\/K5 x y H Q
def nM:OpR X (binaryOp .Mult) Ev:=OpR.or Gu (OpR.or wL GH)
noncomputable def K8:F2
 | .int i,.int j,Q=>((-(2^64)<i/\i<2^64)\/(-(2^64)<j/\j<2^64))/\Q (.dat (.int (i*j)))
 | .str a,.int n,Q=>(-1000000<=n/\n<=1000000/\n.toNat*a.length<=1000000)/\Q (.dat (.str (xT a n)))
 | .lst a,.int n,Q=>(-1000000<=n/\n<=1000000/\a.length*n.toNat<=1000000)/\Q (.own (xT a n))
 | _,_,_=>False
theorem FVs.rep(f:FVs K O H xs ds):∀n,FVs K O H (H_ n xs).flatten (H_ n ds).flatten
 | 0=>.nil
 | n+1=>by rw [Na,Na,MM,MM];exact f.append (f.rep n)
def iF:LO K Ev K8:=by
 intro O H x y a b Q Q' dom fx fy q k;unfold K8 at q
 split at q
 .rename_i i j;exact .inl ⟨i,j,fx.int,fy.int,q.1,k _ H _ q.2 (Gr.refl _) (.int _)⟩
 .rename_i i j;exact .inr (.inl ⟨i,j,fx.str.1,fy.int,q.1.1,q.1.2.1,sz _ q.1.2.2,k _ H _ q.2 (Gr.refl _) (.str _ (by rw [tD];exact q.1.2.2))⟩)
 .rename_i i j;obtain⟨a,xs,rfl,e1,f1⟩:=fx.lst;exact .inr (.inr ⟨a,j,xs,rfl,fy.int,e1,by omega,by omega,sz _ (by rw [f1.length];exact q.1.2.2),λp hp=>k _ _ _ q.2 (Gr.new hp) (dR hp (f1.rep _))⟩)
 .exact q.elim
noncomputable def K9:R2:=λx y H Q=>rI0 (λi j=>.bl (decide (i<j))) x y H Q\/∃i j,x=.str i/\y=.str j/\Q (.bl (decide (i.cps.toList<j.cps.toList))) H
noncomputable def Jl:R2:=λx y H Q=>rI0 (λi j=>.bl (decide (i<=j))) x y H Q\/∃i j,x=.str i/\y=.str j/\Q (.bl (!decide (j.cps.toList<i.cps.toList))) H
def J7:OpR X (compareOp .Lt) K9:=OpR.or JC yd
def FP:OpR X (compareOp .LtE) Jl:=OpR.or JD yB
noncomputable def fLt:F2
 | .int i,.int j,Q=>Q (.dat (.bl (decide (i<j))))
 | .str i,.str j,Q=>Q (.dat (.bl (decide (i<j))))
 | _,_,_=>False
noncomputable def fLe:F2
 | .int i,.int j,Q=>Q (.dat (.bl (decide (i<=j))))
 | .str i,.str j,Q=>Q (.dat (.bl (!decide (j<i))))
 | _,_,_=>False
def Ew:LO K K9 fLt:=by
 intro O H x y a b Q Q' dom fx fy q k;unfold fLt at q
 split at q
 .rename_i i j;exact .inl ⟨i,j,fx.int,fy.int,k _ H _ q (Gr.refl _) (.bl _)⟩
 .rename_i i j;exact .inr ⟨_,_,fx.str.1,fy.str.1,k _ H _ q (Gr.refl _) (.bl _)⟩
 .exact q.elim
def w4:LO K Jl fLe:=by
 intro O H x y a b Q Q' dom fx fy q k;unfold fLe at q
 split at q
 .rename_i i j;exact .inl ⟨i,j,fx.int,fy.int,k _ H _ q (Gr.refl _) (.bl _)⟩
 .rename_i i j;exact .inr ⟨_,_,fx.str.1,fy.str.1,k _ H _ q (Gr.refl _) (.bl _)⟩
 .exact q.elim
def lW:LO K (rI0 λi j=>.bl (decide (j<i))) (fI0 λi j=>.bl (decide (j<i))):=Et λ_ _ _ _=>.bl _
def w6:LO K (rI0 λi j=>.bl (decide (j<=i))) (fI0 λi j=>.bl (decide (j<=i))):=Et λ_ _ _ _=>.bl _
mutual
noncomputable def D.py:D->OE
 | .non=>.none|.bl b=>.bool b|.int i=>.int i|.str l=>.str (S l)|.ty _=>.none
 | .lst ds=>.list (D.pys ds)|.tup ds=>.tuple (D.pys ds)|.scr ns=>.list (ns.map .int)|.dic _ _=>.none|.fdc _ _=>.none|.obj _ _ _=>.none|.exc _ _ _=>.none
noncomputable def D.pys:List D->List OE
 | []=>[]
 | d::r=>d.py::D.pys r
end
mutual
noncomputable def D.plain:D->Bool
 | .non=>η|.bl _=>η|.int _=>η|.str _=>η|.ty _=>ξ
 | .lst ds=>D.plains ds|.tup ds=>D.plains ds|.scr _=>η|.dic _ _=>ξ|.fdc _ _=>ξ|.obj _ _ _=>ξ|.exc _ _ _=>ξ
noncomputable def D.plains:List D->Bool
 | []=>η
 | d::r=>d.plain && D.plains r
end
mutual
theorem FV.dv{O:Ψ}{H:Hp}:∀{v:V}{d:D},FV K O H v d->d.plain=η->DV K H v d.py
 | _,_,.non,_=>.non
 | _,_,.bl b,_=>.bl b
 | _,_,.int i,_=>.int i
 | _,_,.str l h,_=>.str (S l)
 | _,_,.ty n,p=>nomatch p
 | _,_,.scr s,_=>.lst s.sq (DVs.ints _)
 | _,_,.lst n e f,p=>.lst (SqL.of e) (FVs.dvs f p)
 | _,_,.tup n e f,p=>.tup (SqT.of e) (FVs.dvs f p)
 | _,_,.dic _ _ _ _,p=>nomatch p
 | _,_,.fdc _ _ _ _,p=>nomatch p
 | _,_,.obj _ _ _ _,p=>nomatch p
 | _,_,.exc0 _ _,p=>nomatch p
 | _,_,.exc1 _ _ _ _ _ _,p=>nomatch p
theorem FVs.dvs{O:Ψ}{H:Hp}:∀{vs:List V}{ds:List D},FVs K O H vs ds->D.plains ds=η->DVs K H vs (D.pys ds)
 | _,_,.nil,_=>.nil
 | _,_,.cons a b,p=>by
  have p:(_ && _)=true:=p;rw [Mg] at p;exact .cons (FV.dv a p.1) (FVs.dvs b p.2)
end
def FVc.dv{d:D}(h:FVc K O H v d)(p:d.plain=η):DV K H v d.py:=by
 rcases h with h|⟨a,xs,ds',rfl,rfl,e3,f⟩|⟨a,dx,c,fs,ns,ds',e1,rfl,_⟩|⟨a,kvs,ks,ds',e1,rfl,_⟩
 .exact h.dv p
 .exact .lst (SqL.of e3) (f.dvs p)
 .cases p
 .cases p
noncomputable def Ha(K:b_)(neg:Bool):R2:=λx y H Q=>rI0 (λi j=>.bl (if neg then !decide (i=j) else decide (i=j))) x y H Q\/(∃i j,x=.str (S i)/\y=.str (S j)/\Q (.bl (if neg then !decide (i=j) else decide (i=j))) H)\/JK K neg x y H Q
def LV(K:b_)(e:X.K=K)(hu:X.A.units+64<cLine):OpR X (compareOp .Eq) (Ha K ξ):=by
 subst e;exact OpR.or GT (OpR.or GR (GO hu))
def LW(K:b_)(e:X.K=K)(hu:X.A.units+64<cLine):OpR X (compareOp .NotEq) (Ha K η):=by
 subst e;exact OpR.or GU (OpR.or GS (GP hu))
noncomputable def xU(a b:D):Prop:=a.plain=η/\b.plain=η/\M3 a.py=η/\M3 b.py=η
def deq(a b:D):Bool:=N7 a.py b.py
noncomputable def fEq:F2
 | .int i,.int j,Q=>Q (.dat (.bl (decide (i=j))))
 | .str i,.str j,Q=>Q (.dat (.bl (decide (i=j))))
 | a,b,Q=>xU a b/\Q (.dat (.bl (deq a b)))
noncomputable def fNe:F2
 | .int i,.int j,Q=>Q (.dat (.bl (!decide (i=j))))
 | .str i,.str j,Q=>Q (.dat (.bl (!decide (i=j))))
 | a,b,Q=>xU a b/\Q (.dat (.bl (!deq a b)))
def J8:LO K (Ha K ξ) fEq:=by
 intro O H x y a b Q Q' dom fx fy q k;unfold fEq at q
 split at q
 .rename_i i j;exact .inl ⟨i,j,fx.int,fy.int,k _ H _ q (Gr.refl _) (.bl _)⟩
 .rename_i i j;exact .inr (.inl ⟨i,j,fx.str.1,fy.str.1,k _ H _ q (Gr.refl _) (.bl _)⟩)
 .exact .inr (.inr ⟨_,_,fx.dv q.1.1,fy.dv q.1.2.1,q.1.2.2.1,q.1.2.2.2,k _ H _ q.2 (Gr.refl _) (.bl _)⟩)
def J9:LO K (Ha K η) fNe:=by
 intro O H x y a b Q Q' dom fx fy q k;unfold fNe at q
 split at q
 .rename_i i j;exact .inl ⟨i,j,fx.int,fy.int,k _ H _ q (Gr.refl _) (.bl _)⟩
 .rename_i i j;exact .inr (.inl ⟨i,j,fx.str.1,fy.str.1,k _ H _ q (Gr.refl _) (.bl _)⟩)
 .exact .inr (.inr ⟨_,_,fx.dv q.1.1,fy.dv q.1.2.1,q.1.2.2.1,q.1.2.2.2,k _ H _ q.2 (Gr.refl _) (.bl _)⟩)
noncomputable def D.fl:D->Bool
 | .non=>η|.bl _=>η|.int _=>η|.str _=>η
 | _=>ξ
noncomputable def eqF:D->D->Bool
 | .non,.non=>η
 | .bl a,.bl b=>a == b
 | .bl a,.int b=>(if a then 1 else 0) == b
 | .int a,.bl b=>a == (if b then 1 else 0)
 | .int a,.int b=>a == b
 | .str a,.str b=>a == b
 | _,_=>ξ
noncomputable def inD(x:D)(xs:List D):Bool:=xs.any λy=>eqF y x
def FV.fl{d:D}(h:FV K O H v d)(f:d.fl=η):nK v=true:=by cases h <;> first|rfl|cases f
def Hb(a b:Δ):(S a == S b)=(a == b):=by
 by_cases h:a=b
 .subst h;rw [beq_self_eq_true,beq_self_eq_true]
 .rw [beq_eq_false_iff_ne.mpr h,beq_eq_false_iff_ne.mpr (LK h)]
def FV.eqF{w:V}{d e:D}(h:FV K O H v d)(f:d.fl=η)(h':FV K O H w e)(f':e.fl=η):eqV v w=L2.eqF d e:=by
 cases h <;> first|(cases f;done)|(cases h' <;> first|(cases f';done)|rfl|exact Hb _ _)
theorem FVs.inD{d:D}(h:FV K O H v d)(f:d.fl=η):∀{xs:List V}{ds:List D},FVs K O H xs ds->ds.all D.fl=η->xs.all nK=η/\inV v xs=L2.inD d ds
 | _,_,.nil,_=>⟨rfl,rfl⟩
 | _,_,.cons a b,g=>by
  rw [P_,Mg] at g;obtain⟨i1,i2⟩:=b.inD h f g.2;refine⟨by rw [P_,a.fl g.1,i1];rfl,?_⟩;unfold inV L2.inD at i2 ⊢;rw [N6,N6,i2,a.eqF g.1 h f]
noncomputable def fIn(neg:Bool):F2
 | a,.lst ds,Q=>(a.fl=η/\ds.all D.fl=η)/\Q (.dat (.bl (if neg then !inD a ds else inD a ds)))
 | a,.tup ds,Q=>(a.fl=η/\ds.all D.fl=η)/\Q (.dat (.bl (if neg then !inD a ds else inD a ds)))
 | _,_,_=>False
def FVc.fl{d:D}(h:FVc K O H v d)(f:d.fl=η):FV K O H v d:=h.fv (λ_ z=>by rw [z] at f;cases f) (λ_ _ _ z=>by rw [z] at f;cases f) (λ_ _ z=>by rw [z] at f;cases f)
def LX(K:b_)(e:X.K=K):OpR X (compareOp .In) (rIn K ξ):=by subst e;exact yn
def Ex(K:b_)(e:X.K=K):OpR X (compareOp .NotIn) (rIn K η):=by subst e;exact qT
def Hc{neg:Bool}:LO K (rIn K neg) (fIn neg):=by
 intro O H x y a b Q Q' dom fx fy q k;unfold fIn at q
 split at q
 .obtain⟨p,xs,rfl,e1,f1⟩:=fy.lst;obtain⟨g1,g2⟩:=f1.inD (fx.fl q.1.1) q.1.1 q.1.2;exact⟨p,xs,rfl,.inl (SqL.of e1),(fx.fl q.1.1).fl q.1.1,g1,by rw [g2];exact k _ H _ q.2 (Gr.refl _) (.bl _)⟩
 .obtain⟨p,xs,rfl,n1,e1,f1⟩:=fy.tup;obtain⟨g1,g2⟩:=f1.inD (fx.fl q.1.1) q.1.1 q.1.2;exact⟨p,xs,rfl,.inr (SqT.of e1),(fx.fl q.1.1).fl q.1.1,g1,by rw [g2];exact k _ H _ q.2 (Gr.refl _) (.bl _)⟩
 .exact q.elim
noncomputable def vC(K:b_):R2:=λx y H Q=>Ji K x y H Q\/KZ K x y H Q\/GQ x y H Q
def c4(K:b_)(e:X.K=K):IxR X (vC K):=by
 subst e;exact IxR.or D2 (IxR.or GC D8)
noncomputable def fIx:F2
 | .lst ds,.int i,Q=>∃d,atI ds i=ψ d/\Q (.dat d)
 | .tup ds,.int i,Q=>∃d,atI ds i=ψ d/\Q (.dat d)
 | .scr ns,.int i,Q=>∃d,atI ns i=ψ d/\Q (.dat (.int d))
 | .str l,.int i,Q=>∃c,atI l i=ψ c/\Q (.dat (.str [c]))
 | _,_,_=>False
variable {vs:List V}
def FVs.atI{i:Int}{d:D}(f:FVs K O H vs ds)(h:L2.atI ds i=ψ d):∃v,L2.atI vs i=ψ v/\FV K O H v d:=by
 unfold L2.atI at h ⊢;rw [f.length]
 cases e:ixN ds.length i with
 | none=>rw [e] at h;cases h
 | some j=>rw [e] at h;exact f.getD h
def aW:LO K (vC K) fIx:=by
 intro O H x y a b Q Q' dom fx fy q k;unfold fIx at q
 split at q
 .obtain⟨d,hd,q⟩:=q;obtain⟨p,xs,rfl,e1,f1⟩:=fx.lst;obtain⟨v,hv,fv⟩:=f1.atI hd;exact .inl ⟨p,xs,_,v,rfl,fy.int,SqL.of e1,hv,k _ H _ q (Gr.refl _) fv⟩
 .obtain⟨d,hd,q⟩:=q;obtain⟨p,xs,rfl,n1,e1,f1⟩:=fx.tup;obtain⟨v,hv,fv⟩:=f1.atI hd;exact .inr (.inl ⟨p,xs,_,v,rfl,fy.int,SqT.of e1,hv,k _ H _ q (Gr.refl _) fv⟩)
 .obtain⟨d,hd,q⟩:=q;obtain⟨p,rfl,e1⟩:=fx.scr;exact .inl ⟨p,_,_,_,rfl,fy.int,e1,Ea hd,k _ H _ q (Gr.refl _) (.int d)⟩
 .obtain⟨c,hc,q⟩:=q;exact .inr (.inr ⟨_,_,c,fx.str.1,fy.int,sz _ fx.str.2,hc,k _ H _ q (Gr.refl _) (.str _ (by show 1<=1000000;decide))⟩)
 .exact q.elim
end L2
namespace L2
open PySem PySem.Spec PyProof.Rows _root_.HT
variable {prog:v_}{w:World}{A:G_}{E:Value->d_->Prop}{s:d_}{t:Addr}{items:Array Value}{lo hi:Option Int}{Q:Value->d_->Prop}
def j1{sl:Addr}{vl vu:Value}(ht:IsTup s.heap t items)(hs:s.heap.IsSliceOf sl vl vu .none)(pl:Qq vl lo)(pu:Qq vu hi)(hw:sIx items.size 0 lo=0/\sIx items.size items.size hi=items.size)(h:Q (.ref t) s):wpAny (model prog w) A (getItem (.ref t) (.ref sl)) Q E s:=by
 obtain⟨os,hos,hcs,hds⟩:=id hs;have hTs:s.TypeIs (.ref sl) "slice":=⟨os,hos,hcs⟩
 unfold getItem
 try with_reducible refine Mw ?_
 first|refine cn (gV ?_)|skip
 refine cn (wpAny_sequenceKey ht.typeIs (by decide) ?_)
 refine cn (MF (name:=NR "__getitem__") ht.typeIs Mt
  (M8 Mt ht.typeIs entry_tuple_getitem ?_ (args_tuple_getitem _ _)))
 show wpAny _ _ (PM (.ref t) >>= _) _ _ s;refine cn (tupleItemsOf_ ht ?_);refine cn (OW hTs ?_);rw [if_pos (by decide)];refine cn (gy hs pl pu ?_)
 have hyes:(((sIx items.size 0 lo:Nat):Int) == 0 && (1:Int) == 1 && (sIx items.size items.size hi - sIx items.size 0 lo) == items.size)=true:=by
  rw [hw.1,hw.2,Q1];simp
 show wpAny _ _ (if (((sIx items.size 0 lo:Nat):Int) == 0 && (1:Int) == 1 && (sIx items.size items.size hi - sIx items.size 0 lo) == items.size)=η then _ else _) _ _ s;rw [if_pos hyes];refine cn (m:=Builtin.Tuple.tupleIsExact _) (cn (OW ht.typeIs (gV ?_)));rw [if_pos (by decide)]
 first
  | exact cn (m:=rule _) (gV (gV ⟨_,rfl,gV h⟩))
  | exact gV ⟨_,rfl,gV h⟩
  | exact cn (Pe (gV ⟨_,rfl,gV h⟩))
noncomputable def Hd(K:b_):V->Option Int->Option Int->Hp->VK->Prop:=λx lo hi H Q=>∃a xs,x=.ref a/\SqT K H a xs/\(sIx xs.length 0 lo=0/\sIx xs.length xs.length hi=xs.length)/\Q (.ref a) H
variable {X:Cx}
def Ey:SlR X (Hd X.K):=by
 intro pins s σ H x v vl vu lo hi sl Q I rx hs pl pu h;obtain⟨a,xs,rfl,hx,hw,q⟩:=h;cases rx;obtain⟨its,r,ht,hz⟩:=I.tuple hx;have hlen:its.toArray.size=xs.length:=by rw [we];exact r.length.symm
 refine⟨"tuple",_,Mt.lookup,ht.typeIs,?_⟩;exact j1 ht hs pl pu (by rw [hlen];exact hw) ⟨.ref a,H,I,rfl,q⟩
end L2
namespace L2
open PySem PySem.Spec PyProof.Rows
variable {pa pb pc:PA1}
noncomputable def yZ(f f':F2)(pa pb pc:PA1):PTE:=λρ Q=>pa ρ λx ρ1=>pb ρ1 λy ρ2=>op2 f ρ2 x y λp ρ3=>match p with
 | .dat (.bl k)=>iY k (pc ρ3 λz ρ4=>op2 f' ρ4 y z Q) (Q (.dat (.bl ξ)) ρ3)
 | _=>False
variable {K:b_}{ta tb tc:TE}{r r':R2}
def pZ{f f':F2}(o:LO K r f)(o':LO K r' f')(ha:LA1 K ta pa)(hb:LA1 K tb pb)(hc:LA1 K tc pc):LE K (ve r r' ta tb tc) (yZ f f' pa pb pc):=λA ρ σ H Q Q' R q k =>
 ha A ρ σ H _ _ R q λv H1 a ρ1 q1 f1 R1 o1=>hb A ρ1 σ H1 _ _ R1 q1 λw H2 b ρ2 q2 f2 R2 o2=>by
  unfold op2 at q2
  split at q2
  .rename_i da db e1 e2;refine o _ H2 v w da db _ _ R2.dom2 (R2.cont (o1.keeps f2.keeps) e1) (R2.cont o2 e2) q2 λz H3 p q3 g ov=>?_;dsimp only at q3
   split at q3
   .rename_i c;cases ov;refine⟨c,rfl,?_⟩;have R3:=R2.gr g
    cases c with
    | true =>
     refine hc A ρ2 σ H3 _ _ R3 q3 λu H4 cc ρ4 q4 f4 R4 o4=>?_
     try unfold op2 at q4
     split at q4
     .rename_i dc dd e3 e4;have o2':AOk K (OO A ρ4 σ) σ H4 b w:=(o2.keeps (g.fr (ρ:=ρ2) (σ:=σ)).keeps).keeps f4.keeps;exact o' _ H4 w u _ _ _ _ R4.dom2 (R4.cont o2' e3) (R4.cont o4 e4) q4 λz H5 p q5 g5 ov=>k z H5 p ρ4 q5 ((((f1.trans f2).trans g.fr).trans f4).trans g5.fr) ((ov.out R4 g5).h0 λb z=>f4.dm b ((g.fr (ρ:=ρ2) (σ:=σ)).dm b (f2.dm b (f1.dm b z))))
     .exact q4.elim
    | false=>exact k _ H3 _ ρ2 q3 ((f1.trans f2).trans g.fr) ⟨R3,.bl ξ⟩
   .exact q3.elim
  .exact q2.elim
abbrev PTO:=PSt->(Option Int->PSt->Prop)->Prop
noncomputable def LPo(K:b_)(t:TO)(p:PTO):Prop:=∀(A:Ψ) (ρ:PSt) (σ:St) (H:Hp) (Q:Option Int->PSt->Prop) (Q':Option Int->Hp->Prop),Rel K A ρ σ H->p ρ Q ->
 (∀b H' ρ',Q b ρ'->Fr ρ σ H ρ' H'->Rel K A ρ' σ H'->Q' b H')->t σ H Q'
def He:PTO:=λρ Q=>Q ω ρ
variable {pe:PTE}
noncomputable def Hf(pe:PTE):PTO:=λρ Q=>pe ρ λp ρ1=>match p with
 | .dat (.int i)=>Q (ψ i) ρ1
 | _=>False
def cg:LPo K pP He:=λA ρ σ H Q Q' R q k=>k ω H ρ q (Fr.refl _ _ _) R
def bg(h:LE K ta pe):LPo K (Bf ta) (Hf pe):=λA ρ σ H Q Q' R q k=>h A ρ σ H _ _ R q λv H1 p ρ1 q1 f1 o1=>by
 split at q1
 .rename_i i;obtain⟨R1,f⟩:=o1;cases f;exact⟨i,rfl,k _ H1 ρ1 q1 f1 R1⟩
 .exact q1.elim
noncomputable def Hg(K:b_):V->Option Int->Option Int->Hp->VK->Prop:=λx lo hi H Q=>K0 K x lo hi H Q\/K6 x lo hi H Q\/KY K x lo hi H Q\/Hd K x lo hi H Q
variable {X:Cx}
def p5(K:b_)(e:X.K=K):SlR X (Hg K):=by
 subst e;exact SlR.or D4 (SlR.or GM (SlR.or GA Ey))
noncomputable def fSl:D->Option Int->Option Int->(PV->Prop)->Prop
 | .lst ds,lo,hi,Q=>Q (.own (dO ds lo hi))
 | .scr ns,lo,hi,Q=>Q (.own ((dO ns lo hi).map .int))
 | .str l,lo,hi,Q=>Q (.dat (.str (dO l lo hi)))
 | .tup ds,lo,hi,Q=>Q (.dat (.tup (dO ds lo hi)))
 | _,_,_,_=>False
variable {O:Ψ}{H:Hp}{xs:List V}{ds:List D}
def FVs.cut(f:FVs K O H xs ds)(lo hi:Option Int):FVs K O H (dO xs lo hi) (dO ds lo hi):=by
 unfold dO;rw [f.length];exact (f.drop _).take _
noncomputable def Hh(pa:PA1)(pl ph:PTO):PTE:=λρ Q=>pa ρ λx ρ1=>pl ρ1 λlo ρ2=>ph ρ2 λhi ρ3=>match cont ρ3 x with
 | some d=>fSl d lo hi λp=>Q p ρ3
 | _=>False
variable {α:Type}{lo hi:Option Int}{n:Nat}
def Ez{ds:List α}(h:n=ds.length)(hw:HT.sIx n 0 lo=0/\HT.sIx n n hi=n):dO ds lo hi=ds:=by
 subst h;unfold dO;rw [hw.1,hw.2,QX,Q1,M5]
def lsl{x:V}{d:D}{Q:PV->Prop}{Q':VK}(dom:∀b,O b->H b≠ω)(fx:FVc K O H x d)(q:fSl d lo hi Q)(k:∀v H' p,Q p->Gr H H'->sW K O H H' p v->Q' v H'):Hg K x lo hi H Q':=by
 unfold fSl at q
 split at q
 .obtain⟨a,xs,rfl,e1,f1⟩:=fx.lst;exact .inl ⟨a,xs,rfl,SqL.of e1,λp hp=>k _ _ _ q (Gr.new hp) (dR hp (f1.cut _ _))⟩
 .obtain⟨a,rfl,e1⟩:=fx.scr;exact .inl ⟨a,_,rfl,e1,λp hp=>k _ _ _ q (Gr.new hp) (dR hp (by rw [yw,Bl];exact FVs.of_ints _))⟩
 .exact .inr (.inl ⟨_,fx.str.1,sz _ fx.str.2,k _ H _ q (Gr.refl _) (.str _ (Mn (bU _ _ _) fx.str.2))⟩)
 .obtain⟨a,xs,rfl,n1,e1,f1⟩:=fx.tup
  by_cases hw:HT.sIx xs.length 0 lo=0/\HT.sIx xs.length xs.length hi=xs.length
  .refine .inr (.inr (.inr ⟨a,xs,rfl,SqT.of e1,hw,k _ H _ q (Gr.refl _) ?_⟩));rw [Ez f1.length hw];exact .tup n1 e1 f1
  .exact .inr (.inr (.inl ⟨a,xs,rfl,SqT.of e1,hw,λp hp=>k _ _ _ q (Gr.new hp) (lU dom hp (f1.cut _ _))⟩))
 .exact q.elim
def bG{tl th:TO}{pl ph:PTO}(ha:LA1 K ta pa)(hl:LPo K tl pl)(hh:LPo K th ph):LE K (tSl (Hg K) ta tl th) (Hh pa pl ph):=λA ρ σ H Q Q' R q k =>
 ha A ρ σ H _ _ R q λv H1 a ρ1 q1 f1 R1 o1=>hl A ρ1 σ H1 _ _ R1 q1 λlo H2 ρ2 q2 f2 R2=>hh A ρ2 σ H2 _ _ R2 q2 λhi H3 ρ3 q3 f3 R3=>by
  split at q3
  .rename_i d e1;exact lsl R3.dom2 (R3.cont (o1.keeps (f2.trans f3).keeps) e1) q3 λz H4 p q4 g ov=>k z H4 p ρ3 q4 (((f1.trans f2).trans f3).trans g.fr) ((ov.out R3 g).h0 λb z=>f3.dm b (f2.dm b (f1.dm b z)))
  .exact q3.elim
abbrev FN:=List D->(PV->Prop)->Prop
noncomputable def kW(K:b_):List V->Hp->VK->Prop:=λxs H Q=>(∃l,xs=[.str (S l)]/\l.length<=sizeLine/\Q (.int l.length) H)\/JS K xs H Q\/JT K xs H Q\/∃p kvs,xs=[.ref p]/\Rd H p (.dK kvs)/\Q (.int kvs.length) H
def bS(K:b_)(e:X.K=K):bD X (.builtin "len") (kW K):=by
 subst e;exact bD.or yF (bD.or yG (bD.or yH yS))
noncomputable def EA:FN
 | [.str l],Q=>Q (.dat (.int l.length))
 | [.lst l],Q=>Q (.dat (.int l.length))
 | [.tup l],Q=>Q (.dat (.int l.length))
 | [.scr l],Q=>Q (.dat (.int l.length))
 | [.dic ks _],Q=>Q (.dat (.int ks.length))
 | _,_=>False
def aT:LC K (kW K) EA:=by
 intro O H xs as Q Q' dom fs q k;unfold EA at q
 split at q
 .cases fs with|cons a b=>cases b;rw [a.str.1];exact .inl ⟨_,rfl,sz _ a.str.2,k _ H _ q (Gr.refl _) (.int _)⟩
 .cases fs with
  | cons a b =>
   cases b;obtain⟨p,ys,rfl,e1,f1⟩:=a.lst;exact .inr (.inl ⟨p,ys,rfl,SqL.of e1,by rw [f1.length];exact k _ H _ q (Gr.refl _) (.int _)⟩)
 .cases fs with
  | cons a b =>
   cases b;obtain⟨p,ys,rfl,n1,e1,f1⟩:=a.tup;exact .inr (.inr (.inl ⟨p,ys,rfl,SqT.of e1,by rw [f1.length];exact k _ H _ q (Gr.refl _) (.int _)⟩))
 .cases fs with
  | cons a b =>
   cases b;obtain⟨p,rfl,e1⟩:=a.scr;exact .inr (.inl ⟨p,_,rfl,e1,by rw [cy];exact k _ H _ q (Gr.refl _) (.int _)⟩)
 .cases fs with
  | cons a b =>
   cases b;obtain⟨p,kvs,rfl,e,m,f⟩:=a.dic;subst m;exact .inr (.inr (.inr ⟨_,_,rfl,.inl e,k _ H _ q (Gr.refl _) (by rw [cy];exact .int _)⟩))
 .exact q.elim
inductive Kd where
 | int|bool|str|list|tuple|dict
noncomputable def Kd.nm:Kd->String
 | .int=>"int"|.bool=>"bool"|.str=>"str"|.list=>"list"|.tuple=>"tuple"|.dict=>"dict"
noncomputable def isK:Kd->D->Bool
 | .int,.int _=>η
 | .int,.bl _=>η
 | .bool,.bl _=>η
 | .str,.str _=>η
 | .list,.lst _=>η
 | .tuple,.tup _=>η
 | .dict,.dic _ _=>η
 | _,_=>ξ
noncomputable def D.sort:D->Bool
 | .obj _ _ _=>ξ
 | .exc _ _ _=>ξ
 | .fdc _ _=>ξ
 | .scr _=>ξ
 | .ty _=>ξ
 | _=>η
variable {v:V}
def FVc.ty{d:D}(h:FVc K O H v d)(s:d.sort=η):∃t,qF K H v t/\∀k:Kd,Nm K t (.type k.nm)=ψ (isK k d):=by
 rcases h with h|⟨a,xs,ds',rfl,rfl,e3,f⟩|⟨a,dx,c,fs,ns,ds',rfl,rfl,_⟩|⟨a,kvs,ks,ds',rfl,rfl,e3,_⟩
 .cases h with
  | non=>exact⟨_,.non,λk=>by cases k <;> rfl⟩
  | bl b=>exact⟨_,.bl b,λk=>by cases k <;> rfl⟩
  | int i=>exact⟨_,.int i,λk=>by cases k <;> rfl⟩
  | str l h=>exact⟨_,.str _,λk=>by cases k <;> rfl⟩
  | ty n=>cases s
  | scr _=>cases s
  | lst n e f=>exact⟨_,.lst e,λk=>by cases k <;> rfl⟩
  | tup n e f=>exact⟨_,.tup e,λk=>by cases k <;> rfl⟩
  | dic n e m f=>exact⟨_,.dK e,λk=>by cases k <;> rfl⟩
  | fdc _ _ _ _=>cases s
  | obj _ _ _ _=>cases s
  | exc0 _ _=>cases s
  | exc1 _ _ _ _ _ _=>cases s
 .exact⟨_,.lst e3,λk=>by cases k <;> rfl⟩
 .cases s
 .exact⟨_,.dK e3,λk=>by cases k <;> rfl⟩
def xa(K:b_)(e:X.K=K):bD X (.builtin "isinstance") (K7 K):=by subst e;exact tE
noncomputable def Lb(k:Kd)(pa:PA1):PTE:=λρ Q=>pa ρ λx ρ1=>match cont ρ1 x with
 | some d=>iY d.sort (Q (.dat (.bl (isK k d))) ρ1) False
 | _=>False
def oV(k:Kd)(ha:LA1 K ta pa):LE K (tCB (K7 K) (aL ta (aL (tC (.ty k.nm)) dz))) (Lb k pa):=λA ρ σ H Q Q' R q kk =>
 ha A ρ σ H _ _ R q λv H1 a ρ1 q1 f1 R1 o1=>by
  split at q1
  .rename_i d e1
   cases hs:d.sort with
   | false=>rw [hs] at q1;exact q1.elim
   | true =>
    rw [hs] at q1;obtain⟨t,ty,hk⟩:=(R1.cont o1 e1).ty hs;exact⟨v,k.nm,t,isK k d,rfl,ty,hk k,kk _ H1 _ ρ1 q1 f1 ⟨R1,.bl _⟩⟩
  .exact q1.elim
noncomputable def Lc(K:b_):List V->Hp->VK->Prop:=λxs H Q=>∃(x:V) (p:Addr) (ts:List String) (t:Value) (b:Bool),xs=[x,.ref p]/\qF K H x t/\H p=ψ (.tup (ts.map V.ty))/\O4 K t (ts.map MX)=ψ b/\Q (.bl b) H
def Ka(K:b_)(e:X.K=K):bD X (.builtin "isinstance") (Lc K):=by subst e;exact rp
noncomputable def LY(k l:Kd)(pa:PA1):PTE:=λρ Q=>pa ρ λx ρ1=>match cont ρ1 x with
 | some d=>iY d.sort (Q (.dat (.bl (isK k d || isK l d))) ρ1) False
 | _=>False
variable {O':Ψ}{H':Hp}
def FVc.keeps{d:D}(k:aG O H O' H')(g:Gr H H')(h:FVc K O H v d):FVc K O' H' v d:=by
 rcases h with h|⟨a,xs,ds',e1,e2,e3,f⟩|⟨a,dx,c,fs,ns,ds',e1,e2,e3,m,f⟩|⟨a,kvs,ks,ds',e1,e2,e3,m,f⟩
 .exact .inl (h.keeps k)
 .exact .inr (.inl ⟨a,xs,ds',e1,e2,g _ _ e3,f.keeps k⟩)
 .exact .inr (.inr (.inl ⟨a,dx,c,fs,ns,ds',e1,e2,g _ _ e3,m,f.keeps k⟩))
 .exact .inr (.inr (.inr ⟨a,kvs,ks,ds',e1,e2,g _ _ e3,m,f.keeps k⟩))
def Hi(k l:Kd)(hkl:∀t b c,Nm K t (.type k.nm)=ψ b->Nm K t (.type l.nm)=ψ c->O4 K t [.type k.nm,.type l.nm]=ψ (b || c))(ha:LA1 K ta pa):LE K (tCB (Lc K) (aL ta (aL (Gy (aL (tC (.ty k.nm)) (aL (tC (.ty l.nm)) dz))) dz))) (LY k l pa):=λA ρ σ H Q Q' R q kk =>
 ha A ρ σ H _ _ R q λv H1 a ρ1 q1 f1 R1 o1=>by
  split at q1
  .rename_i d e1
   cases hs:d.sort with
   | false=>rw [hs] at q1;exact q1.elim
   | true =>
    rw [hs] at q1;refine⟨by show 2<=sizeLine;decide,λp hp=>?_⟩;have g:Gr H1 (upd H1 p (.tup [V.ty k.nm,V.ty l.nm])):=Gr.new hp;obtain⟨t,ty,hk⟩:=((R1.cont o1 e1).keeps (g.fr (ρ:=ρ1) (σ:=σ)).keeps g).ty hs;exact⟨v,p,[k.nm,l.nm],t,_,rfl,ty,aI,hkl _ _ _ (hk k) (hk l),kk _ _ _ ρ1 q1 (f1.trans g.fr) ⟨R1.gr g,.bl _⟩⟩
  .exact q1.elim
structure EB where
 nx:PSt->Prop
 rt:PV->PSt->Prop
 bk:PSt->Prop:=λ_=>False
 ct:PSt->Prop:=λ_=>False
abbrev PTS:=EB->PSt->Prop
structure eC (fx:List (Nat×V)) (R:Ψ) (H0:Hp) (ρ:PSt) (σ:St) (H:Hp):Prop where
 kp:∀b o,¬ R b->H0 b=ψ o->H b=ψ o
 dm:∀b,H0 b≠ω->H b≠ω
 ow:∀b,Wr ρ σ b->R b\/H0 b=ω
 fx:∀p∈fx,σ[p.1]?=ψ (ψ p.2)
variable {fx:List (Nat×V)}{R:Ψ}{H0:Hp}{ρ ρ':PSt}{σ:St}
def eC.fr(F:eC fx R H0 ρ σ H)(f:Fr ρ σ H ρ' H'):eC fx R H0 ρ' σ H' :=
 ⟨λb o n e=>f.kp b o (λw=>(F.ow b w).elim n (λz=>by rw [z] at e;cases e)) (F.kp b o n e),λb z=>f.dm b (F.dm b z),λb w=>F.ow b (f.ow b w),F.fx⟩
def eC.start(hfx:∀p∈fx,σ[p.1]?=ψ (ψ p.2)):eC fx (Wr ρ σ) H ρ σ H:=⟨λ_ _ _ h=>h,λ_ h=>h,λ_ h=>.inl h,hfx⟩
variable {A:Ψ}{ρ1:PSt}{H1:Hp}
def eC.keepsR{σ1:St}(F:eC fx R H1 ρ σ H)(hR:∀b,R b->OO A ρ1 σ1 b):aG (OO A ρ1 σ1) H1 (OO A ρ σ) H:=λb o n e=>by
 refine⟨λz=>?_,F.kp b o (λz=>n (hR b z)) e⟩
 rcases z with z|z
 .exact n (.inl z)
 .rcases F.ow b z with z|z
  .exact n (hR b z)
  .rw [z] at e;cases e
def eC.keeps{σ1:St}(F:eC fx (Wr ρ1 σ1) H1 ρ σ H):aG (OO A ρ1 σ1) H1 (OO A ρ σ) H:=F.keepsR λb z=>.inr z
def eC.trans{fx':List (Nat×V)}{σ1:St}(F:eC fx R H0 ρ1 σ1 H1)(G:eC fx' (Wr ρ1 σ1) H1 ρ σ H)(hfx:∀p∈fx,σ[p.1]?=ψ (ψ p.2)):eC fx R H0 ρ σ H:=by
 refine⟨λb o n e=>G.kp b o (λw=>(F.ow b w).elim n (λz=>by rw [z] at e;cases e)) (F.kp b o n e),λb z=>G.dm b (F.dm b z),λb w=>?_,hfx⟩
 rcases G.ow b w with z|z
 .exact F.ow b z
 .refine .inr ?_
  cases e:H0 b with
  | none=>rfl
  | some o=>exact absurd z (F.dm b (by rw [e];exact nofun))
variable {p:PV}{i:Nat}
def Out.put(h:Out K A ρ σ H0 H p v):Rel K A (ρ.set i (ψ p)) (σ.set i (ψ v)) H/\∀b,Wr (ρ.set i (ψ p)) (σ.set i (ψ v)) b->Wr ρ σ b\/H0 b=none:=by
 have get:∀(j:Nat) (q:PV),(ρ.set i (ψ p))[j]?=ψ (ψ q)->(j=i/\q=p/\i<ρ.length)\/(j≠i/\ρ[j]?=ψ (ψ q)):=λj q e=>by
  by_cases z:i=j
  .subst z
   by_cases hi:i<ρ.length
   .rw [tf hi] at e;cases e;exact .inl ⟨rfl,rfl,hi⟩
   .rw [C_ (by rw [My];omega)] at e;cases e
  .rw [p_ z] at e;exact .inr ⟨λq=>z q.symm,e⟩
 cases p with
 | dat d =>
  obtain⟨R1,f⟩:=h
  have ow:∀b,Wr (ρ.set i (ψ (.dat d))) (σ.set i (ψ v)) b->Wr ρ σ b:=λb ⟨j,r,e1,o1,s1⟩=>by
   rcases get j r e1 with ⟨_,rfl,_⟩|⟨n,e⟩
   .cases o1
   .rw [p_ (λz=>n z.symm)] at s1;exact⟨j,r,e,o1,s1⟩
  have k:aG (OO A ρ σ) H (OO A (ρ.set i (ψ (.dat d))) (σ.set i (ψ v))) H:=aG.less λb z=>z.imp id (ow b)
  refine⟨⟨by rw [My,My];exact R1.len,λj r e1=>?_,λj l p1 q1 v' e1 e2 o1 o2 s1 s2=>?_,R1.dom,λb z w=>R1.sep b z (ow b w)⟩,λb w=>.inl (ow b w)⟩
  .rcases get j r e1 with ⟨rfl,rfl,hi⟩|⟨n,e⟩
   .exact⟨v,tf (by rw [<- R1.len];exact hi),f.keeps k⟩
   .obtain⟨u,s,r'⟩:=R1.get j r e;exact⟨u,by rw [p_ (λz=>n z.symm)];exact s,r'.keeps k λ_ _ _=>rfl⟩
  .rcases get j p1 e1 with ⟨_,rfl,_⟩|⟨n1,e1⟩
   .cases o1
   .rcases get l q1 e2 with ⟨_,rfl,_⟩|⟨n2,e2⟩
    .cases o2
    .rw [p_ (λz=>n1 z.symm)] at s1;rw [p_ (λz=>n2 z.symm)] at s2;exact R1.dj j l p1 q1 v' e1 e2 o1 o2 s1 s2
 | own ds =>
  obtain⟨a,xs,rfl,na,hn,e0,R1,f⟩:=h
  have ow:∀b,Wr (ρ.set i (ψ (.own ds))) (σ.set i (ψ (.ref a))) b->Wr ρ σ b\/b=a:=λb ⟨j,r,e1,o1,s1⟩=>by
   rcases get j r e1 with ⟨rfl,rfl,hi⟩|⟨n,e⟩
   .rw [tf (by rw [<- R1.len];exact hi)] at s1;cases s1;exact .inr rfl
   .rw [p_ (λz=>n z.symm)] at s1;exact .inl ⟨j,r,e,o1,s1⟩
  have k:aG (OO (cZ A a) ρ σ) H (OO A (ρ.set i (ψ (.own ds))) (σ.set i (ψ (.ref a)))) H:=aG.less λb z=>by
   rcases z with z|z
   .exact .inl (.inl z)
   .rcases ow b z with z|z
    .exact .inr z
    .exact .inl (.inr z)
  refine⟨⟨by rw [My,My];exact R1.len,λj r e1=>?_,λj l p1 q1 v' e1 e2 o1 o2 s1 s2=>?_,λb z=>R1.dom b (.inl z),λb z w=>?_⟩,λb w=>(ow b w).imp id λz=>by rw [z];exact hn⟩
  .rcases get j r e1 with ⟨rfl,rfl,hi⟩|⟨n,e⟩
   .exact⟨_,tf (by rw [<- R1.len];exact hi),a,xs,rfl,e0,f.keeps k⟩
   .obtain⟨u,s,r'⟩:=R1.get j r e;exact⟨u,by rw [p_ (λz=>n z.symm)];exact s,r'.keeps k λ_ _ _=>rfl⟩
  .rcases get j p1 e1 with ⟨rfl,rfl,hi⟩|⟨n1,e1'⟩
   .rw [tf (by rw [<- R1.len];exact hi)] at s1;cases s1
    rcases get l q1 e2 with ⟨rfl,rfl,_⟩|⟨n2,e2⟩
    .rfl
    .rw [p_ (λz=>n2 z.symm)] at s2;exact absurd ⟨l,q1,e2,o2,s2⟩ (R1.sep a (.inr rfl))
   .rw [p_ (λz=>n1 z.symm)] at s1
    rcases get l q1 e2 with ⟨rfl,rfl,hi⟩|⟨n2,e2⟩
    .rw [tf (by rw [<- R1.len];exact hi)] at s2;cases s2;exact absurd ⟨j,p1,e1',o1,s1⟩ (R1.sep a (.inr rfl))
    .rw [p_ (λz=>n2 z.symm)] at s2;exact R1.dj j l p1 q1 v' e1' e2 o1 o2 s1 s2
  .rcases ow b w with w|w
   .exact R1.sep b (.inl z) w
   .rw [w] at z;exact na z
 | ins c ns ds =>
  obtain⟨a,dx,fs,rfl,na,hn,e0,m,R1,f⟩:=h
  have ow:∀b,Wr (ρ.set i (ψ (.ins c ns ds))) (σ.set i (ψ (.ref a))) b->Wr ρ σ b\/b=a:=λb ⟨j,r,e1,o1,s1⟩=>by
   rcases get j r e1 with ⟨rfl,rfl,hi⟩|⟨n,e⟩
   .rw [tf (by rw [<- R1.len];exact hi)] at s1;cases s1;exact .inr rfl
   .rw [p_ (λz=>n z.symm)] at s1;exact .inl ⟨j,r,e,o1,s1⟩
  have k:aG (OO (cZ A a) ρ σ) H (OO A (ρ.set i (ψ (.ins c ns ds))) (σ.set i (ψ (.ref a)))) H:=aG.less λb z=>by
   rcases z with z|z
   .exact .inl (.inl z)
   .rcases ow b z with z|z
    .exact .inr z
    .exact .inl (.inr z)
  refine⟨⟨by rw [My,My];exact R1.len,λj r e1=>?_,λj l p1 q1 v' e1 e2 o1 o2 s1 s2=>?_,λb z=>R1.dom b (.inl z),λb z w=>?_⟩,λb w=>(ow b w).imp id λz=>by rw [z];exact hn⟩
  .rcases get j r e1 with ⟨rfl,rfl,hi⟩|⟨n,e⟩
   .exact⟨_,tf (by rw [<- R1.len];exact hi),a,dx,fs,rfl,e0,m,f.keeps k⟩
   .obtain⟨u,s,r'⟩:=R1.get j r e;exact⟨u,by rw [p_ (λz=>n z.symm)];exact s,r'.keeps k λ_ _ _=>rfl⟩
  .rcases get j p1 e1 with ⟨rfl,rfl,hi⟩|⟨n1,e1'⟩
   .rw [tf (by rw [<- R1.len];exact hi)] at s1;cases s1
    rcases get l q1 e2 with ⟨rfl,rfl,_⟩|⟨n2,e2⟩
    .rfl
    .rw [p_ (λz=>n2 z.symm)] at s2;exact absurd ⟨l,q1,e2,o2,s2⟩ (R1.sep a (.inr rfl))
   .rw [p_ (λz=>n1 z.symm)] at s1
    rcases get l q1 e2 with ⟨rfl,rfl,hi⟩|⟨n2,e2⟩
    .rw [tf (by rw [<- R1.len];exact hi)] at s2;cases s2;exact absurd ⟨j,p1,e1',o1,s1⟩ (R1.sep a (.inr rfl))
    .rw [p_ (λz=>n2 z.symm)] at s2;exact R1.dj j l p1 q1 v' e1' e2 o1 o2 s1 s2
  .rcases ow b w with w|w
   .exact R1.sep b (.inl z) w
   .rw [w] at z;exact na z
 | odc ks ds =>
  obtain⟨a,kvs,rfl,na,hn,e0,m,R1,f⟩:=h
  have ow:∀b,Wr (ρ.set i (ψ (.odc ks ds))) (σ.set i (ψ (.ref a))) b->Wr ρ σ b\/b=a:=λb ⟨j,r,e1,o1,s1⟩=>by
   rcases get j r e1 with ⟨rfl,rfl,hi⟩|⟨n,e⟩
   .rw [tf (by rw [<- R1.len];exact hi)] at s1;cases s1;exact .inr rfl
   .rw [p_ (λz=>n z.symm)] at s1;exact .inl ⟨j,r,e,o1,s1⟩
  have k:aG (OO (cZ A a) ρ σ) H (OO A (ρ.set i (ψ (.odc ks ds))) (σ.set i (ψ (.ref a)))) H:=aG.less λb z=>by
   rcases z with z|z
   .exact .inl (.inl z)
   .rcases ow b z with z|z
    .exact .inr z
    .exact .inl (.inr z)
  refine⟨⟨by rw [My,My];exact R1.len,λj r e1=>?_,λj l p1 q1 v' e1 e2 o1 o2 s1 s2=>?_,λb z=>R1.dom b (.inl z),λb z w=>?_⟩,λb w=>(ow b w).imp id λz=>by rw [z];exact hn⟩
  .rcases get j r e1 with ⟨rfl,rfl,hi⟩|⟨n,e⟩
   .exact⟨_,tf (by rw [<- R1.len];exact hi),a,kvs,rfl,e0,m,f.keeps k⟩
   .obtain⟨u,s,r'⟩:=R1.get j r e;exact⟨u,by rw [p_ (λz=>n z.symm)];exact s,r'.keeps k λ_ _ _=>rfl⟩
  .rcases get j p1 e1 with ⟨rfl,rfl,hi⟩|⟨n1,e1'⟩
   .rw [tf (by rw [<- R1.len];exact hi)] at s1;cases s1
    rcases get l q1 e2 with ⟨rfl,rfl,_⟩|⟨n2,e2⟩
    .rfl
    .rw [p_ (λz=>n2 z.symm)] at s2;exact absurd ⟨l,q1,e2,o2,s2⟩ (R1.sep a (.inr rfl))
   .rw [p_ (λz=>n1 z.symm)] at s1
    rcases get l q1 e2 with ⟨rfl,rfl,hi⟩|⟨n2,e2⟩
    .rw [tf (by rw [<- R1.len];exact hi)] at s2;cases s2;exact absurd ⟨j,p1,e1',o1,s1⟩ (R1.sep a (.inr rfl))
    .rw [p_ (λz=>n2 z.symm)] at s2;exact R1.dj j l p1 q1 v' e1' e2 o1 o2 s1 s2
  .rcases ow b w with w|w
   .exact R1.sep b (.inl z) w
   .rw [w] at z;exact na z
abbrev PTG:=PV->PSt->(PSt->Prop)->Prop
abbrev BF:=List D->PSt->(PSt->Prop)->Prop
noncomputable def LG(K:b_)(fs:Δ)(g:TG)(pg:PTG):Prop:=∀(fx:List (Nat×V)) (A R:Ψ) (H0:Hp) (ρ:PSt) (σ:St) (H:Hp) (p:PV) (v:V) (Q:PSt->Prop) (Q':St->Hp->Prop),fx.map y_=fs->eC fx R H0 ρ σ H->Out K A ρ σ H0 H p v->pg p ρ Q ->
 (∀ρ' σ' H',Q ρ'->Rel K A ρ' σ' H'->eC fx R H0 ρ' σ' H'->Q' σ' H')->g v σ H Q'
noncomputable def LGs(K:b_)(fs:Δ)(g:TGs)(pg:BF):Prop:=∀(fx:List (Nat×V)) (A R:Ψ) (H0:Hp) (ρ:PSt) (σ:St) (H:Hp) (ds:List D) (vs:List V) (Q:PSt->Prop) (Q':St->Hp->Prop),fx.map y_=fs->eC fx R H0 ρ σ H->Rel K A ρ σ H->FVs K (OO A ρ σ) H vs ds->pg ds ρ Q ->
 (∀ρ' σ',Q ρ'->Rel K A ρ' σ' H->eC fx R H0 ρ' σ' H->(∀b,Wr ρ' σ' b->Wr ρ σ b)->Q' σ' H)->g vs σ H Q'
noncomputable def LGd(K:b_)(fs:Δ)(g:TG)(pg:PTG):Prop:=∀(fx:List (Nat×V)) (A R:Ψ) (H0:Hp) (ρ:PSt) (σ:St) (H:Hp) (d:D) (v:V) (Q:PSt->Prop) (Q':St->Hp->Prop),fx.map y_=fs->eC fx R H0 ρ σ H->Rel K A ρ σ H->FV K (OO A ρ σ) H v d->pg (.dat d) ρ Q ->
 (∀ρ' σ',Q ρ'->Rel K A ρ' σ' H->eC fx R H0 ρ' σ' H->(∀b,Wr ρ' σ' b->Wr ρ σ b)->Q' σ' H)->g v σ H Q'
noncomputable def fK(i:Nat):PTG:=λp ρ Q=>Q (ρ.set i (ψ p))
noncomputable def EC:BF:=λds ρ Q=>match ds with|[]=>Q ρ|_=>False
noncomputable def rA(g:PTG)(gs:BF):BF:=λds ρ Q=>match ds with|d::r=>g (.dat d) ρ λρ1=>gs r ρ1 Q|[]=>False
section
variable {fs:Δ}
def eC.put(hf:fx.map y_=fs)(hi:fs.contains i=ξ)(F:eC fx R H0 ρ σ H)(ow:∀b,Wr (ρ.set i (ψ p)) (σ.set i (ψ v)) b->Wr ρ σ b\/H0 b=ω):eC fx R H0 (ρ.set i (ψ p)) (σ.set i (ψ v)) H :=
 ⟨F.kp,F.dm,λb w=>(ow b w).elim (F.ow b) .inr,λq hq=>by
  have:q.1≠i:=λz=>by
   have h1:i∈fs:=by rw [<- hf,<- z];exact Od hq
   rw [M9.mpr h1] at hi;cases hi
  rw [p_ (λz=>this z.symm)];exact F.fx q hq⟩
def y0(hi:fs.contains i=ξ):LG K fs (bE i) (fK i):=λfx A R H0 ρ σ H p v Q Q' hf F o q k=>k _ _ _ q o.put.1 (F.put hf hi o.put.2)
def iZ:LGs K fs FI EC:=λfx A R H0 ρ σ H ds vs Q Q' hf F r fv q k=>by
 unfold EC at q
 split at q
 .cases fv;exact⟨rfl,k _ _ q r F λ_ h=>h⟩
 .exact q.elim
def d3(hi:fs.contains i=ξ):LGd K fs (bE i) (fK i):=λfx A R H0 ρ σ H d v Q Q' hf F r fv q k=>by
 have o:Out K A ρ σ H0 H (.dat d) v:=⟨r,fv⟩
 have ow:∀b,Wr (ρ.set i (ψ (.dat d))) (σ.set i (ψ v)) b->Wr ρ σ b:=λb ⟨j,p,e1,o1,s1⟩=>by
  by_cases z:i=j
  .subst z
   by_cases hl:i<ρ.length
   .rw [tf hl] at e1;cases e1;cases o1
   .rw [C_ (by rw [My];omega)] at e1;cases e1
  .rw [p_ z] at e1 s1;exact⟨j,p,e1,o1,s1⟩
 exact k _ _ q o.put.1 (F.put hf hi o.put.2) ow
variable {g:TG}
def ck{pg:PTG}{gs:TGs}{pgs:BF}(hg:LGd K fs g pg)(h:LGs K fs gs pgs):LGs K fs (lA g gs) (rA pg pgs):=λfx A R H0 ρ σ H ds vs Q Q' hf F r fv q k=>by
 unfold rA at q
 split at q
 .cases fv with
  | cons a b =>
   exact⟨_,_,rfl,hg fx A R H0 ρ σ H _ _ _ _ hf F r a q λρ1 σ1 q1 r1 F1 w1=>h fx A R H0 ρ1 σ1 H _ _ _ _ hf F1 r1 (b.keeps (aG.less λb z=>z.imp id (w1 b))) q1 λρ2 σ2 q2 r2 F2 w2=>k ρ2 σ2 q2 r2 F2 λb z=>w1 b (w2 b z)⟩
 .exact q.elim
end
noncomputable def LS(K:b_)(fs:Δ)(ts:TS)(ps:PTS):Prop:=∀(fx:List (Nat×V)) (A R:Ψ) (H0:Hp) (ρ:PSt) (σ:St) (H:Hp) (D:EB) (D':DM),fx.map y_=fs->Rel K A ρ σ H->eC fx R H0 ρ σ H->ps D ρ ->
 (∀ρ' σ' H',D.nx ρ'->Rel K A ρ' σ' H'->eC fx R H0 ρ' σ' H'->D'.nx σ' H') ->
 (∀v p ρ' σ' H',D.rt p ρ'->Out K A ρ' σ' H0 H' p v->eC fx R H0 ρ' σ' H'->D'.rt v H') ->
 (∀ρ' σ' H',D.bk ρ'->Rel K A ρ' σ' H'->eC fx R H0 ρ' σ' H'->D'.bk σ' H') ->
 (∀ρ' σ' H',D.ct ρ'->Rel K A ρ' σ' H'->eC fx R H0 ρ' σ' H'->D'.ct σ' H')->ts D' σ H
def C1:PTS:=λD ρ=>D.nx ρ
noncomputable def lX(a b:PTS):PTS:=λD ρ=>a { D with nx:=b D } ρ
noncomputable def C2(pe:PTE):PTS:=λD ρ=>pe ρ λ_ ρ1=>D.nx ρ1
def BG(pe:PTE):PTS:=λD ρ=>pe ρ D.rt
noncomputable def Ld(t:PTT)(a b:PTS):PTS:=λD ρ=>t ρ λc ρ1=>iY c (a D ρ1) (b D ρ1)
def ED:PTS:=λ_ _=>False
noncomputable def Hj(pe:PTE)(g:PTG):PTS:=λD ρ=>pe ρ λp ρ1=>g p ρ1 D.nx
noncomputable def Hk(a:PTS):PTS:=λD ρ=>∃J:PSt->Prop,a { D with nx:=J } ρ/\∀ρ',J ρ'->D.nx ρ'
section
variable {fs:Δ}
def bh:LS K fs Gj C1:=λfx A R H0 ρ σ H D D' hf r F q k1 k2 k3 k4=>k1 _ _ _ q r F
def lm:LS K fs CI ED:=λfx A R H0 ρ σ H D D' hf r F q k1 k2 k3 k4=>q
variable {ta tb:TS}{pa pb:PTS}
def au(ha:LS K fs ta pa)(hb:LS K fs tb pb):LS K fs (Ju ta tb) (lX pa pb):=λfx A R H0 ρ σ H D D' hf r F q k1 k2 k3 k4 =>
 ha fx A R H0 ρ σ H _ _ hf r F q (λρ1 σ1 H1 q1 r1 F1=>hb fx A R H0 ρ1 σ1 H1 _ _ hf r1 F1 q1 k1 k2 k3 k4) k2 k3 k4
variable {te:TE}
def dS(h:LE K te pe):LS K fs (Gk te) (C2 pe):=λfx A R H0 ρ σ H D D' hf r F q k1 k2 k3 k4=>h A ρ σ H _ _ r q λv H1 p ρ1 q1 f1 o1=>k1 _ _ _ q1 o1.frz.1 (F.fr f1)
def aQ(h:LE K te pe):LS K fs (Jv te) (BG pe):=λfx A R H0 ρ σ H D D' hf r F q k1 k2 k3 k4=>h A ρ σ H _ _ r q λv H1 p ρ1 q1 f1 o1=>k2 v p ρ1 σ H1 q1 (o1.h0 F.dm) (F.fr f1)
variable {tt:TT}{pt:PTT}
def dr(ht:LT K tt pt)(ha:LS K fs ta pa)(hb:LS K fs tb pb):LS K fs (KN tt ta tb) (Ld pt pa pb):=λfx A R H0 ρ σ H D D' hf r F q k1 k2 k3 k4=>ht A ρ σ H _ _ r q λc H1 ρ1 q1 f1 r1=>by
 cases c with
 | true=>exact ha fx A R H0 ρ1 σ H1 D D' hf r1 (F.fr f1) q1 k1 k2 k3 k4
 | false=>exact hb fx A R H0 ρ1 σ H1 D D' hf r1 (F.fr f1) q1 k1 k2 k3 k4
variable {g:TG}
def aB{pg:PTG}(h:LE K te pe)(hg:LG K fs g pg):LS K fs (FJ te g) (Hj pe pg):=λfx A R H0 ρ σ H D D' hf r F q k1 k2 k3 k4=>h A ρ σ H _ _ r q λv H1 p ρ1 q1 f1 o1 =>
 hg fx A R H0 ρ1 σ H1 p v _ _ hf (F.fr f1) (o1.h0 F.dm) q1 k1
def fZ(h:LS K fs ta pa):LS K fs (GY ta) (Hk pa):=λfx A R H0 ρ σ H D D' hf r F q k1 k2 k3 k4=>by
 obtain⟨J,q1,q2⟩:=q;refine⟨λσ' H'=>∃ρ',J ρ'/\Rel K A ρ' σ' H'/\eC fx R H0 ρ' σ' H',?_,λσ' H' ⟨ρ',j,r',F'⟩=>k1 ρ' σ' H' (q2 ρ' j) r' F'⟩;exact h fx A R H0 ρ σ H _ _ hf r F q1 (λρ' σ' H' j r' F'=>⟨ρ',j,r',F'⟩) k2 k3 k4
end
noncomputable def iG(K:b_)(tl:TE):TI:=λσ H R=>tl σ H λx H1=>(∃k a xs,x=.ref a/\Sq k K H1 a xs/\R (Itk k K a) H1)\/∃l,x=.str (S l)/\R (Its (gM l)) H1
variable {tg:Expr}
def EE{l:Expr}{tl:TE}(hl:PE X l tl):PI X tg l (iG X.K tl):=by
 intro pins s σ H R I h;refine thn (hl pins s σ H _ I h) λv s1 ⟨x,H1,I1,r1,q1⟩=>?_
 have fin:∀b∈[s1⁻¹],tw X pins H1 b:=λb hb=>by
  have e:b=s1⁻¹:=by simpa using hb
  subst e;exact I1.fpOk (f_ _) (I1.hok.fresh (f_ _))
 rcases q1 with ⟨k,a,xs,e,hq,q⟩|⟨l,e,q⟩
 .subst e;cases r1
  cases k with
  | false =>
   obtain⟨its,rv,p,hz⟩:=I1.list hq;refine NB p.isList ?_;exact⟨s1⁻¹,[s1⁻¹],_,_,H1,rfl,I1.kept (t':=s1.toks) λb o e=>c_ _ e,x8 a _,⟨_,i_ _ rfl,rfl,rfl⟩,fin,q⟩
  | true =>
   obtain⟨its,rv,p,hz⟩:=I1.tuple hq;refine NS (show s1.heap.IsTuple a its.toArray from p) ?_;exact⟨s1⁻¹,[s1⁻¹],_,_,H1,rfl,I1.kept (t':=s1.toks) λb o e=>c_ _ e,wx a _,⟨_,i_ _ rfl,rfl,rfl⟩,fin,q⟩
 .subst e;obtain⟨t,rfl⟩:=r1
  have hv:∀i v,i<(S l).cps.size->SignAt (S l) i v->∃x,(gM l)[i]?=ψ x/\cC x v:=λi v _ ⟨c,u,hc,e⟩=>by
   subst e;have hc':l[i]?=ψ c:=by simpa [S] using hc
   exact⟨.str (S [c]),by unfold gM;rw [h_,hc'];rfl,u,rfl⟩
  have hsc:∀i v,SignAt (S l) i v->∀a,v≠.ref a:=λi v ⟨c,u,hc,e⟩ a z=>by subst e;cases z
  have hn:(gM l).length=(S l).cps.size:=by rw [jY];simp [S]
  have hobj:∀ty i (h:Heap),h.IsStrIter s1⁻¹ ty (S l) t i->∃o,h.get? s1⁻¹=ψ o/\∀v,o.data≠.cell v:=λty i h ⟨o,ho,_,hd⟩=>⟨o,ho,λv z=>by rw [hd] at z;cases z⟩
  have hfr:∀ty i (h h':Heap),h.IsStrIter s1⁻¹ ty (S l) t i->(∀b∈[s1⁻¹],∀o,h.get? b=ψ o->h'.get? b=ψ o)->h'.IsStrIter s1⁻¹ ty (S l) t i:=λty i h h' ⟨o,ho,r⟩ k=>⟨o,k _ (by simp) o ho,r⟩
  cases ha:(S l).cps.all (·<128)
  .refine wpAny_pyIter_wide ha ⟨s1⁻¹,[s1⁻¹],_,Its (gM l),H1,rfl,I1.kept (t':=s1.toks) λb o e=>c_ _ e,
    jy (λA hA=>Walks.strWide hA _ (S l) t) hn hv hsc (hobj _) (hfr _) (λA i s Q E st q=>wpAny_pyIter_striter_wide st q),⟨_,i_ _ rfl,rfl,rfl⟩,fin,q⟩
  .refine wpAny_pyIter_ascii ha ⟨s1⁻¹,[s1⁻¹],_,Its (gM l),H1,rfl,I1.kept (t':=s1.toks) λb o e=>c_ _ e,
    jy (λA hA=>Walks.strAscii hA _ (S l) t) hn hv hsc (hobj _) (hfr _) (λA i s Q E st q=>wpAny_pyIter_striter_ascii st q),⟨_,i_ _ rfl,rfl,rfl⟩,fin,q⟩
def bL(K:b_)(e:X.K=K){l:Expr}{tl:TE}(hl:PE X l tl):PI X tg l (iG K tl):=by subst e;exact EE hl
abbrev PTI:=PSt->(Nat->(Nat->D)->PSt->Prop)->Prop
noncomputable def Wlk(K:b_)(O:Ψ)(H:Hp)(J:It)(n:Nat)(it:Nat->D):Prop:=∀(O':Ψ) (H':Hp),aG O H O' H'->(∀b,O' b->H' b≠ω) ->
 (∀k,k<n->J.go k H'/\∀x H'',J.yld k H' x H''->Gr H' H''/\FV K O' H'' x (it k))/\J.stop n H'
noncomputable def LI(K:b_)(wi:TI)(pi:PTI):Prop:=∀(A:Ψ) (ρ:PSt) (σ:St) (H:Hp) (Q:Nat->(Nat->D)->PSt->Prop) (Q':It->Hp->Prop),Rel K A ρ σ H->pi ρ Q ->
 (∀J H' n it ρ',Q n it ρ'->Fr ρ σ H ρ' H'->Rel K A ρ' σ H'->Wlk K (OO A ρ' σ) H' J n it->Q' J H')->wi σ H Q'
noncomputable def itD(ds:List D)(k:Nat):D:=ds.getD k .non
def gP{k:Nat}{d:D}(h:ds[k]?=ψ d):itD ds k=d:=by unfold itD;rw [e_,h];rfl
noncomputable def Le:D->Option (Nat×(Nat->D))
 | .lst ds=>ψ (ds.length,itD ds)
 | .tup ds=>ψ (ds.length,itD ds)
 | .scr ns=>ψ (ns.length,λk=>.int (ns.getD k 0))
 | .str l=>ψ (l.length,λk=>.str [l.getD k 0])
 | _=>ω
noncomputable def xb(pe:PTE):PTI:=λρ Q=>pe ρ λp ρ1=>match Le p.d with
 | some (n,it)=>Q n it ρ1
 | none=>False
def FV.row{d:D}{it:Nat->D}(h:FV K O H v d)(e:Le d=ψ (n,it)):
  (∃k a xs,v=.ref a/\xs.length=n/\(∀O' H',aG O H O' H'->Sq k K H' a xs/\∀j x,xs[j]?=ψ x->FV K O' H' x (it j)))\/∃l,v=.str (S l)/\l.length=n/\(∀k,it k=.str [l.getD k 0]):=by
 cases h with
 | lst nn e0 f =>
  cases e;refine .inl ⟨ξ,_,_,rfl,f.length,λO' H' k=>⟨SqL.of (k _ _ nn e0).2,λj x hx=>?_⟩⟩;obtain⟨d,hd,fd⟩:=f.get hx;rw [gP hd];exact fd.keeps k
 | tup nn e0 f =>
  cases e;refine .inl ⟨η,_,_,rfl,f.length,λO' H' k=>⟨SqT.of (k _ _ nn e0).2,λj x hx=>?_⟩⟩;obtain⟨d,hd,fd⟩:=f.get hx;rw [gP hd];exact fd.keeps k
 | scr s =>
  cases e;refine .inl ⟨ξ,_,_,rfl,cy _,λO' H' k=>⟨(s.keeps k).sq,λj x hx=>?_⟩⟩;obtain⟨z,hz,rfl⟩:=Bk hx;show FV K O' H' (V.int z) (D.int (List.getD _ j 0));rw [e_,hz];exact .int z
 | str l hl=>cases e;exact .inr ⟨l,rfl,rfl,λ_=>rfl⟩
 | non=>cases e
 | bl b=>cases e
 | int i=>cases e
 | ty n=>cases e
 | dic _ _ _ _=>cases e
 | fdc _ _ _ _=>cases e
 | obj _ _ _ _=>cases e
 | exc0 _ _=>cases e
 | exc1 _ _ _ _ _ _=>cases e
variable {te:TE}
def bM(h:LE K te pe):LI K (iG K te) (xb pe):=λA ρ σ H Q Q' R q k=>h A ρ σ H _ _ R q λv H1 p ρ1 q1 f1 o1=>by
 obtain⟨R1,fv⟩:=o1.frz
 split at q1
 .rename_i n it e
  rcases fv.row e with ⟨b,a,xs,rfl,hl,hr⟩|⟨l,rfl,hl,hi⟩
  .refine .inl ⟨b,a,xs,rfl,(hr _ H1 (λb o n h=>⟨n,h⟩)).1,k _ H1 n it ρ1 q1 f1 R1 λO' H' kk dom=>?_⟩;obtain⟨sq,hx⟩:=hr O' H' kk
   cases b with
   | false =>
    refine⟨λj hj=>⟨⟨xs,_,sq,cx (by rw [hl];exact hj)⟩,λx H'' ⟨e,y⟩=>?_⟩,⟨xs,sq,by rw [hl];exact f_ _⟩⟩;subst e;exact⟨Gr.refl _,hx j x (y xs sq)⟩
   | true =>
    refine⟨λj hj=>⟨⟨xs,_,sq,cx (by rw [hl];exact hj)⟩,λx H'' ⟨e,y⟩=>?_⟩,⟨xs,sq,by rw [hl];exact f_ _⟩⟩;subst e;exact⟨Gr.refl _,hx j x (y xs sq)⟩
  .refine .inr ⟨l,rfl,k _ H1 n it ρ1 q1 f1 R1 λO' H' kk dom=>?_⟩;refine⟨λj hj=>⟨by show j<(gM l).length;rw [jY,hl];exact hj,λx H'' ⟨e,y⟩=>?_⟩,by show (gM l).length=n;rw [jY,hl]⟩;subst e;obtain⟨c,hc,rfl⟩:=wM y;rw [hi,e_,hc];exact⟨Gr.refl _,.str _ (by show 1<=1000000;decide)⟩
 .exact q1.elim
variable {pa:PTA}
noncomputable def LZ(pa:PTA):PTI:=λρ Q=>pa ρ λas ρ1=>match as with
 | [.v (.int j)]=>(-(2^60)<=j/\j<2^60)/\Q j.toNat (λk=>.int (k:Int)) ρ1
 | _=>False
noncomputable def L0(pa:PTA):PTI:=λρ Q=>pa ρ λas ρ1=>match as with
 | [.v (.int i),.v (.int j),.v (.int (-1))]=>(-(2^60)<=i/\i<2^60/\-(2^60)<=j/\j<2^60)/\Q (i - j).toNat (λk=>.int (i - (k:Int))) ρ1
 | _=>False
noncomputable def L1(pa:PTA):PTI:=λρ Q=>pa ρ λas ρ1=>match as with
 | [.v (.int j)]=>(-(2^60)<=j/\j<2^60)/\Q j.toNat (λk=>.int (j - 1 - (k:Int))) ρ1
 | _=>False
def Kb{lo:Int}{it:Nat->D}(h:∀k:Nat,it k=.int (lo+k)):Wlk K O H (Itr lo n) n it:=λO' H' _ _ =>
 ⟨λj hj=>⟨hj,λx H'' ⟨e,y⟩=>by subst e y;rw [h];exact⟨Gr.refl _,.int _⟩⟩,f_ _⟩
def Hl{lo:Int}:Wlk K O H (Its (kT lo n)) n (λk=>.int (lo - (k:Int))):=λO' H' _ _ =>
 ⟨λj hj=>⟨by show j<(kT lo n).length;rw [jA];exact hj,λx H'' ⟨e,y⟩=>by subst e;rw [(yD y).2];exact⟨Gr.refl _,.int _⟩⟩,jA _ _⟩
variable {ta:TA}
def iA(h:LAs K ta pa):LI K (wz ta) (LZ pa):=λA ρ σ H Q Q' R q k=>h A ρ σ H _ _ R q λvs H1 as ρ1 q1 f1 R1 o1=>by
 split at q1
 .rename_i j
  cases o1 with
  | cons a b =>
   cases b;cases a;exact⟨j,rfl,by omega,by omega,k _ H1 _ _ ρ1 q1.2 f1 R1 (Kb λk=>by rw [Qy])⟩
 .exact q1.elim
def Kc(h:LAs K ta pa):LI K (GN ta) (L0 pa):=λA ρ σ H Q Q' R q k=>h A ρ σ H _ _ R q λvs H1 as ρ1 q1 f1 R1 o1=>by
 split at q1
 .rename_i i j
  cases o1 with
  | cons a b =>
   cases b with
   | cons c d =>
    cases d with
    | cons e f =>
     cases f;cases a;cases c;cases e;exact⟨i,j,rfl,q1.1,k _ H1 _ _ ρ1 q1.2 f1 R1 Hl⟩
 .exact q1.elim
def Ke(h:LAs K ta pa):LI K (G0 ta) (L1 pa):=λA ρ σ H Q Q' R q k=>h A ρ σ H _ _ R q λvs H1 as ρ1 q1 f1 R1 o1=>by
 split at q1
 .rename_i j
  cases o1 with
  | cons a b =>
   cases b;cases a;exact⟨j,rfl,q1.1,k _ H1 _ _ ρ1 q1.2 f1 R1 Hl⟩
 .exact q1.elim
noncomputable def rowD:D->Option (List D)
 | .lst ds=>ψ ds
 | .tup ds=>ψ ds
 | .scr ns=>ψ (ns.map .int)
 | _=>ω
def FV.rowD{d:D}(h:FV K O H v d)(e:L2.rowD d=ψ ds):
  ∃k a xs,v=.ref a/\xs.length=ds.length/\(∀O' H',aG O H O' H'->Sq k K H' a xs/\FVs K O' H' xs ds):=by
 cases h with
 | lst nn e0 f=>cases e;exact⟨ξ,_,_,rfl,f.length,λO' H' k=>⟨SqL.of (k _ _ nn e0).2,f.keeps k⟩⟩
 | tup nn e0 f=>cases e;exact⟨η,_,_,rfl,f.length,λO' H' k=>⟨SqT.of (k _ _ nn e0).2,f.keeps k⟩⟩
 | scr s=>cases e;exact⟨ξ,_,_,rfl,by rw [cy,cy],λO' H' k=>⟨(s.keeps k).sq,FVs.of_ints _⟩⟩
 | str l hl=>cases e
 | non=>cases e
 | bl b=>cases e
 | int i=>cases e
 | ty n=>cases e
 | dic _ _ _ _=>cases e
 | fdc _ _ _ _=>cases e
 | obj _ _ _ _=>cases e
 | exc0 _ _=>cases e
 | exc1 _ _ _ _ _ _=>cases e
noncomputable def Kf(pa:PTA):PTI:=λρ Q=>pa ρ λas ρ1=>match as with
 | [.v a,.v b]=>(match rowD a,rowD b with
  | some xs,ψ ys=>Q (min xs.length ys.length) (λk=>.tup [itD xs k,itD ys k]) ρ1
  | _,_=>False)
 | _=>False
noncomputable def Hm(pa:PTA):PTI:=λρ Q=>pa ρ λas ρ1=>match as with
 | [.v a]=>(match rowD a with
  | some xs=>Q xs.length (λk=>.tup [.int (k:Int),itD xs k]) ρ1
  | _=>False)
 | _=>False
def Hn(h:LAs K ta pa):LI K (BE K ta) (Kf pa):=λA ρ σ H Q Q' R q k=>h A ρ σ H _ _ R q λvs H1 as ρ1 q1 f1 R1 o1=>by
 split at q1
 .rename_i da db
  cases o1 with
  | cons o1 o2 =>
   cases o2 with
   | cons o2 o3 =>
    cases o3
    split at q1
    .rename_i xs ys ex ey;obtain⟨b1,a1,us,rfl,l1,w1⟩:=FV.rowD (show FV K _ H1 _ da from o1) ex;obtain⟨b2,a2,ws,rfl,l2,w2⟩:=FV.rowD (show FV K _ H1 _ db from o2) ey;have t1:=w1 _ H1 (λb o n h=>⟨n,h⟩);have t2:=w2 _ H1 (λb o n h=>⟨n,h⟩);refine⟨b1,b2,a1,a2,rfl,⟨us,ws,t1.1,t2.1⟩,k _ H1 _ _ ρ1 q1 f1 R1 λO' H' kk dom=>?_⟩;obtain⟨s1,g1⟩:=w1 O' H' kk;obtain⟨s2,g2⟩:=w2 O' H' kk;refine⟨λj hj=>?_,⟨us,ws,s1,s2,by omega⟩⟩
     have h1:j<us.length:=by omega
     have h2:j<ws.length:=by omega
     refine⟨⟨us,ws,_,_,s1,s2,cx h1,cx h2⟩,λx H'' ⟨T,u,w,hT,e,y1,y2,e2⟩=>?_⟩;subst e e2;obtain⟨d1,hd1,fd1⟩:=g1.get (y1 us s1);obtain⟨d2,hd2,fd2⟩:=g2.get (y2 ws s2);have e1:itD xs j=d1:=by unfold itD;rw [e_,hd1];rfl
     have e2:itD ys j=d2:=by unfold itD;rw [e_,hd2];rfl
     rw [e1,e2];have kk2:aG O' H' O' (upd H' T (.tup [u,w])):=λb o n e=>⟨n,by rw [ax (aR e hT)];exact e⟩
     exact⟨Gr.new hT,.tup (λz=>dom T z hT) aI (.cons (fd1.keeps kk2) (.cons (fd2.keeps kk2) .nil))⟩
    .exact q1.elim
 .exact q1.elim
def tT(h:LAs K ta pa):LI K (BD K ta) (Hm pa):=λA ρ σ H Q Q' R q k=>h A ρ σ H _ _ R q λvs H1 as ρ1 q1 f1 R1 o1=>by
 split at q1
 .rename_i da
  cases o1 with
  | cons o1 o3 =>
   cases o3
   split at q1
   .rename_i xs ex;obtain⟨b1,a1,us,rfl,l1,w1⟩:=FV.rowD (show FV K _ H1 _ da from o1) ex;have t1:=w1 _ H1 (λb o n h=>⟨n,h⟩);refine⟨b1,a1,rfl,⟨us,t1.1⟩,k _ H1 _ _ ρ1 q1 f1 R1 λO' H' kk dom=>?_⟩;obtain⟨s1,g1⟩:=w1 O' H' kk;refine⟨λj hj=>?_,⟨us,s1,by omega⟩⟩;have h1:j<us.length:=by omega
    refine⟨⟨us,_,s1,cx h1⟩,λx H'' ⟨T,u,hT,e,y1,e2⟩=>?_⟩;subst e e2;obtain⟨d1,hd1,fd1⟩:=g1.get (y1 us s1);have e1:itD xs j=d1:=by unfold itD;rw [e_,hd1];rfl
    rw [e1];have kk2:aG O' H' O' (upd H' T (.tup [.int (j:Int),u])):=λb o n e=>⟨n,by rw [ax (aR e hT)];exact e⟩
    exact⟨Gr.new hT,.tup (λz=>dom T z hT) aI (.cons (.int _) (.cons (fd1.keeps kk2) .nil))⟩
   .exact q1.elim
 .exact q1.elim
noncomputable def Kg(pi:PTI)(g:PTG)(pb:PTS):PTS:=λD ρ=>pi ρ λn it ρ1=>∃I:Nat->PSt->Prop,I 0 ρ1/\(∀k ρ d,k<n->d=it k->I k ρ->g (.dat d) ρ λρ2=>pb { D with nx:=I (k+1),ct:=I (k+1),bk:=D.nx } ρ2)/\∀ρ,I n ρ->D.nx ρ
noncomputable def EF(pt:PTT)(pb:PTS):PTS:=λD ρ=>∃I:Nat->PSt->Prop,(∃m,I m ρ)/\∀m ρ,I m ρ->pt ρ λb ρ1=>iY b (pb { D with nx:=λρ'=>∃m',m'<m/\I m' ρ',ct:=λρ'=>∃m',m'<m/\I m' ρ',bk:=D.nx } ρ1) (D.nx ρ1)
section
variable {fs:Δ}{wi:TI}{pi:PTI}{g:TG}{pg:PTG}{tb:TS}{pb:PTS}
def cM(hi:LI K wi pi)(hg:LGd K fs g pg)(hb:LS K fs tb pb):LS K fs (KQ wi g tb) (Kg pi pg pb):=λfx A R H0 ρ σ H D D' hf r F q k1 k2 k3 k4=>hi A ρ σ H _ _ r q λJ H1 n it ρ1 q1 f1 r1 W=>by
 obtain⟨I,i0,turn,after⟩:=q1;have F1:=F.fr f1;refine⟨λi m σ' H'=>i+m=n/\∃ρ',I i ρ'/\Rel K A ρ' σ' H'/\eC fx (Wr ρ1 σ) H1 ρ' σ' H',⟨n,PD n,ρ1,i0,r1,eC.start F1.fx⟩,λi m σ' H' ⟨him,ρ',iv,r',F'⟩=>?_⟩;obtain⟨go,stop⟩:=W _ H' F'.keeps r'.dom2
 by_cases hk:i<n
 .obtain⟨g1,g2⟩:=go i hk;refine .inr ⟨g1,λσ'' H''=>∃ρ'',I (i+1) ρ''/\Rel K A ρ'' σ'' H''/\eC fx (Wr ρ1 σ) H1 ρ'' σ'' H'',λσ'' H'' z=>⟨m - 1,by omega,by omega,z⟩,λx H'' y=>?_⟩;obtain⟨gr,fv⟩:=g2 x H'' y;refine hg fx A (Wr ρ1 σ) H1 ρ' σ' H'' _ x _ _ hf (F'.fr gr.fr) (r'.gr gr) fv (turn i ρ' _ hk rfl iv) λρ2 σ2 q2 r2 F2 _=>?_;refine hb fx A (Wr ρ1 σ) H1 ρ2 σ2 H'' _ _ hf r2 F2 q2 (λρ3 σ3 H3 q3 r3 F3=>⟨ρ3,q3,r3,F3⟩) (λv p ρ3 σ3 H3 q3 o3 F3=>k2 v p ρ3 σ3 H3 q3 (o3.h0 F1.dm) (F1.trans F3 F3.fx)) (λρ3 σ3 H3 q3 r3 F3=>k1 ρ3 σ3 H3 q3 r3 (F1.trans F3 F3.fx)) (λρ3 σ3 H3 q3 r3 F3=>⟨ρ3,q3,r3,F3⟩)
 .have e:i=n:=by omega
  subst e;exact .inl ⟨stop,k1 ρ' σ' H' (after ρ' iv) r' (F1.trans F' F'.fx)⟩
variable {tt:TT}{pt:PTT}
def jE(ht:LT K tt pt)(hb:LS K fs tb pb):LS K fs (CM tt tb) (EF pt pb):=λfx A R H0 ρ σ H D D' hf r F q k1 k2 k3 k4=>by
 obtain⟨I,⟨m0,i0⟩,turn⟩:=q;refine⟨λm σ' H'=>∃ρ',I m ρ'/\Rel K A ρ' σ' H'/\eC fx R H0 ρ' σ' H',⟨m0,ρ,i0,r,F⟩,λm σ' H' ⟨ρ',iv,r',F'⟩=>?_⟩;refine ht A ρ' σ' H' _ _ r' (turn m ρ' iv) λb H1 ρ1 q1 f1 r1=>?_
 cases b with
 | true =>
  refine⟨λσ'' H''=>∃ρ'' m',m'<m/\I m' ρ''/\Rel K A ρ'' σ'' H''/\eC fx R H0 ρ'' σ'' H'',λσ'' H'' ⟨ρ'',m',h1,h2⟩=>⟨m',h1,ρ'',h2⟩,?_⟩;exact hb fx A R H0 ρ1 σ' H1 _ _ hf r1 (F'.fr f1) q1 (λρ3 σ3 H3 ⟨m',h1,h2⟩ r3 F3=>⟨ρ3,m',h1,h2,r3,F3⟩) k2 k1 (λρ3 σ3 H3 ⟨m',h1,h2⟩ r3 F3=>⟨ρ3,m',h1,h2,r3,F3⟩)
 | false=>exact k1 ρ1 σ' H1 q1 r1 (F'.fr f1)
end
noncomputable def bx(ix:List (Option Nat))(ρ:PSt):PSt:=ix.map λo=>match o with
 | none=>ω
 | some j=>match ρ[j]? with
  | some v=>v
  | none=>ω
noncomputable def dU:List (Option Nat)->PSt->PSt->PSt
 | some j::ix,ρ,t::τ=>dU ix (ρ.set j t) τ
 | none::ix,ρ,_::τ=>dU ix ρ τ
 | _,ρ,_=>ρ
noncomputable def BH:List (Option Nat)->Bool
 | []=>η
 | none::r=>BH r
 | some j::r=>!r.contains (ψ j) && BH r
theorem jF:∀(ix:List (Option Nat)) (ρ τ:PSt),(dU ix ρ τ).length=ρ.length
 | [],ρ,τ=>by unfold dU;rfl
 | some j::ix,ρ,t::τ=>by show (dU ix (ρ.set j t) τ).length=_;rw [jF ix,My]
 | none::ix,ρ,t::τ=>by show (dU ix ρ τ).length=_;exact jF ix ρ τ
 | some j::ix,ρ,[]=>by unfold dU;rfl
 | none::ix,ρ,[]=>by unfold dU;rfl
theorem il:∀(ix:List (Option Nat)) (ρ τ:PSt) (j:Nat),ψ j∉ix->(dU ix ρ τ)[j]?=ρ[j]?
 | [],ρ,τ,j,_=>by unfold dU;rfl
 | some i::ix,ρ,t::τ,j,h=>by
  show (dU ix (ρ.set i t) τ)[j]?=_;rw [il ix _ τ j (λz=>h (n_ _ z)),p_ (λz=>h (by rw [z];exact q_ ..))]
 | none::ix,ρ,t::τ,j,h=>by show (dU ix ρ τ)[j]?=_;exact il ix ρ τ j λz=>h (n_ _ z)
 | some i::ix,ρ,[],j,_=>by unfold dU;rfl
 | none::ix,ρ,[],j,_=>by unfold dU;rfl
theorem lY:∀(ix:List (Option Nat)) (ρ τ:PSt) (j k:Nat),BH ix=η->ix[k]?=ψ (ψ j)->k<τ.length->j<ρ.length->(dU ix ρ τ)[j]?=τ[k]?
 | some i::ix,ρ,t::τ,j,k,h,e,hk,hj=>by
  have h:(!ix.contains (ψ i) && BH ix)=true:=h;rw [Mg] at h;show (dU ix (ρ.set i t) τ)[j]?=_
  cases k with
  | zero =>
   have e:ψ (ψ i)=ψ (ψ j):=e;cases e
   have hn:ψ i∉ix:=λz=>by
    have:=h.1;rw [M9.mpr z] at this;cases this
   rw [il ix _ τ i hn,tf hj];rfl
  | succ k =>
   have e:ix[k]?=ψ (ψ j):=by simpa using e
   rw [lY ix _ τ j k h.2 e (by simpa using hk) (by rw [My];exact hj)];simp
 | none::ix,ρ,t::τ,j,k,h,e,hk,hj=>by
  show (dU ix ρ τ)[j]?=_
  cases k with
  | zero=>cases e
  | succ k =>
   have e:ix[k]?=ψ (ψ j):=by simpa using e
   rw [lY ix _ τ j k h e (by simpa using hk) hj];simp
 | [],ρ,τ,j,k,h,e,hk,hj=>by simp at e
 | some i::ix,ρ,[],j,k,h,e,hk,hj=>absurd hk (NC _)
 | none::ix,ρ,[],j,k,h,e,hk,hj=>absurd hk (NC _)
theorem jG:∀{ix:List (Option Nat)}{k l j:Nat},BH ix=η->ix[k]?=ψ (ψ j)->ix[l]?=ψ (ψ j)->k=l
 | some i::ix,k,l,j,h,e1,e2=>by
  have h:(!ix.contains (ψ i) && BH ix)=true:=h;rw [Mg] at h
  have no:∀m,ix[m]?≠ψ (ψ i):=λm z=>by
   have:=h.1;rw [M9.mpr (Mc z)] at this;cases this
  cases k with
  | zero =>
   have e1:ψ (ψ i)=ψ (ψ j):=e1;cases e1
   cases l with
   | zero=>rfl
   | succ l=>exact absurd (by simpa using e2) (no l)
  | succ k =>
   cases l with
   | zero =>
    have e2:ψ (ψ i)=ψ (ψ j):=e2;cases e2;exact absurd (by simpa using e1) (no k)
   | succ l=>rw [jG (k:=k) (l:=l) h.2 (by simpa using e1) (by simpa using e2)]
 | none::ix,k,l,j,h,e1,e2=>by
  cases k with
  | zero=>cases e1
  | succ k =>
   cases l with
   | zero=>cases e2
   | succ l=>rw [jG (ix:=ix) (k:=k) (l:=l) (j:=j) h (by simpa using e1) (by simpa using e2)]
 | [],k,l,j,h,e1,e2=>by simp at e1
variable {ix:List (Option Nat)}
def cP{k:Nat}(h:(bx ix ρ)[k]?=ψ (ψ p)):∃j,ix[k]?=ψ (ψ j)/\ρ[j]?=ψ (ψ p):=by
 unfold bx at h;rw [h_] at h
 cases e:ix[k]? with
 | none=>rw [e] at h;cases h
 | some o =>
  rw [e] at h
  cases o with
  | none=>cases h
  | some j =>
   refine⟨j,rfl,?_⟩;have h:ψ (match ρ[j]? with|some v=>v|none=>ω)=ψ (ψ p):=h
   cases e2:ρ[j]? with
   | none=>rw [e2] at h;cases h
   | some v=>rw [e2] at h;exact h
variable {j:Nat}
def cU{k:Nat}(h:ix[k]?=ψ (ψ j))(e:σ[j]?=ψ (ψ v)):(qZ ix σ)[k]?=ψ (ψ v):=by
 unfold qZ;rw [h_,h];show ψ (match σ[j]? with|some v=>v|none=>ω)=ψ (ψ v);rw [e]
variable {a:Addr}{o:HO}
def Rel.amb(R:Rel K A ρ σ H)(ha:A a):Rel K A ρ σ (upd H a o):=by
 have k:aG (OO A ρ σ) H (OO A ρ σ) (upd H a o):=λb u n e=>⟨n,by rw [ax (λz=>n (by rw [z];exact .inl ha))];exact e⟩
 refine⟨R.len,λi q e=>?_,R.dj,λb z=>?_,R.sep⟩
 .obtain⟨v,s,r⟩:=R.get i q e;refine⟨v,s,r.keeps k λow b eb=>?_⟩;rw [ax];intro z;subst z eb;exact R.sep b ha ⟨i,q,e,ow,s⟩
 .by_cases z':b=a
  .rw [z',aI];exact nofun
  .rw [ax z'];exact R.dom b z
noncomputable def Ho(ix:List (Option Nat))(ρ:PSt):Bool:=ix.all λo=>match o with|none=>η|some j=>(match ρ[j]? with|some (ψ _)=>η|_=>ξ)
structure lZ (ix:List (Option Nat)) (ρ1:PSt) (n:Nat) (it:Nat->D) (g:PTG) (pt:PTT) (pe:PTE) (Q:PKt):Prop where
 ex:∃I:Nat->List D->PSt->Prop,I 0 [] (bx ix ρ1) /\
  (∀k ys τ d,k<n->d=it k->I k ys τ->g (.dat d) τ λτ2=>pt τ2 λok τ3=>iY ok (pe τ3 λp τ4=>I (k+1) (ys++[p.d]) τ4) (I (k+1) ys τ3))/\∀ys τ,I n ys τ->Q (.own ys) (dU ix ρ1 τ)
noncomputable def xc(ix:List (Option Nat))(pi:PTI)(g:PTG)(pt:PTT)(pe:PTE):PTE:=λρ Q=>pi ρ λn it ρ1=>Ho ix ρ1=η/\n<=1000000/\lZ ix ρ1 n it g pt pe Q
def AN:PTT:=λρ Q=>Q η ρ
def bW:LT K iU AN:=λA ρ σ H Q Q' R q k=>k η H ρ q (Fr.refl _ _ _) R
noncomputable def y6(ix:List (Option Nat)):Δ:=(g_ ix.length).filter λk=>(ix.getD k ω).isSome
variable {g:TG}
def aY{wi:TI}{pi:PTI}{pg:PTG}{tts:TT}{pt:PTT}(hix:BH ix=η)(hi:LI K wi pi)(hg:∀fs:Δ,(∀k∈fs,k∈y6 ix)->LGd K fs g pg)(ht:LT K tts pt)(he:LE K te pe):
  LE K (wO ix wi g tts te) (xc ix pi pg pt pe):=λA ρ σ H Q Q' R q k=>hi A ρ σ H _ _ R q λJ H1 n it ρ1 q1 f1 R1 W D hD=>by
 obtain⟨hcap,hn,⟨I,i0,turn,after⟩⟩:=q1
 let τρ0:=bx ix ρ1
 let τσ0:=qZ ix σ
 let Ai:Addr->Prop:=λb=>A b\/b=D\/(Wr ρ1 σ b/\¬ Wr τρ0 τσ0 b)
 let H0':=upd H1 D (.lst [])
 have wsub:∀b,Wr τρ0 τσ0 b->Wr ρ1 σ b:=λb ⟨m,p,e,o,s⟩=>by
  obtain⟨j,h1,h2⟩:=cP e;obtain⟨v,hv,_⟩:=R1.get j p h2;have:=cU h1 hv;rw [s] at this;cases this;exact⟨j,p,h2,o,hv⟩
 have nD:¬ Wr ρ1 σ D:=λz=>R1.wr z hD
 have oosub:∀b,OO Ai τρ0 τσ0 b->OO A ρ1 σ b\/b=D:=λb z=>by
  rcases z with (z|z|z)|z
  .exact .inl (.inl z)
  .exact .inr z
  .exact .inl (.inr z.1)
  .exact .inl (.inr (wsub b z))
 have kD:aG (OO A ρ1 σ) H1 (OO Ai τρ0 τσ0) H0':=λb o nn e=>by
  refine⟨λz=>?_,?_⟩
  .rcases oosub b z with z|z
   .exact nn z
   .rw [z,hD] at e;cases e
  .rw [show H0' b=H1 b from ax (aR e hD)];exact e
 have Ri:Rel K Ai τρ0 τσ0 H0':=by
  refine⟨by show (bx ix ρ1).length=(qZ ix σ).length;unfold bx qZ;rw [cy,cy],λm p e=>?_,λm l p q v e1 e2 o1 o2 s1 s2=>?_,λb z=>?_,λb z w=>?_⟩
  .obtain⟨j,h1,h2⟩:=cP e;obtain⟨v,hv,r⟩:=R1.get j p h2;refine⟨v,cU h1 hv,r.keeps kD λow a ea=>?_⟩;subst ea;exact ax (λz=>nD (by rw [<- z];exact⟨j,p,h2,ow,hv⟩))
  .obtain⟨j,h1,h2⟩:=cP e1;obtain⟨j',h3,h4⟩:=cP e2;obtain⟨v1,hv1,_⟩:=R1.get j p h2;obtain⟨v2,hv2,_⟩:=R1.get j' q h4;have t1:=cU h1 hv1;have t2:=cU h3 hv2;rw [s1] at t1;rw [s2] at t2;cases t1;cases t2;have:=R1.dj j j' p q _ h2 h4 o1 o2 hv1 hv2;subst this;exact jG hix h1 h3
  .rcases z with z|z|z
   .intro e
    by_cases zz:b=D
    .exact R1.dom b z (by rw [zz];exact hD)
    .rw [show H0' b=H1 b from ax zz] at e;exact R1.dom b z e
   .rw [z];show upd H1 D _ D≠ω;rw [aI];exact nofun
   .intro e;rw [show H0' b=H1 b from ax (λzz=>nD (by rw [<- zz];exact z.1))] at e;exact R1.wr z.1 e
  .rcases z with z|z|z
   .exact R1.sep b z (wsub b w)
   .rw [z] at w;exact nD (wsub D w)
   .exact z.2 w
 let fxi:List (Nat×V):=(y6 ix).filterMap λm=>match (τσ0[m]?) with|some (ψ v)=>ψ (m,v)|_=>ω
 have hfx:∀p∈fxi,τσ0[p.1]?=ψ (ψ p.2):=λp hp=>by
  obtain⟨m,hm,e⟩:=ND.mp hp
  split at e
  .rename_i v ev;cases e;exact ev
  .cases e
 have hfs:∀m∈fxi.map y_,m∈y6 ix:=λm hm=>by
  obtain⟨p,hp,rfl⟩:=Mp.mp hm;obtain⟨m',hm',e⟩:=ND.mp hp
  split at e
  .cases e;exact hm'
  .cases e
 have hgi:=hg (fxi.map y_) hfs
 have fxget:∀(m j:Nat) (v:V),ix[m]?=ψ (ψ j)->σ[j]?=ψ (ψ v)->(m,v)∈fxi:=λm j v h1 h2=>by
  refine ND.mpr ⟨m,?_,?_⟩
  .unfold y6;refine Mq.mpr ⟨L_.mpr (k_.mp h1).1,?_⟩;rw [e_,h1];rfl
  .show (match (qZ ix σ)[m]? with|some (ψ v)=>ψ (m,v)|_=>ω)=_;rw [cU h1 h2]
 let Rr:Addr->Prop:=λb=>Wr τρ0 τσ0 b\/b=D
 have hRr:∀b,Rr b->OO Ai τρ0 τσ0 b:=λb z=>z.elim (λz=>.inr z) (λz=>.inl (.inr (.inl z)));have F0:eC fxi Rr H0' τρ0 τσ0 H0':=⟨λ_ _ _ h=>h,λ_ h=>h,λb w=>.inl (.inl w),hfx⟩
 refine⟨λi m τ H2=>i+m=n/\∃ys τρ xs,I i ys τρ/\ys.length<=i/\Rel K Ai τρ τ H2/\eC fxi Rr H0' τρ τ H2/\H2 D=ψ (.lst xs)/\FVs K (OO Ai τρ τ) H2 xs ys/\∀b,Wr τρ τ b->Wr τρ0 τσ0 b,
  ⟨n,PD n,[],τρ0,[],i0,f_ _,Ri,F0,aI,.nil,λ_ h=>h⟩,λi m τ H2 ⟨him,ys,τρ,xs,iv,hy,r2,F2,eD,fD,hw⟩=>?_⟩
 have kk:aG (OO A ρ1 σ) H1 (OO Ai τρ τ) H2:=λb o nn e=>(F2.keepsR hRr) b o (kD b o nn e).1 (kD b o nn e).2;obtain⟨go,stop⟩:=W _ H2 kk r2.dom2
 by_cases hk:i<n
 .obtain⟨g1,g2⟩:=go i hk;refine .inr ⟨g1,λx H3 y=>?_⟩;obtain⟨gr,fv⟩:=g2 x H3 y;have AiD:Ai D:=.inr (.inl rfl);refine hgi fxi Ai Rr H0' τρ τ H3 _ x _ _ rfl (F2.fr gr.fr) (r2.gr gr) fv (turn i ys τρ _ hk rfl iv) λτρ2 τ2 q2 r3 F3 w3=>?_;refine ht Ai τρ2 τ2 H3 _ _ r3 q2 λok H5 τρ3 q3 f5 r5=>?_;have F5:=F3.fr f5;have fD5:FVs K (OO Ai τρ3 τ2) H5 xs ys:=((fD.keeps (gr.fr (ρ:=τρ) (σ:=τ)).keeps).keeps (aG.less λb z=>z.imp id (w3 b))).keeps f5.keeps
  have eD5:H5 D=ψ (.lst xs):=f5.kp D _ (r3.sep D AiD) (gr D _ eD)
  cases ok with
  | true =>
   refine he Ai τρ3 τ2 H5 _ _ r5 q3 λv H6 p τρ4 q4 f6 o6=>?_;obtain⟨r6,fv6⟩:=o6.frz;have F6:=F5.fr f6;have eD6:H6 D=ψ (.lst xs):=f6.kp D _ (r5.sep D AiD) eD5;have kw:aG (OO Ai τρ4 τ2) H6 (OO Ai τρ4 τ2) (upd H6 D (.lst (xs++[v]))):=λb o nn e=>⟨nn,by rw [ax (λz=>nn (by rw [z];exact .inl AiD))];exact e⟩
   refine⟨xs,eD6,?_,m - 1,by omega,by omega,ys++[p.d],τρ4,xs++[v],q4,by rw [kx];show _+1<=_;omega,r6.amb AiD,⟨λb o nn e=>?_,λb z=>?_,F6.ow,F6.fx⟩,aI,((fD5.keeps f6.keeps).append (.cons fv6 .nil)).keeps kw,λb z=>hw b (w3 b (f5.ow b (f6.ow b z)))⟩
   .have:xs.length=ys.length:=fD.length;exact A_ (by omega:xs.length<1000000) (sz _ (f_ _))
   .rw [ax (λz=>nn (.inr z))];exact F6.kp b o nn e
   .by_cases zz:b=D
    .rw [zz,aI];exact nofun
    .rw [ax zz];exact F6.dm b z
  | false=>exact⟨m - 1,by omega,by omega,ys,τρ3,xs,q3,by omega,r5,F5,eD5,fD5,λb z=>hw b (w3 b (f5.ow b z))⟩
 .have e:i=n:=by omega
  subst e;refine .inl ⟨stop,?_⟩;have q':=after ys τρ iv
  have cap:∀(m j:Nat),ix[m]?=ψ (ψ j)->∃p v,ρ1[j]?=ψ (ψ p)/\σ[j]?=ψ (ψ v)/\τ[m]?=ψ (ψ v):=λm j e=>by
   have h1:=N9.mp hcap _ (Mc e);have h1:(match ρ1[j]? with|some (ψ _)=>η|_=>ξ)=true:=h1
   split at h1
   .rename_i p ep;obtain⟨v,hv,_⟩:=R1.get j p ep;exact⟨p,v,ep,hv,F2.fx _ (fxget m j v e hv)⟩
   .cases h1
  have get':∀(j:Nat) (p:PV),(dU ix ρ1 τρ)[j]?=ψ (ψ p)->(∃m v,ix[m]?=ψ (ψ j)/\σ[j]?=ψ (ψ v)/\τ[m]?=ψ (ψ v)/\τρ[m]?=ψ (ψ p))\/(ψ j∉ix/\ρ1[j]?=ψ (ψ p)):=λj p e=>by
   by_cases hj:ψ j∈ix
   .obtain⟨m,hm,em⟩:=O6 hj;have em':ix[m]?=ψ (ψ j):=by rw [cx hm,em]
    obtain⟨p0,v,h1,h2,h3⟩:=cap m j em';rw [lY ix ρ1 τρ j m hix em' (by rw [r2.len];exact (k_.mp h3).1) (k_.mp h1).1] at e;exact .inl ⟨m,v,em',h2,h3,e⟩
   .rw [il ix ρ1 τρ j hj] at e;exact .inr ⟨hj,e⟩
  have nocap:∀(j:Nat) (p:PV) (b:Addr),ψ j∉ix->ρ1[j]?=ψ (ψ p)->p.isOwn=η->σ[j]?=ψ (ψ (.ref b))->¬ Wr τρ0 τσ0 b:=λj p b hj e o s ⟨m,q,e1,o1,s1⟩=>by
   obtain⟨j',h1,h2⟩:=cP e1;obtain⟨v,hv,_⟩:=R1.get j' q h2;have:=cU h1 hv;rw [s1] at this;cases this;have:=R1.dj j j' p q _ e h2 o o1 s hv;subst this;exact hj (Mc h1)
  have w':∀b,Wr (dU ix ρ1 τρ) σ b->Wr τρ τ b\/(Wr ρ1 σ b/\¬ Wr τρ0 τσ0 b):=λb ⟨j,p,e,o,s⟩=>by
   rcases get' j p e with ⟨m,v,h1,h2,h3,h4⟩|⟨hj,h1⟩
   .rw [s] at h2;cases h2;exact .inl ⟨m,p,h4,o,h3⟩
   .exact .inr ⟨⟨j,p,h1,o,s⟩,nocap j p b hj h1 o s⟩
  have oo':∀b,OO (cZ A D) (dU ix ρ1 τρ) σ b->OO Ai τρ τ b:=λb z=>by
   rcases z with (z|z)|z
   .exact .inl (.inl z)
   .exact .inl (.inr (.inl z))
   .rcases w' b z with z|z
    .exact .inr z
    .exact .inl (.inr (.inr z))
  have kp1:∀b o,¬ Wr τρ0 τσ0 b->b≠D->H1 b=ψ o->H2 b=ψ o:=λb o n1 n2 e=>F2.kp b o (λz=>z.elim n1 n2) (by rw [show H0' b=H1 b from ax n2];exact e);have k1:aG (OO A ρ1 σ) H1 (OO (cZ A D) (dU ix ρ1 τρ) σ) H2:=λb o nn e=>⟨λz=>(kk b o nn e).1 (oo' b z),(kk b o nn e).2⟩
  have AiD:Ai D:=.inr (.inl rfl)
  have R':Rel K (cZ A D) (dU ix ρ1 τρ) σ H2:=by
   refine⟨by rw [jF];exact R1.len,λj p e=>?_,λj l p q v e1 e2 o1 o2 s1 s2=>?_,λb z=>?_,λb z w=>?_⟩
   .rcases get' j p e with ⟨m,v,h1,h2,h3,h4⟩|⟨hj,h1⟩
    .obtain⟨v',hv',r⟩:=r2.get m p h4;rw [h3] at hv';cases hv';exact⟨v,h2,r.keeps (aG.less oo') λ_ _ _=>rfl⟩
    .obtain⟨v,hv,r⟩:=R1.get j p h1;refine⟨v,hv,r.keeps k1 λow a ea=>?_⟩;subst ea;obtain⟨a',u,e1,e2⟩:=r.ref ow;cases e1;rw [e2];exact kp1 a u (nocap j p a hj h1 ow hv) (λz=>by rw [z,hD] at e2;cases e2) e2
   .rcases get' j p e1 with ⟨m,v1,h1,h2,h3,h4⟩|⟨hj,h1⟩
    .rw [s1] at h2;cases h2
     rcases get' l q e2 with ⟨m',v2,g1,g2,g3,g4⟩|⟨hl,g1⟩
     .rw [s2] at g2;cases g2;have:=r2.dj m m' p q _ h4 g4 o1 o2 h3 g3;subst this;rw [h1] at g1;cases g1;rfl
     .exfalso;obtain⟨v',hv',r⟩:=r2.get m p h4;rw [h3] at hv';cases hv';obtain⟨a,u,ea,_⟩:=r.ref o1;subst ea;exact nocap l q a hl g1 o2 s2 (hw a ⟨m,p,h4,o1,h3⟩)
    .rcases get' l q e2 with ⟨m',v2,g1,g2,g3,g4⟩|⟨hl,g1⟩
     .rw [s2] at g2;cases g2;exfalso;obtain⟨v',hv',r⟩:=r2.get m' q g4;rw [g3] at hv';cases hv';obtain⟨a,u,ea,_⟩:=r.ref o2;subst ea;exact nocap j p a hj h1 o1 s1 (hw a ⟨m',q,g4,o2,g3⟩)
     .exact R1.dj j l p q v h1 g1 o1 o2 s1 s2
   .rcases z with z|z
    .exact r2.dom b (.inl z)
    .rw [z,eD];exact nofun
   .rcases w' b w with w|w
    .rcases z with z|z
     .exact r2.sep b (.inl z) w
     .rw [z] at w;exact r2.sep D AiD w
    .rcases z with z|z
     .exact R1.sep b z w.1
     .rw [z] at w;exact nD w.1
  have f2:Fr ρ1 σ H1 (dU ix ρ1 τρ) H2:=by
   refine⟨λb o nn e=>kp1 b o (λz=>nn (wsub b z)) (λz=>by rw [z,hD] at e;cases e) e,λb z=>F2.dm b ?_,λb z=>?_⟩
   .intro e
    by_cases zz:b=D
    .exact z (by rw [zz];exact hD)
    .rw [show H0' b=H1 b from ax zz] at e;exact z e
   .rcases w' b z with z|z
    .exact wsub b (hw b z)
    .exact z.1
  have hD0:H D=none:=by
   cases e:H D with
   | none=>rfl
   | some o=>exact absurd hD (f1.dm D (by rw [e];exact nofun))
  exact k _ H2 (.own ys) _ q' (f1.trans f2) ⟨D,xs,rfl,λz=>R1.dom D z hD,hD0,eD,R',fD.keeps (aG.less oo')⟩
variable {A':Ψ}
def Rel.step(R:Rel K A ρ σ H){q:PV}(e:ρ[i]?=ψ (ψ p))(ow:p.isOwn=η)(ow':q.isOwn=η)(es:σ[i]?=ψ (ψ (.ref a)))(kp:∀b o,b≠a->H b=ψ o->H' b=ψ o)(ha:H' a≠ω)(h1:∀b,A b->A' b)(h2:∀b,A' b->A b\/H b=ω)(dom':∀b,A' b->H' b≠ω)(new:RS K (OO A' ρ σ) H' q (.ref a)):Rel K A' (ρ.set i (ψ q)) σ H'/\Fr ρ σ H (ρ.set i (ψ q)) H':=by
 have hi:i<ρ.length:=(k_.mp e).1;have wa:Wr ρ σ a:=⟨i,p,e,ow,es⟩
 have weq:∀b,Wr (ρ.set i (ψ q)) σ b ↔ Wr ρ σ b:=λb=>by
  constructor
  .rintro⟨j,r,e1,o1,s1⟩
   by_cases z:i=j
   .subst z;exact⟨i,p,e,ow,s1⟩
   .rw [p_ z] at e1;exact⟨j,r,e1,o1,s1⟩
  .rintro⟨j,r,e1,o1,s1⟩
   by_cases z:i=j
   .subst z;exact⟨i,q,tf hi,ow',s1⟩
   .exact⟨j,r,by rw [p_ z];exact e1,o1,s1⟩
 have oeq:OO A' (ρ.set i (ψ q)) σ=OO A' ρ σ:=funext λb=>propext (or_congr Iff.rfl (weq b));have kp1:∀b u,¬ Wr ρ σ b->H b=ψ u->H' b=ψ u:=λb u n h=>kp b u (λz=>n (by rw [z];exact wa)) h
 have k:aG (OO A ρ σ) H (OO A' ρ σ) H':=λb u n h=>by
  refine⟨λz=>?_,kp1 b u (λz=>n (.inr z)) h⟩
  rcases z with z|z
  .rcases h2 b z with z|z
   .exact n (.inl z)
   .rw [z] at h;cases h
  .exact n (.inr z)
 have dm:∀b,H b≠ω->H' b≠none:=λb n=>by
  by_cases z:b=a
  .rw [z];exact ha
  .cases eb:H b with
   | none=>exact absurd eb n
   | some o=>rw [kp b o z eb];exact nofun
 refine⟨⟨by rw [My];exact R.len,λj r e1=>?_,λj l p1 q1 v e1 e2 o1 o2 s1 s2=>?_,dom',λb z w=>?_⟩,⟨kp1,dm,λb w=>(weq b).mp w⟩⟩
 .rw [oeq]
  by_cases z:i=j
  .subst z;rw [tf hi] at e1;cases e1;exact⟨_,es,new⟩
  .rw [p_ z] at e1;obtain⟨v,s,rr⟩:=R.get j r e1;refine⟨v,s,rr.keeps k λow2 b eb=>?_⟩;obtain⟨b',u,e3,e4⟩:=rr.ref ow2;rw [eb] at e3;cases e3;rw [e4];refine kp b u (λzz=>?_) e4;subst zz;rw [eb] at s;exact z (R.dj i j p r _ e e1 ow ow2 es s)
 .have ex:∀(m:Nat) (x:PV),(ρ.set i (ψ q))[m]?=ψ (ψ x)->x.isOwn=η->∃y:PV,ρ[m]?=ψ (ψ y)/\y.isOwn=true:=λm x em ox=>by
   by_cases z:i=m
   .subst z;exact⟨p,e,ow⟩
   .rw [p_ z] at em;exact⟨x,em,ox⟩
  obtain⟨y1,g1,g2⟩:=ex j p1 e1 o1;obtain⟨y2,g3,g4⟩:=ex l q1 e2 o2;exact R.dj j l y1 y2 v g1 g3 g2 g4 s1 s2
 .rcases h2 b z with z|z
  .exact R.sep b z ((weq b).mp w)
  .exact R.wr ((weq b).mp w) z
def Rel.lstw(R:Rel K A ρ σ H){es:List D}{ys:List V}(e:ρ[i]?=ψ (ψ (.own ds)))(es':σ[i]?=ψ (ψ (.ref a)))(f:FVs K (OO A ρ σ) H ys es):
  Rel K A (ρ.set i (ψ (.own es))) σ (upd H a (.lst ys))/\Fr ρ σ H (ρ.set i (ψ (.own es))) (upd H a (.lst ys)):=by
 have wa:OO A ρ σ a:=.inr ⟨i,_,e,rfl,es'⟩;exact R.write (q:=.own es) e rfl rfl es' ⟨a,ys,rfl,aI,f.keeps λb u n h=>⟨n,by rw [ax (λz=>n (by rw [z];exact wa))];exact h⟩⟩
def Rel.ownAt(R:Rel K A ρ σ H)(e:ρ[i]?=ψ (ψ (.own ds))):∃a xs,σ[i]?=ψ (ψ (.ref a))/\H a=ψ (.lst xs)/\FVs K (OO A ρ σ) H xs ds:=by
 obtain⟨v,s,a,xs,rfl,g,f⟩:=R.get i _ e;exact⟨a,xs,s,g,f⟩
noncomputable def Lf(i:Nat)(pe:PTE):PTE:=λρ Q=>match ρ[i]? with
 | some (ψ (.own _))=>pe ρ λp ρ1=>(match ρ1[i]? with
  | some (ψ (.own ds))=>ds.length<1000000/\Q (.dat .non) (ρ1.set i (ψ (.own (ds++[p.d]))))
  | _=>False)
 | _=>False
noncomputable def Lg(i:Nat):PTE:=λρ Q=>match ρ[i]? with
 | some (ψ (.own ds))=>∃d,ds[ds.length - 1]?=ψ d/\Q (.dat d) (ρ.set i (ψ (.own ds.dropLast)))
 | _=>False
noncomputable def Hr(i:Nat)(pe pk:PTE):PTS:=λD ρ=>pe ρ λp ρ1=>(match ρ1[i]? with
 | some (ψ (.own _))=>pk ρ1 λkp ρ2=>(match ρ2[i]?,kp with
  | some (ψ (.own ds)),.dat (.int k)=>∃j,ixN ds.length k=ψ j/\D.nx (ρ2.set i (ψ (.own (ds.set j p.d))))
  | _,_=>False)
 | _=>False)
section
def l4(h:LE K te pe):LE K (tBM K "list" yo (aS i) (aL te dz)) (Lf i pe):=λA ρ σ H Q Q' R q k=>by
 unfold Lf at q
 split at q
 .rename_i ds0 e0;obtain⟨a0,xs0,s0,g0,f0⟩:=R.ownAt e0;refine⟨_,s0,.inl ⟨rfl,xs0,SqL.of g0⟩,h A ρ σ H _ _ R q λv H1 p ρ1 q1 f1 o1=>?_⟩;obtain⟨R1,fv⟩:=o1.frz
  split at q1
  .rename_i ds e1;obtain⟨a,xs,s,g,f⟩:=R1.ownAt e1;rw [s0] at s;cases s;obtain⟨R2,f2⟩:=R1.lstw e1 s0 (f.append (.cons fv .nil));exact⟨a0,xs,v,rfl,rfl,g,A_ (by rw [f.length];exact q1.1) (sz _ (f_ _)),k _ _ _ _ q1.2 (f1.trans f2) ⟨R2,.non⟩⟩
  .exact q1.elim
 .exact q.elim
def Hs:LE K (K3 K "list" K4 (aS i)) (Lg i):=λA ρ σ H Q Q' R q k=>by
 unfold Lg at q
 split at q
 .rename_i ds e;obtain⟨d,hd,q⟩:=q;obtain⟨a,xs,s,g,f⟩:=R.ownAt e;obtain⟨v,hv,fv⟩:=f.getD hd;obtain⟨R2,f2⟩:=R.lstw (es:=ds.dropLast) (ys:=xs.dropLast) e s (by rw [dropLast_eq_take,dropLast_eq_take,f.length];exact f.take _);exact⟨_,s,.inl ⟨rfl,xs,SqL.of g⟩,a,xs,v,rfl,rfl,g,by rw [f.length];exact hv,k _ _ _ _ q f2 ⟨R2,(fv.keeps f2.keeps)⟩⟩
 .exact q.elim
variable {tk:TE}{pk:PTE}{fs:Δ}
def y8(h:LE K te pe)(hk:LE K tk pk):LS K fs (FJ te (KO (aS i) tk D3)) (Hr i pe pk):=λfx A R H0 ρ σ H D D' hf r F q k1 k2 k3 k4=>h A ρ σ H _ _ r q λv H1 p ρ1 q1 f1 o1=>by
 obtain⟨R1,fv⟩:=o1.frz
 split at q1
 .rename_i ds0 e0;obtain⟨a0,xs0,s0,g0,f0⟩:=R1.ownAt e0;refine⟨_,s0,hk A ρ1 σ H1 _ _ R1 q1 λw H2 kp ρ2 q2 f2 o2=>?_⟩
  split at q2
  .rename_i ds j e2;obtain⟨n,hn,q2⟩:=q2;obtain⟨R2,fw⟩:=o2;cases fw;obtain⟨a,xs,s,g,f⟩:=R2.ownAt e2;rw [s0] at s;cases s;obtain⟨R3,f3⟩:=R2.lstw e2 s0 (FVs.set (fv.keeps f2.keeps) n f);exact⟨a0,xs,j,n,rfl,rfl,g,by rw [f.length];exact hn,k1 _ _ _ q2 R3 (((F.fr f1).fr f2).fr f3)⟩
  .exact q2.elim
 .exact q1.elim
end
noncomputable def spP(K:b_)(c:FN):Sp:=λvs H Q _=>∃(O:Ψ) (ds:List D) (Qc:PV->Prop),(∀b,O b->H b≠ω)/\FVs K O H vs ds/\c ds Qc/\∀r,Qc r->∀v H',Gr H H'->sW K O H H' r v->Q v H'
noncomputable def rB(c:FN)(pr:PTA):PTE:=λρ Q=>pr ρ λas ρ1=>match avD as with
 | some ds=>c ds λr=>Q r ρ1
 | none=>False
variable {N:List Str}{vs:List V}
def dt(h:vs[i]?=ψ v):(start N vs)[i]?=ψ (ψ v):=by
 unfold start;rw [N5 (by rw [cy];exact (k_.mp h).1),h_,h];rfl
noncomputable def bT(n:Nat)(ps:List PV):PSt:=ps.map ψ++H_ (n - ps.length) ω
def bX{ps:List PV}(h:(bT n ps)[i]?=ψ (ψ p)):ps[i]?=ψ p:=by
 unfold bT at h
 by_cases hi:i<ps.length
 .rw [N5 (by rw [cy];exact hi),h_] at h
  cases e:ps[i]? with
  | none=>rw [e] at h;cases h
  | some q=>rw [e] at h;cases h;rfl
 .rw [Nt (by rw [cy];omega)] at h;have:=Mc h;rw [mem_replicate] at this;cases this.2
variable {tr:TA}{pr:PTA}{c:FN}
def aD(h:LAs K tr pr):LE K (dA (spP K c) [] E0 tr) (rB c pr):=λA ρ σ H Q Q' R q k=>h A ρ σ H _ _ R q λvs H1 as ρ1 q1 f1 R1 o1=>by
 split at q1
 .rename_i ds e;rw [Mr];exact⟨OO A ρ1 σ,ds,_,R1.dom2,o1.avD e,q1,λr qr v H' g ov=>k v H' r ρ1 qr (f1.trans g.fr) ((ov.out R1 g).h0 f1.dm)⟩
 .exact q1.elim
def Out.outV(h:Out K O ρ σ H H' p v):sW K O H H' p v:=by
 cases p with
 | dat d=>exact h.2.keeps (aG.less λb z=>.inl z)
 | own ds =>
  obtain⟨a,xs,e1,na,e2,e3,R,f⟩:=h;exact⟨a,xs,e1,e2,e3,f.keeps (aG.less λb z=>.inl z)⟩
 | ins c ns ds =>
  obtain⟨a,dx,fs,e1,na,e2,e3,m,R,f⟩:=h;exact⟨a,dx,fs,e1,e2,e3,m,f.keeps (aG.less λb z=>.inl z)⟩
 | odc ks ds =>
  obtain⟨a,kvs,e1,na,e2,e3,m,R,f⟩:=h;exact⟨a,kvs,e1,e2,e3,m,f.keeps (aG.less λb z=>.inl z)⟩
variable {ts:TS}{ps:PTS}
def fnP(hl:LS K [] ts ps)(hn:∀ds Q,c ds Q->ds.length<=N.length)(hc:∀ds Q,c ds Q->ps { nx:=λ_=>Q (.dat .non),rt:=λp _=>Q p } (bT N.length (ds.map .dat))){Q:VK}{E:XK}(h:spP K c vs H Q E):ts { nx:=λ_ H'=>Q .non H',rt:=Q } (start N vs) H:=by
 obtain⟨O,ds,Qc,dom,fv,hq,k⟩:=h
 have nw:∀(ρ:PSt) (b:Addr),ρ=bT N.length (ds.map .dat)->¬ Wr ρ (start N vs) b:=λρ b e ⟨i,p,e1,o1,s1⟩=>by
  rw [e] at e1;have:=bX e1;rw [h_] at this
  cases e2:ds[i]? with
  | none=>rw [e2] at this;cases this
  | some d=>rw [e2] at this;cases this;cases o1
 have lenv:=fv.length;have hle:=hn ds Qc hq
 have R0:Rel K O (bT N.length (ds.map .dat)) (start N vs) H:=by
  refine⟨?_,λi p e=>?_,λi j p q v e1 e2 o1 o2 s1 s2=>?_,dom,λb _ w=>nw _ b rfl w⟩
  .unfold bT start;rw [kx,kx,cy,cy,cy,MU,MU,lenv]
  .have:=bX e;rw [h_] at this
   cases e2:ds[i]? with
   | none=>rw [e2] at this;cases this
   | some d =>
    rw [e2] at this;cases this;obtain⟨v,hv,f⟩:=fv.getD e2;exact⟨v,dt hv,f.keeps (aG.less λb z=>z.elim id λw=>absurd w (nw _ b rfl))⟩
  .have:=bX e1;rw [h_] at this
   cases e3:ds[i]? with
   | none=>rw [e3] at this;cases this
   | some d=>rw [e3] at this;cases this;cases o1
 refine hl [] O (λ_=>False) H _ _ H _ _ rfl R0 ⟨λ_ _ _ h=>h,λ_ h=>h,λb w=>absurd w (nw _ b rfl),λp hp=>nomatch hp⟩ (hc ds Qc hq) (λρ' σ' H' q r F=>?_) (λv p ρ' σ' H' q o F=>?_) (λ_ _ _ z=>z.elim) (λ_ _ _ z=>z.elim)
 .exact k _ q .non H' (λb o e=>F.kp b o id e) .non
 .exact k _ q v H' (λb o e=>F.kp b o id e) o.outV
abbrev FR:=PV->List D->(PV->PV->Prop)->Prop
noncomputable def spR(K:b_)(c:FR):Sp:=λvs H Q _=>∃(A:Ψ) (a:Addr) (p:PV) (ws:List V) (ds:List D) (Qc:PV->PV->Prop),vs=.ref a::ws/\p.isOwn=η/\(∀b,A b->H b≠ω)/\¬ A a/\RS K (cZ A a) H p (.ref a)/\FVs K (cZ A a) H ws ds/\c p ds Qc /\
 ∀r p',Qc r p'->p'.isOwn=η->∀v H',(∀b o,b≠a->H b=ψ o->H' b=ψ o)->H' a≠ω->RS K (cZ A a) H' p' (.ref a)->sW K (cZ A a) H H' r v->(∀a',v=.ref a'->r.isOwn=η->RS K (cZ (cZ A a) a') H' p' (.ref a))->Q v H'
noncomputable def C3(c:FR)(i:Nat)(pr:PTA):PTE:=λρ Q=>match ρ[i]? with
 | some (ψ _)=>pr ρ λas ρ1=>(match ρ1[i]?,avD as with
  | some (ψ p),ψ ds=>p.isOwn=η/\c p ds λr p'=>Q r (ρ1.set i (ψ p'))
  | _,_=>False)
 | _=>False
def bv{c:FR}(h:LAs K tr pr):LE K (dA (spR K c) [] E0 (aL (aS i) tr)) (C3 c i pr):=λA ρ σ H Q Q' R q k=>by
 unfold C3 at q
 split at q
 .rename_i p0 e0;obtain⟨v0,s0,_⟩:=R.get i p0 e0;refine⟨v0,s0,h A ρ σ H _ _ R q λvs H1 as ρ1 q1 f1 R1 o1=>?_⟩
  split at q1
  .rename_i p ds e1 ed;obtain⟨ow,q1⟩:=q1;obtain⟨v1,s1,rs⟩:=R1.get i p e1;rw [s0] at s1;cases s1;obtain⟨a,u,rfl,ea⟩:=rs.ref ow;rw [Mr];have wa:Wr ρ1 σ a:=⟨i,p,e1,ow,s0⟩
   have oeq:cZ (λb=>(OO A ρ1 σ b)/\b≠a) a=OO A ρ1 σ:=funext λb=>propext ⟨λz=>z.elim (λz=>z.1) (λz=>by rw [z];exact .inr wa),λz=>by
    by_cases e:b=a
    .exact .inr e
    .exact .inl ⟨z,e⟩⟩
   refine⟨λb=>(OO A ρ1 σ b)/\b≠a,a,p,vs,ds,_,rfl,ow,λb z=>R1.dom2 b z.1,λz=>z.2 rfl,by rw [oeq];exact rs,by rw [oeq];exact o1.avD ed,q1,λr p' qr ow' v H' kp ha rs' ov hx=>?_⟩;rw [oeq] at rs' ov hx
   have domA:∀b,A b->H' b≠none:=λb z=>by
    have:b≠a:=λe=>R1.sep b z (by rw [e];exact wa)
    cases eb:H1 b with
    | none=>exact absurd eb (R1.dom b z)
    | some o=>rw [kp b o this eb];exact nofun
   cases r with
   | dat d =>
    obtain⟨R2,f2⟩:=R1.step (A':=A) e1 ow ow' s0 kp ha (λ_ h=>h) (λ_ h=>.inl h) domA rs';exact k v H' _ _ qr (f1.trans f2) ⟨R2,FV.keeps (aG.less λb z=>z.imp id (f2.ow b)) ov⟩
   | own es =>
    obtain⟨a',xs,rfl,n1,e2,f⟩:=ov;have hx:=hx a' rfl rfl;have na:a'≠a:=λe=>by rw [e,ea] at n1;cases n1
    have oo2:∀b,OO (cZ A a') ρ1 σ b ↔ cZ (OO A ρ1 σ) a' b:=λb=>⟨λz=>by
     rcases z with (z|z)|z
     .exact .inl (.inl z)
     .exact .inr z
     .exact .inl (.inr z),λz=>by
     rcases z with (z|z)|z
     .exact .inl (.inl z)
     .exact .inr z
     .exact .inl (.inr z)⟩
    have oo2':OO (cZ A a') ρ1 σ=cZ (OO A ρ1 σ) a':=funext λb=>propext (oo2 b)
    obtain⟨R2,f2⟩:=R1.step (A':=cZ A a') e1 ow ow' s0 kp ha (λ_ h=>.inl h) (λb z=>z.imp id λz=>by rw [z];exact n1) (λb z=>z.elim (domA b) λz=>by rw [z,e2];exact nofun) (by rw [oo2'];exact hx)
    .refine k _ H' (.own es) _ qr (f1.trans f2) ⟨a',xs,rfl,λz=>R1.dom a' z n1,?_,e2,R2,f.keeps (aG.less λb z=>?_)⟩
     .cases eb:H a' with
      | none=>rfl
      | some o=>exact absurd n1 (f1.dm a' (by rw [eb];exact nofun))
     .rw [<- oo2'];exact z.imp id (f2.ow b)
   | ins c ns es =>
    obtain⟨a',dx,fs,rfl,n1,e2,m,f⟩:=ov;have hx:=hx a' rfl rfl
    have oo2':OO (cZ A a') ρ1 σ=cZ (OO A ρ1 σ) a':=funext λb=>propext ⟨λz=>by
     rcases z with (z|z)|z
     .exact .inl (.inl z)
     .exact .inr z
     .exact .inl (.inr z),λz=>by
     rcases z with (z|z)|z
     .exact .inl (.inl z)
     .exact .inr z
     .exact .inl (.inr z)⟩
    obtain⟨R2,f2⟩:=R1.step (A':=cZ A a') e1 ow ow' s0 kp ha (λ_ h=>.inl h) (λb z=>z.imp id λz=>by rw [z];exact n1) (λb z=>z.elim (domA b) λz=>by rw [z,e2];exact nofun) (by rw [oo2'];exact hx)
    .refine k _ H' (.ins c ns es) _ qr (f1.trans f2) ⟨a',dx,fs,rfl,λz=>R1.dom a' z n1,?_,e2,m,R2,f.keeps (aG.less λb z=>?_)⟩
     .cases eb:H a' with
      | none=>rfl
      | some o=>exact absurd n1 (f1.dm a' (by rw [eb];exact nofun))
     .rw [<- oo2'];exact z.imp id (f2.ow b)
   | odc ks es =>
    obtain⟨a',kvs,rfl,n1,e2,m,f⟩:=ov;have hx:=hx a' rfl rfl
    have oo2':OO (cZ A a') ρ1 σ=cZ (OO A ρ1 σ) a':=funext λb=>propext ⟨λz=>by
     rcases z with (z|z)|z
     .exact .inl (.inl z)
     .exact .inr z
     .exact .inl (.inr z),λz=>by
     rcases z with (z|z)|z
     .exact .inl (.inl z)
     .exact .inr z
     .exact .inl (.inr z)⟩
    obtain⟨R2,f2⟩:=R1.step (A':=cZ A a') e1 ow ow' s0 kp ha (λ_ h=>.inl h) (λb z=>z.imp id λz=>by rw [z];exact n1) (λb z=>z.elim (domA b) λz=>by rw [z,e2];exact nofun) (by rw [oo2'];exact hx)
    .refine k _ H' (.odc ks es) _ qr (f1.trans f2) ⟨a',kvs,rfl,λz=>R1.dom a' z n1,?_,e2,m,R2,f.keeps (aG.less λb z=>?_)⟩
     .cases eb:H a' with
      | none=>rfl
      | some o=>exact absurd n1 (f1.dm a' (by rw [eb];exact nofun))
     .rw [<- oo2'];exact z.imp id (f2.ow b)
  .exact q1.elim
 .exact q.elim
noncomputable def FQ(Q:PV->PV->Prop)(r:PV)(ρ:PSt):Prop:=match ρ[0]? with
 | some (ψ p)=>p.isOwn=η/\Q r p
 | _=>False
def fnR{c:FR}(hl:LS K [0] ts ps)(hn:∀p ds Q,c p ds Q->ds.length+1<=N.length)(hc:∀p ds Q,p.isOwn=η->c p ds Q->ps { nx:=FQ Q (.dat .non),rt:=FQ Q } (bT N.length (p::ds.map .dat))){Q:VK}{E:XK}(h:spR K c vs H Q E):ts { nx:=λ_ H'=>Q .non H',rt:=Q } (start N vs) H:=by
 obtain⟨A,a,p,ws,ds,Qc,rfl,ow,dom,na,rs,fv,hq,k⟩:=h;have s0:(start N (V.ref a::ws))[0]?=ψ (ψ (.ref a)):=dt rfl;have b0:(bT N.length (p::ds.map .dat))[0]?=ψ (ψ p):=rfl
 have wr:∀b,Wr (bT N.length (p::ds.map .dat)) (start N (.ref a::ws)) b->b=a:=λb ⟨i,q,e1,o1,s1⟩=>by
  have:=bX e1
  cases i with
  | zero=>rw [s0] at s1;cases s1;rfl
  | succ i =>
   rw [OG,h_] at this
   cases e2:ds[i]? with
   | none=>rw [e2] at this;cases this
   | some d=>rw [e2] at this;cases this;cases o1
 have wa:Wr (bT N.length (p::ds.map .dat)) (start N (.ref a::ws)) a:=⟨0,p,b0,ow,s0⟩
 have oeq:OO A (bT N.length (p::ds.map .dat)) (start N (.ref a::ws))=cZ A a:=funext λb=>propext ⟨λz=>z.imp id (wr b),λz=>z.imp id λz=>by rw [z];exact wa⟩;have lenv:=fv.length;have hle:=hn p ds Qc hq
 have R0:Rel K A (bT N.length (p::ds.map .dat)) (start N (.ref a::ws)) H:=by
  refine⟨?_,λi q e=>?_,λi j q1 q2 v e1 e2 o1 o2 s1 s2=>?_,dom,λb z w=>?_⟩
  .unfold bT start;simp only [kx,cy,MU,Mm,lenv]
  .have:=bX e;rw [oeq]
   cases i with
   | zero=>cases this;exact⟨_,s0,rs⟩
   | succ i =>
    rw [OG,h_] at this
    cases e2:ds[i]? with
    | none=>rw [e2] at this;cases this
    | some d =>
     rw [e2] at this;cases this;obtain⟨v,hv,f⟩:=fv.getD e2;exact⟨v,dt (by rw [OG];exact hv),f⟩
  .have own0:∀(i:Nat) (q:PV),(bT N.length (p::ds.map .dat))[i]?=ψ (ψ q)->q.isOwn=η->i=0:=λi q e o=>by
    have:=bX e
    cases i with
    | zero=>rfl
    | succ i =>
     rw [OG,h_] at this
     cases e2:ds[i]? with
     | none=>rw [e2] at this;cases this
     | some d=>rw [e2] at this;cases this;cases o
   rw [own0 i q1 e1 o1,own0 j q2 e2 o2]
  .rw [wr b w] at z;exact na z
 have fin:∀(v:V) (r:PV) (ρ':PSt) (σ':St) (H':Hp),FQ Qc r ρ'->Out K A ρ' σ' H H' r v->eC [(0,.ref a)] (λb=>b=a) H ρ' σ' H'->Q v H':=λv r ρ' σ' H' q o F=>by
  unfold FQ at q
  split at q
  .rename_i p' e';obtain⟨ow',q⟩:=q;have sa:=F.fx (0,.ref a) (u_.mpr rfl);have wa':Wr ρ' σ' a:=⟨0,p',e',ow',sa⟩
   have kpa:∀b o,b≠a->H b=ψ o->H' b=ψ o:=λb o n e=>F.kp b o n e
   cases r with
   | dat d =>
    obtain⟨R1,f1⟩:=o;obtain⟨v1,s1,rs1⟩:=R1.get 0 p' e';rw [sa] at s1;cases s1;have less:∀b,cZ A a b->OO A ρ' σ' b:=λb z=>z.imp id λz=>by rw [z];exact wa'
    exact k _ p' q ow' v H' kpa (R1.wr wa') (rs1.keeps (aG.less less) λ_ _ _=>rfl) (f1.keeps (aG.less less)) (λ_ _ z=>nomatch z)
   | own es =>
    obtain⟨a',xs,rfl,n1,n2,e3,R1,f1⟩:=o;obtain⟨v1,s1,rs1⟩:=R1.get 0 p' e';rw [sa] at s1;cases s1
    have less:∀b,cZ (cZ A a) a' b->OO (cZ A a') ρ' σ' b:=λb z=>by
     rcases z with (z|z)|z
     .exact .inl (.inl z)
     .exact .inr (by rw [z];exact wa')
     .exact .inl (.inr z)
    exact k _ p' q ow' _ H' kpa (R1.wr wa') (rs1.keeps (aG.less λb z=>less b (.inl z)) λ_ _ _=>rfl) ⟨a',xs,rfl,n2,e3,f1.keeps (aG.less less)⟩ (λa'' e _=>by cases e;exact rs1.keeps (aG.less less) λ_ _ _=>rfl)
   | ins c ns es =>
    obtain⟨a',dx,fs,rfl,n1,n2,e3,m,R1,f1⟩:=o;obtain⟨v1,s1,rs1⟩:=R1.get 0 p' e';rw [sa] at s1;cases s1
    have less:∀b,cZ (cZ A a) a' b->OO (cZ A a') ρ' σ' b:=λb z=>by
     rcases z with (z|z)|z
     .exact .inl (.inl z)
     .exact .inr (by rw [z];exact wa')
     .exact .inl (.inr z)
    exact k _ p' q ow' _ H' kpa (R1.wr wa') (rs1.keeps (aG.less λb z=>less b (.inl z)) λ_ _ _=>rfl) ⟨a',dx,fs,rfl,n2,e3,m,f1.keeps (aG.less less)⟩ (λa'' e _=>by cases e;exact rs1.keeps (aG.less less) λ_ _ _=>rfl)
   | odc ks es =>
    obtain⟨a',kvs,rfl,n1,n2,e3,m,R1,f1⟩:=o;obtain⟨v1,s1,rs1⟩:=R1.get 0 p' e';rw [sa] at s1;cases s1
    have less:∀b,cZ (cZ A a) a' b->OO (cZ A a') ρ' σ' b:=λb z=>by
     rcases z with (z|z)|z
     .exact .inl (.inl z)
     .exact .inr (by rw [z];exact wa')
     .exact .inl (.inr z)
    exact k _ p' q ow' _ H' kpa (R1.wr wa') (rs1.keeps (aG.less λb z=>less b (.inl z)) λ_ _ _=>rfl) ⟨a',kvs,rfl,n2,e3,m,f1.keeps (aG.less less)⟩ (λa'' e _=>by cases e;exact rs1.keeps (aG.less less) λ_ _ _=>rfl)
  .exact q.elim
 refine hl [(0,.ref a)] A (λb=>b=a) H _ _ H _ _ rfl R0 ⟨λ_ _ _ h=>h,λ_ h=>h,λb w=>.inl (wr b w),λq hq=>by rw [u_.mp hq];exact s0⟩ (hc p ds Qc ow hq) (λρ' σ' H' q r F=>fin .non (.dat .non) ρ' σ' H' q ⟨r,.non⟩ F) (λv p ρ' σ' H' q o F=>fin v p ρ' σ' H' q o F) (λ_ _ _ z=>z.elim) (λ_ _ _ z=>z.elim)
noncomputable def Lh:FN:=λas Q=>∃ns:Λ,as=[.scr ns]/\ns.length<=63/\Q (.dat (.bl η))
def EG{Q:VK}{E:XK}(h:wN K vs H Q E):spP K Lh vs H Q E:=by
 obtain⟨a,ns,rfl,hS,h63,q⟩:=h
 refine⟨λ_=>False,[.scr ns],λr=>r=.dat (.bl η),nofun,.cons (.scr ?_) .nil,⟨ns,rfl,h63,rfl⟩,λr e v H' g o=>?_⟩
 .rcases hS with h|h
  .exact .inl ⟨id,h⟩
  .exact .inr h
 .subst e;cases o;exact q H'
noncomputable def Ht:List V->Hp->VK->Prop:=λxs H Q=>∃i j,xs=[.int i,.int j]/\Q (.int (if j<i then j else i)) H
noncomputable def Hu:List V->Hp->VK->Prop:=λxs H Q=>∃i j,xs=[.int i,.int j]/\Q (.int (if j > i then j else i)) H
def C4(hc:X.calm=η):bD X (.builtin "min") Ht:=yf hc
def Hv(hc:X.calm=η):bD X (.builtin "max") Hu:=ye hc
noncomputable def Hw:FN
 | [.int i,.int j],Q=>Q (.dat (.int (if j<i then j else i)))
 | _,_=>False
noncomputable def Hx:FN
 | [.int i,.int j],Q=>Q (.dat (.int (if j > i then j else i)))
 | _,_=>False
def y9:LC K Ht Hw:=by
 intro O H xs as Q Q' dom fs q k;unfold Hw at q
 split at q
 .cases fs with
  | cons a b=>cases b with|cons b c=>cases c;rw [a.int,b.int];exact⟨_,_,rfl,k _ H _ q (Gr.refl _) (.int _)⟩
 .exact q.elim
def EH:LC K Hu Hx:=by
 intro O H xs as Q Q' dom fs q k;unfold Hx at q
 split at q
 .cases fs with
  | cons a b=>cases b with|cons b c=>cases c;rw [a.int,b.int];exact⟨_,_,rfl,k _ H _ q (Gr.refl _) (.int _)⟩
 .exact q.elim
noncomputable def EI(K:b_):List V->Hp->VK->Prop:=λxs H Q=>∃(p:Addr) (ns:Λ),xs=[.ref p]/\SqL K H p (ns.map V.int)/\0<ns.length/\∀m:Int,m∈ns->(∀a∈ns,m<=a)->Q (.int m) H
noncomputable def Hy(K:b_):List V->Hp->VK->Prop:=λxs H Q=>∃(p:Addr) (ns:Λ),xs=[.ref p]/\SqL K H p (ns.map V.int)/\Q (.int ns.sum) H
noncomputable def Li(K:b_):List V->Hp->VK->Prop:=λxs H Q=>∃(p:Addr) (bs:List Bool),xs=[.ref p]/\SqL K H p (bs.map V.bl)/\Q (.bl (bs.all id)) H
noncomputable def Lj(K:b_):List V->Hp->VK->Prop:=λxs H Q=>∃(p:Addr) (bs:List Bool),xs=[.ref p]/\SqL K H p (bs.map V.bl)/\Q (.bl (bs.any id)) H
def vD(K:b_)(e:X.K=K)(hc:X.calm=η):bD X (.builtin "min") (EI K):=by subst e;exact yV hc
def Hz(K:b_)(e:X.K=K)(hc:X.calm=η):bD X (.builtin "sum") (Hy K):=by subst e;exact rq hc
def BI(K:b_)(e:X.K=K)(hc:X.calm=η):bD X (.builtin "all") (Li K):=by subst e;exact By hc
def Kh(K:b_)(e:X.K=K)(hc:X.calm=η):bD X (.builtin "any") (Lj K):=by subst e;exact Bz hc
noncomputable def HA:FN
 | [.lst ds],Q=>∃ns:Λ,ds=ns.map .int/\0<ns.length/\∀m:Int,m∈ns->(∀a∈ns,m<=a)->Q (.dat (.int m))
 | _,_=>False
noncomputable def EJ:FN
 | [.lst ds],Q=>∃ns:Λ,ds=ns.map .int/\Q (.dat (.int ns.sum))
 | _,_=>False
noncomputable def Ki:FN
 | [.lst ds],Q=>∃bs:List Bool,ds=bs.map .bl/\Q (.dat (.bl (bs.all id)))
 | _,_=>False
noncomputable def Lk:FN
 | [.lst ds],Q=>∃bs:List Bool,ds=bs.map .bl/\Q (.dat (.bl (bs.any id)))
 | _,_=>False
def tU:LC K (EI K) HA:=by
 intro O H xs as Q Q' dom fs q k;unfold HA at q
 split at q
 .obtain⟨ns,rfl,h0,q⟩:=q
  cases fs with
  | cons a b =>
   cases b;obtain⟨p,ys,rfl,e1,f1⟩:=a.lst;rw [f1.ints] at e1;exact⟨p,ns,rfl,SqL.of e1,h0,λm hm hle=>k _ H _ (q m hm hle) (Gr.refl _) (.int _)⟩
 .exact q.elim
def EK:LC K (Hy K) EJ:=by
 intro O H xs as Q Q' dom fs q k;unfold EJ at q
 split at q
 .obtain⟨ns,rfl,q⟩:=q
  cases fs with
  | cons a b =>
   cases b;obtain⟨p,ys,rfl,e1,f1⟩:=a.lst;rw [f1.ints] at e1;exact⟨p,ns,rfl,SqL.of e1,k _ H _ q (Gr.refl _) (.int _)⟩
 .exact q.elim
def vE:LC K (Li K) Ki:=by
 intro O H xs as Q Q' dom fs q k;unfold Ki at q
 split at q
 .obtain⟨ns,rfl,q⟩:=q
  cases fs with
  | cons a b =>
   cases b;obtain⟨p,ys,rfl,e1,f1⟩:=a.lst;rw [f1.bls] at e1;exact⟨p,ns,rfl,SqL.of e1,k _ H _ q (Gr.refl _) (.bl _)⟩
 .exact q.elim
def HB:LC K (Lj K) Lk:=by
 intro O H xs as Q Q' dom fs q k;unfold Lk at q
 split at q
 .obtain⟨ns,rfl,q⟩:=q
  cases fs with
  | cons a b =>
   cases b;obtain⟨p,ys,rfl,e1,f1⟩:=a.lst;rw [f1.bls] at e1;exact⟨p,ns,rfl,SqL.of e1,k _ H _ q (Gr.refl _) (.bl _)⟩
 .exact q.elim
noncomputable def EL(K:b_):List V->Hp->VK->Prop:=λxs H Q=>∃p ys,xs=[.ref p]/\((SqL K H p ys/\∀l,H l=ω->Q (.ref l) (upd H l (.tup ys)))\/(SqT K H p ys/\Q (.ref p) H))
def du(K:b_)(e:X.K=K):bD X (.type "tuple") (EL K):=by subst e;exact pS
def za(K:b_)(e:X.K=K):bD X (.type "list") (yW K):=by subst e;exact qV
noncomputable def l5:FN
 | [.lst ds],Q=>Q (.dat (.tup ds))
 | [.tup ds],Q=>Q (.dat (.tup ds))
 | [.scr ns],Q=>Q (.dat (.tup (ns.map .int)))
 | _,_=>False
noncomputable def HC:FN
 | [.lst ds],Q=>Q (.own ds)
 | [.tup ds],Q=>Q (.own ds)
 | [.scr ns],Q=>Q (.own (ns.map .int))
 | _,_=>False
def cE:LC K (EL K) l5:=by
 intro O H xs as Q Q' dom fs q k;unfold l5 at q
 split at q
 .cases fs with
  | cons a b =>
   cases b;obtain⟨p,ys,rfl,e1,f1⟩:=a.lst;exact⟨p,ys,rfl,.inl ⟨SqL.of e1,λl hl=>k _ _ _ q (Gr.new hl) (lU dom hl f1)⟩⟩
 .cases fs with
  | cons a b =>
   cases b;obtain⟨p,ys,rfl,n1,e1,f1⟩:=a.tup;exact⟨p,ys,rfl,.inr ⟨SqT.of e1,k _ H _ q (Gr.refl _) (.tup n1 e1 f1)⟩⟩
 .cases fs with
  | cons a b =>
   cases b;obtain⟨p,rfl,e1⟩:=a.scr;exact⟨p,_,rfl,.inl ⟨e1,λl hl=>k _ _ _ q (Gr.new hl) (lU dom hl (FVs.of_ints _))⟩⟩
 .exact q.elim
def tV:LC K (yW K) HC:=by
 intro O H xs as Q Q' dom fs q k;unfold HC at q
 split at q
 .cases fs with
  | cons a b =>
   cases b;obtain⟨p,ys,rfl,e1,f1⟩:=a.lst;exact⟨p,ys,rfl,.inl (SqL.of e1),λl hl=>k _ _ _ q (Gr.new hl) (dR hl f1)⟩
 .cases fs with
  | cons a b =>
   cases b;obtain⟨p,ys,rfl,n1,e1,f1⟩:=a.tup;exact⟨p,ys,rfl,.inr (SqT.of e1),λl hl=>k _ _ _ q (Gr.new hl) (dR hl f1)⟩
 .cases fs with
  | cons a b =>
   cases b;obtain⟨p,rfl,e1⟩:=a.scr;exact⟨p,_,rfl,.inl e1,λl hl=>k _ _ _ q (Gr.new hl) (dR hl (FVs.of_ints _))⟩
 .exact q.elim
noncomputable def sX(i:Int)(n:Nat):List D:=(g_ n).map λ(k:Nat)=>D.int (i+(k:Int))
noncomputable def mkL(tup:Bool)(ds:List D):PV:=match tup with|true=>.dat (.tup ds)|false=>.own ds
noncomputable def HD(tup:Bool)(pr:PTA):PTE:=λρ Q=>pr ρ λas ρ1=>match as with
 | [.v (.int j)]=>(0<=j/\j<=1000000)/\Q (mkL tup (sX 0 j.toNat)) ρ1
 | _=>False
def HE(i:Int)(n:Nat):FVs K O H (tH i 1 n) (sX i n):=by
 have e:∀l:Δ,FVs K O H (l.map λ(k:Nat)=>V.int (i+k*1)) (l.map λ(k:Nat)=>D.int (i+(k:Int))):=λl=>by
  induction l with
  | nil=>exact .nil
  | cons a r ih=>exact .cons (by show FV K O H (V.int (i+(a:Int)*1)) (D.int (i+(a:Int)));rw [show i+(a:Int)*1=i+(a:Int) by omega];exact .int _) ih
 exact e _
def oW{i j:Int}(h:i<=j):t_ i j 1=(((j - i).toNat:Nat):Int):=by
 unfold t_;rw [if_pos (by decide)];simp only [ediv_one];split <;> omega
def xf{i j:Int}(h0:-1000000<=i)(h1:i<=j)(h2:j<=1000000):Om i j 1=true:=by
 unfold Om;rw [oW h1];simp only [j_,Mg,or_eq_true,decide_eq_true_eq,beq_iff_eq,show (1:Int) > 0 by decide,if_true];omega
noncomputable def mkO(tup:Bool):List V->HO:=match tup with|true=>.tup|false=>.lst
def HF{p:Addr}(tup:Bool)(dom:∀b,O b->H b≠ω)(hp:H p=ω)(f:FVs K O H xs ds):sW K O H (upd H p (mkO tup xs)) (mkL tup ds) (.ref p):=by
 cases tup with
 | true=>exact lU dom hp f
 | false=>exact dR hp f
def p6(tup:Bool)(h:LAs K tr pr):LE K (tCB (JL K (mkO tup)) (aL (λσ H Q=>tr σ H λvs H1=>∃j:Int,vs=[.int j]/\∀p,H1 p=ω->Q (.ref p) (upd H1 p (CU p 0 j 1))) dz)) (HD tup pr):=λA ρ σ H Q Q' R q k=>h A ρ σ H _ _ R q λvs H1 as ρ1 q1 f1 R1 o1=>by
 split at q1
 .rename_i j
  cases o1 with
  | cons a b =>
   cases b;cases a;refine⟨j,rfl,λp hp=>⟨p,0,j,1,j.toNat,rfl,aI,xf (by decide) q1.1.1 q1.1.2,by rw [oW q1.1.1,Q2],by omega,λl hl=>?_⟩⟩;have g:Gr H1 (upd H1 p (CU p 0 j 1)):=Gr.new hp;have R2:=R1.gr g;have g2:Gr (upd H1 p (CU p 0 j 1)) (upd (upd H1 p (CU p 0 j 1)) l (mkO tup (tH 0 1 j.toNat))):=Gr.new hl;exact k _ _ _ ρ1 q1.2 (f1.trans (g.fr.trans g2.fr)) ((sW.out R2 g2 (HF tup R2.dom2 hl (HE 0 _))).h0 λb z=>(g.fr (ρ:=ρ1) (σ:=σ)).dm b (f1.dm b z))
 .exact q1.elim
def zb(K:b_)(e:X.K=K)(hc:X.calm=η):bD X (.type "list") (JL K (mkO ξ)):=by subst e;exact wQ hc
variable {pa:PA1}
noncomputable def BJ(pa:PA1):PTE:=λρ Q=>pa ρ λx ρ1=>match cont ρ1 x with
 | some (.lst ds)=>Q (.own ds.reverse) ρ1
 | _=>False
noncomputable def vF(K:b_)(te:TE):TE:=λσ H Q=>te σ H λx H1=>∃a xs,x=.ref a/\SqL K H1 a xs/\∀l,H1 l=ω->Q (.ref l) (upd H1 l (.lst xs.reverse))
variable {e:Expr}{pos:Pos}
def tW{p p1 p2:Pos}(K:b_)(eK:X.K=K)(hc:X.calm=η)(he:PE X e te)(hg1:Gl X "list")(hm1:X.mg "list"=ω)(hg2:Gl X "reversed")(hm2:X.mg "reversed"=ω)(hs:starEach [.Call (.Name "reversed" p1) [e] [] p2] X.env=[(ξ,eval (.Call (.Name "reversed" p1) [e] [] p2) X.env)]:=by rfl)(hs2:starEach [e] X.env=[(ξ,eval e X.env)]:=by rfl):
  PE X (.Call (.Name "list" p) [.Call (.Name "reversed" p1) [e] [] p2] [] pos) (vF K te):=by subst eK;exact wT hc he hg1 hm1 hg2 hm2 hs hs2
variable {ta:TE}
def xg(h:LA1 K ta pa):LE K (vF K ta) (BJ pa):=λA ρ σ H Q Q' R q k=>h A ρ σ H _ _ R q λv H1 a ρ1 q1 f1 R1 o1=>by
 split at q1
 .rename_i ds e;obtain⟨p,xs,rfl,e1,fs⟩:=(R1.cont o1 e).lst;refine⟨p,xs,rfl,SqL.of e1,λl hl=>?_⟩;have g:Gr H1 (upd H1 l (.lst xs.reverse)):=Gr.new hl;exact k _ _ _ ρ1 q1 (f1.trans g.fr) ((sW.out (p:=.own ds.reverse) R1 g (dR hl fs.reverse)).h0 f1.dm)
 .exact q1.elim
abbrev FM:=Δ->List D->(PV->Prop)->Prop
noncomputable def LM(K:b_)(r:V->List V->Hp->VK->Prop)(f:FM):Prop:=∀(O:Ψ) (H:Hp) (l:Δ) (xs:List V) (as:List D) (Q:PV->Prop) (Q':VK),(∀b,O b->H b≠ω)->l.length<=1000000->FO K O H xs as->f l as Q ->
 (∀v H' p,Q p->Gr H H'->sW K O H H' p v->Q' v H')->r (.str (S l)) xs H Q'
noncomputable def pSM(f:FM)(pe:PTE)(pr:PTA):PTE:=λρ Q=>pe ρ λp ρ1=>match p with
 | .dat (.str l)=>pr ρ1 λas ρ2=>(match conts ρ2 as with
  | some ds=>f l ds λr=>Q r ρ2
  | none=>False)
 | _=>False
def HG{r:V->List V->Hp->VK->Prop}{f:FM}(o:LM K r f)(he:LE K ta pe)(hr:LAs K tr pr):LE K (tBM K "str" r ta tr) (pSM f pe pr):=λA ρ σ H Q Q' R q k=>he A ρ σ H _ _ R q λv H1 p ρ1 q1 f1 o1=>by
 split at q1
 .rename_i l;obtain⟨R1,fv⟩:=o1
  cases fv with
  | str _ hl =>
   refine⟨rfl,hr A ρ1 σ H1 _ _ R1 q1 λvs H2 as ρ2 q2 f2 R2 o2=>?_⟩
   split at q2
   .rename_i ds e;exact o _ H2 l vs ds _ _ R2.dom2 hl (R2.conts o2 e) q2 λz H3 p q3 g ov=>k z H3 p ρ2 q3 ((f1.trans f2).trans g.fr) ((ov.out R2 g).h0 λb z=>f2.dm b (f1.dm b z))
   .exact q2.elim
 .exact q1.elim
noncomputable def HH:V->List V->Hp->VK->Prop:=λx xs H Q=>∃a b,x=.str (S a)/\xs=[.str (S b)]/\Q (.bl (decide (b <:+ a))) H
noncomputable def C5:V->List V->Hp->VK->Prop:=λx xs H Q=>∃a b,x=.str (S a)/\xs=[.str (S b)]/\Q (.int (fnd a b 0)) H
def EM:MtR X "str.endswith" HH:=tG
def BK:MtR X "str.find" C5:=Br
noncomputable def HI:FM
 | a,[.str b],Q=>Q (.dat (.bl (decide (b <:+ a))))
 | _,_,_=>False
noncomputable def C6:FM
 | a,[.str b],Q=>Q (.dat (.int (fnd a b 0)))
 | _,_,_=>False
def EN:LM K HH HI:=by
 intro O H l xs as Q Q' dom hl fs q k;unfold HI at q
 split at q
 .cases fs with|cons a b=>cases b;rw [a.str.1];exact⟨_,_,rfl,rfl,k _ H _ q (Gr.refl _) (.bl _)⟩
 .exact q.elim
def BL:LM K C5 C6:=by
 intro O H l xs as Q Q' dom hl fs q k;unfold C6 at q
 split at q
 .cases fs with|cons a b=>cases b;rw [a.str.1];exact⟨_,_,rfl,rfl,k _ H _ q (Gr.refl _) (.int _)⟩
 .exact q.elim
noncomputable def e9(f:Str):List Str->Option Nat
 | []=>ω
 | n::r=>if n=f then ψ 0 else (e9 f r).map (·+1)
theorem rC{f:Str}:∀{fs:List (Str×V)}{k:Nat},e9 f (fs.map y_)=ψ k->fs.lookup f=(fs.map Mo)[k]?
 | [],k,h=>by cases h
 | (n,v)::r,k,h=>by
  unfold e9 at h;rw [so] at h;simp only at h;rw [M4]
  by_cases e:n=f
  .rw [if_pos e] at h;cases h;rw [show (f == n)=η by rw [e];exact beq_self_eq_true _];rfl
  .rw [if_neg e] at h;rw [show (f == n)=ξ from beq_eq_false_iff_ne.mpr λz=>e z.symm]
   cases e2:e9 f (r.map y_) with
   | none=>rw [e2] at h;cases h
   | some j=>rw [e2] at h;cases h;show N4 f r=_;rw [rC e2];simp
theorem l7{f:Str}:∀{fs:List (Str×V)},e9 f (fs.map y_)=ω->fs.lookup f=ω
 | [],h=>rfl
 | (n,v)::r,h=>by
  unfold e9 at h;rw [so] at h;simp only at h;rw [M4]
  by_cases e:n=f
  .rw [if_pos e] at h;cases h
  .rw [if_neg e] at h;rw [show (f == n)=ξ from beq_eq_false_iff_ne.mpr λz=>e z.symm]
   cases e2:e9 f (r.map y_) with
   | none=>exact l7 e2
   | some j=>rw [e2] at h;cases h
theorem p7{f:Str}:∀{fs:List (Str×V)},e9 f (fs.map y_)=ω->oH f v fs=fs++[(f,v)]
 | [],h=>rfl
 | (n,x)::r,h=>by
  unfold e9 at h;rw [so] at h;simp only at h
  by_cases e:n=f
  .rw [if_pos e] at h;cases h
  .rw [if_neg e] at h
   cases e2:e9 f (r.map y_) with
   | none=>unfold oH;rw [if_neg e,p7 e2];rfl
   | some j=>rw [e2] at h;cases h
def FVc.obj{c:Str}{ns:List Str}(h:FVc K O H v (.obj c ns ds)):∃a dx fs,v=.ref a/\H a=ψ (.ins (bZ K c) dx fs)/\fs.map y_=ns/\FVs K O H (fs.map Mo) ds:=by
 rcases h with h|⟨a,xs,ds',e1,e2,e3,f⟩|⟨a,dx,c,fs,ns,ds',e1,e2,e3,m,f⟩|⟨a,kvs,ks,ds',e1,e2,_⟩
 .cases h with
  | obj n e m f=>exact⟨_,_,_,rfl,e,m,f⟩
 .cases e2
 .cases e2;exact⟨a,dx,fs,e1,e3,m,f⟩
 .cases e2
noncomputable def zc(c0:Str)(ns0:List Str)(k:Nat)(pa:PA1):PTE:=λρ Q=>pa ρ λx ρ1=>match cont ρ1 x with
 | some (.obj c ns ds)=>(c=c0/\ns=ns0)/\∃d,ds[k]?=ψ d/\Q (.dat d) ρ1
 | _=>False
def gD{c0 f:Str}{ns0:List Str}(hc:Cls K (bZ K c0))(hn:eZ K (bZ K c0) f)(hk:e9 f ns0=ψ i)(h:LA1 K ta pa):LE K (yi K ta f) (zc c0 ns0 i pa):=λA ρ σ H Q Q' R q k=>h A ρ σ H _ _ R q λv H1 a ρ1 q1 f1 R1 o1=>by
 split at q1
 .rename_i c ns ds e;obtain⟨⟨rfl,rfl⟩,d,hd,q1⟩:=q1;obtain⟨a,dx,fs,rfl,e1,m,f⟩:=(R1.cont o1 e).obj;obtain⟨v,hv,fv⟩:=f.getD hd;exact⟨a,_,dx,fs,v,rfl,e1,hc,hn,by rw [rC (k:=i) (by rw [m];exact hk)];exact hv,k v H1 _ ρ1 q1 f1 ⟨R1,fv⟩⟩
 .exact q1.elim
noncomputable def l8(c0:Str)(ns0:List Str)(f:Str)(i:Nat)(pe:PTE):PTS:=λD ρ=>pe ρ λp ρ1=>match ρ1[i]? with
 | some (ψ (.ins c ns ds))=>(c=c0/\ns=ns0/\ns0.length<1000)/\D.nx (ρ1.set i (ψ (.ins c0 (ns0++[f]) (ds++[p.d]))))
 | _=>False
def j3{fs':Δ}{c0 f:Str}{ns0:List Str}(hc:Cls K (bZ K c0))(hn:eZ K (bZ K c0) f)(hk:e9 f ns0=ω)(h:LE K ta pe):LS K fs' (KU K (aS i) ta f) (l8 c0 ns0 f i pe):=λfx A R H0 ρ σ H D D' hf r F q k1 k2 k3 k4=>h A ρ σ H _ _ r q λv H1 p ρ1 q1 f1 o1=>by
 obtain⟨R1,fv⟩:=o1.frz
 split at q1
 .rename_i c ns ds e;obtain⟨⟨rfl,rfl,hl⟩,q1⟩:=q1;obtain⟨w,s,a,dx,fs,rfl,g,m,ff⟩:=R1.get i _ e;have hk':e9 f (fs.map y_)=none:=by rw [m];exact hk
  have wa:OO A ρ1 σ a:=.inr ⟨i,_,e,rfl,s⟩;have kw:∀o,aG (OO A ρ1 σ) H1 (OO A ρ1 σ) (upd H1 a o):=λo b u n h=>⟨n,by rw [ax (λz=>n (by rw [z];exact wa))];exact h⟩
  obtain⟨R2,f2⟩:=R1.write (o:=.ins (bZ K c) dx (oH f v fs)) (q:=.ins c (ns++[f]) (ds++[p.d])) e rfl rfl s ⟨a,dx,oH f v fs,rfl,aI,by rw [p7 hk',D_,m];rfl,by rw [p7 hk',D_];exact (ff.append (.cons fv .nil)).keeps (kw _)⟩;refine⟨_,s,a,_,dx,fs,rfl,g,hc,hn,?_,k1 _ _ _ q1 R2 ((F.fr f1).fr f2)⟩;have:fs.length=ns.length:=by rw [<- m,cy]
  omega
 .exact q1.elim
noncomputable def Kj(c0:Str)(c:FR)(pr:PTA):PTE:=λρ Q=>pr ρ λas ρ1=>match avD as with
 | some ds=>c (.ins c0 [] []) ds λr p'=>(match r,p' with
  | .dat .non,.ins c1 ns es=>c1=c0/\Q (.ins c1 ns es) ρ1
  | _,_=>False)
 | none=>False
def zd{c0:Str}{c:FR}(h:LAs K tr pr):LE K (A8 (bZ K c0) (spR K c) [] E0 tr) (Kj c0 c pr):=λA ρ σ H Q Q' R q k=>h A ρ σ H _ _ R q λvs H1 as ρ1 q1 f1 R1 o1=>by
 split at q1
 .rename_i ds e;intro x dx hx hdx hne;rw [Mr]
  let H2:=upd (upd H1 dx (.own x)) x (.ins (bZ K c0) dx [])
  have g2:Gr H1 H2:=λb o z=>by
   show upd (upd H1 dx (.own x)) x _ b=_;rw [ax (aR z hx),ax (aR z hdx)];exact z
  have nx:¬ OO A ρ1 σ x:=R1.oo hx
  have keep2:aG (OO A ρ1 σ) H1 (cZ (OO A ρ1 σ) x) H2:=λb o n z=>by
   refine⟨λy=>?_,g2 b o z⟩
   rcases y with y|y
   .exact n y
   .rw [y,hx] at z;cases z
  refine⟨OO A ρ1 σ,x,.ins c0 [] [],vs,ds,_,rfl,rfl,λb z=>(g2.fr (ρ:=ρ1) (σ:=σ)).dm b (R1.dom2 b z),nx,⟨x,dx,[],rfl,aI,rfl,.nil⟩,(o1.avD e).keeps keep2,q1,λr p' qr ow' v H' kp ha rs ov _=>?_⟩
  split at qr
  .obtain⟨rfl,qr⟩:=qr;cases ov;refine⟨rfl,?_⟩;obtain⟨a',dx',fs,ea,e2,m,f⟩:=rs;cases ea;have g:Gr H1 H':=λb o z=>kp b o (aR z hx) (g2 b o z)
   have hx0:H x=none:=by
    cases eb:H x with
    | none=>rfl
    | some o=>exact absurd hx (f1.dm x (by rw [eb];exact nofun))
   refine k _ H' _ ρ1 qr (f1.trans g.fr) ⟨x,dx',fs,rfl,λz=>nx (.inl z),hx0,e2,m,R1.grA g hx (by rw [e2];exact nofun),f.keeps (aG.less λb z=>?_)⟩
   rcases z with (z|z)|z
   .exact .inl (.inl z)
   .exact .inr z
   .exact .inl (.inr z)
  .exact qr.elim
 .exact q1.elim
noncomputable def HJ(c0:Str)(ns0:List Str)(c:FN)(pe:PTE)(pr:PTA):PTE:=λρ Q=>pe ρ λp ρ1=>match p.d with
 | .obj c1 ns ds=>(c1=c0/\ns=ns0)/\pr ρ1 λas ρ2=>(match avD as with
  | some es=>c (.obj c1 ns ds::es) λr=>Q r ρ2
  | none=>False)
 | _=>False
def vG{c0 m:Str}{ns0:List Str}(hm:e9 m ns0=ω)(he:LE K ta pe)(hr:LAs K tr pr):LE K (A7 (bZ K c0) m (spP K c) [] E0 ta tr) (HJ c0 ns0 c pe pr):=λA ρ σ H Q Q' R q k=>he A ρ σ H _ _ R q λv H1 p ρ1 q1 f1 o1=>by
 obtain⟨R1,fv⟩:=o1.frz
 split at q1
 .rename_i c1 ns ds e;rw [e] at fv;obtain⟨⟨rfl,rfl⟩,q1⟩:=q1;obtain⟨a,dx,fs,rfl,e1,mm,f⟩:=FVc.obj (.inl fv);refine⟨a,dx,fs,rfl,e1,l7 (by rw [mm];exact hm),hr A ρ1 σ H1 _ _ R1 q1 λvs H2 as ρ2 q2 f2 R2 o2=>?_⟩
  split at q2
  .rename_i es e3;rw [Mr];exact⟨OO A ρ2 σ,_::es,_,R2.dom2,.cons (fv.keeps f2.keeps) (o2.avD e3),q2,λr qr v H' g ov=>k v H' r ρ2 qr ((f1.trans f2).trans g.fr) ((ov.out R2 g).h0 λb z=>f2.dm b (f1.dm b z))⟩
  .exact q2.elim
 .exact q1.elim
abbrev HK:R2:=rI0 λi j=>.int (i - j)
abbrev HL:R2:=rI (λ_ j=>0<j) λi j=>.int (i % j)
abbrev Kk:R2:=rI Jy λi j=>.int (i / j)
abbrev HM:R2:=rI Jz λi j=>.int (i^j.toNat)
abbrev Kl:R2:=rI0 λi j=>.bl (decide (j<i))
abbrev Ln:R2:=rI0 λi j=>.bl (decide (j<=i))
abbrev HN:V->Hp->VK->Prop:=rU λi=>.int (-i)
noncomputable def Lo:D->(PV->Prop)->Prop
 | .int i,Q=>Q (.dat (.int (-i)))
 | _,_=>False
def p8:OpR X (binaryOp .Sub) HK:=Gs
def c8:OpR X (binaryOp .Mod) HL:=Gv
def jH:OpR X (binaryOp .FloorDiv) Kk:=DP
def tX:OpR X (binaryOp .Pow) HM:=Gw
def ze:OpR X (compareOp .Gt) Kl:=JE
def FS:OpR X (compareOp .GtE) Ln:=JF
def oX:LU K HN Lo:=by
 intro O H x a Q Q' dom fx q k;unfold Lo at q
 split at q
 .rename_i i;exact⟨i,fx.int,k _ H _ q (Gr.refl _) (.int _)⟩
 .exact q.elim
variable {es:List Expr}
def p9{ct:Nat}{tp:Pos}(K:b_)(e:X.K=K){a:Expr}{ta:TA}{p:Pos}(hg:Gl X "enumerate")(hm:X.mg "enumerate"=ω)(ha:PA X [a] ta)(hs:starEach [a] X.env=[(ξ,eval a X.env)]:=by rfl):
  PI X (.Tuple es ct tp) (.Call (.Name "enumerate" p) [a] [] pos) (BD K ta):=by subst e;exact En hg hm ha hs
def EO{ct:Nat}{tp:Pos}(K:b_)(e:X.K=K){a b:Expr}{ta:TA}{p:Pos}(hg:Gl X "zip")(hm:X.mg "zip"=ω)(ha:PA X [a,b] ta)(hs:starEach [a,b] X.env=[(ξ,eval a X.env),(ξ,eval b X.env)]:=by rfl)(hs2:starEach [b] X.env=[(ξ,eval b X.env)]:=by rfl):
  PI X (.Tuple es ct tp) (.Call (.Name "zip" p) [a,b] [] pos) (BE K ta):=by subst e;exact Ep hg hm ha hs hs2
def gH{fs:Δ}(h:∀k∈fs,k∈y6 ix)(hi:(y6 ix).contains i=ξ):fs.contains i=false:=by
 cases e:fs.contains i with
 | false=>rfl
 | true =>
  have:=h i (M9.mp e);rw [M9.mpr this] at hi;cases hi
def nN(t:Value)(b c:Bool)(h1:Nm K t (.type "list")=ψ b)(h2:Nm K t (.type "tuple")=ψ c):O4 K t [.type "list",.type "tuple"]=ψ (b || c):=by
 simp only [O4,h1,h2];cases b <;> cases c <;> rfl
noncomputable def HP(c:FN)(es:List D)(pr:PTA):PTE:=λρ Q=>pr ρ λas ρ1=>match avD as with
 | some ds=>c (ds++es) λr=>Q r ρ1
 | none=>False
def BM{vs0:List V}(hd:∀{O:Ψ}{H:Hp},FVs K O H vs0 ds)(h:LAs K tr pr):LE K (dA (spP K c) vs0 E0 tr) (HP c ds pr):=λA ρ σ H Q Q' R q k=>h A ρ σ H _ _ R q λvs H1 as ρ1 q1 f1 R1 o1=>by
 split at q1
 .rename_i es e;exact⟨OO A ρ1 σ,_,_,R1.dom2,(o1.avD e).append hd,q1,λr qr v H' g ov=>k v H' r ρ1 qr (f1.trans g.fr) ((ov.out R1 g).h0 f1.dm)⟩
 .exact q1.elim
def Jm(hn:∀ds Q,c ds Q->ds.length=n){Q:VK}{E:XK}(h:spP K c vs H Q E):vs.length=n:=by
 obtain⟨O,ds,Qc,_,f,hq,_⟩:=h;rw [f.length];exact hn ds Qc hq
def Lp{c:FR}(hn:∀p ds Q,c p ds Q->ds.length+1=n){Q:VK}{E:XK}(h:spR K c vs H Q E):vs.length=n:=by
 obtain⟨A,a,p,ws,ds,Qc,rfl,_,_,_,_,f,hq,_⟩:=h;rw [Mm,f.length];exact hn p ds Qc hq
abbrev HQ(pp:PTS)(n:Nat)(ds:List D)(Q:PV->Prop):Prop:=pp { nx:=λ_=>Q (.dat .non),rt:=λp _=>Q p } (bT n (ds.map .dat))
abbrev Km(pp:PTS)(n:Nat)(p:PV)(ds:List D)(Q:PV->PV->Prop):Prop:=pp { nx:=FQ Q (.dat .non),rt:=FQ Q } (bT n (p::ds.map .dat))
end L2
namespace L2
variable {K:b_}
def Cal.imp{P:PySem.Program}{w:PySem.World}{mg:PySem.Str->Option PySem.Value}{base:PySem.Heap}{k:Nat}{x:PySem.Str}{ps:List PySem.Str}{sp sp':Sp}(C:Cal P w K mg base k x ps sp)(h:∀vs H Q E,sp' vs H Q E->sp vs H Q E):Cal P w K mg base k x ps sp':=by
 obtain⟨f,fd,F,r⟩:=C.ex;exact⟨f,fd,F.imp h,r⟩
end L2
namespace L2
open PySem PySem.Spec PyProof.Rows
variable {ix:List (Option Nat)}{ρ1:PSt}{n:Nat}{pe:PTE}
def cfm{it:Nat->D}{g:PTG}{pt:PTT}{Q:PKt}(T:PSt->Prop)(f:Nat->Option D)(h0:T (bx ix ρ1))(hs:∀k τ d,k<n->d=it k->T τ->∀(K1:D->PSt->Prop) (K2:PSt->Prop),(∀d τ',f k=ψ d->T τ'->K1 d τ')->(∀τ',f k=ω->T τ'->K2 τ')->g (.dat d) τ λτ2=>pt τ2 λok τ3=>iY ok (pe τ3 λp τ4=>K1 p.d τ4) (K2 τ3))(hq:∀τ,T τ->Q (.own ((g_ n).filterMap f)) (dU ix ρ1 τ)):
  lZ ix ρ1 n it g pt pe Q:=by
 refine⟨λk ys τ=>ys=(g_ k).filterMap f/\T τ,⟨rfl,h0⟩,λk ys τ dd hk ed ⟨e,t⟩=>?_,λys τ ⟨e,t⟩=>by rw [e];exact hq τ t⟩
 have r:(g_ (k+1)).filterMap f=(g_ k).filterMap f++(f k).toList:=by
  rw [range_succ,filterMap_append]
  cases e:f k with
  | none=>rw [show [k].filterMap f=[] by simp [e]];rfl
  | some d=>rw [show [k].filterMap f=[d] by simp [e]];rfl
 refine hs k τ dd hk ed t (λd τ'=>(ys++[d]=(g_ (k+1)).filterMap f/\T τ')) (λτ'=>(ys=(g_ (k+1)).filterMap f/\T τ')) (λd τ' h t'=>⟨?_,t'⟩) (λτ' h t'=>⟨?_,t'⟩)
 .rw [r,e,h];rfl
 .rw [r,e,h];simp
def xh{it:Nat->D}{g:PTG}{Q:PKt}(T:PSt->Prop)(f:Nat->D)(h0:T (bx ix ρ1))(hs:∀k τ d,k<n->d=it k->T τ->∀K1:D->PSt->Prop,(∀τ',T τ'->K1 (f k) τ')->g (.dat d) τ λτ2=>pe τ2 λp τ4=>K1 p.d τ4)(hq:∀τ,T τ->Q (.own ((g_ n).map f)) (dU ix ρ1 τ)):
  lZ ix ρ1 n it g AN pe Q:=by
 refine cfm T (λk=>ψ (f k)) h0 (λk τ d hk ed t K1 K2 k1 k2=>?_) λτ t=>?_
 .exact hs k τ d hk ed t K1 λτ' t'=>k1 _ τ' rfl t'
 .have:(g_ n).filterMap (λk=>ψ (f k))=(g_ n).map f:=by rw [<- filterMap_eq_map];rfl
  rw [this];exact hq τ t
variable {β:Type}
def i3(f:Nat->β)(l:Δ):(g_ l.length).map (λk=>f (l.getD k 0))=l.map f:=by
 apply NA;intro i;rw [h_,h_]
 by_cases h:i<l.length
 .rw [Mj h];show ψ (f (l.getD i 0))=_;rw [e_,cx h];rfl
 .rw [C_ (by rw [x_];omega),C_ ⋯];rfl
noncomputable def pw(ws:Γ)(k:Nat):Δ:=ws.getD k []
variable {ws:Γ}
def fb{k:Nat}(h:k<ws.length):ws[k]?=ψ (pw ws k):=by unfold pw;rw [e_,cx h];rfl
def dY{k:Nat}(h:k<ws.length):pw ws k∈ws:=Mc (fb h)
def i4{k:Nat}(h:k<(ws.map D.str).length):itD (ws.map D.str) k=.str (pw ws k):=gP (by rw [h_,fb (by rwa [cy] at h)];rfl)
def dW{i:Int}{k:Nat}(h:k<ws.length)(e:i=(k:Int)):atI (ws.map D.str) i=ψ (.str (pw ws k)):=gA (j:=k) (by rw [h_,fb h];rfl) e
variable {l:Δ}
def rD{k:Nat}(h:k<l.length):l.take (k+1)=l.take k++[l.getD k 0]:=by
 rw [take_succ,e_,cx h];rfl
noncomputable def Pc(m:Nat)(w:Δ):Prop:=0<w.length/\w.length<=m/\Lts w
noncomputable def Pcs(m:Nat)(ws:Γ):Prop:=∀w∈ws,Pc m w
noncomputable def ltB(c:Nat):Bool:=decide (97<=c) && decide (c<=122)
noncomputable def BN:D->Int->Int->Bool
 | .str l,a,b=>(decide (a<=(l.length:Int)) && decide ((l.length:Int)<=b)) && l.all ltB
 | _,_,_=>ξ
def qb(l:Δ)(a b:Int):BN (.str l) a b=((decide (a<=(l.length:Int)) && decide ((l.length:Int)<=b)) && l.all ltB):=rfl
noncomputable def Kn:D->Nat
 | .str l=>l.length
 | _=>0
def j4:l.all ltB=η ↔ Lts l:=by
 rw [N9];unfold Lts ltB
 constructor
 .intro h c hc;have:=h c hc;rw [Mg,decide_eq_true_eq,decide_eq_true_eq] at this;exact this
 .intro h c hc;rw [Mg,decide_eq_true_eq,decide_eq_true_eq];exact h c hc
def zf{w:Δ}:BN (.str w) 1 60=η ↔ Pc 60 w:=by
 unfold BN Pc;rw [Mg,Mg,decide_eq_true_eq,decide_eq_true_eq,j4]
 constructor
 .rintro⟨⟨h1,h2⟩,h3⟩;exact⟨by omega,by omega,h3⟩
 .rintro⟨h1,h2,h3⟩;exact⟨⟨by omega,by omega⟩,h3⟩
def tY(i j:Nat):(!decide (([j]:Δ)<[i]))=decide (i<=j):=by
 by_cases h:i<=j
 .rw [decide_eq_true h]
  have:¬ ([j]:Δ)<[i]:=by
   rw [cons_lt_cons_iff]
   rintro (z|⟨_,z⟩)
   .omega
   .exact absurd z (List.lt_irrefl _)
  rw [decide_eq_false this];rfl
 .rw [decide_eq_false h]
  have:([j]:Δ)<[i]:=by
   rw [cons_lt_cons_iff];exact .inl ⋯
  rw [decide_eq_true this];rfl
theorem tZ:∀ws:Γ,D.pys (ws.map .str)=ws.map λw=>PyData.str (S w)
 | []=>rfl
 | w::r=>by rw [so,so,<- tZ r];rfl
theorem oY:∀ws:Γ,D.plains (ws.map .str)=η
 | []=>rfl
 | w::r=>by rw [so];show (η && D.plains (r.map .str))=η;rw [oY r];rfl
theorem ma:∀ns:Λ,D.pys (ns.map .int)=ns.map Qv
 | []=>rfl
 | n::r=>by rw [so,so,<- ma r];rfl
theorem j5:∀ns:Λ,D.plains (ns.map .int)=η
 | []=>rfl
 | n::r=>by rw [so];show (η && D.plains (r.map .int))=η;rw [j5 r];rfl
noncomputable def Sh(d:D):Prop:=d.plain=η/\M3 d.py=η
def xU.of{a b:D}(h:Sh a)(h':Sh b):xU a b:=⟨h.1,h'.1,h.2,h'.2⟩
def Sh.lstS(h:∀w∈ws,Lts w):Sh (.lst (ws.map .str)):=⟨oY ws,by show M3 (.list (D.pys _))=η;rw [tZ];exact rk h⟩
def Sh.lstI(ns:Λ):Sh (.lst (ns.map .int)):=⟨j5 ns,by show M3 (.list (D.pys _))=η;rw [ma];exact (oQ.list (rj ns)).shaped (by decide)⟩
def Sh.tupI(ns:Λ):Sh (.tup (ns.map .int)):=⟨j5 ns,by show M3 (.tuple (D.pys _))=η;rw [ma];exact (oQ.tuple (rj ns)).shaped (by decide)⟩
def vH{d:D}(h:Sh d):deq d d=true:=Bt h.2
noncomputable def zg(neg:Bool):R2:=λx y H Q=>∃a b,x=.ref a/\y=.ref b/\H a=ψ (.dK [])/\H b=ψ (.dK [])/\Q (.bl (!neg)) H
variable {X:Cx}
def BO(hu:X.A.units+64<cLine):OpR X (compareOp .Eq) (zg ξ):=by
 intro pins s σ H x y v u Q I rx ry ⟨a,b,e1,e2,h1,h2,q⟩;subst e1 e2;cases rx;cases ry;obtain⟨_,y1,vs,r1,p1⟩:=(show bN X.prog X.w H s.heap a (.dK []) from I.hok a _ h1)
 obtain⟨_,y2,ws,r2,p2⟩:=(show bN X.prog X.w H s.heap b (.dK []) from I.hok b _ h2)
 cases r1;cases r2;exact PySem.W.keq_eq (r:=η) y1 y2 p1 p2 ⋯ (λ_=>.nil) ⟨.bl η,H,I,rfl,q⟩
def BP(hu:X.A.units+64<cLine):OpR X (compareOp .NotEq) (zg η):=by
 intro pins s σ H x y v u Q I rx ry ⟨a,b,e1,e2,h1,h2,q⟩;subst e1 e2;cases rx;cases ry;obtain⟨_,y1,vs,r1,p1⟩:=(show bN X.prog X.w H s.heap a (.dK []) from I.hok a _ h1)
 obtain⟨_,y2,ws,r2,p2⟩:=(show bN X.prog X.w H s.heap b (.dK []) from I.hok b _ h2)
 cases r1;cases r2;exact PySem.W.keq_ne (r:=η) y1 y2 p1 p2 ⋯ (λ_=>.nil) ⟨.bl ξ,H,I,rfl,q⟩
variable {K:b_}
noncomputable def xi(K:b_)(neg:Bool):R2:=λx y H Q=>Ha K neg x y H Q\/zg neg x y H Q
def jI(K:b_)(e:X.K=K)(hu:X.A.units+64<cLine):OpR X (compareOp .Eq) (xi K ξ):=OpR.or (LV K e hu) (BO hu)
def t7(K:b_)(e:X.K=K)(hu:X.A.units+64<cLine):OpR X (compareOp .NotEq) (xi K η):=OpR.or (LW K e hu) (BP hu)
noncomputable def Lq:F2
 | .dic [] [],.dic [] [],Q=>Q (.dat (.bl η))
 | a,b,Q=>fEq a b Q
noncomputable def Lr:F2
 | .dic [] [],.dic [] [],Q=>Q (.dat (.bl ξ))
 | a,b,Q=>fNe a b Q
variable {O:Ψ}{H:Hp}{v:V}
def FVc.dic0(h:FVc K O H v (.dic [] [])):∃a,v=.ref a/\H a=ψ (.dK []):=by
 obtain⟨a,kvs,rfl,e,m,f⟩:=h.dic
 cases kvs with
 | nil=>exact⟨a,rfl,e⟩
 | cons x r=>cases m
def fc:LO K (xi K ξ) Lq:=by
 intro O H x y a b Q Q' dom fx fy q k;unfold Lq at q
 split at q
 .obtain⟨a,rfl,e1⟩:=fx.dic0;obtain⟨b,rfl,e2⟩:=fy.dic0;exact .inr ⟨a,b,rfl,rfl,e1,e2,k _ H _ q (Gr.refl _) (.bl _)⟩
 .exact .inl (J8 O H x y _ _ Q Q' dom fx fy q k)
def md:LO K (xi K η) Lr:=by
 intro O H x y a b Q Q' dom fx fy q k;unfold Lr at q
 split at q
 .obtain⟨a,rfl,e1⟩:=fx.dic0;obtain⟨b,rfl,e2⟩:=fy.dic0;exact .inr ⟨a,b,rfl,rfl,e1,e2,k _ H _ q (Gr.refl _) (.bl _)⟩
 .exact .inl (J9 O H x y _ _ Q Q' dom fx fy q k)
noncomputable def Ko:D->Bool
 | .int _=>η
 | _=>ξ
noncomputable def Kp:D->Bool
 | .lst _=>η
 | .tup _=>η
 | _=>ξ
noncomputable def EQ:List V->Hp->VK->Prop:=λxs H Q=>(∃b,xs=[.bl b]/\Q (.int (if b then 1 else 0)) H)\/∃i,xs=[.int i]/\Q (.int i) H
def ER:bD X (.type "int") EQ:=by
 intro pins s σ H xs us Q I r h
 rcases h with ⟨b,rfl,q⟩|⟨i,rfl,q⟩
 .obtain⟨u,rfl,ru⟩:=d0 r;cases (show u=Nc b from ru);exact call_int_bool ⟨.int _,H,I.tok _,⟨_,rfl⟩,q⟩
 .obtain⟨u,rfl,t,rfl⟩:=d0 r;exact call_int_int ⟨.int _,H,I,⟨_,rfl⟩,q⟩
noncomputable def HR:FN
 | [.bl b],Q=>Q (.dat (.int (if b then 1 else 0)))
 | [.int i],Q=>Q (.dat (.int i))
 | _,_=>False
def zh:LC K EQ HR:=by
 intro O H xs as Q Q' dom fs q k;unfold HR at q
 split at q
 .cases fs with|cons a b=>cases b;rw [a.bl];exact .inl ⟨_,rfl,k _ H _ q (Gr.refl _) (.int _)⟩
 .cases fs with|cons a b=>cases b;rw [a.int];exact .inr ⟨_,rfl,k _ H _ q (Gr.refl _) (.int _)⟩
 .exact q.elim
noncomputable def Kq(K:b_):List V->Hp->VK->Prop:=λxs H Q=>∃(p:Addr) (ns:Λ),xs=[.ref p]/\SqL K H p (ns.map V.int)/\0<ns.length/\∀m:Int,m∈ns->(∀a∈ns,a<=m)->Q (.int m) H
def HS(K:b_)(e:X.K=K)(hc:X.calm=η):bD X (.builtin "max") (Kq K):=by
 subst e;intro pins s σ H xs us Q I r h;obtain⟨p,ns,rfl,hS,hne,q⟩:=h;obtain⟨u,rfl,ru⟩:=d0 r;cases (show u=vx p from ru);obtain⟨its,rv,pl,hz⟩:=I.list hS;have hi:=bQ rv;have hl:=pl.isList;obtain⟨ys,e⟩:=hi.allInts.items;have hns:ns=ys.toList.map (·.1):=by rw [<- hi.numsOf,<- Ov,<- e]
 have hsz:0<ys.size:=by
  have h3:=hne;rw [hns,cy,C0] at h3;exact h3
 rw [e] at hl;refine max_intList (by exact I.ok.hd hc) hl hsz λv h' tk hv hk=>?_;obtain⟨t,rfl⟩:=OM hv;obtain⟨h1,h2⟩:=argBest_gt (numAt ys) (ys.size - 1)
 refine⟨.int _,H,I.kept (t':=tk) hk,⟨t,rfl⟩,q _ ?_ λa ha=>?_⟩
 .rw [hns,O5];exact getD_mem (by rw [cy,C0];omega)
 .rw [hns] at ha;obtain⟨j,hj,rfl⟩:=mem_getD ha;rw [cy,C0] at hj;rw [<- O5];exact h2 j ⋯
noncomputable def HU(K:b_):List V->Hp->VK->Prop:=λxs H Q=>∃(p:Addr) (ns:Λ),xs=[.ref p]/\SqL K H p (ns.map V.int)/\ns.length<64/\∀ns':Λ,ns'.Perm ns->ns'.Pairwise (·<=·)->∀q,H q=ω->Q (.ref q) (upd H q (.lst (ns'.map V.int)))
def ES(K:b_)(e:X.K=K):bD X (.builtin "sorted") (HU K):=by
 subst e;intro pins s σ H xs us Q I r h;obtain⟨p,ns,rfl,hS,hne,q⟩:=h;obtain⟨u,rfl,ru⟩:=d0 r;cases (show u=vx p from ru);obtain⟨its,rv,pl,hz⟩:=I.list hS;have hi:=bQ rv;have hlen:its.length=ns.length:=by have:=rv.length;rw [cy] at this;exact this.symm
 refine sorted_ints pl.isList hi ⋯ λout ns' ho hp hs=>?_;obtain⟨e,he⟩:=sortedAll_at s.heap its out;have hle:s⁻¹<=s⁻¹+1:=le_succ _;refine⟨.ref (s⁻¹+1),_,I.laid (a:=s⁻¹+1) (o:=.lst (ns'.map V.int)) (t':=s.toks) (λb o z=>sortedAll_old z) hle ?_,rfl,q ns' hp hs _ (I.hok.fresh hle)⟩;refine⟨?_,out.toList,e,jw ho,he⟩;rw [cy,hp.length_eq]
 exact sz _ ⋯
noncomputable def C7(i:Nat)(pe:PTE):PTE:=λρ Q=>match ρ[i]? with
 | some (ψ (.own _))=>pe ρ λp ρ1=>(match ρ1[i]?,p with
  | some (ψ (.own ds)),.dat (.int j)=>∃k d,(ixN ds.length j=ψ k/\ds.length<=1000000)/\ds[k]?=ψ d/\Q (.dat d) (ρ1.set i (ψ (.own (ds.eraseIdx k))))
  | _,_=>False)
 | _=>False
theorem FVs.eraseIdx:∀{xs:List V}{ds:List D} (k:Nat),FVs K O H xs ds->FVs K O H (xs.eraseIdx k) (ds.eraseIdx k)
 | _,_,_,.nil=>.nil
 | _,_,0,.cons a b=>b
 | _,_,k+1,.cons a b=>.cons a (FVs.eraseIdx k b)
variable {te:TE}{i:Nat}
def BQ(h:LE K te pe):LE K (tBM K "list" CT (aS i) (aL te dz)) (C7 i pe):=λA ρ σ H Q Q' R q k=>by
 unfold C7 at q
 split at q
 .rename_i ds0 e0;obtain⟨a0,xs0,s0,g0,f0⟩:=R.ownAt e0;refine⟨_,s0,.inl ⟨rfl,xs0,SqL.of g0⟩,h A ρ σ H _ _ R q λv H1 p ρ1 q1 f1 o1=>?_⟩;obtain⟨R1,fv⟩:=o1.frz
  split at q1
  .rename_i ds j e1;obtain⟨a,xs,s,g,f⟩:=R1.ownAt e1;rw [s0] at s;cases s;obtain⟨m,d,⟨hm,hl⟩,hd,q1⟩:=q1;obtain⟨w,hw,fw⟩:=f.getD hd;cases (show FV K _ H1 v (.int j) from fv);obtain⟨t1,t2,t3,t4⟩:=tz hm;obtain⟨R2,f2⟩:=R1.lstw (es:=ds.eraseIdx m) (ys:=xs.eraseIdx m) e1 s0 (f.eraseIdx m);have hx:xs.length=ds.length:=f.length;exact⟨a0,xs,j,m,w,rfl,rfl,g,by omega,by omega,by rw [hx];exact t1,hw,k _ _ _ _ q1 (f1.trans f2) ⟨R2,(fw.keeps f2.keeps)⟩⟩
  .exact q1.elim
 .exact q.elim
abbrev lc2(elt t1 i1:Expr)(f1:List Expr)(t2 i2:Expr)(f2:List Expr)(scope:Scope)(pos:Pos):Expr:=.ListComp elt [⟨t1,i1,f1,0⟩,⟨t2,i2,f2,0⟩] scope pos
noncomputable def xj(e i2:Expr)(acc:Value)(env:Env):Sem Unit:=do
 let x <- eval i2 env
 standAt i2.pos
 let x <- foldedSetIterable i2 env x
 let _ <- runOwn (.compStart e 1 (<- holding [x] (pyIter x)) acc env) env
noncomputable def zi(elt:Expr)(acc:Value)(env:Env):Sem Unit:=do let _ <- call (.builtin "list.append") [acc,<- eval elt env]
theorem xk(elt t1 i1:Expr)(f1:List Expr)(t2 i2:Expr)(f2:List Expr)(scope:Scope)(pos:Pos)(it acc:Value)(env:Env):
  compTurn (lc2 elt t1 i1 f1 t2 i2 f2 scope pos) 0 it acc env=(do
   standAt i1.pos
   match <- pyNext it with
   | none=>pure (.done .next)
   | some v =>
    letOwnedTupleGo t1 it v
    assign t1 env v
    let mut ok:=η
    for c in f1 do
     if ok then ok <- isTrue c env (eval c env)
    if ok then
     let x <- eval i2 env
     standAt i2.pos
     let x <- foldedSetIterable i2 env x
     let _ <- runOwn (.compStart (lc2 elt t1 i1 f1 t2 i2 f2 scope pos) 1 (<- holding [x] (pyIter x)) acc env) env
    again (.compLoop (lc2 elt t1 i1 f1 t2 i2 f2 scope pos) 0 it acc env)):=by rfl
variable {α:Type}
def xl(e i2:Expr)(acc:Value)(env:Env)(k:Sem α):(eval i2 env >>= λx=>standAt i2.pos >>= λ_=>foldedSetIterable i2 env x >>= λx=>holding [x] (pyIter x) >>= λit=>runOwn (.compStart e 1 it acc env) env >>= λ_=>k)=(xj e i2 acc env >>= λ_=>k):=by
 unfold xj;simp only [bind_assoc,pure_bind]
theorem xn(elt t1 i1:Expr)(f1:List Expr)(t2 i2:Expr)(f2:List Expr)(scope:Scope)(pos:Pos)(it acc:Value)(env:Env):
  compTurn (lc2 elt t1 i1 f1 t2 i2 f2 scope pos) 1 it acc env=(do
   standAt i2.pos
   match <- pyNext it with
   | none=>pure (.done .next)
   | some v =>
    letOwnedTupleGo t2 it v
    assign t2 env v
    let mut ok:=η
    for c in f2 do
     if ok then ok <- isTrue c env (eval c env)
    if ok then
     (zi elt acc env)
    again (.compLoop (lc2 elt t1 i1 f1 t2 i2 f2 scope pos) 1 it acc env)):=by rfl
variable {prog:v_}{w:World}{A:G_}{R:Result->d_->Prop}{s:d_}{scope:Scope}{pos:Pos}{env:Env}
theorem nO{elt t1 i1 t2 i2:Expr}{f1 f2:List Expr}{it acc:Value}(I:Nat->d_->Prop)(turn:∀n s,I n s->wpAny (model prog w) A (pyNext it) (λr s₁=>match r with
   | none=>R (.ok .next) s₁
   | some v=>wpAny (model prog w) A (letOwnedTupleGo t1 it v) (λ_ s₂=>wpAny (model prog w) A (assign t1 env v) (λ_ s₃ =>
     wpAny (model prog w) A (forIn f1 η λc r=>if r=η then do let ok <- isTrue c env (eval c env);pure (MS ok) else pure (MS r)) (λok s₄ =>
      if ok=η then wpAny (model prog w) A (xj (lc2 elt t1 i1 f1 t2 i2 f2 scope pos) i2 acc env) (λ_ s₆=>∃m,m<n/\I m s₆) (λ_ _=>False) s₄
      else ∃m,m<n/\I m s₄) (λ_ _=>False) s₃) (λ_ _=>False) s₂) (λ_ _=>False) s₁) (λ_ _=>False) s)(n:Nat)(h:I n s):
  codeAny (model prog w) A (.compLoop (lc2 elt t1 i1 f1 t2 i2 f2 scope pos) 0 it acc env) R s:=by
 refine codeAny_loop rfl I (λn s hI=>?_) n h;show wpAny _ A ((compTurn (lc2 elt t1 i1 f1 t2 i2 f2 scope pos) 0 it acc env).onRaise (λx=>do noteFrame x env;theTreesLotGoes x)) _ _ s;refine wpAny_noted ?_;rw [xk];refine cn (Nj (cn (Ml (turn n s hI) (λr s₁ h₁=>?_) λ_ _ h'=>h'.elim)))
 cases r with
 | none=>exact gV h₁
 | some v =>
  refine cn (Ml h₁ (λ_ s₂ h₂=>?_) λ_ _ h'=>h'.elim);refine cn (Ml h₂ (λ_ s₃ h₃=>cn (Ml h₃ (λok s₄ h₄=>?_) λ_ _ h'=>h'.elim)) λ_ _ h'=>h'.elim)
  cases ok with
  | false=>exact gV ⟨rfl,h₄⟩
  | true =>
   have e:=xl (lc2 elt t1 i1 f1 t2 i2 f2 scope pos) i2 acc env (again (.compLoop (lc2 elt t1 i1 f1 t2 i2 f2 scope pos) 0 it acc env));show wpAny _ _ (eval i2 env >>= λx=>standAt i2.pos >>= λ_=>foldedSetIterable i2 env x >>= λx=>holding [x] (pyIter x) >>= λit'=>runOwn (.compStart (lc2 elt t1 i1 f1 t2 i2 f2 scope pos) 1 it' acc env) env >>= λ_=>again (.compLoop (lc2 elt t1 i1 f1 t2 i2 f2 scope pos) 0 it acc env)) _ _ _
   rw [e];exact cn (Ml h₄ (λ_ s₆ h₆=>gV ⟨rfl,h₆⟩) λ_ _ h'=>h'.elim)
theorem nP{elt t1 i1 t2 i2:Expr}{f1 f2:List Expr}{it acc:Value}(I:Nat->d_->Prop)(turn:∀n s,I n s->wpAny (model prog w) A (pyNext it) (λr s₁=>match r with
   | none=>R (.ok .next) s₁
   | some v=>wpAny (model prog w) A (letOwnedTupleGo t2 it v) (λ_ s₂=>wpAny (model prog w) A (assign t2 env v) (λ_ s₃ =>
     wpAny (model prog w) A (forIn f2 η λc r=>if r=η then do let ok <- isTrue c env (eval c env);pure (MS ok) else pure (MS r)) (λok s₄ =>
      if ok=η then wpAny (model prog w) A (zi elt acc env) (λ_ s₆=>∃m,m<n/\I m s₆) (λ_ _=>False) s₄
      else ∃m,m<n/\I m s₄) (λ_ _=>False) s₃) (λ_ _=>False) s₂) (λ_ _=>False) s₁) (λ_ _=>False) s)(n:Nat)(h:I n s):
  codeAny (model prog w) A (.compLoop (lc2 elt t1 i1 f1 t2 i2 f2 scope pos) 1 it acc env) R s:=by
 refine codeAny_loop rfl I (λn s hI=>?_) n h;show wpAny _ A ((compTurn (lc2 elt t1 i1 f1 t2 i2 f2 scope pos) 1 it acc env).onRaise (λx=>do noteFrame x env;theTreesLotGoes x)) _ _ s;refine wpAny_noted ?_;rw [xn];refine cn (Nj (cn (Ml (turn n s hI) (λr s₁ h₁=>?_) λ_ _ h'=>h'.elim)))
 cases r with
 | none=>exact gV h₁
 | some v =>
  refine cn (Ml h₁ (λ_ s₂ h₂=>?_) λ_ _ h'=>h'.elim);refine cn (Ml h₂ (λ_ s₃ h₃=>cn (Ml h₃ (λok s₄ h₄=>?_) λ_ _ h'=>h'.elim)) λ_ _ h'=>h'.elim)
  cases ok with
  | false=>exact gV ⟨rfl,h₄⟩
  | true=>exact cn (Ml h₄ (λ_ s₆ h₆=>gV ⟨rfl,h₆⟩) λ_ _ h'=>h'.elim)
def jJ{elt t1 i1 t2 i2:Expr}{f1 f2:List Expr}{it acc:Value}(h0:codeAny (model prog w) A (.compLoop (lc2 elt t1 i1 f1 t2 i2 f2 scope pos) 1 it acc env) R s)(h:wpAny (model prog w) A (pyIter it) (λit' s'=>codeAny (model prog w) A (.compLoop (lc2 elt t1 i1 f1 t2 i2 f2 scope pos) 1 it' acc env) R s')
   (notedBy (model prog w) A env λx s'=>R (.error x) s') s):
  codeAny (model prog w) A (.compStart (lc2 elt t1 i1 f1 t2 i2 f2 scope pos) 1 it acc env) R s:=by
 refine QF ?_;show wpAny _ _ ((compStart (lc2 elt t1 i1 f1 t2 i2 f2 scope pos) 1 it acc env).onRaise (λx=>do noteFrame x env;standAt theWindowsPlace)) _ _ s;refine wpAny_notedAt ?_;unfold compStart;show wpAny _ _ (ask >>= _) _ _ s;refine cn (wpAny_askSetting (wpAny_ite ?_))
 split
 .first
   | exact cn (gV (gV (FX rfl h0)))
   | exact gV (FX rfl h0)
 .first
   | exact cn (Pe (cn (Nj (cn (Ml h (λit' s' h'=>gV (FX rfl h')) λ_ _ x=>x)))))
abbrev TB:=St->Hp->(St->Hp->Prop)->Prop
noncomputable def PB(Y:Cx)(emit:Sem Unit)(tb:TB):Prop:=∀(pins:List (Addr×Obj)) (s:d_) (τ:St) (H:Hp) (N:St->Hp->Prop),Inv Y pins τ H s->tb τ H N ->
 wpAny (model Y.prog Y.w) Y.A emit (λ_ s'=>∃τ' H',Inv Y pins τ' H' s'/\N τ' H') (λ_ _=>False) s
noncomputable def ET(te:TE)(D:Addr):TB:=λτ H N=>te τ H λv H6=>∃ys,H6 D=ψ (.lst ys)/\ys.length<sizeLine/\N τ (upd H6 D (.lst (ys++[v])))
noncomputable def EU(wi:TI)(g:TG)(tts:TT)(tb:TB):TB:=λτ H N=>wi τ H λJ H6=>∃W:Nat->Nat->St->Hp->Prop,(∃n,W 0 n τ H6)/\∀j n τ3 H7,W j n τ3 H7 ->
 (J.stop j H7/\N τ3 H7)\/(J.go j H7/\∀y H8,J.yld j H7 y H8->g y τ3 H8 λτ4 H9=>tts τ4 H9 λok H10=>if ok=η then tb τ4 H10 (λτ5 H11=>∃n',n'<n/\W (j+1) n' τ5 H11) else ∃n',n'<n/\W (j+1) n' τ4 H10)
noncomputable def zj(ix:List (Option Nat))(wi:TI)(g:TG)(tts:TT)(tb:Addr->TB):TE:=λσ H Q=>wi σ H λJ H1=>∀D,H1 D=ω->∃W:Nat->Nat->St->Hp->Prop,(∃m,W 0 m (qZ ix σ) (upd H1 D (.lst [])))/\∀i m τ H2,W i m τ H2 ->
 (J.stop i H2/\Q (.ref D) H2)\/(J.go i H2/\∀x H3,J.yld i H2 x H3->g x τ H3 λτ2 H4=>tts τ2 H4 λok H5=>if ok=η then tb D τ2 H5 (λτ6 H6=>∃m',m'<m/\W (i+1) m' τ6 H6)
  else ∃m',m'<m/\W (i+1) m' τ2 H5)
section
variable {Y:Cx}{elt:Expr}{D:Addr}
def EV(hx:Y.xe=λ_ _=>False)(he:PE Y elt te):PB Y (zi elt (.ref D) Y.env) (ET te D):=by
 intro pins s τ H N I h;have h1:=he pins s τ H _ I h;rw [hx] at h1;unfold zi;refine cn (thn h1 λv s1 ⟨x,H1,I1,r1,ys,hD,hz,q⟩=>?_);have h2:=dh (X:=Y) pins s1 τ H1 (.ref D) [x] (.ref D) [v] (λ_ H'=>N τ H') I1 rfl (.cons r1 .nil) ⟨D,ys,x,rfl,rfl,hD,hz,q⟩;rw [hx] at h2;exact cn (thn h2 λ_ s2 ⟨_,H2,I2,_,q2⟩=>gV ⟨τ,H2,I2,q2⟩)
variable {t1 i1 t2 i2:Expr}{f1 f2:List Expr}{wi:TI}{g:TG}{tts:TT}{tb:TB}
def EW(hx:Y.xe=λ_ _=>False)(hc:Y.calm=η)(hi:PI Y t2 i2 wi)(hg:PG Y t2 g)(ht:PIf Y f2 tts)(hb:PB Y (zi elt (.ref D) Y.env) tb)(hs:∀x,foldedSetIterable i2 Y.env x=pure x:=by intro _;rfl):
  PB Y (xj (lc2 elt t1 i1 f1 t2 i2 f2 scope pos) i2 (.ref D) Y.env) (EU wi g tts tb):=by
 intro pins s τ H N I h;have h1:=hi pins s τ H _ I h;rw [hx] at h1;unfold xj;refine cn (thn h1 λv s1 h1=>cn (Nj (cn (Oa (hs v) (cn (Mw (thn h1 λitv s2 h2=>cn (wpAny_runOwn ?_))))))));obtain⟨it,fp,tn,J,H2,e,I2,T,st2,f2',W,⟨m0,w0⟩,turn⟩:=h2;subst e;have stat:∀{H':Hp},(∀b∈fp,H' b=ω)->∀b∈fp,tw Y pins H' b:=λhn b hb=>⟨hn b hb,(f2' b hb).2⟩
 have loop:∀s3:d_,Inv Y pins τ H2 s3->tn 0 s3.heap->codeAny (model Y.prog Y.w) Y.A (.compLoop (lc2 elt t1 i1 f1 t2 i2 f2 scope pos) 1 (.ref it) (.ref D) Y.env)
   (λr s'=>match r with|.ok f=>wpAny (model Y.prog Y.w) Y.A (pure ()) (λ_ s'=>∃τ' H',Inv Y pins τ' H' s'/\N τ' H') (λ_ _=>False) s'|.error e=>cameBackBy (model Y.prog Y.w) Y.A Y.env (λ_ _=>False) e s') s3:=by
  intro s3 I3 st3;refine nP (λn s'=>∃i τ' H',Inv Y pins τ' H' s'/\tn i s'.heap/\(∀b∈fp,H' b=ω)/\W i n τ' H') ?_ m0 ⟨0,τ,H2,I3,st3,λb hb=>(f2' b hb).1,w0⟩;rintro n s5 ⟨i,τ5,H5,I5,st5,fr5,w5⟩
  rcases turn i n τ5 H5 w5 with ⟨stop,qn⟩|⟨go,step⟩
  .refine thn (T.done Y rfl rfl rfl hc i pins s5 τ5 H5 (λ_ _=>False) I5 (stat fr5) st5 stop) λr s6 ⟨hr,I6⟩=>?_;subst hr;exact gV ⟨τ5,H5,I6,qn⟩
  .refine thn (T.item Y rfl rfl rfl hc i pins s5 τ5 H5 (λ_ _=>False) I5 (stat fr5) st5 go) λr s6 ⟨u,hr,h6⟩=>?_;subst hr;refine thn h6 λ_ s7 ⟨x,H7,I7,r7,y7,st7,fr7⟩=>?_;have I7':=I7.pinned (stat fr7) (T.obj _ _ st7)
   have again:∀{s8:d_}{τ8:St}{H8:Hp},Inv Y (pins++lB fp s7.heap) τ8 H8 s8->(∃m',m'<n/\W (i+1) m' τ8 H8) ->
     ∃m,m<n/\∃i τ' H',Inv Y pins τ' H' s8/\tn i s8.heap/\(∀b∈fp,H' b=ω)/\W i m τ' H':=λ{s8 τ8 H8} I8 ⟨m',hm,w8⟩=>by
    refine⟨m',hm,i+1,τ8,H8,I8.unpinned,T.keep _ _ _ st7 λb hb o e=>(I8.pin (b,o) (r_ _ (r_ _ (c7 hb e)))).1,λb hb=>?_,w8⟩;obtain⟨o,e,d⟩:=T.obj _ _ st7 b hb;exact (I8.pin (b,o) (r_ _ (r_ _ (c7 hb e)))).2.1
   have h8:=hg _ s7 τ5 H7 x u _ I7' r7 (step x H7 y7);rw [hx] at h8;refine thn h8 λ_ s8 ⟨τ8,H8,I8,q8⟩=>?_;have h9:=ht _ s8 τ8 H8 _ I8 q8;rw [hx] at h9;refine thn h9 λokb s9 ⟨H9,I9,q9⟩=>?_
   cases okb with
   | false =>
    rw [if_neg l_] at q9;rw [if_neg l_];exact again I9 q9
   | true =>
    rw [if_pos rfl] at q9;rw [if_pos rfl];exact thn (hb _ s9 τ8 H9 _ I9 q9) λ_ s10 ⟨τ10,H10,I10,q10⟩=>again I10 q10
 exact jJ (loop _ I2 st2) (T.self Y.A 0 _ _ _ st2 (loop _ I2 st2))
end
variable {elt t1 i1 t2 i2:Expr}{f1 f2:List Expr}{N':List Str}{wi:TI}{g:TG}{tts:TT}{tb:Addr->TB}{pins:List (Addr×Obj)}{σ:St}
def xo{use:Option (Value->Sem Unit)}{Qf:Value->d_->Prop}{p':Pos}{Q:VK}(hc:X.calm=η)(ok:vk X.env X.N scope N' ix)(hi:PI X t1 i1 wi)(blk:∀s H fp pn D,PG (bf X N' scope s H fp pn) t1 g/\PIf (bf X N' scope s H fp pn) f1 tts/\PB (bf X N' scope s H fp pn) (xj (lc2 elt t1 i1 f1 t2 i2 f2 scope pos) i2 (.ref D) (pT scope s⁻¹ X.env)) (tb D))(hs:∀x,foldedSetIterable i1 X.env x=pure x)(I:Inv X pins σ H s)(hw:zj ix wi g tts tb σ H Q)(fin:∀D C H' s',Inv X pins σ H' s'->Q (.ref D) H'->(∃m,s'.heap.Ns C m)->H' C=ω->X.s₀.heap.objs.size<=C->C≠X.env.locals->(∀x c,X.env.cells.lookup x=ψ c->c≠C)->C∉X.fs->(∀p∈X.pn++pins,p.1≠C) ->
   compPost (model X.prog X.w) X.A X.xe use Qf (.ref D) C (.ok .next) s'):
  wpAny (model X.prog X.w) X.A (comprehension (lc2 elt t1 i1 f1 t2 i2 f2 scope pos) scope X.env p' (newList []) ξ (eval i1 X.env) use) Qf X.xe s:=by
 have hclos:closureFor scope X.env=pure (iT X.env scope.names []):=gC λy hy e=>I.ok.has y.1 (ok.free y hy e).1;refine wpAny_comprehension_free (use:=use) rfl hs hclos ok.kind ok.loc (thn (hi pins s σ H _ I hw) λv s1 h1=>thn h1 λitv s2 h2=>?_);obtain⟨it,fp,tn,J,H2,e,I2,T,st2,fq2,hW⟩:=h2;subst e;obtain⟨W,⟨m0,w0⟩,turn⟩:=hW s2⁻¹ (I2.hok.fresh (f_ _))
 have hfl:∀b∈fp,b<s2⁻¹:=λb hb=>by
  obtain⟨o,e,_⟩:=T.obj 0 _ st2 b hb;exact m_ e
 refine MD ?_
 have I3:Inv X pins σ (upd H2 s2⁻¹ (.lst [])) { s2 with heap:=s2.heap.push { cls:=.type "list",dict:=ω,data:=.seq ([]:Ξ).toArray } } :=
  I2.laid (t':=s2.toks) (λb o e=>c_ _ e) (f_ _) (show bN X.prog X.w _ _ _ (.lst []) from ⟨NJ _,[],0,.nil,i_ _ rfl⟩)
 have st3:tn 0 (s2.heap.push { cls:=.type "list",dict:=ω,data:=.seq ([]:Ξ).toArray }):=T.keep 0 _ _ st2 λb _ o e=>c_ _ e;have f3:∀b∈fp,tw X pins (upd H2 s2⁻¹ (.lst [])) b:=λb hb=>⟨by rw [ax (Mh (hfl b hb))];exact (fq2 b hb).1,(fq2 b hb).2⟩
 have hfl3:∀b∈fp,b<(s2.heap.push { cls:=.type "list",dict:=ω,data:=.seq ([]:Ξ).toArray }).objs.size:=λb hb=>by rw [Mi];exact NH (hfl b hb)
 generalize hs3:({ s2 with heap:=s2.heap.push { cls:=.type "list",dict:=ω,data:=.seq ([]:Ξ).toArray } }:d_)=s3 at I3 ⊢;have eh3:s3.heap=s2.heap.push { cls:=.type "list",dict:=ω,data:=.seq ([]:Ξ).toArray }:=by rw [<- hs3]
 rw [<- eh3] at st3 hfl3;generalize hH3:upd H2 s2⁻¹ (.lst [])=H3 at I3 f3 w0;generalize hD:s2⁻¹=D at *;refine eA ?_;have I4:=vn ok I3 f3 hfl3;obtain⟨hg,ht,he⟩:=blk s3 H3 fp pins D;have st4:tn 0 (pushCells (s3.heap.push { cls:=.type "dict",data:=.dict #[] }) scope.names):=T.keep 0 _ _ st3 λb _ o e=>Pn _ _ b o (c_ _ e)
 have stat:∀{H':Hp},(∀b∈fp,H' b=ω)->∀b∈fp,tw (bf X N' scope s3 H3 fp pins) [] H' b:=λhn b hb=>by
  refine⟨hn b hb,Mh (hfl3 b hb),I4.ok.exfs b hb,.inl hb,(I4.ok.exf b hb).2,λp hp=>?_⟩;have hp':p∈X.pn++pins:=by simpa [bf] using hp
  exact (fq2 b hb).2.2.2.2.2 p hp'
 have loop:∀(s4:d_),Inv (bf X N' scope s3 H3 fp pins) [] (qZ ix σ) H3 s4->tn 0 s4.heap ->
   codeAny (model X.prog X.w) X.A (.compLoop (lc2 elt t1 i1 f1 t2 i2 f2 scope pos) 0 (.ref it) (.ref D) (pT scope s3⁻¹ X.env)) (compPost (model X.prog X.w) X.A X.xe use Qf (.ref D) s3⁻¹) s4:=by
  intro s4 I4 st4;refine nO (λn s'=>∃i τ H',Inv (bf X N' scope s3 H3 fp pins) [] τ H' s'/\tn i s'.heap/\(∀b∈fp,H' b=ω)/\W i n τ H') ?_ m0 ⟨0,_,H3,I4,st4,λb hb=>(f3 b hb).1,w0⟩;rintro n s5 ⟨i,τ,H5,I5,st5,fr5,w5⟩
  rcases turn i n τ H5 w5 with ⟨stop,qn⟩|⟨go,step⟩
  .refine thn (T.done (bf X N' scope s3 H3 fp pins) rfl rfl rfl hc i [] s5 τ H5 (λ_ _=>False) I5 (stat fr5) st5 stop) λr s6 ⟨hr,I6⟩=>?_;subst hr;have I7:Inv X pins σ H5 s6:=I3.call' (ch:=fp) I6.os I6.base I6.hok I6.bare λb hb=>⟨(fq2 b hb).2.2.2.1,(fq2 b hb).2.1,(fq2 b hb).2.2.2.2.1,(fq2 b hb).2.2.2.2.2⟩
   obtain⟨m6,hn6,_⟩:=I6.loc
   refine fin D s3⁻¹ H5 s6 I7 qn ⟨m6,hn6⟩ I6.free ?_ ?_ ?_ ?_ ?_
   .exact I3.sz
   .exact Oo I3.lt
   .intro x c e z;obtain⟨v,q⟩:=I3.cell x c e;have:=q.lt;rw [z] at this;exact Md _ this
   .exact I3.nofs (f_ _)
   .intro p hp z;have:=m_ (I3.pin p hp).1;rw [z] at this;exact Md _ this
  .refine thn (T.item (bf X N' scope s3 H3 fp pins) rfl rfl rfl hc i [] s5 τ H5 (λ_ _=>False) I5 (stat fr5) st5 go) λr s6 ⟨u,hr,h6⟩=>?_;subst hr;refine thn h6 λ_ s7 ⟨x,H7,I7,r7,y7,st7,fr7⟩=>?_;have I7':=I7.pinned (stat fr7) (T.obj _ _ st7)
   have again:∀{s8:d_}{τ8:St}{H8:Hp},Inv (bf X N' scope s3 H3 fp pins) ([]++lB fp s7.heap) τ8 H8 s8->(∃m',m'<n/\W (i+1) m' τ8 H8) ->
     ∃m,m<n/\∃i τ H',Inv (bf X N' scope s3 H3 fp pins) [] τ H' s8/\tn i s8.heap/\(∀b∈fp,H' b=ω)/\W i m τ H':=λ{s8 τ8 H8} I8 ⟨m',hm,w8⟩=>by
    refine⟨m',hm,i+1,τ8,H8,I8.unpinned,T.keep _ _ _ st7 λb hb o e=>(I8.pin (b,o) (r_ _ (r_ _ (c7 hb e)))).1,λb hb=>?_,w8⟩;obtain⟨o,e,d⟩:=T.obj _ _ st7 b hb;exact (I8.pin (b,o) (r_ _ (r_ _ (c7 hb e)))).2.1
   refine thn (hg _ s7 τ H7 x u _ I7' r7 (step x H7 y7)) λ_ s8 ⟨τ8,H8,I8,q8⟩=>?_;refine thn (ht _ s8 τ8 H8 _ I8 q8) λokb s9 ⟨H9,I9,q9⟩=>?_
   cases okb with
   | false =>
    rw [if_neg l_] at q9;rw [if_neg l_];exact again I9 q9
   | true =>
    rw [if_pos rfl] at q9;rw [if_pos rfl];refine thn (he _ s9 τ8 H9 _ I9 q9) λ_ s10 ⟨τ10,H10,I10,q10⟩=>?_;exact again I10 q10
 exact codeAny_compStart_list (loop _ I4 st4) (T.self X.A 0 _ _ _ st4 (loop _ I4 st4))
def vI{wi2:TI}{g2:TG}{tts2:TT}(N':List Str)(ix:List (Option Nat))(hc:X.calm=η)(hi:PI X t1 i1 wi)(blk:∀s H fp pn,PG (bf X N' scope s H fp pn) t1 g/\PIf (bf X N' scope s H fp pn) f1 tts/\PI (bf X N' scope s H fp pn) t2 i2 wi2/\PG (bf X N' scope s H fp pn) t2 g2/\PIf (bf X N' scope s H fp pn) f2 tts2/\PE (bf X N' scope s H fp pn) elt te)(chk:lN X.env.scope X.N scope N' ix=η)(hs:∀x,foldedSetIterable i1 X.env x=pure x:=by intro _;rfl)(hs2:∀(env:Env) x,foldedSetIterable i2 env x=pure x:=by intro _ _;rfl):
  PE X (.ListComp elt [⟨t1,i1,f1,0⟩,⟨t2,i2,f2,0⟩] scope pos) (zj ix wi g tts λD=>EU wi2 g2 tts2 (ET te D)):=by
 intro pins s σ H Q I hw;rw [eval_ListComp]
 refine xo (use:=ω) hc (lO chk) hi (λs H fp pn D=>?_) hs I hw λD C H' s' I' q hm hn h1 h2 h3 h4 h5=>?_
 .obtain⟨b1,b2,b3,b4,b5,b6⟩:=blk s H fp pn;exact⟨b1,b2,EW (Y:=bf X N' scope s H fp pn) rfl hc b3 b4 b5 (EV rfl b6) (hs2 _)⟩
 .obtain⟨m,hm⟩:=hm;refine⟨m,hm,λh' sb=>⟨.ref D,H',?_,rfl,q⟩⟩;exact I'.turned (t':=s'.toks) (λb o hb e=>(sb.2 b hb).trans e) hn h2 (.inr h1) h3 h5
variable {H1:Hp}
def kpt{O1 O2:Ψ}{H2:Hp}(a:aG O H O1 H1)(b:aG O1 H1 O2 H2):aG O H O2 H2:=λc o n e=>b c o (a c o n e).1 (a c o n e).2
structure HV (ix:List (Option Nat)) (ρ1:PSt) (n:Nat) (it:Nat->D) (g:PTG) (pt:PTT) (pi2:PTI) (g2:PTG) (pt2:PTT) (pe:PTE) (Q:PKt):Prop where
 ex:∃I:Nat->List D->PSt->Prop,I 0 [] (bx ix ρ1) /\
  (∀k ys τ d,k<n->d=it k->I k ys τ->g (.dat d) τ λτ2=>pt τ2 λok τ3=>iY ok (pi2 τ3 λn2 it2 τ4=>∃I2:Nat->List D->PSt->Prop,I2 0 ys τ4 /\
   (∀j zs τ d,j<n2->d=it2 j->I2 j zs τ->g2 (.dat d) τ λτ5=>pt2 τ5 λok τ6=>iY ok (pe τ6 λp τ7=>zs.length<1000000/\I2 (j+1) (zs++[p.d]) τ7) (I2 (j+1) zs τ6))/\∀zs τ,I2 n2 zs τ->I (k+1) zs τ) (I (k+1) ys τ3)) /\
  ∀ys τ,I n ys τ->Q (.own ys) (dU ix ρ1 τ)
noncomputable def HW(ix:List (Option Nat))(pi:PTI)(g:PTG)(pt:PTT)(pi2:PTI)(g2:PTG)(pt2:PTT)(pe:PTE):PTE:=λρ Q=>pi ρ λn it ρ1=>Ho ix ρ1=η/\HV ix ρ1 n it g pt pi2 g2 pt2 pe Q
def vJ{wi2:TI}{pi pi2:PTI}{g2:TG}{pg pg2:PTG}{tts2:TT}{pt pt2:PTT}(hix:BH ix=η)(hi:LI K wi pi)(hg:∀fs:Δ,(∀k∈fs,k∈y6 ix)->LGd K fs g pg)(ht:LT K tts pt)(hi2:LI K wi2 pi2)(hg2:∀fs:Δ,(∀k∈fs,k∈y6 ix)->LGd K fs g2 pg2)(ht2:LT K tts2 pt2)(he:LE K te pe):
  LE K (zj ix wi g tts λD=>EU wi2 g2 tts2 (ET te D)) (HW ix pi pg pt pi2 pg2 pt2 pe):=λA ρ σ H Q Q' R q k=>hi A ρ σ H _ _ R q λJ H1 n it ρ1 q1 f1 R1 W D hD=>by
 obtain⟨hcap,⟨I,i0,turn,after⟩⟩:=q1
 let τρ0:=bx ix ρ1
 let τσ0:=qZ ix σ
 let Ai:Addr->Prop:=λb=>A b\/b=D\/(Wr ρ1 σ b/\¬ Wr τρ0 τσ0 b)
 let H0':=upd H1 D (.lst [])
 have wsub:∀b,Wr τρ0 τσ0 b->Wr ρ1 σ b:=λb ⟨m,p,e,o,s⟩=>by
  obtain⟨j,h1,h2⟩:=cP e;obtain⟨v,hv,_⟩:=R1.get j p h2;have:=cU h1 hv;rw [s] at this;cases this;exact⟨j,p,h2,o,hv⟩
 have nD:¬ Wr ρ1 σ D:=λz=>R1.wr z hD
 have oosub:∀b,OO Ai τρ0 τσ0 b->OO A ρ1 σ b\/b=D:=λb z=>by
  rcases z with (z|z|z)|z
  .exact .inl (.inl z)
  .exact .inr z
  .exact .inl (.inr z.1)
  .exact .inl (.inr (wsub b z))
 have kD:aG (OO A ρ1 σ) H1 (OO Ai τρ0 τσ0) H0':=λb o nn e=>by
  refine⟨λz=>?_,?_⟩
  .rcases oosub b z with z|z
   .exact nn z
   .rw [z,hD] at e;cases e
  .rw [show H0' b=H1 b from ax (aR e hD)];exact e
 have Ri:Rel K Ai τρ0 τσ0 H0':=by
  refine⟨by show (bx ix ρ1).length=(qZ ix σ).length;unfold bx qZ;rw [cy,cy],λm p e=>?_,λm l p q v e1 e2 o1 o2 s1 s2=>?_,λb z=>?_,λb z w=>?_⟩
  .obtain⟨j,h1,h2⟩:=cP e;obtain⟨v,hv,r⟩:=R1.get j p h2;refine⟨v,cU h1 hv,r.keeps kD λow a ea=>?_⟩;subst ea;exact ax (λz=>nD (by rw [<- z];exact⟨j,p,h2,ow,hv⟩))
  .obtain⟨j,h1,h2⟩:=cP e1;obtain⟨j',h3,h4⟩:=cP e2;obtain⟨v1,hv1,_⟩:=R1.get j p h2;obtain⟨v2,hv2,_⟩:=R1.get j' q h4;have t1:=cU h1 hv1;have t2:=cU h3 hv2;rw [s1] at t1;rw [s2] at t2;cases t1;cases t2;have:=R1.dj j j' p q _ h2 h4 o1 o2 hv1 hv2;subst this;exact jG hix h1 h3
  .rcases z with z|z|z
   .intro e
    by_cases zz:b=D
    .exact R1.dom b z (by rw [zz];exact hD)
    .rw [show H0' b=H1 b from ax zz] at e;exact R1.dom b z e
   .rw [z];show upd H1 D _ D≠ω;rw [aI];exact nofun
   .intro e;rw [show H0' b=H1 b from ax (λzz=>nD (by rw [<- zz];exact z.1))] at e;exact R1.wr z.1 e
  .rcases z with z|z|z
   .exact R1.sep b z (wsub b w)
   .rw [z] at w;exact nD (wsub D w)
   .exact z.2 w
 let fxi:List (Nat×V):=(y6 ix).filterMap λm=>match (τσ0[m]?) with|some (ψ v)=>ψ (m,v)|_=>ω
 have hfx:∀p∈fxi,τσ0[p.1]?=ψ (ψ p.2):=λp hp=>by
  obtain⟨m,hm,e⟩:=ND.mp hp
  split at e
  .rename_i v ev;cases e;exact ev
  .cases e
 have hfs:∀m∈fxi.map y_,m∈y6 ix:=λm hm=>by
  obtain⟨p,hp,rfl⟩:=Mp.mp hm;obtain⟨m',hm',e⟩:=ND.mp hp
  split at e
  .cases e;exact hm'
  .cases e
 have hgi:=hg (fxi.map y_) hfs;have hgi2:=hg2 (fxi.map y_) hfs
 have fxget:∀(m j:Nat) (v:V),ix[m]?=ψ (ψ j)->σ[j]?=ψ (ψ v)->(m,v)∈fxi:=λm j v h1 h2=>by
  refine ND.mpr ⟨m,?_,?_⟩
  .unfold y6;refine Mq.mpr ⟨L_.mpr (k_.mp h1).1,?_⟩;rw [e_,h1];rfl
  .show (match (qZ ix σ)[m]? with|some (ψ v)=>ψ (m,v)|_=>ω)=_;rw [cU h1 h2]
 let Rr:Addr->Prop:=λb=>Wr τρ0 τσ0 b\/b=D
 have hRr:∀b,Rr b->OO Ai τρ0 τσ0 b:=λb z=>z.elim (λz=>.inr z) (λz=>.inl (.inr (.inl z)));have F0:eC fxi Rr H0' τρ0 τσ0 H0':=⟨λ_ _ _ h=>h,λ_ h=>h,λb w=>.inl (.inl w),hfx⟩
 refine⟨λi m τ H2=>i+m=n/\∃ys τρ xs,I i ys τρ/\Rel K Ai τρ τ H2/\eC fxi Rr H0' τρ τ H2/\H2 D=ψ (.lst xs)/\FVs K (OO Ai τρ τ) H2 xs ys/\∀b,Wr τρ τ b->Wr τρ0 τσ0 b,
  ⟨n,PD n,[],τρ0,[],i0,Ri,F0,aI,.nil,λ_ h=>h⟩,λi m τ H2 ⟨him,ys,τρ,xs,iv,r2,F2,eD,fD,hw⟩=>?_⟩
 have kk:aG (OO A ρ1 σ) H1 (OO Ai τρ τ) H2:=λb o nn e=>(F2.keepsR hRr) b o (kD b o nn e).1 (kD b o nn e).2;obtain⟨go,stop⟩:=W _ H2 kk r2.dom2
 by_cases hk:i<n
 .obtain⟨g1,g2⟩:=go i hk;refine .inr ⟨g1,λx H3 y=>?_⟩;obtain⟨gr,fv⟩:=g2 x H3 y;have AiD:Ai D:=.inr (.inl rfl);refine hgi fxi Ai Rr H0' τρ τ H3 _ x _ _ rfl (F2.fr gr.fr) (r2.gr gr) fv (turn i ys τρ _ hk rfl iv) λτρ2 τ2 q2 r3 F3 w3=>?_;refine ht Ai τρ2 τ2 H3 _ _ r3 q2 λok H5 τρ3 q3 f5 r5=>?_;have F5:=F3.fr f5;have fD5:FVs K (OO Ai τρ3 τ2) H5 xs ys:=((fD.keeps (gr.fr (ρ:=τρ) (σ:=τ)).keeps).keeps (aG.less λb z=>z.imp id (w3 b))).keeps f5.keeps
  have eD5:H5 D=ψ (.lst xs):=f5.kp D _ (r3.sep D AiD) (gr D _ eD)
  cases ok with
  | true =>
   refine hi2 Ai τρ3 τ2 H5 _ _ r5 q3 λJ2 H6 n2 it2 τρ4 q4 f6 r6 W2=>?_;obtain⟨I2,j0,turn2,after2⟩:=q4;have F6:=F5.fr f6;have eD6:H6 D=ψ (.lst xs):=f6.kp D _ (r5.sep D AiD) eD5;have fD6:=fD5.keeps (f6.keeps (A:=Ai));have hw6:∀b,Wr τρ4 τ2 b->Wr τρ0 τσ0 b:=λb z=>hw b (w3 b (f5.ow b (f6.ow b z)))
   refine⟨λj l τ' H'=>j+l=n2/\∃zs τρ' xs',I2 j zs τρ'/\Rel K Ai τρ' τ' H'/\eC fxi Rr H0' τρ' τ' H'/\H' D=ψ (.lst xs')/\FVs K (OO Ai τρ' τ') H' xs' zs/\(∀b,Wr τρ' τ' b->Wr τρ0 τσ0 b)/\aG (OO Ai τρ4 τ2) H6 (OO Ai τρ' τ') H',
    ⟨n2,PD n2,ys,τρ4,xs,j0,r6,F6,eD6,fD6,hw6,λb o n e=>⟨n,e⟩⟩,λj l τ' H7 ⟨hjl,zs,τρ',xs',jv,r7,F7,eD7,fD7,hw7,kk7⟩=>?_⟩
   obtain⟨go2,stop2⟩:=W2 _ H7 kk7 r7.dom2
   by_cases hj:j<n2
   .obtain⟨g1',g2'⟩:=go2 j hj;refine .inr ⟨g1',λy H8 yy=>?_⟩;obtain⟨gr8,fv8⟩:=g2' y H8 yy;refine hgi2 fxi Ai Rr H0' τρ' τ' H8 _ y _ _ rfl (F7.fr gr8.fr) (r7.gr gr8) fv8 (turn2 j zs τρ' _ hj rfl jv) λτρ9 τ9 q9 r9 F9 w9=>?_;refine ht2 Ai τρ9 τ9 H8 _ _ r9 q9 λok2 H10 τρ10 q10 f10 r10=>?_;have F10:=F9.fr f10;have k1:=(gr8.fr (ρ:=τρ') (σ:=τ')).keeps (A:=Ai);have k2:aG (OO Ai τρ' τ') H8 (OO Ai τρ9 τ9) H8:=aG.less λb z=>z.imp id (w9 b)
    have k3:=f10.keeps (A:=Ai);have fD10:FVs K (OO Ai τρ10 τ9) H10 xs' zs:=fD7.keeps (kpt k1 (kpt k2 k3));have eD10:H10 D=ψ (.lst xs'):=f10.kp D _ (r9.sep D AiD) (gr8 D _ eD7)
    cases ok2 with
    | true =>
     refine he Ai τρ10 τ9 H10 _ _ r10 q10 λv H11 p τρ11 q11 f11 o11=>?_;obtain⟨r11,fv11⟩:=o11.frz;have F11:=F10.fr f11;have eD11:H11 D=ψ (.lst xs'):=f11.kp D _ (r10.sep D AiD) eD10;have kw:aG (OO Ai τρ11 τ9) H11 (OO Ai τρ11 τ9) (upd H11 D (.lst (xs'++[v]))):=λb o nn e=>⟨nn,by rw [ax (λz=>nn (by rw [z];exact .inl AiD))];exact e⟩
     refine⟨xs',eD11,?_,l - 1,by omega,by omega,zs++[p.d],τρ11,xs'++[v],q11.2,r11.amb AiD,⟨λb o nn e=>?_,λb z=>?_,F11.ow,F11.fx⟩,aI,((fD10.keeps f11.keeps).append (.cons fv11 .nil)).keeps kw,λb z=>hw7 b (w9 b (f10.ow b (f11.ow b z))),kpt kk7 (kpt k1 (kpt k2 (kpt k3 (kpt f11.keeps kw))))⟩
     .have:xs'.length=zs.length:=fD10.length;have:=q11.1;exact A_ (by omega:xs'.length<1000000) (sz _ (f_ _))
     .rw [ax (λz=>nn (.inr z))];exact F11.kp b o nn e
     .by_cases zz:b=D
      .rw [zz,aI];exact nofun
      .rw [ax zz];exact F11.dm b z
    | false=>exact⟨l - 1,by omega,by omega,zs,τρ10,xs',q10,r10,F10,eD10,fD10,λb z=>hw7 b (w9 b (f10.ow b z)),kpt kk7 (kpt k1 (kpt k2 k3))⟩
   .have e:j=n2:=by omega
    subst e;exact .inl ⟨stop2,m - 1,by omega,by omega,zs,τρ',xs',after2 zs τρ' jv,r7,F7,eD7,fD7,hw7⟩
  | false=>exact⟨m - 1,by omega,by omega,ys,τρ3,xs,q3,r5,F5,eD5,fD5,λb z=>hw b (w3 b (f5.ow b z))⟩
 .have e:i=n:=by omega
  subst e;refine .inl ⟨stop,?_⟩;have q':=after ys τρ iv
  have cap:∀(m j:Nat),ix[m]?=ψ (ψ j)->∃p v,ρ1[j]?=ψ (ψ p)/\σ[j]?=ψ (ψ v)/\τ[m]?=ψ (ψ v):=λm j e=>by
   have h1:=N9.mp hcap _ (Mc e);have h1:(match ρ1[j]? with|some (ψ _)=>η|_=>ξ)=true:=h1
   split at h1
   .rename_i p ep;obtain⟨v,hv,_⟩:=R1.get j p ep;exact⟨p,v,ep,hv,F2.fx _ (fxget m j v e hv)⟩
   .cases h1
  have get':∀(j:Nat) (p:PV),(dU ix ρ1 τρ)[j]?=ψ (ψ p)->(∃m v,ix[m]?=ψ (ψ j)/\σ[j]?=ψ (ψ v)/\τ[m]?=ψ (ψ v)/\τρ[m]?=ψ (ψ p))\/(ψ j∉ix/\ρ1[j]?=ψ (ψ p)):=λj p e=>by
   by_cases hj:ψ j∈ix
   .obtain⟨m,hm,em⟩:=O6 hj;have em':ix[m]?=ψ (ψ j):=by rw [cx hm,em]
    obtain⟨p0,v,h1,h2,h3⟩:=cap m j em';rw [lY ix ρ1 τρ j m hix em' (by rw [r2.len];exact (k_.mp h3).1) (k_.mp h1).1] at e;exact .inl ⟨m,v,em',h2,h3,e⟩
   .rw [il ix ρ1 τρ j hj] at e;exact .inr ⟨hj,e⟩
  have nocap:∀(j:Nat) (p:PV) (b:Addr),ψ j∉ix->ρ1[j]?=ψ (ψ p)->p.isOwn=η->σ[j]?=ψ (ψ (.ref b))->¬ Wr τρ0 τσ0 b:=λj p b hj e o s ⟨m,q,e1,o1,s1⟩=>by
   obtain⟨j',h1,h2⟩:=cP e1;obtain⟨v,hv,_⟩:=R1.get j' q h2;have:=cU h1 hv;rw [s1] at this;cases this;have:=R1.dj j j' p q _ e h2 o o1 s hv;subst this;exact hj (Mc h1)
  have w':∀b,Wr (dU ix ρ1 τρ) σ b->Wr τρ τ b\/(Wr ρ1 σ b/\¬ Wr τρ0 τσ0 b):=λb ⟨j,p,e,o,s⟩=>by
   rcases get' j p e with ⟨m,v,h1,h2,h3,h4⟩|⟨hj,h1⟩
   .rw [s] at h2;cases h2;exact .inl ⟨m,p,h4,o,h3⟩
   .exact .inr ⟨⟨j,p,h1,o,s⟩,nocap j p b hj h1 o s⟩
  have oo':∀b,OO (cZ A D) (dU ix ρ1 τρ) σ b->OO Ai τρ τ b:=λb z=>by
   rcases z with (z|z)|z
   .exact .inl (.inl z)
   .exact .inl (.inr (.inl z))
   .rcases w' b z with z|z
    .exact .inr z
    .exact .inl (.inr (.inr z))
  have kp1:∀b o,¬ Wr τρ0 τσ0 b->b≠D->H1 b=ψ o->H2 b=ψ o:=λb o n1 n2 e=>F2.kp b o (λz=>z.elim n1 n2) (by rw [show H0' b=H1 b from ax n2];exact e);have k1:aG (OO A ρ1 σ) H1 (OO (cZ A D) (dU ix ρ1 τρ) σ) H2:=λb o nn e=>⟨λz=>(kk b o nn e).1 (oo' b z),(kk b o nn e).2⟩
  have AiD:Ai D:=.inr (.inl rfl)
  have R':Rel K (cZ A D) (dU ix ρ1 τρ) σ H2:=by
   refine⟨by rw [jF];exact R1.len,λj p e=>?_,λj l p q v e1 e2 o1 o2 s1 s2=>?_,λb z=>?_,λb z w=>?_⟩
   .rcases get' j p e with ⟨m,v,h1,h2,h3,h4⟩|⟨hj,h1⟩
    .obtain⟨v',hv',r⟩:=r2.get m p h4;rw [h3] at hv';cases hv';exact⟨v,h2,r.keeps (aG.less oo') λ_ _ _=>rfl⟩
    .obtain⟨v,hv,r⟩:=R1.get j p h1;refine⟨v,hv,r.keeps k1 λow a ea=>?_⟩;subst ea;obtain⟨a',u,e1,e2⟩:=r.ref ow;cases e1;rw [e2];exact kp1 a u (nocap j p a hj h1 ow hv) (λz=>by rw [z,hD] at e2;cases e2) e2
   .rcases get' j p e1 with ⟨m,v1,h1,h2,h3,h4⟩|⟨hj,h1⟩
    .rw [s1] at h2;cases h2
     rcases get' l q e2 with ⟨m',v2,g1,g2,g3,g4⟩|⟨hl,g1⟩
     .rw [s2] at g2;cases g2;have:=r2.dj m m' p q _ h4 g4 o1 o2 h3 g3;subst this;rw [h1] at g1;cases g1;rfl
     .exfalso;obtain⟨v',hv',r⟩:=r2.get m p h4;rw [h3] at hv';cases hv';obtain⟨a,u,ea,_⟩:=r.ref o1;subst ea;exact nocap l q a hl g1 o2 s2 (hw a ⟨m,p,h4,o1,h3⟩)
    .rcases get' l q e2 with ⟨m',v2,g1,g2,g3,g4⟩|⟨hl,g1⟩
     .rw [s2] at g2;cases g2;exfalso;obtain⟨v',hv',r⟩:=r2.get m' q g4;rw [g3] at hv';cases hv';obtain⟨a,u,ea,_⟩:=r.ref o2;subst ea;exact nocap j p a hj h1 o1 s1 (hw a ⟨m',q,g4,o2,g3⟩)
     .exact R1.dj j l p q v h1 g1 o1 o2 s1 s2
   .rcases z with z|z
    .exact r2.dom b (.inl z)
    .rw [z,eD];exact nofun
   .rcases w' b w with w|w
    .rcases z with z|z
     .exact r2.sep b (.inl z) w
     .rw [z] at w;exact r2.sep D AiD w
    .rcases z with z|z
     .exact R1.sep b z w.1
     .rw [z] at w;exact nD w.1
  have f2:Fr ρ1 σ H1 (dU ix ρ1 τρ) H2:=by
   refine⟨λb o nn e=>kp1 b o (λz=>nn (wsub b z)) (λz=>by rw [z,hD] at e;cases e) e,λb z=>F2.dm b ?_,λb z=>?_⟩
   .intro e
    by_cases zz:b=D
    .exact z (by rw [zz];exact hD)
    .rw [show H0' b=H1 b from ax zz] at e;exact z e
   .rcases w' b z with z|z
    .exact wsub b (hw b z)
    .exact z.1
  have hD0:H D=none:=by
   cases e:H D with
   | none=>rfl
   | some o=>exact absurd hD (f1.dm D (by rw [e];exact nofun))
  exact k _ H2 (.own ys) _ q' (f1.trans f2) ⟨D,xs,rfl,λz=>R1.dom D z hD,hD0,eD,R',fD.keeps (aG.less oo')⟩
noncomputable def insN(xs:List α)(i:Int)(y:α):List α:=xs.take (min i.toNat xs.length)++[y]++xs.drop (min i.toNat xs.length)
noncomputable def zk:V->List V->Hp->VK->Prop:=λx vs H Q=>∃l xs i y,x=.ref l/\vs=[.int i,y]/\H l=ψ (.lst xs)/\(0<=i/\i<2^62)/\xs.length<sizeLine/\Q .non (upd H l (.lst (insN xs i y)))
def zl:MtM X "list.insert" zk:=by
 intro pins s σ H x vs v us Q I rx rv h;obtain⟨l,xs,i,y,rfl,rfl,hH,hi,hz0,q⟩:=h;cases rx
 cases rv with
 | cons ri rr =>
  cases rr with
  | cons ry rr =>
   cases rr;obtain⟨t,rfl⟩:=ri;rename_i u;obtain⟨z,its,n,r,hl,e⟩:=I.lstM hH;refine OD F.slot_list_insert ⟨_,e,rfl⟩ F.entry_list_insert (F.args_list_insert_3 _ _ _) (AutoSeq1.list_insert_list_int_val_1 l its.toArray n i t u (by rw [fitsIndex_both ⋯ ⋯];decide) (by rw [we];omega)) ⟨e,?_⟩
   refine⟨.non,_,I.lset (its':=insN its i u) hH e ?_ ?_ ?_,rfl,q⟩
   .have:¬ i<0:=by omega
    simp only [this,if_false,we,insN,QE,push_toArray,QQ];congr 1;rw [N8,N8];simp [M2]
   .exact ((r.take _).append (.cons ry .nil)).append (r.drop _) |> λh=>by unfold insN;rw [<- hl];exact h
   .unfold insN;rw [kx,kx,MG,MQ];show _+1+_<=_;omega
variable {pk:PTE}
noncomputable def zm(i:Nat)(pk pe:PTE):PTE:=λρ Q=>match ρ[i]? with
 | some (ψ (.own _))=>pk ρ λkp ρ1=>(match kp with
  | .dat (.int j)=>pe ρ1 λp ρ2=>(match ρ2[i]? with
   | some (ψ (.own ds))=>((0<=j/\j<2^60)/\ds.length<1000000)/\Q (.dat .non) (ρ2.set i (ψ (.own (insN ds j p.d))))
   | _=>False)
  | _=>False)
 | _=>False
variable {xs:List V}{ds:List D}{y:V}
def FVs.insN{j:Int}{d:D}(f:FVs K O H xs ds)(g:FV K O H y d):FVs K O H (L2.insN xs j y) (L2.insN ds j d):=by
 unfold L2.insN;rw [f.length];exact ((f.take _).append (.cons g .nil)).append (f.drop _)
variable {tk:TE}
def zo(hk:LE K tk pk)(h:LE K te pe):LE K (tBM K "list" zk (aS i) (aL tk (aL te dz))) (zm i pk pe):=λA ρ σ H Q Q' R q k=>by
 unfold zm at q
 split at q
 .rename_i ds0 e0;obtain⟨a0,xs0,s0,g0,f0⟩:=R.ownAt e0;refine⟨_,s0,.inl ⟨rfl,xs0,SqL.of g0⟩,hk A ρ σ H _ _ R q λv1 H1 p1 ρ1 q1 f1 o1=>?_⟩
  split at q1
  .rename_i j;obtain⟨R1,fv1⟩:=o1;cases fv1;refine h A ρ1 σ H1 _ _ R1 q1 λv H2 p ρ2 q2 f2 o2=>?_;obtain⟨R2,fv⟩:=o2.frz
   split at q2
   .rename_i ds e2;obtain⟨a,xs,s,g,f⟩:=R2.ownAt e2;rw [s0] at s;cases s;obtain⟨R3,f3⟩:=R2.lstw e2 s0 (f.insN (j:=j) fv);exact⟨a0,xs,j,v,rfl,rfl,g,by omega,A_ (by rw [f.length];exact q2.1.2) (sz _ (f_ _)),k _ _ _ _ q2.2 ((f1.trans f2).trans f3) ⟨R3,.non⟩⟩
   .exact q2.elim
  .exact q1.elim
 .exact q.elim
variable {E:Value->d_->Prop}
def qc{l:Addr}{vs:Ξ}{Q:Ξ->d_->Prop}(hl:IsTup s.heap l vs.toArray)(h:Q vs { s with heap:=(s.heap.push (seqObj "list" #[] 0)).update s⁻¹ (Nq (·++vs.toArray)) })(hsz:vs.length<=sizeLine:=by size_fits):
  wpAny (model prog w) A (collect (.ref l)) Q E s:=by
 obtain⟨o,ho,hc,n,hd⟩:=id hl;unfold collect;refine cn (wpAny_runValue (Nx entry_proto_collect' ?_));show wpAny _ _ (do again (.builtin "list.__iadd__" ⟨[<- newList [],.ref l],[]⟩)) _ _ s;refine cn (wpAny_newList (gV ⟨Code.quiet_builtin _ (by decide +kernel),Nx entry_list_iadd' ?_⟩));show wpAny _ _ (ME (.ref s⁻¹) (.ref l) (.ref s⁻¹)) _ _ { s with heap:=s.heap.push (seqObj "list" #[] 0) }
 unfold ME;have ho':(s.heap.push (seqObj "list" #[] 0)).get? l=ψ o:=c_ _ ho;refine cn (OW (T:="tuple") ⟨o,ho',hc⟩ ?_);have ht:(MX "tuple" == MX "tuple")=true:=by rfl
 rw [if_pos (by rw [ht];simp)];refine cn (listItems_at ho' hd ?_);refine cn (listItems_at (xs:=#[]) (n:=0) (i_ _ rfl) rfl ?_);rw [if_neg (by simp)];refine cn (listUpdate_at (xs:=#[]) (n:=0) (i_ _ rfl) rfl ?_ (NJ _) (by show (#[]++vs.toArray).size<=sizeLine+1;simp only [Array.size_append,we,OC];omega));refine gV ?_
 show wpAny (model prog w) A (do
   let o <- load s⁻¹
   match o.data with
   | .seq xs _=>pure xs.toList
   | _=>unsupported "internal:collect") Q E { s with heap:=(s.heap.push (seqObj "list" #[] 0)).update s⁻¹ (Nq (·++vs.toArray)) }
 refine cn (wpAny_load (get?_update_seq (i_ _ rfl) _) ?_);show wpAny _ _ (pure ((#[]:Array Value)++vs.toArray).toList) Q E _;rw [show ((#[]:Array Value)++vs.toArray).toList=vs by simp];exact gV h
variable {ns:Λ}{Q:Value->d_->Prop}
def rE{l:Addr}{vs:Ξ}(hl:IsTup s.heap l vs.toArray)(hI:NZ vs ns)(h64:vs.length<64)(h:∀(out:Array Value) (ns':Λ),NZ out.toList ns'->ns'.Perm ns->ns'.Pairwise (·<=·)->Q (.ref (s⁻¹+1)) { s with heap:=sortedAll s.heap vs out }):
  wpAny (model prog w) A (call (.builtin "sorted") [.ref l]) Q E s:=by
 refine Calls.call_function_entry kind_sorted plain_sorted entry_sorted (args_sorted1 _) ?_;unfold Ow.«sorted»;refine cn (m:=checkCount "sorted" 1 1 _) (gV ?_);refine cn (qc hl ?_);refine cn (wpAny_newList ?_)
 have hsz:((s.heap.push (seqObj "list" #[] 0)).update s⁻¹ (Nq (·++vs.toArray))).objs.size=s⁻¹+1:=by
  rw [Heap.size_update,size_push']
 have hoL:(((s.heap.push (seqObj "list" #[] 0)).update s⁻¹ (Nq (·++vs.toArray))).push (seqObj "list" vs.toArray 0)).get? (s⁻¹+1)=ψ (seqObj "list" vs.toArray 0):=by
  rw [<- hsz];exact i_ _ rfl
 show wpAny _ _ _ _ _ { s with heap:=((s.heap.push (seqObj "list" #[] 0)).update s⁻¹ (Nq (·++vs.toArray))).push (seqObj "list" vs.toArray 0) };rw [hsz];refine cn (Mw (M8 slot_list_sort ⟨_,hoL,rfl⟩ entry_list_sort (list_sort_tree hoL hI h64 λout ns' a1 a2 a3=>⟨_,rfl,?_⟩) (args_list_sort _)));exact gV ⟨_,rfl,h out ns' a1 a2 a3⟩
noncomputable def C8(K:b_):List V->Hp->VK->Prop:=λxs H Q=>∃(b:Bool) (p:Addr) (ns:Λ),xs=[.ref p]/\Sq b K H p (ns.map V.int)/\ns.length<64/\∀ns':Λ,ns'.Perm ns->ns'.Pairwise (·<=·)->∀q,H q=ω->Q (.ref q) (upd H q (.lst (ns'.map V.int)))
def EX(K:b_)(e:X.K=K):bD X (.builtin "sorted") (C8 K):=by
 subst e;intro pins s σ H xs us Q I r h;obtain⟨b,p,ns,rfl,hS,hne,q⟩:=h;obtain⟨u,rfl,ru⟩:=d0 r;cases (show u=vx p from ru)
 cases b with
 | false=>exact ES X.K rfl pins s σ H _ _ Q I r ⟨p,ns,rfl,hS,hne,q⟩
 | true =>
  obtain⟨its,rv,pl,hz⟩:=I.tuple hS;have hi:=bQ rv;have hlen:its.length=ns.length:=by have:=rv.length;rw [cy] at this;exact this.symm
  refine rE pl hi ⋯ λout ns' ho hp hs=>?_;obtain⟨e,he⟩:=sortedAll_at s.heap its out;have hle:s⁻¹<=s⁻¹+1:=le_succ _;refine⟨.ref (s⁻¹+1),_,I.laid (a:=s⁻¹+1) (o:=.lst (ns'.map V.int)) (t':=s.toks) (λb o z=>sortedAll_old z) hle ?_,rfl,q ns' hp hs _ (I.hok.fresh hle)⟩;refine⟨?_,out.toList,e,jw ho,he⟩;rw [cy,hp.length_eq];exact sz _ ⋯
noncomputable def C9:FN
 | [.lst ds],Q=>∃ns:Λ,ds=ns.map .int/\ns.length<64/\∀ns':Λ,ns'.Perm ns->ns'.Pairwise (·<=·)->Q (.own (ns'.map .int))
 | [.tup ds],Q=>∃ns:Λ,ds=ns.map .int/\ns.length<64/\∀ns':Λ,ns'.Perm ns->ns'.Pairwise (·<=·)->Q (.own (ns'.map .int))
 | _,_=>False
def BR:LC K (C8 K) C9:=by
 intro O H xs as Q Q' dom fs q k;unfold C9 at q
 split at q
 .obtain⟨ns,rfl,h0,q⟩:=q
  cases fs with
  | cons a b =>
   cases b;obtain⟨p,ys,rfl,e1,f1⟩:=a.lst;rw [f1.ints] at e1;exact⟨ξ,p,ns,rfl,SqL.of e1,h0,λns' h1 h2 p' hp'=>k _ _ _ (q ns' h1 h2) (Gr.new hp') (dR hp' (FVs.of_ints _))⟩
 .obtain⟨ns,rfl,h0,q⟩:=q
  cases fs with
  | cons a b =>
   cases b;obtain⟨p,ys,rfl,_,e1,f1⟩:=a.tup;rw [f1.ints] at e1;exact⟨η,p,ns,rfl,SqT.of e1,h0,λns' h1 h2 p' hp'=>k _ _ _ (q ns' h1 h2) (Gr.new hp') (dR hp' (FVs.of_ints _))⟩
 .exact q.elim
variable {it t:Addr}{items:Array Value}
theorem rF(hne:t≠it):∀(n i:Nat) (s:d_) (Q:Ξ->d_->Prop),s.heap.IsListIter it t i->s.heap.IsList t items->i+n<=items.size ->
  (∀h',h'.IsListIter it t (i+n)->Of it s.heap h'->Q ((items.toList.drop i).take n) { s with heap:=h' })->wpAny (model prog w) A (draw (.ref it) n) Q E s
 | 0,i,s,Q,hit,_,_,hQ=>by
  show wpAny _ _ (pure []) Q E s;exact gV (by simpa using hQ s.heap hit (Heap.SameBut.refl ..))
 | n+1,i,s,Q,hit,ht,hle,hQ=>by
  have hlt:i<items.size:=by omega
  show wpAny _ _ (pyNext (.ref it) >>= _) Q E s;refine cn (wpAny_pyNext_list_item hit ht (x:=items[i]) (by simp [hlt]) λh₁ hit₁ hs₁=>?_);refine cn (Mw (rF hne n (i+1) _ _ hit₁ (ht.extBut hs₁.extBut hne) ⋯ λh₂ hit₂ hs₂=>gV ?_));have hd:items.toList.drop i=items[i]::items.toList.drop (i+1):=by simp [drop_eq_getElem_cons,hlt]
  have:=hQ h₂ (by rw [show i+(n+1)=i+1+n by omega];exact hit₂) (hs₁.trans hs₂);rw [hd,take_succ_cons] at this;exact this
def kX{Q:Ξ->d_->Prop}(hh:A.handled=ω)(ht:s.heap.IsList t items)(hQ:∀h',QS s⁻¹ s.heap h'->Q items.toList { s with heap:=h' }):wpAny (model prog w) A (unpackItems (.ref t) items.size ω) Q E s:=by
 have hlt:t≠s⁻¹:=by obtain⟨o,ho,_⟩:=ht;exact Mh (m_ ho)
 unfold unpackItems
 refine cn ?_
 .unfold notIterableAtAll;refine cn (Oy ht.typeIs PySem.F.slot_list_iter.lookup ?_);refine gV ?_;simp only [NX,if_false];refine cn (Mw (NB ht ?_));refine cn (Mw (rF hlt items.size 0 _ _ ⟨_,i_ _ rfl,rfl,rfl⟩ (ht.push _) ⋯ λh₁ hit₁ hs₁=>?_))
  have hall:List.take items.size (List.drop 0 items.toList)=items.toList:=by
   rw [QX];exact M2 (by simp)
  rw [hall];rw [if_neg (by simp)];have ht₁:h₁.IsList t items:=(ht.push _).extBut hs₁.extBut hlt;refine cn (Mw (wpAny_pyNext_list_end hh hit₁ ht₁ (by simp) λh₂ he₂=>?_));simp only [Option.isSome_none,NX,if_false];refine gV (hQ h₂ λb o hb e=>he₂ b o hb (hs₁.extBut b o hb (c_ _ e)))
def j6{elts:List Expr}{x1}{pos:Pos}{t:Addr}{items:Array Value}{Q:Unit->d_->Prop}(hh:A.handled=ω)(ht:s.heap.IsList t items)
  (hn:(assignEach elts env).length=items.size) (hstar:(assignEach elts env).findIdx? (·.1)=ω)
  (h:∀h',QS s⁻¹ s.heap h'->wpAny (model prog w) A (assignInOrder ((assignEach elts env).map (·.2)) items.toList) Q E { s with heap:=h' }) :
  wpAny (model prog w) A (assign (.Tuple elts x1 pos) env (.ref t)) Q E s:=by
 rw [assign_Tuple];refine cn (Nj ?_);unfold unpack;rw [hn,hstar];exact cn (Mw (kX hh ht h))
noncomputable def FT(K:b_)(n:Nat)(t:TGs):TG:=λv σ H Q=>∃b a xs,v=.ref a/\Sq b K H a xs/\xs.length=n/\t xs σ H Q
variable {es:List Expr}
def oZ(K:b_)(eK:X.K=K){k:Nat}{t:TGs}(hc:X.calm=η)(h:PGs X es t)(hn:(assignEach es X.env).length=n:=by rfl)(hst:(assignEach es X.env).findIdx? (·.1)=none:=by rfl):PG X (.Tuple es k pos) (FT K n t):=by
 subst eK;intro pins s σ H v u Q I r hw;obtain⟨b,a,xs,e1,hq,hl,hw⟩:=hw
 cases b with
 | true=>exact Gn hc h hn hst pins s σ H v u Q I r ⟨a,xs,e1,hq,hl,hw⟩
 | false =>
  subst e1;cases r;obtain⟨its,rv,ht,hz⟩:=I.list hq;refine j6 (I.ok.hd hc) ht.isList (by simp [hn,<- hl,rv.length]) hst λh' hx=>?_;have I1:Inv X pins σ H { s with heap:=h' }:=I.kept (t':=s.toks) λb o e=>hx b o (Mh (m_ e)) e;exact h pins _ σ H xs _ Q I1 (by simpa using rv) hw
noncomputable def zp(n:Nat)(gs:BF):PTG:=λp ρ Q=>match p with|.dat (.tup ds)=>ds.length=n/\gs ds ρ Q|.dat (.lst ds)=>ds.length=n/\gs ds ρ Q|.own ds=>ds.length=n/\gs ds ρ Q|_=>False
section
variable {fs:Δ}
def me{gs:TGs}{pgs:BF}(h:LGs K fs gs pgs):LGd K fs (FT K n gs) (zp n pgs):=λfx A R H0 ρ σ H d v Q Q' hf F r fv q k=>by
 unfold zp at q
 split at q
 .rename_i e;cases e
  cases fv with
  | tup nn e f=>exact⟨η,_,_,rfl,SqT.of e,by rw [f.length];exact q.1,h fx A R H0 ρ σ H _ _ Q Q' hf F r f q.2 k⟩
 .rename_i e;cases e
  cases fv with
  | lst nn e f=>exact⟨ξ,_,_,rfl,SqL.of e,by rw [f.length];exact q.1,h fx A R H0 ρ σ H _ _ Q Q' hf F r f q.2 k⟩
 .rename_i e;cases e
 .exact q.elim
def HX{gs:TGs}{pgs:BF}(h:LGs K fs gs pgs):LG K fs (FT K n gs) (zp n pgs):=λfx A R H0 ρ σ H p v Q Q' hf F o q k=>by
 unfold zp at q
 split at q
 .obtain⟨r,fv⟩:=o
  cases fv with
  | tup nn e f=>exact⟨η,_,_,rfl,SqT.of e,by rw [f.length];exact q.1,h fx A R H0 ρ σ H _ _ Q Q' hf F r f q.2 λρ' σ' q' r' F' _=>k ρ' σ' H q' r' F'⟩
 .obtain⟨r,fv⟩:=o
  cases fv with
  | lst nn e f=>exact⟨ξ,_,_,rfl,SqL.of e,by rw [f.length];exact q.1,h fx A R H0 ρ σ H _ _ Q Q' hf F r f q.2 λρ' σ' q' r' F' _=>k ρ' σ' H q' r' F'⟩
 .obtain⟨r,fv⟩:=o.frz
  cases fv with
  | lst nn e f=>exact⟨ξ,_,_,rfl,SqL.of e,by rw [f.length];exact q.1,h fx A R H0 ρ σ H _ _ Q Q' hf F r f q.2 λρ' σ' q' r' F' _=>k ρ' σ' H q' r' F'⟩
 .exact q.elim
end
noncomputable def qI(d:D)(xs:List D):Prop:=d=.lst xs\/d=.tup xs
def HY{d:D}{xs:List D}{Q:PV->Prop}(h:qI d xs)(q:Q (.dat (.int xs.length))):EA [d] Q:=by
 rcases h with rfl|rfl <;> exact q
def BS{d:D}{xs:List D}{i:Int}{Q:PV->Prop}(h:qI d xs)(q:∃x,atI xs i=ψ x/\Q (.dat x)):fIx d (.int i) Q:=by
 rcases h with rfl|rfl <;> exact q
def qI.lst(xs:List D):qI (.lst xs) xs:=.inl rfl
def qI.tup(xs:List D):qI (.tup xs) xs:=.inr rfl
noncomputable def nSt:Expr->Bool
 | .Starred _ _=>ξ
 | _=>η
variable {e:Expr}
def gQ(h:nSt e=η):starEach (e::es) env=(ξ,eval e env)::starEach es env:=by
 cases e <;> first|rfl|cases h
theorem im:∀{es:List Expr},es.all nSt=η->(backTo pos (starEach es env)).any (·.1)=ξ
 | [],_=>rfl
 | e::es,h=>by
  rw [P_,Mg] at h;rw [gQ h.1];show (ξ || (backTo pos (starEach es env)).any (·.1))=ξ;rw [im h.2];rfl
section
variable {t:TA}
def paC(ha:PE X e te)(hr:PA X es t)(hn:nSt e=true:=by rfl):PA X (e::es) (aL te t):=DU ha hr (gQ hn)
variable {k:Nat}{x:Str}{ps:List Str}{sp:Sp}{p:Pos}{C:Addr}
def ay(C:Cal X.prog X.w X.K X.mg X.base k x ps sp)(hr:eW k X.A)(ha:PA X (e::es) t)(hg:Gl X x:=by rfl)(hdb:(x == ("__debug__":Str))=false:=by decide)(hn:nSt e=true:=by rfl)(hp:es.all nSt=true:=by rfl):
  PE X (.Call (.Name x p) (e::es) [] pos) (dA sp [] E0 t):=GV C hr ha hg hdb (gQ hn) (im hp)
variable {dvs:List V}
def BU(j:Nat)(C:G5 X.prog X.w X.K X.mg X.base k x ps dvs sp)(hr:eW k X.A)(hj:j<=dvs.length)(ha:PA X (e::es) t)(hg:Gl X x:=by rfl)(hdb:(x == ("__debug__":Str))=false:=by decide)(hn:nSt e=true:=by rfl)(hp:es.all nSt=true:=by rfl):
  PE X (.Call (.Name x p) (e::es) [] pos) (dA sp (dvs.drop j) E0 t):=El j C hr hj ha hg hdb (gQ hn) (im hp)
def vK(M:G7 X.prog X.w X.K X.mg X.base k C x ps sp)(hr:eW (k+1) X.A)(ha:PA X (e::es) t)(hg:Gl X x:=by rfl)(hdb:(x == ("__debug__":Str))=false:=by decide)(hn:nSt e=true:=by rfl)(hp:es.all nSt=true:=by rfl):
  PE X (.Call (.Name x p) (e::es) [] pos) (A8 C sp [] E0 t):=Em M hr ha hg hdb (gQ hn) (im hp)
variable {id:String}{r:List V->Hp->VK->Prop}
def ao(hc:bD X (.builtin id) r)(hg:Gl X x)(hm:X.mg x=ω)(hv:bootBuiltins x=ψ (.builtin id))(ha:PA X (e::es) t)(hnn:x≠"__name__":=by decide)(hdb:(x == ("__debug__":Str))=false:=by decide)(hn:nSt e=true:=by rfl)(hp:es.all nSt=true:=by rfl):
  PE X (.Call (.Name x p) (e::es) [] pos) (tCB r t):=Bb hc hg hm hv ha hnn hdb (gQ hn) (im hp)
variable {T:String}
def aJ(hc:bD X (.type T) r)(hg:Gl X x)(hm:X.mg x=ω)(hv:bootBuiltins x=ψ (.type T))(ha:PA X (e::es) t)(hnn:x≠"__name__":=by decide)(hdb:(x == ("__debug__":Str))=false:=by decide)(hn:nSt e=true:=by rfl)(hp:es.all nSt=true:=by rfl):
  PE X (.Call (.Name x p) (e::es) [] pos) (tCB r t):=ym hc hg hm hv ha hnn hdb (gQ hn) (im hp)
end
noncomputable def plT:Expr->Bool
 | .Call _ _ _ _=>η
 | .Name _ _=>η
 | .Subscript _ _ _=>η
 | .Attribute _ _ _=>η
 | _=>ξ
def EY(h:plT e=η):∀whole,isTrue e env whole=(do let v <- whole;standAt e.pos;holding [v] (truthy v)):=by
 cases e <;> first|(intro _;rfl)|cases h
def dB{t:TE}(h:PE X e t)(hp:plT e=true:=by rfl):PT X e (tB t):=Gh h (EY hp)
noncomputable def gI(a b:Δ):Bool:=decide (0<=fnd b a 0)
noncomputable def eE(ps:Γ)(i:Nat):Bool:=!decide (pw ps i∈ps.take i) && !(ps.filter λo=>decide ((pw ps i).length<o.length)).any λo=>gI (pw ps i) o
def qe{a b:Δ}:gI a b=η ↔ ∃k,stA b a k=true:=by
 unfold gI
 constructor
 .intro h;have h0:fnd b a 0≠-1:=λz=>by rw [z] at h;exact absurd (of_decide_eq_true h) (by decide)
  obtain⟨k,_,_,h1,_⟩:=vo h0;exact⟨k,h1⟩
 .rintro⟨k,hk⟩
  by_cases h0:fnd b a 0=-1
  .rw [Bs h0 k (NJ _)] at hk;cases hk
  .obtain⟨j,e,_⟩:=vo h0;rw [e];exact decide_eq_true ⋯
def BV(a:Δ):gI a a=true:=qe.mpr ⟨0,decide_eq_true ⟨by omega,by rw [QX,M5]⟩⟩
def zq{a b c:Δ}(h1:gI a b=η)(h2:gI b c=η):gI a c=true:=by
 obtain⟨k1,e1⟩:=qe.mp h1;obtain⟨k2,e2⟩:=qe.mp h2;obtain⟨l1,t1⟩:=of_decide_eq_true e1;obtain⟨l2,t2⟩:=of_decide_eq_true e2;refine qe.mpr ⟨k2+k1,decide_eq_true ⟨by omega,?_⟩⟩
 have hb:b.drop k1=(c.drop (k2+k1)).take (b.length - k1):=by
  rw [<- t2,drop_take,drop_drop,t2]
 have ha:a=((c.drop (k2+k1)).take (b.length - k1)).take a.length:=by rw [<- hb,t1]
 rw [take_take,show min a.length (b.length - k1)=a.length by omega] at ha;exact ha.symm
variable {ps:Γ}
def BW:eE ps i=η ↔ pw ps i∉ps.take i/\∀o∈ps,(pw ps i).length<o.length->gI (pw ps i) o=false:=by
 unfold eE;rw [Mg,P4,P4,decide_eq_false_iff_not,Qn]
 constructor
 .rintro⟨h1,h2⟩;refine⟨h1,λo ho hl=>?_⟩;have:=h2 o (Mq.mpr ⟨ho,decide_eq_true hl⟩);simpa using this
 .rintro⟨h1,h2⟩;refine⟨h1,λo ho=>?_⟩;obtain⟨m1,m2⟩:=Mq.mp ho;rw [h2 o m1 (of_decide_eq_true m2)];decide
def zr(hw:∀w∈ps,w.length<=60):∀(m i:Nat),i<ps.length->(61 - (pw ps i).length)*(ps.length+1)+i<=m->∃j,j<ps.length/\eE ps j=η/\gI (pw ps i) (pw ps j)=true:=by
 intro m
 induction m with
 | zero =>
  intro i hi h;have hl:=hw _ (Mc (fb hi));have:0<(61 - (pw ps i).length)*(ps.length+1):=mul_pos ⋯ ⋯;omega
 | succ m ih =>
  intro i hi h;have hl:=hw _ (Mc (fb hi))
  by_cases hk:eE ps i=η
  .exact⟨i,hi,hk,BV _⟩
  .by_cases h1:pw ps i∈ps.take i
   .obtain⟨i',hi'⟩:=mem_iff_getElem?.mp h1
    have hlt:i'<i:=by
     have:=(k_.mp hi').1;rw [MG] at this;omega
    have he:pw ps i'=pw ps i:=by
     rw [getElem?_take,if_pos hlt] at hi';have:=fb (ws:=ps) (k:=i') ⋯;rw [hi'] at this;exact (w_ this).symm
    obtain⟨j,a1,a2,a3⟩:=ih i' ⋯ (by rw [he];omega);exact⟨j,a1,a2,by rw [<- he];exact a3⟩
   .have h2:∃o∈ps,(pw ps i).length<o.length/\gI (pw ps i) o=true:=by
     apply MN;intro z;refine hk (BW.mpr ⟨h1,λo ho hlo=>?_⟩)
     cases hs:gI (pw ps i) o with
     | false=>rfl
     | true=>exact absurd ⟨o,ho,hlo,hs⟩ z
    obtain⟨o,ho,hlo,hs⟩:=h2;obtain⟨i',hi'⟩:=mem_iff_getElem?.mp ho;have hlt:i'<ps.length:=(k_.mp hi').1
    have he:pw ps i'=o:=by
     have:=fb hlt;rw [hi'] at this;exact (w_ this).symm
    have hm:(61 - o.length+1)*(ps.length+1)<=(61 - (pw ps i).length)*(ps.length+1):=Oh _ (by have:=hw o ho;omega);rw [add_mul,one_mul] at hm;obtain⟨j,a1,a2,a3⟩:=ih i' hlt (by rw [he];omega);rw [he] at a3;exact⟨j,a1,a2,zq hs a3⟩
noncomputable def t9(a b:Δ)(k:Nat):Prop:=k<min a.length b.length/\b.take k <:+ a/\∀j,j<min a.length b.length->b.take j <:+ a->j<=k
variable {j:Nat}
def t9.uniq{a b:Δ}{k:Nat}(x:t9 a b j)(y:t9 a b k):j=k:=Nat.le_antisymm (y.2.2 j x.1 x.2.1) (x.2.2 k y.1 y.2.1)
noncomputable def eG(a b:Δ):Nat:=open Classical in if h:∃k,t9 a b k then Classical.choose h else 0
def mf{a b:Δ}(ha:0<a.length)(hb:0<b.length):t9 a b (eG a b):=by
 obtain⟨k,h1,h2,h3⟩:=lS (λk=>b.take k <:+ a) (by rw [Qb];exact nil_suffix) (min a.length b.length) ⋯;have h:∃k,t9 a b k:=⟨k,h1,h2,h3⟩
 unfold eG;rw [dif_pos h];exact O_ h
def ua{a b:Δ}{k:Nat}(h:t9 a b k):eG a b=k:=(mf (by have:=h.1;omega) (by have:=h.1;omega)).uniq h
noncomputable def br(ps:Γ):Δ:=(g_ ps.length).filter (eE ps)
noncomputable def Db(ps:Γ):Δ:=(g_ ps.length).filter λi=>!decide (i∈br ps)
noncomputable def am(ps:Γ):Γ:=(br ps).map (pw ps)
def jK(h:i∈br ps):i<ps.length:=L_.mp (Mq.mp h).1
def j7(ps:Γ):(br ps).length<=ps.length:=Mn (NM ..) (by rw [x_];omega)
def fL{m:Nat}(h:Pcs m ps):Pcs m (am ps):=λw hw=>by
 obtain⟨i,hi,rfl⟩:=Mp.mp hw;exact h _ (dY (jK hi))
def o0(ps:Γ):(am ps).length<=ps.length:=by unfold am;rw [cy];exact j7 ps
noncomputable def mh(ps:Γ)(i:Nat):Δ:=(br ps).filter λj=>gI (pw ps i) (pw ps j)
noncomputable def vL(ps:Γ)(i:Nat):Nat:=(mh ps i).headD 0
def BX(h:l.Pairwise (·<·)){m:Nat}(hm:m∈l)(hle:∀a∈l,m<=a):l.headD 0=m:=by
 cases l with
 | nil=>cases hm
 | cons x r =>
  show x=m;have h1:=hle x (q_ ..)
  rcases B_.mp hm with e|e
  .exact e.symm
  .have:=(pairwise_cons.mp h).1 m e;omega
def rG(ps:Γ):(br ps).Pairwise (·<·):=N1.filter _
def zt{m:Nat}(hm:m∈mh ps i)(hle:∀a∈mh ps i,m<=a):vL ps i=m:=BX ((rG ps).filter _) hm hle
def xp(hw:∀w∈ps,w.length<=60)(hi:i<ps.length):∃j,j∈mh ps i:=by
 obtain⟨j,h1,h2,h3⟩:=zr hw _ i hi (f_ _);exact⟨j,Mq.mpr ⟨Mq.mpr ⟨L_.mpr h1,h2⟩,h3⟩⟩
noncomputable def i5(ps:Γ)(i:Nat):D:=.tup [.int (i:Int),.int (vL ps i:Int),.int (fnd (pw ps (vL ps i)) (pw ps i) 0)]
noncomputable def HZ(ws:Γ):D:=.tup (ws.map λw=>.tup (ws.map λv=>.int (eG w v:Int)))
noncomputable def EZ(ps:Γ):Int:=((am ps).map λw=>(w.length:Int)).sum
def nD(k:Nat):D:=.int (k:Int)
noncomputable def nQ:List Str:=["pieces","kept","words","left","laps","total"]
noncomputable def nR(ps:Γ):List D:=[.tup (ps.map .str),.tup ((br ps).map nD),.tup ((am ps).map .str),.tup ((Db ps).map (i5 ps)),HZ (am ps),.int (EZ ps)]
def Dc{ks:Δ}{k:Nat}(h:k<(ks.map nD).length):itD (ks.map nD) k=.int ((ks.getD k 0:Nat):Int):=gP (by
 have h:k<ks.length:=by rwa [cy] at h
 rw [h_,e_,cx h];rfl)
theorem qf(w:Δ):∀ws:Γ,inD (.str w) (ws.map .str)=decide (w∈ws)
 | []=>by simp [inD]
 | v::r=>by
  have ih:=qf w r;unfold inD at ih ⊢;rw [so,N6,ih];show ((v == w) || decide (w∈r))=_
  by_cases h:v=w
  .subst h;simp
  .rw [beq_eq_false_iff_ne.mpr h,P6]
   by_cases h2:w∈r
   .rw [decide_eq_true h2,decide_eq_true (n_ _ h2)]
   .rw [decide_eq_false h2,decide_eq_false (λz=>(B_.mp z).elim (λe=>h e.symm) h2)]
theorem zu(k:Nat):∀ks:Δ,inD (.int (k:Int)) (ks.map nD)=decide (k∈ks)
 | []=>by simp [inD]
 | v::r=>by
  have ih:=zu k r;unfold inD at ih ⊢;rw [so,N6,ih];show (((v:Int) == (k:Int)) || decide (k∈r))=_
  by_cases h:v=k
  .subst h;simp
  .rw [show ((v:Int) == (k:Int))=ξ from beq_eq_false_iff_ne.mpr ⋯,P6]
   by_cases h2:k∈r
   .rw [decide_eq_true h2,decide_eq_true (n_ _ h2)]
   .rw [decide_eq_false h2,decide_eq_false (λz=>(B_.mp z).elim (λe=>h e.symm) h2)]
def zv(ws:Γ):(ws.map D.str).all D.fl=true:=by rw [all_map];exact N9.mpr λ_ _=>rfl
def Kr(ks:Δ):(ks.map nD).all D.fl=true:=by rw [all_map];exact N9.mpr λ_ _=>rfl
def E1(n:Nat):sX 0 n=(g_ n).map nD:=by
 unfold sX nD;exact NL λk _=>by rw [Qy]
def zw(ws:Γ):(g_ ws.length).map (pw ws)=ws:=by
 apply NA;intro k;rw [h_]
 by_cases hk:k<ws.length
 .rw [Mj hk,fb hk];rfl
 .rw [C_ (by rw [x_];omega),C_ ⋯];rfl
def BY(f:Δ->Option β)(ws:Γ):(g_ ws.length).filterMap (λk=>f (pw ws k))=ws.filterMap f:=by
 conv=>rhs;rw [<- zw ws]
 rw [Pf];rfl
theorem eM(p:α->Bool)(g:α->β):∀l:List α,l.filterMap (λa=>if p a=η then ψ (g a) else ω)=(l.filter p).map g
 | []=>rfl
 | a::r=>by
  rw [OQ,Oc]
  cases h:p a with
  | true=>simp [eM p g r]
  | false=>simp [eM p g r]
def BZ(f:Nat->Option β)(ks:Δ):(g_ ks.length).filterMap (λk=>f (ks.getD k 0))=ks.filterMap f:=by
 have e:(g_ ks.length).map (λk=>ks.getD k 0)=ks:=by
  have:=i3 (λk=>k) ks;rw [List.map_id'] at this;exact this
 conv=>rhs;rw [<- e]
 rw [Pf];rfl
def qg(n:Nat):(sX 0 n).length=n:=by unfold sX;rw [cy,x_]
def zx(h:j<(sX 0 n).length):itD (sX 0 n) j=.int (j:Int):=gP (by
 rw [qg] at h;unfold sX;rw [h_,Mj h];show ψ (D.int (0+(j:Int)))=_;rw [Qy])
def vM(a b:Λ):deq (.lst (a.map .int)) (.lst (b.map .int))=decide (a=b):=by
 unfold deq;show N7 (.list (D.pys _)) (.list (D.pys _))=_;rw [ma,ma];simp only [N7];exact lK a b
noncomputable def Ia(n:Nat):Λ:=(g_ n).map λk=>((k:Nat):Int)
def rH(n:Nat):sX 0 n=(Ia n).map D.int:=by
 unfold sX Ia;rw [Ms];exact NL λk _=>by show D.int (0+(k:Int))=D.int (k:Int);rw [Qy]
def ub(n:Nat):(Ia n).Pairwise (·<=·):=by
 unfold Ia;rw [Oj];exact N1.imp λh=>by omega
open PySem.Builtin PySem.Builtin.ObjectAttr
open PySem.Builtin PySem.Builtin.ObjectAttr
open PySem.Builtin PySem.Builtin.ObjectAttr
open PySem.Builtin PySem.Builtin.ObjectAttr
def zy(d:D):(PV.dat d).d=d:=rfl
def zA(ds:List D):(PV.own ds).d=.lst ds:=rfl
def zB(ks:List Key)(ds:List D):(PV.odc ks ds).d=.dic ks ds:=rfl
def zC(c:Str)(ns:List Str)(ds:List D):(PV.ins c ns ds).d=.obj c ns ds:=rfl
def Ib(ds:List D):mkL ξ ds=.own ds:=rfl
def Ic(ds:List D):mkL η ds=.dat (.tup ds):=rfl
noncomputable def pkm(ρ:PSt)(j:Nat):Option PV:=match ρ[j]? with
 | some v=>v
 | none=>ω
def vN(v:Option PV)(r:PSt):pkm (v::r) 0=v:=rfl
def vO(v:Option PV)(r:PSt)(n:Nat):pkm (v::r) (n+1)=pkm r n:=rfl
def rJ(ρ:PSt):bx [] ρ=[]:=rfl
def o5(ix:List (Option Nat))(ρ:PSt):bx (ω::ix) ρ=ω::bx ix ρ:=rfl
def o7(j:Nat)(ix:List (Option Nat))(ρ:PSt):bx (ψ j::ix) ρ=pkm ρ j::bx ix ρ:=rfl
def rK(j:Nat)(ix:List (Option Nat))(ρ:PSt)(t:Option PV)(τ:PSt):dU (ψ j::ix) ρ (t::τ)=dU ix (ρ.set j t) τ:=rfl
def rL(ix:List (Option Nat))(ρ:PSt)(t:Option PV)(τ:PSt):dU (ω::ix) ρ (t::τ)=dU ix ρ τ:=rfl
def vP(ρ τ:PSt):dU [] ρ τ=ρ:=rfl
noncomputable def L3(pe:PTE):PTE:=λρ Q=>pe ρ λp ρ1=>Q (.dat p.d) ρ1
def Ie{ta:TE}(h:LE K ta pe):LE K ta (L3 pe):=λA ρ σ H Q Q' R q k=>h A ρ σ H _ Q' R q λv H' p ρ' q f o=>k v H' (.dat p.d) ρ' q f o.frz
def uc{e:α->D}{xs:List α}{k:Nat}(h:k<xs.length):itD (xs.map e) k=e xs[k]:=gP (by rw [h_,cx h];rfl)
def zD(f:α->β)(xs:List α)(g:Nat->β)(h:∀k (hk:k<xs.length),g k=f xs[k]):(g_ xs.length).map g=xs.map f:=by
 apply NA;intro i;rw [h_,h_]
 by_cases hi:i<xs.length
 .rw [Mj hi,cx hi];exact congrArg ψ (h i hi)
 .rw [C_ (by rw [x_];omega),C_ ⋯];rfl
section
variable {e:α->D}{xs:List α}{g:PTG}{pt:PTT}{Q:PKt}
def Ls(T:PSt->Prop)(f:α->Option D)(h0:T (bx ix ρ1))(hs:∀x∈xs,∀τ,T τ->∀(K1:D->PSt->Prop) (K2:PSt->Prop),(∀d τ',f x=ψ d->T τ'->K1 d τ')->(∀τ',f x=ω->T τ'->K2 τ')->g (.dat (e x)) τ λτ2=>pt τ2 λok τ3=>iY ok (pe τ3 λp τ4=>K1 p.d τ4) (K2 τ3))(hq:∀τ,T τ->Q (.own (xs.filterMap f)) (dU ix ρ1 τ)):lZ ix ρ1 (xs.map e).length (itD (xs.map e)) g pt pe Q:=by
 refine cfm T (λk=>(xs[k]?).bind f) h0 (λk τ d hk ed t K1 K2 k1 k2=>?_) λτ t=>?_
 .rw [cy] at hk;rw [uc hk] at ed;subst ed;have eg:(xs[k]?).bind f=f xs[k]:=by rw [cx hk];rfl
  rw [eg] at k1 k2;exact hs _ (MB hk) τ t K1 K2 k1 k2
 .have e1:(g_ (xs.map e).length).filterMap (λk=>(xs[k]?).bind f)=xs.filterMap f:=by
   rw [cy];have h1:(g_ xs.length).map (λk=>(xs[k]?).bind f)=xs.map f:=zD f xs _ λk hk=>by rw [cx hk];rfl
   have h2:∀l:Δ,l.filterMap (λk=>(xs[k]?).bind f)=(l.map λk=>(xs[k]?).bind f).filterMap id:=λl=>by rw [Pf];rfl
   rw [h2,h1,Pf];rfl
  rw [e1];exact hq τ t
def B0(T:PSt->Prop)(f:α->D)(h0:T (bx ix ρ1))(hs:∀x∈xs,∀τ,T τ->∀K1:D->PSt->Prop,(∀τ',T τ'->K1 (f x) τ')->g (.dat (e x)) τ λτ2=>pe τ2 λp τ4=>K1 p.d τ4)(hq:∀τ,T τ->Q (.own (xs.map f)) (dU ix ρ1 τ)):lZ ix ρ1 (xs.map e).length (itD (xs.map e)) g AN pe Q:=by
 refine Ls T (λx=>ψ (f x)) h0 (λx hx τ t K1 K2 k1 k2=>?_) λτ t=>?_
 .exact hs x hx τ t K1 λτ' t'=>k1 _ τ' rfl t'
 .rw [show xs.filterMap (λx=>ψ (f x))=xs.map f by rw [<- filterMap_eq_map];rfl];exact hq τ t
def Ig(p:α->Bool)(f:α->β):∀xs:List α,xs.filterMap (λx=>if p x=η then ψ (f x) else ω)=(xs.filter p).map f:=eM p f
def cfX(T:PSt->Prop)(p:α->Bool)(f:α->D)(h0:T (bx ix ρ1))(hs:∀x∈xs,∀τ,T τ->∀(K1:D->PSt->Prop) (K2:PSt->Prop),(∀τ',p x=η->T τ'->K1 (f x) τ')->(∀τ',p x=ξ->T τ'->K2 τ')->g (.dat (e x)) τ λτ2=>pt τ2 λok τ3=>iY ok (pe τ3 λp τ4=>K1 p.d τ4) (K2 τ3))(hq:∀τ,T τ->Q (.own ((xs.filter p).map f)) (dU ix ρ1 τ)):lZ ix ρ1 (xs.map e).length (itD (xs.map e)) g pt pe Q:=by
 refine Ls T (λx=>if p x=η then ψ (f x) else ω) h0 (λx hx τ t K1 K2 k1 k2=>hs x hx τ t K1 K2 (λτ' h t'=>k1 _ τ' (by rw [if_pos h]) t') λτ' h t'=>k2 τ' (by rw [if_neg (by rw [h];decide)]) t') λτ t=>?_;rw [Ig];exact hq τ t
def cm1(f:α->D)(hs:∀x∈xs,∀(v:Option PV) (K1:D->PSt->Prop),(∀v',K1 (f x) (v'::(bx ix ρ1).tail))->g (.dat (e x)) (v::(bx ix ρ1).tail) λτ2=>pe τ2 λp τ4=>K1 p.d τ4)(hq:∀v:Option PV,Q (.own (xs.map f)) (dU ix ρ1 (v::(bx ix ρ1).tail)))(hx:bx ix ρ1=ω::(bx ix ρ1).tail:=by rfl):lZ ix ρ1 (xs.map e).length (itD (xs.map e)) g AN pe Q:=by
 refine B0 (λτ=>∃v,τ=v::(bx ix ρ1).tail) f ⟨ω,hx⟩ ?_ ?_
 .rintro x hx τ ⟨v,rfl⟩ K1 k1;exact hs x hx v K1 λv'=>k1 _ ⟨v',rfl⟩
 .rintro τ ⟨v,rfl⟩;exact hq v
def cf1(p:α->Bool)(f:α->D)(hs:∀x∈xs,∀(v:Option PV) (K1:D->PSt->Prop) (K2:PSt->Prop),(∀v',p x=η->K1 (f x) (v'::(bx ix ρ1).tail))->(∀v',p x=ξ->K2 (v'::(bx ix ρ1).tail))->g (.dat (e x)) (v::(bx ix ρ1).tail) λτ2=>pt τ2 λok τ3=>iY ok (pe τ3 λp τ4=>K1 p.d τ4) (K2 τ3))(hq:∀v:Option PV,Q (.own ((xs.filter p).map f)) (dU ix ρ1 (v::(bx ix ρ1).tail)))(hx:bx ix ρ1=ω::(bx ix ρ1).tail:=by rfl):lZ ix ρ1 (xs.map e).length (itD (xs.map e)) g pt pe Q:=by
 refine cfX (λτ=>∃v,τ=v::(bx ix ρ1).tail) p f ⟨ω,hx⟩ ?_ ?_
 .rintro x hx τ ⟨v,rfl⟩ K1 K2 k1 k2;exact hs x hx v K1 K2 (λv' h=>k1 _ h ⟨v',rfl⟩) λv' h=>k2 _ h ⟨v',rfl⟩
 .rintro τ ⟨v,rfl⟩;exact hq v
end
def cmR{g:PTG}{Q:PKt}{it:Nat->D}(f:Nat->D)(hs:∀k,k<n->∀(v:Option PV) (K1:D->PSt->Prop),(∀v',K1 (f k) (v'::(bx ix ρ1).tail))->g (.dat (it k)) (v::(bx ix ρ1).tail) λτ2=>pe τ2 λp τ4=>K1 p.d τ4)(hq:∀v:Option PV,Q (.own ((g_ n).map f)) (dU ix ρ1 (v::(bx ix ρ1).tail)))(hx:bx ix ρ1=ω::(bx ix ρ1).tail:=by rfl):lZ ix ρ1 n it g AN pe Q:=by
 refine xh (λτ=>∃v,τ=v::(bx ix ρ1).tail) f ⟨ω,hx⟩ ?_ ?_
 .rintro k τ d hk rfl ⟨v,rfl⟩ K1 k1;exact hs k hk v K1 λv'=>k1 _ ⟨v',rfl⟩
 .rintro τ ⟨v,rfl⟩;exact hq v
def mj(f:α->Int)(xs:List α):xs.map (λx=>D.int (f x))=(xs.map f).map D.int:=by rw [Ms];rfl
def zE(f:α->β)(xs:List α)(i:Nat):(xs.map f).eraseIdx i=(xs.eraseIdx i).map f:=by
 rw [Oe,Oe,D_,Qd,map_drop]
def zF{js:List α}(h:i<js.length):(js.eraseIdx i++[js[i]]).Perm js:=by
 rw [Oe,M0];have e:js=js.take i++(js[i]::js.drop (i+1)):=by rw [getElem_cons_drop,NN]
 conv=>rhs;rw [e]
 exact List.Perm.append_left _ (perm_append_singleton _ _)
def E2(h:i<n):ixN n (i:Int)=ψ i:=by
 unfold ixN;rw [if_pos ⋯,if_pos ⋯,tj]
noncomputable def lxB:Λ->Λ->Bool
 | [],[]=>ξ
 | [],_::_=>η
 | _::_,[]=>ξ
 | x::xs,y::ys=>if x=y then lxB xs ys else decide (x<y)
def zG{x y:Int}{xs ys:Λ}:lxB (x::xs) (y::ys)=η ↔ x<y\/(x=y/\lxB xs ys=η):=by
 show (if x=y then lxB xs ys else decide (x<y))=η ↔ _
 split
 .rename_i h;subst h;simp
 .rename_i h;simp [h]
theorem Dd:∀xs:Λ,lxB xs xs=ξ
 | []=>rfl
 | x::xs=>by show (if x=x then lxB xs xs else _)=ξ;rw [if_pos rfl];exact Dd xs
theorem Ih:∀{xs ys zs:Λ},lxB xs ys=η->lxB ys zs=η->lxB xs zs=η
 | [],[],_,h,_=>by cases h
 | [],_::_,[],_,h=>by cases h
 | [],_::_,_::_,_,_=>rfl
 | _::_,[],_,h,_=>by cases h
 | _::_,_::_,[],_,h=>by cases h
 | x::xs,y::ys,z::zs,h1,h2=>by
  rw [zG] at h1 h2 ⊢
  rcases h1 with a|⟨rfl,a⟩
  .rcases h2 with b|⟨rfl,b⟩
   .left;omega
   .left;exact a
  .rcases h2 with b|⟨rfl,b⟩
   .left;exact b
   .right;exact⟨rfl,Ih a b⟩
theorem De:∀{xs ys:Λ},lxB xs ys=ξ->lxB ys xs=ξ->xs=ys
 | [],[],_,_=>rfl
 | [],_::_,h,_=>by cases h
 | _::_,[],_,h=>by cases h
 | x::xs,y::ys,h1,h2=>by
  have a:¬ (x<y\/(x=y/\lxB xs ys=η)):=λz=>by rw [zG.mpr z] at h1;cases h1
  have b:¬ (y<x\/(y=x/\lxB ys xs=η)):=λz=>by rw [zG.mpr z] at h2;cases h2
  have e:x=y:=by omega
  subst e
  have a':lxB xs ys=false:=by
   cases g:lxB xs ys with
   | false=>rfl
   | true=>exact absurd (.inr ⟨rfl,g⟩) a
  have b':lxB ys xs=false:=by
   cases g:lxB ys xs with
   | false=>rfl
   | true=>exact absurd (.inr ⟨rfl,g⟩) b
  rw [De a' b']
theorem Df{α:Type}{p q:α->Bool}:∀{l:List α},(∀x∈l,p x=η->q x=η)->l.countP p<=l.countP q
 | [],_=>f_ _
 | a::l,h=>by
  have ih:=Df (l:=l) λx hx=>h x (n_ _ hx);rw [QT,QT];have:=h a (q_ ..)
  cases e:p a with
  | false=>simp only [NX,if_false];omega
  | true=>rw [this e];simp only [if_true];omega
theorem Dg{p q:α->Bool}{y:α}(hp:p y=ξ)(hq:q y=η):∀{l:List α},y∈l->(∀x∈l,p x=η->q x=η)->l.countP p<l.countP q
 | [],hy,_=>by cases hy
 | a::l,hy,h=>by
  have h':∀x∈l,p x=η->q x=true:=λx hx=>h x (n_ _ hx);rw [QT,QT]
  rcases B_.mp hy with rfl|z
  .have:=Df h';rw [hp,hq];simp only [NX,if_false,if_true];omega
  .have ih:=Dg hp hq z h';have:=h a (q_ ..)
   cases e:p a with
   | false=>simp only [NX,if_false];omega
   | true=>rw [this e];simp only [if_true];omega
noncomputable def rkL(rows:List (Λ))(i:Nat):Nat:=rows.countP λr=>lxB r (rows.getD i [])
def Dh{rows:List (Λ)}(hi:i<rows.length)(hj:j<rows.length):lxB (rows.getD i []) (rows.getD j [])=decide (rkL rows i<rkL rows j):=by
 have mem:∀{i},i<rows.length->rows.getD i []∈rows:=λ{i} h=>by
  rw [e_,cx h];exact MB h
 have one:∀{i j},i<rows.length->lxB (rows.getD i []) (rows.getD j [])=η->rkL rows i<rkL rows j:=λ{i j} hi e =>
  Dg (p:=λr=>lxB r (rows.getD i [])) (q:=λr=>lxB r (rows.getD j [])) (y:=rows.getD i []) (Dd _) e (mem hi) λx _ hx=>Ih (ys:=rows.getD i []) hx e
 cases e:lxB (rows.getD i []) (rows.getD j []) with
 | true=>rw [decide_eq_true (one hi e)]
 | false =>
  symm;refine decide_eq_false ?_
  cases g:lxB (rows.getD j []) (rows.getD i []) with
  | true=>have:=one hj g;omega
  | false =>
   have z:=De e g;unfold rkL;rw [z];exact Md _
abbrev Ks(r:Λ):D:=.tup (r.map .int)
theorem Di:∀{prs:List (Addr×Λ)}{us:Ξ},bI (prs.map λpr=>V.ref pr.1) us->us=prs.map λpr=>vx pr.1
 | [],_,.nil=>rfl
 | pr::prs,_,.cons r t=>by
  rw [so,Di t,show _=vx pr.1 from r]
theorem vQ{O:Ψ}{H:Hp}:∀{rows:List (Λ)}{ys:List V},FVs K O H ys (rows.map Ks)->∃prs:List (Addr×Λ),ys=prs.map (λpr=>V.ref pr.1)/\prs.map (·.2)=rows/\∀pr∈prs,¬ O pr.1/\H pr.1=ψ (.tup (pr.2.map V.int))
 | [],_,.nil=>⟨[],rfl,rfl,nofun⟩
 | r::rows,_,.cons a b=>by
  obtain⟨prs,h1,h2,h3⟩:=vQ (rows:=rows) b
  cases a with
  | tup n e f =>
   rw [f.ints] at e;refine⟨(_,r)::prs,by rw [h1];rfl,by rw [<- h2];rfl,λpr hp=>?_⟩
   rcases B_.mp hp with rfl|hp
   .exact⟨n,e⟩
   .exact h3 pr hp
noncomputable def glT(ws:Γ):Nat->Δ->Δ
 | _,[]=>[]
 | i,j::r=>(pw ws j).drop (eG (pw ws i) (pw ws j))++glT ws j r
noncomputable def glN(ws:Γ):Δ->Δ
 | []=>[]
 | j::r=>pw ws j++glT ws j r
noncomputable def qJ(ws:Γ):Nat->Δ->Nat
 | _,[]=>0
 | i,j::r=>eG (pw ws i) (pw ws j)+qJ ws j r
noncomputable def vR(ws:Γ):Δ->Nat
 | []=>0
 | j::r=>qJ ws j r
theorem vS(ws:Γ)(j:Nat):∀(i:Nat) (r:Δ) (l:Nat),glT ws i (r++[l]++[j])=glT ws i (r++[l])++(pw ws j).drop (eG (pw ws l) (pw ws j))
 | i,[],l=>by
  show (pw ws l).drop _++((pw ws j).drop _++[])=(pw ws l).drop _++[]++_;rw [Mr,Mr]
 | i,a::r,l=>by
  show (pw ws a).drop _++glT ws a (r++[l]++[j])=(pw ws a).drop _++glT ws a (r++[l])++_;rw [vS ws j a r l,M0]
def B1(ws:Γ)(pre:Δ)(l j:Nat):glN ws (pre++[l]++[j])=glN ws (pre++[l])++(pw ws j).drop (eG (pw ws l) (pw ws j)):=by
 cases pre with
 | nil=>show pw ws l++((pw ws j).drop _++[])=pw ws l++[]++_;rw [Mr,Mr]
 | cons a r =>
  show pw ws a++glT ws a (r++[l]++[j])=pw ws a++glT ws a (r++[l])++_;rw [vS,M0]
theorem rM(ws:Γ)(j:Nat):∀(i:Nat) (r:Δ) (l:Nat),qJ ws i (r++[l]++[j])=qJ ws i (r++[l])+eG (pw ws l) (pw ws j)
 | i,[],l=>by show eG _ _+(eG _ _+0)=eG _ _+0+_;omega
 | i,a::r,l=>by
  show eG _ _+qJ ws a (r++[l]++[j])=eG _ _+qJ ws a (r++[l])+_;rw [rM ws j a r l,add_assoc]
theorem zH{ws:Γ}:∀{i:Nat}{r:Δ},0<(pw ws i).length->(∀j∈r,0<(pw ws j).length)->(glT ws i r).length+qJ ws i r=(r.map λj=>(pw ws j).length).sum
 | i,[],_,_=>rfl
 | i,j::r,hi,h=>by
  have hj:=h j (q_ ..);have ih:=zH (i:=j) (r:=r) hj λk hk=>h k (n_ _ hk);have hl:=(mf hi hj).1;show ((pw ws j).drop _++glT ws j r).length+(eG _ _+qJ ws j r)=_;rw [kx,MQ,so,MW,<- ih];omega
variable {js:Δ}
def zI(h:∀j∈js,0<(pw ws j).length):(glN ws js).length+vR ws js=(js.map λj=>(pw ws j).length).sum:=by
 cases js with
 | nil=>rfl
 | cons j r =>
  have:=zH (h j (q_ ..)) λk hk=>h k (n_ _ hk);show (pw ws j++glT ws j r).length+qJ ws j r=_;rw [kx,so,MW,<- this];omega
def L4(f:α->β)(xs:List α):dO (xs.map f) (ψ 1) ω=(xs.tail).map f:=by
 rw [show (1:Int)=((1:Nat):Int) from rfl,jx,<- map_drop,drop_one]
def Kt(f:α->β)(xs:List α):dO (xs.map f) ω (ψ 1)=(xs.take 1).map f:=by
 rw [show (1:Int)=((1:Nat):Int) from rfl,gL,<- Qd]
section
variable {xs:List α}{ys:List β}
def zJ{γ:Type}(f:α->β->γ)(xs:List α)(ys:List β)(h:Nat->γ)(hh:∀k (h1:k<xs.length) (h2:k<ys.length),h k=f xs[k] ys[k]):(g_ (min xs.length ys.length)).map h=(xs.zip ys).map λp=>f p.1 p.2:=by
 apply NA;intro i;rw [h_,h_]
 by_cases hi:i<min xs.length ys.length
 .have h1:i<xs.length:=by omega
  have h2:i<ys.length:=by omega
  rw [Mj hi,cx (by rw [Qz];exact hi),getElem_zip];exact congrArg ψ (hh i h1 h2)
 .rw [C_ (by rw [x_];omega),C_ (by rw [Qz];omega)];rfl
variable {e:α->D}{e':β->D}{g:PTG}{Q:PKt}
def cmZ{it:Nat->D}(f:α->β->D)(hs:∀a b,(a,b)∈xs.zip ys->∀(v w:Option PV) (K1:D->PSt->Prop),(∀v' w',K1 (f a b) (v'::w'::(bx ix ρ1).tail.tail))->g (.dat (.tup [e a,e' b])) (v::w::(bx ix ρ1).tail.tail) λτ2=>pe τ2 λp τ4=>K1 p.d τ4)(hq:∀v w:Option PV,Q (.own ((xs.zip ys).map λp=>f p.1 p.2)) (dU ix ρ1 (v::w::(bx ix ρ1).tail.tail)))(hx:bx ix ρ1=ω::ω::(bx ix ρ1).tail.tail:=by rfl)(hn:n=min (xs.map e).length (ys.map e').length:=by rfl)(hit:∀k,it k=.tup [itD (xs.map e) k,itD (ys.map e') k]:=by intro k;rfl):lZ ix ρ1 n it g AN pe Q:=by
 rw [cy,cy] at hn;subst hn
 by_cases h0:0<min xs.length ys.length
 .have ga:∀k,k<min xs.length ys.length->∃h1:k<xs.length,∃h2:k<ys.length,it k=.tup [e xs[k],e' ys[k]]:=λk hk=>⟨by omega,by omega,by rw [hit,uc ⋯,uc ⋯]⟩
  have hx0:0<xs.length:=by omega
  have hy0:0<ys.length:=by omega
  refine xh (λτ=>∃v w,τ=v::w::(bx ix ρ1).tail.tail) (λk=>f (xs.getD k xs[0]) (ys.getD k ys[0])) ⟨ω,ω,hx⟩ ?_ ?_
  .rintro k τ d hk rfl ⟨v,w,rfl⟩ K1 k1;obtain⟨h1,h2,ek⟩:=ga k hk;rw [ek];have g1:xs.getD k xs[0]=xs[k]:=by rw [e_,cx h1];rfl
   have g2:ys.getD k ys[0]=ys[k]:=by rw [e_,cx h2];rfl
   rw [g1,g2] at k1;refine hs _ _ ?_ v w K1 λv' w'=>k1 _ ⟨v',w',rfl⟩;refine mem_iff_getElem.mpr ⟨k,by rw [Qz];exact hk,by rw [getElem_zip]⟩
  .rintro τ ⟨v,w,rfl⟩;rw [zJ f xs ys _ λk h1 h2=>by rw [e_,cx h1,e_,cx h2];rfl];exact hq v w
 .refine xh (λτ=>∃v w,τ=v::w::(bx ix ρ1).tail.tail) (λ_=>.non) ⟨ω,ω,hx⟩ (λk τ d hk=>by omega) ?_;rintro τ ⟨v,w,rfl⟩;have e1:min xs.length ys.length=0:=by omega
  have e2:xs.zip ys=[]:=MJ.mp (by rw [Qz];exact e1);have:=hq v w;rw [e2] at this;rw [e1];exact this
end
def cm2{e:α->D}{xs:List α}{g:PTG}{Q:PKt}(f:α->D)(hs:∀x∈xs,∀(v w:Option PV) (K1:D->PSt->Prop),(∀v' w',K1 (f x) (v'::w'::(bx ix ρ1).tail.tail))->g (.dat (e x)) (v::w::(bx ix ρ1).tail.tail) λτ2=>pe τ2 λp τ4=>K1 p.d τ4)(hq:∀v w:Option PV,Q (.own (xs.map f)) (dU ix ρ1 (v::w::(bx ix ρ1).tail.tail)))(hx:bx ix ρ1=ω::ω::(bx ix ρ1).tail.tail:=by rfl):lZ ix ρ1 (xs.map e).length (itD (xs.map e)) g AN pe Q:=by
 refine B0 (λτ=>∃v w,τ=v::w::(bx ix ρ1).tail.tail) f ⟨ω,ω,hx⟩ ?_ ?_
 .rintro x hx τ ⟨v,w,rfl⟩ K1 k1;exact hs x hx v w K1 λv' w'=>k1 _ ⟨v',w',rfl⟩
 .rintro τ ⟨v,w,rfl⟩;exact hq v w
def zK(a b:Δ):(!(OL (S b) (S a) 0 (S b).length 1).isEmpty)=gI a b:=by
 have e:=yM b a 0;unfold gI;rw [<- e]
 cases OL (S b) (S a) 0 (S b).length 1 with
 | nil=>rfl
 | cons k r=>exact (decide_eq_true (by omega:(0:Int)<=(k:Int))).symm
noncomputable def Ku(neg:Bool):R2:=λx y H Q=>∃a b,x=.str (S a)/\y=.str (S b)/\Q (.bl (if neg then !gI a b else gI a b)) H
def Ii:OpR X (compareOp .In) (Ku ξ):=by
 intro pins s σ H x y v u Q I rx ry h;obtain⟨a,b,rfl,rfl,q⟩:=h;obtain⟨t,rfl⟩:=rx;obtain⟨t',rfl⟩:=ry;exact P.in_str ⟨.bl _,H,I,rfl,by rw [zK];exact q⟩
def zL:OpR X (compareOp .NotIn) (Ku η):=by
 intro pins s σ H x y v u Q I rx ry h;obtain⟨a,b,rfl,rfl,q⟩:=h;obtain⟨t,rfl⟩:=rx;obtain⟨t',rfl⟩:=ry;exact P.notIn_str ⟨.bl _,H,I,rfl,by rw [zK];exact q⟩
noncomputable def Ij(K:b_)(neg:Bool):R2:=λx y H Q=>rIn K neg x y H Q\/Ku neg x y H Q
def Kv(K:b_)(e:X.K=K):OpR X (compareOp .In) (Ij K ξ):=OpR.or (LX K e) Ii
def lp(K:b_)(e:X.K=K):OpR X (compareOp .NotIn) (Ij K η):=OpR.or (Ex K e) zL
noncomputable def Kw(neg:Bool):F2
 | .str a,.str b,Q=>Q (.dat (.bl (if neg then !gI a b else gI a b)))
 | a,.lst ds,Q=>(a.fl=η/\ds.all D.fl=η)/\Q (.dat (.bl (if neg then !inD a ds else inD a ds)))
 | a,.tup ds,Q=>(a.fl=η/\ds.all D.fl=η)/\Q (.dat (.bl (if neg then !inD a ds else inD a ds)))
 | _,_,_=>False
def rN{neg:Bool}:LO K (Ij K neg) (Kw neg):=by
 intro O H x y a b Q Q' dom fx fy q k;unfold Kw at q
 split at q
 .obtain⟨rfl,_⟩:=fx.str;obtain⟨rfl,_⟩:=fy.str;exact .inr ⟨_,_,rfl,rfl,k _ H _ q (Gr.refl _) (.bl _)⟩
 .exact .inl (Hc O H x y _ _ Q Q' dom fx fy q k)
 .exact .inl (Hc O H x y _ _ Q Q' dom fx fy q k)
 .exact q.elim
def o8(js:Δ):js.map nD=(js.map λj=>((j:Nat):Int)).map D.int:=by rw [Ms];rfl
def B2{k:Nat}(h:k<js.length):glN ws (js.take (k+1))=glN ws (js.take k)++(pw ws (js.getD k 0)).drop (if k=0 then 0 else eG (pw ws (js.getD (k - 1) 0)) (pw ws (js.getD k 0))):=by
 have t1:js.take (k+1)=js.take k++[js.getD k 0]:=rD h
 by_cases e:k=0
 .subst e;rw [if_pos rfl,t1,Qb,QX];show pw ws _++[]=[]++pw ws _;rw [Mr,nil_append]
 .have t0:js.take k=js.take (k - 1)++[js.getD (k - 1) 0]:=by
   have:=rD (l:=js) (k:=k - 1) ⋯
   rwa [show k - 1+1=k by omega] at this
  rw [if_neg e,t1,t0,B1]
def B3(h:ns.length<=1000)(hb:∀n∈ns,n.natAbs<2^64):PyData.layable0 (.list (ns.map .int))=true:=by
 have c:∀l:Λ,O0 (l.map .int)=true:=λl=>by
  induction l with
  | nil=>rfl
  | cons a r ih=>show (O3 (.int a) && O0 (r.map .int))=η;rw [ih];rfl
 have d:∀l:Λ,Oz (l.map .int)=0:=λl=>by
  induction l with
  | nil=>rfl
  | cons a r ih=>show max (Pz (.int a)) (Oz (r.map .int))=0;rw [ih];rfl
 have w:∀l:Λ,(∀n∈l,n.natAbs<2^64)->Qe (l.map .int)<=l.length*66:=λl=>by
  induction l with
  | nil=>intro _;exact NJ _
  | cons a r ih =>
   intro hh;have h1:=ih λn hn=>hh n (n_ _ hn)
   have h2:PyData.weight (.int a)<=64:=by
    show (if a == 0 then 0 else a.natAbs.log2+1)<=64
    by_cases z:a=0
    .subst z;decide
    .rw [if_neg (by simpa using z)];have:a.natAbs.log2<64:=(log2_lt ⋯).mpr (hh a (q_ ..));omega
   show PyData.weight (.int a)+1+Qe (r.map .int)<=_;rw [Mm,Qa];omega
 have:=w ns hb;unfold PyData.layable0;rw [Mg,Mg]
 refine⟨⟨c ns,decide_eq_true ?_⟩,decide_eq_true ?_⟩
 .show Oz (ns.map .int)+1<=64;rw [d];decide
 .show Qe (ns.map .int)<=2^20;omega
noncomputable def E3(K:b_):V->List V->Hp->VK->Prop:=λx xs H Q=>∃(p:Addr) (ns:Λ) (k:Int),x=.ref p/\xs=[.int k]/\SqL K H p (ns.map V.int)/\(ns.length<=1000/\(∀n∈ns,n.natAbs<2^64)/\k∈ns)/\Q (.int (ns.idxOf k:Nat)) H
def zM(K:b_)(e:X.K=K):MtR X "list.index" (E3 K):=by
 subst e;intro pins s σ H x xs v us Q I rx rs h;obtain⟨p,ns,k,rfl,rfl,hS,⟨h1,h2,h3⟩,q⟩:=h;cases (show v=vx p from rx);obtain⟨u,rfl,t,rfl⟩:=d0 rs;obtain⟨its,rv,pl,hz⟩:=I.list hS;exact index_list_ints pl.isList (bQ rv) (B3 h1 h2) h3 ⟨.int _,H,I.tok _,⟨_,rfl⟩,q⟩
variable {pa:PA1}
noncomputable def Kx(pa:PA1)(pe:PTE):PTE:=λρ Q=>pa ρ λx ρ1=>match cont ρ1 x with
 | some (.lst _)=>pe ρ1 λp ρ2=>(match cont ρ2 x,p with
  | some (.lst ds),.dat (.int k)=>∃ns:Λ,ds=ns.map .int/\(ns.length<=1000/\(∀n∈ns,n.natAbs<2^64)/\k∈ns)/\Q (.dat (.int (ns.idxOf k:Nat))) ρ2
  | _,_=>False)
 | _=>False
variable {ta:TE}
def zN(ha:LA1 K ta pa)(he:LE K te pe):LE K (tBM K "list" (E3 K) ta (aL te dz)) (Kx pa pe):=λA ρ σ H Q Q' R q k =>
 ha A ρ σ H _ _ R q λv H1 a ρ1 q1 f1 R1 o1=>by
  split at q1
  .rename_i ds0 e1;obtain⟨a0,xs0,rfl,g0,f0⟩:=(R1.cont o1 e1).lst;refine⟨.inl ⟨rfl,xs0,SqL.of g0⟩,he A ρ1 σ H1 _ _ R1 q1 λw H2 p ρ2 q2 f2 o2=>?_⟩;obtain⟨R2,fv⟩:=o2.frz
   split at q2
   .rename_i ds j e2;obtain⟨ns,rfl,hn,q2⟩:=q2;cases (show FV K _ H2 w (.int j) from fv);obtain⟨a1,xs1,e3,g1,g2⟩:=(R2.cont (o1.keeps f2.keeps) e2).lst;cases e3;rw [g2.ints] at g1;exact⟨a0,ns,j,rfl,rfl,SqL.of g1,hn,k _ H2 _ ρ2 q2 (f1.trans f2) ⟨R2,.int _⟩⟩
   .exact q2.elim
  .exact q1.elim
noncomputable def Dj(K:b_):R2:=λx y H Q=>∃a b ys,x=.ref a/\y=.ref b/\SqT K H a []/\SqT K H b ys/\Q (.ref b) H
def B4:OpR X (binaryOp .Add) (Dj X.K):=by
 intro pins s σ H x y v u Q I rx ry h;obtain⟨a,b,ys,rfl,rfl,ha,hb,q⟩:=h;cases rx;cases ry;obtain⟨its,r1,p1,_⟩:=I.tuple ha;obtain⟨its2,r2,p2,_⟩:=I.tuple hb;have e0:its=[]:=r1.nil_iff.mpr rfl;subst e0;obtain⟨⟨cls,dd,data,sl⟩,ho,hc,n,hd⟩:=id p1;obtain⟨⟨cls2,dd2,data2,sl2⟩,ho2,hc2,n2,hd2⟩:=id p2;simp only at hc hd hc2 hd2;subst hc hd hc2 hd2;exact Qp ⟨_,ho,rfl⟩ ⟨_,ho2,rfl⟩ P9 seq_tuple_add OV OI (Oq _ _) (tuple_addW0 a b _ _ n n2 dd dd2 sl sl2 rfl) ⟨ho,ho2,.ref b,H,I,rfl,q⟩
noncomputable def B5(K:b_):R2:=λx y H Q=>Eu K x y H Q\/Dj K x y H Q
def bj(K:b_)(e:X.K=K):OpR X (binaryOp .Add) (B5 K):=OpR.or (J4 K e) (by subst e;exact B4)
noncomputable def Ik:F2
 | .tup a,.tup b,Q=>a.length+b.length<=1000000/\Q (.dat (.tup (a++b)))
 | a,b,Q=>J5 a b Q
def aN:LO K (B5 K) Ik:=by
 intro O H x y a b Q Q' dom fx fy q k;unfold Ik at q
 split at q
 .rename_i Q ds es
  cases ds with
  | cons d ds=>exact .inl (CZ O H x y _ _ _ Q' dom fx fy ⟨nofun,q⟩ k)
  | nil =>
   obtain⟨p1,xs1,rfl,n1,e1,f1⟩:=fx.tup;obtain⟨p2,xs2,rfl,n2,e2,f2⟩:=fy.tup;cases f1;exact .inr ⟨p1,p2,xs2,rfl,rfl,SqT.of e1,SqT.of e2,k _ H _ q.2 (Gr.refl _) (.tup n2 e2 f2)⟩
 .exact .inl (CZ O H x y _ _ _ Q' dom fx fy q k)
noncomputable def Ky:Expr->Bool
 | .ListComp ..|.SetComp ..|.DictComp ..=>ξ
 | _=>η
def rO{o i:Expr}{p:Pos}{l:Nat}(h:Ky e=η):swapsWithSole [.Subscript o i p] e l env=pure false:=by
 show swapsWith e (ψ (.Subscript o i p)) l env=pure ξ;cases e <;> first|rfl|cases h
def ud{o i:Expr}{p:Pos}:swappedStores [.Subscript o i p] e env=pure none:=rfl
def zO{o i:Expr}{p:Pos}(he:PE X e te)(hg:PG X (.Subscript o i p) g)(hn:Ky e=true:=by rfl):PS X (.Assign [.Subscript o i p] e pos) (FJ te g) :=
 CK he hg (rO hn) ud rfl
noncomputable def fS(K:b_)(x:Str)(st:Stmt):Prop:=∃(f:Addr) (oc kV dc pm cd ct:Value) (od an:Option Addr) (sl:Array (Option Value)),Eo K mainGlobals x=ψ (ψ (.ref f)) /\
 K.lookup f=ψ ⟨oc,od,.func (Me x x (b9 st) (aU st) (ai st) .none kV dc pm an cd ct),sl⟩/\MH K cd x=η/\Mb K (.ref f)=η
variable {x:Str}{st:Stmt}{oc pm ct:Value}{od an:Option Addr}
def Il{f:Addr}{kV dc cd:Value}{sl:Array (Option Value)}(a:Eo K mainGlobals x=ψ (ψ (.ref f)))(l:K.lookup f=ψ ⟨oc,od,.func (Me x x (b9 st) (aU st) (ai st) .none kV dc pm an cd ct),sl⟩)(c:MH K cd x=η)(k:Mb K (.ref f)=η):fS K x st:=⟨f,oc,kV,dc,pm,cd,ct,od,an,sl,a,l,c,k⟩
variable {h:Heap}{mg:Θ}
def bn(q:fS K x st)(X:K.In h)(G:h.Ns mainGlobals mg):aZ K mg x st:=by
 obtain⟨f,oc,kV,dc,pm,cd,ct,od,an,sl,a,l,c,k⟩:=q;exact .mk' X G a l c k
noncomputable def Kz(i j:Int):Prop:=0<j/\j<18446744073709551616
abbrev Im:=rI Kz λi j=>.int (i / j)
abbrev KA:F2:=fI (λ_ j=>0<j/\j<18446744073709551616) λi j=>.int (i / j)
def Io{x y:Int}(h:y.natAbs<18446744073709551616):Builtin.divisionGoesByPylong x y=false:=by
 refine PyProof.noPylong_of_log2 ?_
 by_cases h0:y.natAbs=0
 .rw [h0];decide +kernel
 .have h64:y.natAbs.log2<64:=(log2_lt h0).mpr h;omega
def E4:OpR X (binaryOp .FloorDiv) Im:=opI λi j _ _ _ _ _ hc q=>by
 have h1:(0:Int)<j:=hc.1;have h2:j<18446744073709551616:=hc.2;exact floordiv_int ⋯ (by rw [fdiv_eq_ediv_of_nonneg i ⋯];exact q) (.inl (Io ⋯))
def B6:LO K Im KA:=Jk λ_ _ _ _=>.int _
section
open PySem.AutoSeq1 (wpAny_loadPart')
open PySem.MeetsSeq PySem.MeetsSeq2 PySem.MeetsSeq3
end
noncomputable def frzA(ρ:PSt):PSt:=ρ.map (Option.map λp=>PV.dat p.d)
variable {ρ:PSt}{p:PV}
def qh(e:(frzA ρ)[i]?=ψ (ψ p)):∃p0,ρ[i]?=ψ (ψ p0)/\p=.dat p0.d:=by
 unfold frzA at e;rw [h_] at e
 cases h:ρ[i]? with
 | none=>rw [h] at e;cases e
 | some o =>
  cases o with
  | none=>rw [h] at e;cases e
  | some p0=>rw [h] at e;cases e;exact⟨p0,rfl,rfl⟩
variable {b:Addr}
def qi:¬ Wr (frzA ρ) σ b:=λ⟨i,p,e,o,_⟩=>by
 obtain⟨p0,_,rfl⟩:=qh e;cases o
variable {A:Ψ}
def Rel.frzA(R:Rel K A ρ σ H):Rel K A (frzA ρ) σ H:=by
 have k:aG (OO A ρ σ) H (OO A (L2.frzA ρ) σ) H:=aG.less λb z=>z.elim .inl λz=>(qi z).elim
 refine⟨by unfold L2.frzA;rw [cy];exact R.len,λi p e=>?_,λi j p q v e1 e2 o1=>?_,R.dom,λb _ w=>qi w⟩
 .obtain⟨p0,e0,rfl⟩:=qh e;obtain⟨v,s,r⟩:=R.get i p0 e0;refine⟨v,s,?_⟩
  have na:∀a,v=.ref a->p0.isOwn=η->¬ OO A (L2.frzA ρ) σ a:=λa ea oo z=>by
   subst ea
   rcases z with z|z
   .exact R.sep a z ⟨i,p0,e0,oo,s⟩
   .exact qi z
  cases p0 with
  | dat d=>exact FV.keeps k r
  | own ds =>
   obtain⟨a,xs,rfl,g,f⟩:=r;exact .lst (na a rfl rfl) g (f.keeps k)
  | ins c ns ds =>
   obtain⟨a,dx,fs,rfl,g,m,f⟩:=r;exact .obj (na a rfl rfl) g m (f.keeps k)
  | odc ks ds =>
   obtain⟨a,kvs,rfl,g,m,f⟩:=r;exact .dic (na a rfl rfl) g m (f.keeps k)
 .obtain⟨p0,_,rfl⟩:=qh e1;cases o1
variable {H':Hp}{O':Ψ}
def FV.flat{d:D}(h:FV K O H v d)(f:d.fl=η):FV K O' H' v d:=by
 cases h with
 | non=>exact .non
 | bl b=>exact .bl b
 | int i=>exact .int i
 | str l hl=>exact .str l hl
 | ty _=>cases f
 | scr _=>cases f
 | lst _ _ _=>cases f
 | tup _ _ _=>cases f
 | dic _ _ _ _=>cases f
 | fdc _ _ _ _=>cases f
 | obj _ _ _ _=>cases f
 | exc0 _ _=>cases f
 | exc1 _ _ _ _ _ _=>cases f
def B7{P:v_}{A:G_}{z:d_}{l:Addr}{xs:Array (Int×Tok)}(hh:A.handled=ω)(hl:z.heap.IsTuple l (intItems xs))(h:∀h' tk t',(∀b o,z.heap.get? b=ψ o->h'.get? b=ψ o)->Q (.int (preSum (numAt xs) xs.size) t') { z with heap:=h',toks:=tk }):wpAny (model P w) A (call (.builtin "sum") [.ref l]) Q E z:=by
 have hlt:l<z⁻¹:=by obtain⟨_,e,_⟩:=hl;exact m_ e
 refine call_sum_walkG (NS hl ?_)
 refine⟨z⁻¹,[z⁻¹,l],[z⁻¹],_,_,_,numAt xs,rfl,QU (A:=A.in1) hh _ l (Mh hlt) (intItems xs),⟨⟨_,i_ _ rfl,rfl,rfl⟩,hl.push _⟩,λb hb=>?_,(λ_ _=>OM),λh' tk t' hk=>?_⟩
 .show b<(z.heap.push _).objs.size;rw [Mi]
  rcases B_.mp hb with e|hb
  .rw [e];exact Mu _
  .rw [u_.mp hb];exact NH hlt
 .have:=h h' tk t' λb o e=>hk b o (λm=>by have y:=m_ e;rw [u_.mp m] at y;exact absurd y (Md _)) (c_ _ e);simpa [intItems] using this
def zP(hc:X.calm=η):bD X (.builtin "sum") (λxs H Q=>∃(p:Addr) (ns:Λ),xs=[.ref p]/\SqT X.K H p (ns.map V.int)/\Q (.int ns.sum) H):=by
 intro pins s σ H xs us Q I r h;obtain⟨p,ns,rfl,hS,q⟩:=h;obtain⟨u,rfl,ru⟩:=d0 r;cases (show u=vx p from ru);obtain⟨its,rv,pl,hz⟩:=I.tuple hS;have hi:=bQ rv;have hl:s.heap.IsTuple p its.toArray:=pl;obtain⟨ys,e⟩:=hi.allInts.items;have hns:ns=ys.toList.map (·.1):=by rw [<- hi.numsOf,<- Ov,<- e]
 rw [e] at hl;refine B7 (by exact I.ok.hd hc) hl λh' tk t' hk=>⟨.int ns.sum,H,I.kept (t':=tk) hk,⟨t',?_⟩,q⟩
 have hlen:ys.size=ns.length:=by rw [hns,cy,C0]
 have hnum:numAt ys=λi=>ns.getD i 0:=by
  funext i;rw [O5,hns]
 rw [hnum,hlen,jZ ns ns.length (f_ _),M5]
noncomputable def Iq(K:b_):List V->Hp->VK->Prop:=λxs H Q=>∃(p:Addr) (ns:Λ),xs=[.ref p]/\(SqL K H p (ns.map V.int)\/SqT K H p (ns.map V.int))/\Q (.int ns.sum) H
def Dl(K:b_)(e:X.K=K)(hc:X.calm=η):bD X (.builtin "sum") (Iq K):=by
 subst e;intro pins s σ H xs us Q I r ⟨p,ns,e,h,q⟩
 rcases h with h|h
 .exact rq hc pins s σ H xs us Q I r ⟨p,ns,e,h,q⟩
 .exact zP hc pins s σ H xs us Q I r ⟨p,ns,e,h,q⟩
noncomputable def Ir:FN
 | [.lst ds],Q=>∃ns:Λ,ds=ns.map .int/\Q (.dat (.int ns.sum))
 | [.tup ds],Q=>∃ns:Λ,ds=ns.map .int/\Q (.dat (.int ns.sum))
 | _,_=>False
def zQ:LC K (Iq K) Ir:=by
 intro O H xs as Q Q' dom fs q k;unfold Ir at q
 split at q
 .obtain⟨ns,rfl,q⟩:=q
  cases fs with
  | cons a b =>
   cases b;obtain⟨p,ys,rfl,e1,f1⟩:=a.lst;exact⟨p,ns,rfl,.inl (SqL.of (by rw [e1,f1.ints])),k _ H _ q (Gr.refl _) (.int _)⟩
 .obtain⟨ns,rfl,q⟩:=q
  cases fs with
  | cons a b =>
   cases b;obtain⟨p,ys,rfl,n1,e1,f1⟩:=a.tup;exact⟨p,ns,rfl,.inr (SqT.of (by rw [e1,f1.ints])),k _ H _ q (Gr.refl _) (.int _)⟩
 .exact q.elim
noncomputable def d9(ks:List Key)(ds:List D)(k:Key):Option D:=((ks.zip ds).find? λp=>decide (p.1=k)).map (·.2)
theorem ml(k:Key):∀{kvs:List (Key×V)}{ks:List Key}{ds:List D},kvs.map y_=ks->FVs K O H (kvs.map Mo) ds ->
  (qH kvs k=ω/\d9 ks ds k=ω)\/∃v d,qH kvs k=ψ v/\d9 ks ds k=ψ d/\FV K O H v d
 | [],_,_,rfl,.nil=>.inl ⟨rfl,rfl⟩
 | p::r,_,_,rfl,.cons (d:=d) (ds:=ds) a b=>by
  have u:∀ds',d9 ((p::r).map y_) (d::ds') k=if p.1=k then ψ d else d9 (r.map y_) ds' k:=λds'=>by
   unfold d9;rw [so,zip_cons_cons,NT]
   by_cases e:p.1=k
   .rw [if_pos e,decide_eq_true e];rfl
   .rw [if_neg e,decide_eq_false e]
  by_cases e:p.1=k
  .exact .inr ⟨p.2,d,li e,by rw [u,if_pos e],a⟩
  .rw [lj e,u,if_neg e];exact ml k rfl b
def hu1{u:Nat}(h:u+64<cLine):u+1<cLine:=by omega
noncomputable def Lu(i:Nat)(pe:PTE):PTE:=λρ Q=>match ρ[i]? with
 | some (ψ (.own _))=>pe ρ λp ρ1=>(match ρ1[i]?,p.d with
  | some (ψ (.own ds)),.lst es=>ds.length+es.length<=1000000/\Q (.dat .non) (ρ1.set i (ψ (.own (ds++es))))
  | _,_=>False)
 | _=>False
def Is(h:LE K te pe):LE K (tBM K "list" yp (aS i) (aL te dz)) (Lu i pe):=λA ρ σ H Q Q' R q k=>by
 unfold Lu at q
 split at q
 .rename_i ds0 e0;obtain⟨a0,xs0,s0,g0,f0⟩:=R.ownAt e0;refine⟨_,s0,.inl ⟨rfl,xs0,SqL.of g0⟩,h A ρ σ H _ _ R q λv H1 p ρ1 q1 f1 o1=>?_⟩;obtain⟨R1,fv⟩:=o1.frz
  split at q1
  .rename_i ds es e1 e2;rw [e2] at fv;obtain⟨a,xs,s,g,f⟩:=R1.ownAt e1;rw [s0] at s;cases s
   cases fv with
   | lst no ez fz =>
    obtain⟨R2,f2⟩:=R1.lstw e1 s0 (f.append fz);exact⟨a0,_,xs,_,rfl,rfl,g,ez,Mn (by rw [f.length,fz.length];exact q1.1) (sz _ (f_ _)),k _ _ _ _ q1.2 (f1.trans f2) ⟨R2,.non⟩⟩
  .exact q1.elim
 .exact q.elim
section
noncomputable def Dm(f:Int->Int->Int)(i:Nat)(pk pe:PTE):PTS:=λD ρ=>match ρ[i]? with
 | some (ψ (.own _))=>pk ρ λkp ρ1=>(match ρ1[i]?,kp with
  | some (ψ (.own ds)),.dat (.int k)=>∃j a,ixN ds.length k=ψ j/\ds[j]?=ψ (.int a)/\pe ρ1 λp ρ2=>(match ρ2[i]?,p with
   | some (ψ (.own ds2)),.dat (.int b)=>ds2=ds/\D.nx (ρ2.set i (ψ (.own (ds.set j (.int (f a b))))))
   | _,_=>False)
  | _,_=>False)
 | _=>False
def mn(K:b_)(e:X.K=K):KP X (Ji K):=by
 subst e;intro pins s σ H x y v u Q I rx ry h;obtain⟨p,xs,i,z,rfl,rfl,hq,he,q⟩:=h;cases rx;obtain⟨t,rfl⟩:=ry;obtain⟨its,r,pl,hz⟩:=I.list hq;obtain⟨j,h1,h2,h3,h4,h5⟩:=pQ he;obtain⟨w,ew,rw'⟩:=r.get h2;have hl:=r.length;have hn:=lC;have fin:EP X pins σ Q w s:=⟨z,H,I,rw',q⟩
 by_cases h0:0<=i
 .have hj:i.toNat=j:=by
   rw [QP h0 h5] at h1;exact w_ h1
  exact wpAny_getItem_list pl.isList h0 ⋯ (by rw [hj];simpa using ew) fin
 .have hj:(i+(its.toArray.size:Int)).toNat=j:=by
   rw [Qr ⋯ h4] at h1;rw [we,<- hl];exact w_ h1
  exact wpAny_getItem_list_neg pl.isList ⋯ (by rw [we] <;> omega) ⋯ (by rw [hj];simpa using ew) fin
variable {fs:Δ}
def ue{f:Int->Int->Int}(hk:LE K tk pk)(h:LE K te pe):LS K fs (Go (aS i) tk te (Ji K) (ipI f) D3) (Dm f i pk pe):=λfx A R H0 ρ σ H D D' hf r F q k1 k2 k3 k4=>by
 unfold Dm at q
 split at q
 .rename_i ds0 e0;obtain⟨a0,xs0,s0,g0,f0⟩:=r.ownAt e0;refine⟨_,s0,hk A ρ σ H _ _ r q λw H1 kp ρ1 q1 f1 o1=>?_⟩
  split at q1
  .rename_i ds k e1;obtain⟨j,a,hj,ha,q1⟩:=q1;obtain⟨R1,fw⟩:=o1;cases fw;obtain⟨a1,xs,s,g,fx1⟩:=R1.ownAt e1;rw [s0] at s;cases s;obtain⟨va,hva,fva⟩:=fx1.getD ha;cases fva
   refine⟨a0,xs,k,.int a,rfl,rfl,SqL.of g,?_,h A ρ1 σ H1 _ _ R1 q1 λu H2 p ρ2 q2 f2 o2=>?_⟩
   .unfold atI;rw [fx1.length,hj];exact hva
   .split at q2
    .rename_i ds2 b e2;obtain⟨rfl,q2⟩:=q2;obtain⟨R2,fu⟩:=o2;cases fu;obtain⟨a2,xs2,s2,g2,fx2⟩:=R2.ownAt e2;rw [s0] at s2;cases s2;obtain⟨R3,f3⟩:=R2.lstw e2 s0 (FVs.set (FV.int (f a b)) j fx2);exact⟨a,b,rfl,rfl,a0,xs2,k,j,rfl,rfl,g2,by rw [fx2.length];exact hj,k1 _ _ _ q2 R3 (((F.fr f1).fr f2).fr f3)⟩
    .exact q2.elim
  .exact q1.elim
 .exact q.elim
end
variable {x:Nat}{rows:List (List D)}
noncomputable def cl(x:Nat)(ρ:PSt):Option (List (List D))->PSt
 | none=>ρ
 | some rows=>ρ.set x (ψ (.own (rows.map D.lst)))
def zR(x:Nat)(ρ:PSt):cl x ρ ω=ρ:=rfl
def zS(x:Nat)(ρ:PSt)(rows:List (List D)):cl x ρ (ψ rows)=ρ.set x (ψ (.own (rows.map D.lst))):=rfl
def j8(e:(ρ.set i ω)[j]?=ψ (ψ p)):j≠i/\ρ[j]?=ψ (ψ p):=by
 by_cases z:i=j
 .subst z
  by_cases h:i<ρ.length
  .rw [tf h] at e;cases e
  .rw [C_ (by rw [My];omega)] at e;cases e
 .rw [p_ z] at e;exact⟨λq=>z q.symm,e⟩
noncomputable def mvd(ρ:PSt)(g r:Nat)(ds:List D):PSt:=(ρ.set r (ψ (.own ds))).set g ω
def Dn(ρ:PSt)(g r:Nat)(ds:List D):mvd ρ g r ds=(ρ.set r (ψ (.own ds))).set g none:=rfl
theorem io:∀{M:Nat}{l:Δ},l.Nodup->(∀x∈l,x<M)->l.length<=M
 | 0,l,_,h=>by
  cases l with
  | nil=>exact f_ _
  | cons x r=>exact absurd (h x q_) (NC _)
 | M+1,l,nd,h=>by
  by_cases c:M∈l
  .have h1:=io (M:=M) (nd.erase M) (λx hx=>by
    have:=h x (mem_of_mem_erase hx);have hne:x≠M:=(nd.mem_erase_iff.mp hx).1;omega)
   rw [length_erase_of_mem c] at h1;omega
  .have:=io (M:=M) nd (λx hx=>by
    have:=h x hx;have:x≠M:=λe=>c (e ▸ hx);omega)
   omega
theorem qj:∀{l m:Δ},l.Nodup->(∀x∈l,x∈m)->m.length=l.length->m.Perm l
 | [],m,_,_,hl=>by rw [MJ.mp hl]
 | x::r,m,nd,h,hl=>by
  obtain⟨nx,nd⟩:=OB.mp nd;have hx:=h x q_;have p1:=perm_cons_erase hx;have ih:=qj (l:=r) (m:=m.erase x) nd (λy hy=>(mem_erase_of_ne (λ(e:y=x)=>nx (by rw [<- e];exact hy))).mpr (h y (n_ _ hy))) (by rw [length_erase_of_mem hx,hl];rfl);exact p1.trans (ih.cons x)
abbrev NrT:=Nat->Option (Int×Int)
abbrev cu:=List (Nat×Int×Int)
def eX(R:cu):Δ:=R.map (·.1)
noncomputable def o9(R:cu)(j:Nat):Bool:=(eX R).contains j
def ip{R:cu}:o9 R j=η ↔ j∈eX R:=M9
def B8{R:cu}:o9 R j=ξ ↔ j∉eX R:=by
 rw [<- ip];cases o9 R j <;> simp
def c5{R:cu}:j∈eX R ↔ ∃d p,(j,d,p)∈R:=by
 unfold eX;rw [Mp];exact⟨λ⟨⟨a,d,p⟩,h,e⟩=>by cases e;exact⟨d,p,h⟩,λ⟨d,p,h⟩=>⟨_,h,rfl⟩⟩
def mr(R S:cu):eX (R++S)=eX R++eX S:=D_
noncomputable def lu(f:Nat->Int)(i:Nat)(v:Int):Nat->Int:=λj=>if j=i then v else f j
def cF{f:Nat->Int}{v:Int}:lu f i v i=v:=if_pos rfl
def bA{f:Nat->Int}{v:Int}(h:j≠i):lu f i v j=f j:=if_neg h
noncomputable def zT(R:cu)(f:NrT)(j:Nat)(st k:Int):Option (Int×Int):=match f j with
 | none=>if o9 R j then ω else ψ (st,k)
 | some p=>if o9 R j=ξ/\st<p.1 then ψ (st,k) else ψ p
noncomputable def fM(sl:Nat->Int)(R:cu)(f:NrT)(k:Int)(m:Nat):NrT:=λj=>if j<m then zT R f j (sl j) k else f j
noncomputable def fk(f:NrT)(n:Nat)(mq:Int×Nat):Prop:=mq.2<n/\(∃p,f mq.2=ψ (mq.1,p))/\∀j,j<n->∀p,f j=ψ p->mq.1<p.1\/(mq.1=p.1/\mq.2<=j)
variable {f:NrT}
def xq{a b:Int×Nat}(ha:fk f n a)(hb:fk f n b):a=b:=by
 obtain⟨a1,a2⟩:=a;obtain⟨b1,b2⟩:=b;obtain⟨h1,⟨p,h2⟩,h3⟩:=ha;obtain⟨gSt,⟨q,g2⟩,g3⟩:=hb;have x:=h3 _ gSt _ g2;have y:=g3 _ h1 _ h2;simp only at x y;have e1:a1=b1:=by omega
 have e2:a2=b2:=by omega
 rw [e1,e2]
open Classical in
noncomputable def jL(f:NrT)(n:Nat):Int×Nat:=if h:∃mq,fk f n mq then h.choose else (0,0)
def B9{mq:Int×Nat}(h:fk f n mq):jL f n=mq:=by
 unfold jL;rw [dif_pos ⟨mq,h⟩];exact xq (O_ (⟨mq,h⟩:∃mq,fk f n mq)) h
noncomputable def E5(f:NrT)(q:Nat):Int:=((f q).getD (0,0)).2
noncomputable def qk(f:NrT)(q:Nat):NrT:=λj=>if j=q then ω else f j
section
variable (n:Nat) (c:Nat->Nat->Int) (g t l:Nat->Int) (s:Nat)
def nS(i j:Nat):Int:=g i+t j - c i j
noncomputable def Ca:Nat->NrT->cu->Int->Int->Int->cu
 | 0,_,R,_,_,_=>R
 | m+1,f,R,i,x,k=>if i<0 then R else
   let f':=fM (λj=>x+g i.toNat+t j - c i.toNat j) R f k n
   Ca m (qk f' (jL f' n).2) (R++[((jL f' n).2,(jL f' n).1,E5 f' (jL f' n).2)]) (l (jL f' n).2) (jL f' n).1 (jL f' n).2
noncomputable def Jn:cu:=Ca n c g t l (n+1) (λ_=>ω) [] s 0 (-1)
structure uf (s:Nat):Prop where
 c0:∀i j,i<n->j<n->0<=c i j
 up:∀i j,i<n->j<n->c i j<=g i+t j
 ld:∀j,j<n->l j=-1\/(0<=l j/\l j<s)
 tg:∀j,j<n->0<=l j->g (l j).toNat+t j=c (l j).toNat j
 inj:∀i j,i<n->j<n->0<=l i->l i=l j->i=j
 sur:∀i,i<s->∃j,j<n/\l j=i
 t0:∀j,j<n->0<=t j
 fr:∀j,j<n->l j=-1->t j=0
noncomputable def zU(R:cu)(e:Nat×Int×Int):Prop:=(e.2.2=-1/\e.2.1=nS c g t s e.1)\/∃q,q∈R/\e.2.2=q.1/\0<=l q.1/\e.2.1=q.2.1+nS c g t (l q.1).toNat e.1
noncomputable def ScP(R:cu)(r:Nat)(y:Int):Prop:=(r=s/\y=0)\/∃e,e∈R/\l e.1=r/\y=e.2.1
structure rP (Z:List (Nat×Int)) (f:NrT) (R:cu) (i x k:Int):Prop where
 nd:(eX R).Nodup
 rn:∀e,e∈R->e.1<n
 fn:∀j,(∃p,f j=ψ p)->j<n/\j∉eX R
 pr:∀R1 e R2,R=R1++e::R2->zU c g t l s R1 e
 pf:∀j p,f j=ψ p->zU c g t l s R (j,p.1,p.2)
 lr:∀e,e∈R->e.2.1<=x
 lf:∀j p,f j=ψ p->x<=p.1
 x0:0<=x
 zn:∀z,z∈Z->z.1<n/\∀j,j<n->(∃e,e∈R/\e.1=j/\e.2.1<=z.2+nS c g t z.1 j)\/∃p,f j=ψ p/\p.1<=z.2+nS c g t z.1 j
 sc:∀r y,ScP l s R r y->(r,y)∈Z\/((r:Int)=i/\y=x)
 at_:(k=-1/\i=s/\x=0/\R=[])\/∃R0 q p,R=R0++[(q,x,p)]/\k=(q:Nat)/\i=l q/\∀e,e∈R0->0<=l e.1
end
variable {c:Nat->Nat->Int}{g t l:Nat->Int}{s:Nat}
def zU.more{R S:cu}{e:Nat×Int×Int}(h:zU c g t l s R e):zU c g t l s (R++S) e:=h.imp id λ⟨q,h,r⟩=>⟨q,Mf _ h,r⟩
def rP.start(hs:s<n):rP n c g t l s [] (λ_=>ω) [] s 0 (-1) where
 nd:=nodup_nil
 rn:=λe h=>by cases h
 fn:=λj ⟨p,h⟩=>by cases h
 pr:=λR1 e R2 h=>by cases R1 <;> cases h
 pf:=λj p h=>by cases h
 lr:=λe h=>by cases h
 lf:=λj p h=>by cases h
 x0:=Nk _
 zn:=λz h=>by cases h
 sc:=λr y h=>by
  rcases h with ⟨rfl,rfl⟩|⟨e,h,_⟩
  .exact .inr ⟨rfl,rfl⟩
  .cases h
 at_:=.inl ⟨rfl,rfl,rfl,rfl⟩
def uf.free(F:uf n c g t l s)(hs:s<n):∃j,j<n/\l j=-1:=by
 refine MN λz=>?_;have al:∀j,j<n->0<=l j/\l j<s:=λj hj=>(F.ld j hj).resolve_left λe=>z ⟨j,hj,e⟩
 have nd:((g_ n).map λj=>(l j).toNat).Nodup:=by
  refine Oj.mpr (P7 (R:=λa b=>a≠b) (λ{a b} ha hb hne he=>?_) QV);rw [L_] at ha hb;have h1:=al a ha;have h2:=al b hb;exact hne (F.inj a b ha hb h1.1 ⋯)
 have:=io (M:=s) nd λx hx=>by
  obtain⟨j,hj,rfl⟩:=Mp.mp hx;rw [L_] at hj;have:=al j hj;omega
 rw [cy,x_] at this;omega
variable {sl:Nat->Int}
def mw{R:cu}{k:Int}{p:Int×Int}(h:fM sl R f k n j=ψ p)(fn:∀j,(∃p,f j=ψ p)->j<n/\j∉eX R):
  j<n/\j∉eX R/\(f j=ψ p\/p=(sl j,k)):=by
 unfold fM at h
 by_cases hj:j<n
 .rw [if_pos hj] at h;unfold zT at h
  cases e:f j with
  | none =>
   rw [e] at h;simp only at h
   by_cases hr:o9 R j=η
   .rw [if_pos hr] at h;cases h
   .rw [if_neg hr] at h;cases h;exact⟨hj,λz=>hr (ip.mpr z),.inr rfl⟩
  | some q =>
   rw [e] at h;simp only at h;have:=(fn j ⟨q,e⟩).2
   by_cases hr:o9 R j=ξ/\sl j<q.1
   .rw [if_pos hr] at h;cases h;exact⟨hj,this,.inr rfl⟩
   .rw [if_neg hr] at h;cases h;exact⟨hj,this,.inl rfl⟩
 .rw [if_neg hj] at h;exact⟨(fn j ⟨p,h⟩).1,(fn j ⟨p,h⟩).2,.inl h⟩
def zV{R:cu}{k:Int}(hj:j<n)(hr:j∉eX R):∃p,fM sl R f k n j=ψ p/\p.1<=sl j/\∀q,f j=ψ q->p.1<=q.1:=by
 unfold fM;rw [if_pos hj];have hr':=B8.mpr hr;unfold zT
 cases e:f j with
 | none =>
  simp only;rw [if_neg (by rw [hr'];exact l_)];exact⟨_,rfl,Nk _,λq h=>by cases h⟩
 | some q =>
  simp only
  by_cases h:sl j<q.1
  .rw [if_pos ⟨hr',h⟩];exact⟨_,rfl,Nk _,λq' h'=>by cases h';exact Q3 h⟩
  .rw [if_neg λz=>h z.2];exact⟨_,rfl,by omega,λq' h'=>by cases h';exact Nk _⟩
theorem vT:∀{m:Nat},(∃j p,j<m/\f j=ψ p)->∃mq,fk f m mq
 | 0,⟨j,_,h,_⟩=>absurd h (NC _)
 | m+1,⟨j,p,hj,e⟩=>by
  by_cases h:∃j p,j<m/\f j=ψ p
  .obtain⟨⟨a,q⟩,h1,⟨p1,h2⟩,h3⟩:=vT h
   cases em:f m with
   | none=>exact⟨(a,q),by show q<_;simp only at h1;omega,⟨p1,h2⟩,λj hj p hp=>by
     by_cases c:j=m
     .subst c;rw [em] at hp;cases hp
     .exact h3 j ⋯ p hp⟩
   | some pm =>
    by_cases c:pm.1<a
    .refine⟨(pm.1,m),Mu _,⟨pm.2,em⟩,λj hj p hp=>?_⟩
     by_cases c2:j=m
     .subst c2;rw [em] at hp;cases hp;exact .inr ⟨rfl,f_ _⟩
     .have:=h3 j ⋯ p hp;simp only at this ⊢;omega
    .refine⟨(a,q),by show q<_;simp only at h1;omega,⟨p1,h2⟩,λj hj p hp=>?_⟩
     by_cases c2:j=m
     .subst c2;rw [em] at hp;cases hp;simp only at h1 ⊢;omega
     .exact h3 j ⋯ p hp
  .have jm:j=m:=by
    refine MN λz=>h ⟨j,p,by omega,e⟩
   subst jm
   exact⟨(p.1,j),Mu _,⟨p.2,e⟩,λj' hj' p' hp'=>by
    by_cases c:j'=j
    .subst c;rw [e] at hp';cases hp';exact .inr ⟨rfl,f_ _⟩
    .exact absurd ⟨j',p',by omega,hp'⟩ h⟩
def rP.near{Z f R}{i x k:Int}(D:rP n c g t l s Z f R i x k)(F:uf n c g t l s)(hs:s<n)(h0:0<=i){sl:Nat->Int}:∃mq,fk (fM sl R f k n) n mq:=by
 obtain⟨j,hj,ej⟩:=F.free hs;refine vT ⟨j,?_⟩
 have hr:j∉eX R:=λz=>by
  obtain⟨d,p,z⟩:=c5.mp z
  rcases D.at_ with ⟨_,_,_,e⟩|⟨R0,q,p2,e,_,e2,e3⟩
  .rw [e] at z;cases z
  .rw [e] at z
   rcases Mv.mp z with z|z
   .have:=e3 _ z;simp only at this;omega
   .rw [u_] at z;cases z;omega
 obtain⟨p,e,_⟩:=zV (sl:=sl) (f:=f) (k:=k) hj hr;exact⟨p,hj,e⟩
def rP.row{Z f R}{i x k:Int}(D:rP n c g t l s Z f R i x k)(F:uf n c g t l s)(hs:s<n)(h0:0<=i):i.toNat<n:=by
 rcases D.at_ with ⟨_,e,_⟩|⟨R0,q,p2,e,_,e2,e3⟩
 .omega
 .have:=F.ld q (D.rn _ (by rw [e];exact r_ _ q_));omega
def rP.step{Z f R}{i x k:Int}(D:rP n c g t l s Z f R i x k)(F:uf n c g t l s)(hs:s<n)(h0:0<=i){f':NrT}(ef:f'=fM (λj=>x+g i.toNat+t j - c i.toNat j) R f k n){mq:Int×Nat}(hq:fk f' n mq) :
  rP n c g t l s ((i.toNat,x)::Z) (qk f' mq.2) (R++[(mq.2,mq.1,E5 f' mq.2)]) (l mq.2) mq.1 mq.2:=by
 obtain⟨m,q⟩:=mq;obtain⟨h1,⟨p0,h2⟩,h3⟩:=hq;simp only at h1 h2 h3 ⊢;have hp0:E5 f' q=p0:=by unfold E5;rw [h2];rfl
 rw [hp0];have hi:i.toNat<n:=D.row F hs h0;have sp:∀{j:Nat}{p:Int×Int},f' j=ψ p->j<n/\j∉eX R/\(f j=ψ p\/p=(x+g i.toNat+t j - c i.toNat j,k)):=λ{j p} h=>by rw [ef] at h;exact mw h D.fn
 have hqR:q∉eX R:=(sp h2).2.1
 have sle:∀{j:Nat},j<n->j∉eX R->∃p,f' j=ψ p/\p.1<=x+nS c g t i.toNat j/\∀q,f j=ψ q->p.1<=q.1:=λ{j} hj hr=>by
  obtain⟨p,e1,e2,e3⟩:=zV (sl:=λj=>x+g i.toNat+t j - c i.toNat j) (f:=f) (k:=k) hj hr;refine⟨p,by rw [ef];exact e1,?_,e3⟩;unfold nS;have e2:p.1<=x+g i.toNat+t j - c i.toNat j:=e2;omega
 have pre1:∀{j:Nat}{p:Int×Int},f' j=ψ p->zU c g t l s R (j,p.1,p.2):=λ{j p} h=>by
  rcases (sp h).2.2 with e|e
  .exact D.pf j p e
  .rw [e]
   rcases D.at_ with ⟨e1,e2,e3,e4⟩|⟨R0,q',p2,e1,e2,e3,e4⟩
   .refine .inl ⟨e1,?_⟩;show x+g i.toNat+t j - c i.toNat j=nS c g t s j;unfold nS;rw [e2,e3,tj];omega
   .refine .inr ⟨(q',x,p2),by rw [e1];exact r_ _ q_,e2,by show 0<=l q';omega,?_⟩;show x+g i.toNat+t j - c i.toNat j=x+nS c g t (l q').toNat j;unfold nS;rw [<- e3];omega
 have sl0:∀j,j<n->0<=nS c g t i.toNat j:=λj hj=>by
  have:=F.up i.toNat j hi hj;unfold nS;omega
 have xm:x<=m:=by
  rcases (sp h2).2.2 with e|e
  .exact D.lf q _ e
  .have:=sl0 q h1;unfold nS at this;have e:=congrArg y_ e;simp only at e;omega
 have dn:∀{j:Nat}{p:Int×Int},qk f' q j=ψ p->j≠q/\f' j=ψ p:=λ{j p} h=>by
  unfold qk at h
  by_cases c:j=q
  .rw [if_pos c] at h;cases h
  .rw [if_neg c] at h;exact⟨c,h⟩
 refine⟨?_,?_,?_,?_,?_,?_,?_,by have:=D.x0;omega,?_,?_,?_⟩
 .rw [mr];refine O7.mpr ⟨D.nd,by simp [eX],λa ha b hb e=>?_⟩;have:b=q:=by simpa [eX] using hb
  exact hqR (by rw [<- this,<- e];exact ha)
 .intro e he
  rcases Mv.mp he with he|he
  .exact D.rn e he
  .rw [u_] at he;rw [he];exact h1
 .rintro j ⟨p,hp⟩;obtain⟨a,b⟩:=dn hp;refine⟨(sp b).1,?_⟩;rw [mr];intro z
  rcases Mv.mp z with z|z
  .exact (sp b).2.1 z
  .exact a (by simpa [eX] using z)
 .intro R1 e R2 he
  rcases append_eq_append_iff.mp he with ⟨as,e1,e2⟩|⟨bs,e1,e2⟩
  .cases as with
   | nil =>
    rw [Mr] at e1;rw [nil_append] at e2;cases e2;rw [e1];exact pre1 h2
   | cons a as =>
    rw [cons_append] at e2;have e3:=(List.cons.inj e2).2;cases as <;> cases e3
  .cases bs with
   | nil =>
    rw [Mr] at e1;rw [nil_append] at e2;cases e2;rw [<- e1];exact pre1 h2
   | cons b bs =>
    rw [cons_append] at e2;obtain⟨e3,e4⟩:=List.cons.inj e2;rw [e3];exact D.pr R1 b bs e1
 .intro j p hp;exact (pre1 (dn hp).2).more
 .intro e he
  rcases Mv.mp he with he|he
  .have:=D.lr e he;omega
  .rw [u_] at he;rw [he];exact Nk _
 .intro j p hp;have:=h3 j (sp (dn hp).2).1 p (dn hp).2;omega
 .intro z hz
  have keep:∀j,j<n->∀v:Int,(∃p,f' j=ψ p/\p.1<=v)->(∃e,e∈R++[(q,m,p0)]/\e.1=j/\e.2.1<=v)\/∃p,qk f' q j=ψ p/\p.1<=v:=λj hj v ⟨p,e,hv⟩=>by
   by_cases c:j=q
   .subst c;rw [h2] at e;cases e;exact .inl ⟨_,r_ _ q_,rfl,hv⟩
   .exact .inr ⟨p,by unfold qk;rw [if_neg c];exact e,hv⟩
  rcases B_.mp hz with rfl|hz
  .refine⟨hi,λj hj=>?_⟩
   by_cases cR:j∈eX R
   .obtain⟨d,p,hm⟩:=c5.mp cR;have:=D.lr _ hm;have:=sl0 j hj;exact .inl ⟨_,Mf _ hm,rfl,by simp only at *;omega⟩
   .obtain⟨p,e1,e2,_⟩:=sle hj cR;exact keep j hj _ ⟨p,e1,e2⟩
  .obtain⟨a,b⟩:=D.zn z hz;refine⟨a,λj hj=>?_⟩
   rcases b j hj with ⟨e,he,h⟩|⟨p,he,h⟩
   .exact .inl ⟨e,Mf _ he,h⟩
   .obtain⟨p2,e1,_,e3⟩:=sle hj (D.fn j ⟨p,he⟩).2;have:=e3 _ he;exact keep j hj _ ⟨p2,e1,by omega⟩
 .intro r y h
  rcases h with ⟨rfl,rfl⟩|⟨e,he,h⟩
  .rcases D.sc r 0 (.inl ⟨rfl,rfl⟩) with h|⟨h,h'⟩
   .exact .inl (n_ _ h)
   .refine .inl (B_.mpr (.inl ?_));rw [<- h',<- h,tj]
  .rcases Mv.mp he with he|he
   .rcases D.sc r y (.inr ⟨e,he,h⟩) with h|⟨h,h'⟩
    .exact .inl (n_ _ h)
    .refine .inl (B_.mpr (.inl ?_));rw [<- h',<- h,tj]
   .rw [u_] at he;subst he;exact .inr ⟨h.1.symm,h.2⟩
 .refine .inr ⟨R,q,p0,rfl,rfl,rfl,λe he=>?_⟩
  rcases D.at_ with ⟨_,_,_,e1⟩|⟨R0,q',p2,e1,e2,e3,e4⟩
  .rw [e1] at he;cases he
  .rw [e1] at he
   rcases Mv.mp he with he|he
   .exact e4 e he
   .rw [u_] at he;rw [he];show 0<=l q';omega
def rP.len{Z f R}{i x k:Int}(D:rP n c g t l s Z f R i x k):R.length<=n:=by
 have:=io (M:=n) D.nd λj hj=>by
  obtain⟨d,p,h⟩:=c5.mp hj;exact D.rn _ h
 unfold eX at this;rw [cy] at this;exact this
structure Do (n:Nat) (c:Nat->Nat->Int) (g t l:Nat->Int) (s:Nat) (R0:cu) (q:Nat) (x p:Int):Prop where
 nd:(eX (R0++[(q,x,p)])).Nodup
 rn:∀e,e∈R0++[(q,x,p)]->e.1<n
 pr:∀R1 e R2,R0++[(q,x,p)]=R1++e::R2->zU c g t l s R1 e
 lr:∀e,e∈R0++[(q,x,p)]->e.2.1<=x
 x0:0<=x
 fr:l q<0
 ld:∀e,e∈R0->0<=l e.1
 sc:∀r y,ScP l s (R0++[(q,x,p)]) r y->r<n/\∀j,j<n->(∃e,e∈R0++[(q,x,p)]/\e.1=j/\e.2.1<=y+nS c g t r j)\/(j∉eX (R0++[(q,x,p)])/\x<=y+nS c g t r j)
def rP.way{Z f R}{i x k:Int}(D:rP n c g t l s Z f R i x k)(h:i<0):∃R0 q p,R=R0++[(q,x,p)]/\Do n c g t l s R0 q x p:=by
 rcases D.at_ with ⟨_,e,_⟩|⟨R0,q,p,e,e2,e3,e4⟩
 .omega
 .subst e;refine⟨R0,q,p,rfl,D.nd,D.rn,D.pr,D.lr,D.x0,by omega,e4,λr y hs=>?_⟩
  rcases D.sc r y hs with z|⟨z,_⟩
  .obtain⟨a,b⟩:=D.zn _ z;refine⟨a,λj hj=>(b j hj).imp id λ⟨p,e,h⟩=>⟨(D.fn j ⟨p,e⟩).2,?_⟩⟩;have:=D.lf _ _ e;simp only at h;omega
  .omega
noncomputable def upF(l:Nat->Int)(F:Int)(tg:(Nat->Int)×(Nat->Int))(e:Nat×Int×Int):(Nat->Int)×(Nat->Int) :=
 if 0<=l e.1 then (lu tg.1 e.1 (tg.1 e.1+(F - e.2.1)),lu tg.2 (l e.1).toNat (tg.2 (l e.1).toNat - (F - e.2.1))) else tg
theorem Iu{F:Int}:∀{R:cu}{tg:(Nat->Int)×(Nat->Int)}{j:Nat},(eX R).Nodup ->
  (∀e,e∈R->e.1=j->0<=l j->(R.foldl (upF l F) tg).1 j=tg.1 j+(F - e.2.1))/\(j∉eX R\/l j<0->(R.foldl (upF l F) tg).1 j=tg.1 j)
 | [],tg,j,_=>⟨λe h=>(by cases h),λ_=>rfl⟩
 | a::R,tg,j,nd=>by
  have nd:(a.1::eX R).Nodup:=nd;obtain⟨na,nd⟩:=OB.mp nd;obtain⟨ih1,ih2⟩:=Iu (F:=F) (R:=R) (tg:=upF l F tg a) (j:=j) nd;rw [Qt]
  have st:(a.1=j->0<=l j->(upF l F tg a).1 j=tg.1 j+(F - a.2.1))/\(a.1≠j\/l j<0->(upF l F tg a).1 j=tg.1 j):=by
   unfold upF
   refine⟨λe h=>?_,λh=>?_⟩
   .subst e;rw [if_pos h];exact cF
   .by_cases c:0<=l a.1
    .rw [if_pos c];refine bA λe=>?_;subst e
     rcases h with h|h
     .exact h rfl
     .omega
    .rw [if_neg c]
  refine⟨λe he ej h=>?_,λh=>?_⟩
  .rcases B_.mp he with rfl|he
   .rw [ih2 (.inl (by rw [<- ej];exact na)),st.1 ej h]
   .rw [ih1 e he ej h,st.2 (.inl λz=>na (by rw [z,<- ej];exact c5.mpr ⟨_,_,he⟩))]
  .rw [ih2 (h.imp (λz y=>z (n_ _ y)) id),st.2 (h.imp (λz y=>z (by rw [<- y];exact q_)) id)]
theorem Jo{F:Int}:∀{R:cu}{tg:(Nat->Int)×(Nat->Int)}{i:Nat},(eX R).Nodup->(∀a b,a∈R->b∈R->0<=l a.1->l a.1=l b.1->a.1=b.1) ->
  (∀e,e∈R->l e.1=i->(R.foldl (upF l F) tg).2 i=tg.2 i - (F - e.2.1))/\((∀e,e∈R->l e.1≠i)->(R.foldl (upF l F) tg).2 i=tg.2 i)
 | [],tg,i,_,_=>⟨λe h=>(by cases h),λ_=>rfl⟩
 | a::R,tg,i,nd,inj=>by
  have nd:(a.1::eX R).Nodup:=nd;obtain⟨na,nd⟩:=OB.mp nd;obtain⟨ih1,ih2⟩:=Jo (F:=F) (R:=R) (tg:=upF l F tg a) (i:=i) nd λx y hx hy=>inj x y (n_ _ hx) (n_ _ hy);rw [Qt]
  have st:(l a.1=i->(upF l F tg a).2 i=tg.2 i - (F - a.2.1))/\(l a.1≠i->(upF l F tg a).2 i=tg.2 i):=by
   unfold upF
   refine⟨λe=>?_,λh=>?_⟩
   .rw [if_pos ⋯];have:(l a.1).toNat=i:=by omega
    rw [this];exact cF
   .by_cases c:0<=l a.1
    .rw [if_pos c];exact bA λe=>h ⋯
    .rw [if_neg c]
  refine⟨λe he ej=>?_,λh=>?_⟩
  .rcases B_.mp he with rfl|he
   .rw [ih2 λb hb eb=>?_,st.1 ej];have:=inj e b q_ (n_ _ hb) ⋯ ⋯;exact na (by rw [this];exact c5.mpr ⟨_,_,hb⟩)
   .rw [ih1 e he ej,st.2 λz=>?_];have:=inj a e q_ (n_ _ he) ⋯ ⋯;exact na (by rw [this];exact c5.mpr ⟨_,_,he⟩)
  .rw [ih2 λe he=>h e (n_ _ he),st.2 (h a q_)]
noncomputable def prv(R:cu)(q:Nat):Int:=((R.find? (·.1 == q)).getD (0,0,-1)).2.2
noncomputable def i6(R:cu)(s:Nat):Nat->(Nat->Int)->Int->(Nat->Int)
 | 0,L,_=>L
 | m+1,L,k=>if k<0 then L else i6 R s m (lu L k.toNat (if 0<=prv R k.toNat then L (prv R k.toNat).toNat else s)) (prv R k.toNat)
theorem jM:∀{R:cu}{q:Nat}{d p:Int},(eX R).Nodup->(q,d,p)∈R->R.find? (·.1 == q)=ψ (q,d,p)
 | [],_,_,_,_,h=>by cases h
 | a::R,q,d,p,nd,h=>by
  have nd:(a.1::eX R).Nodup:=nd;obtain⟨na,nd⟩:=OB.mp nd
  rcases B_.mp h with rfl|h
  .rw [find?_cons_of_pos (by simp)]
  .rw [find?_cons_of_neg,jM nd h];have:a.1≠q:=λz=>na (by rw [z];exact c5.mpr ⟨_,_,h⟩);simp [this]
def Dp{R:cu}{q:Nat}{d p:Int}(nd:(eX R).Nodup)(h:(q,d,p)∈R):prv R q=p:=by
 unfold prv;rw [jM nd h];rfl
section
variable (n:Nat) (c:Nat->Nat->Int) (g t l:Nat->Int) (s:Nat)
structure E6 (L:Nat->Int) (k:Nat):Prop where
 ld:∀j,j<n->j≠k->L j=-1\/(0<=L j/\L j<s)
 tg:∀j,j<n->j≠k->0<=L j->g (L j).toNat+t j=c (L j).toNat j
 inj:∀i j,i<n->j<n->i≠k->j≠k->0<=L i->L i=L j->i=j
 sur:∀i,i<s->∃j,j<n/\j≠k/\L j=i
 fr:∀j,j<n->j≠k->L j=-1->t j=0
end
def zW{R:cu}{g' t' L:Nat->Int}{R1 R2:cu}{e:Nat×Int×Int}(nd:(eX R).Nodup)(rn:∀e,e∈R->e.1<n)(he:R=R1++e::R2)(pr:zU c g t l s R1 e)(ti:∀r,(e.2.2=-1/\r=s)\/(∃a,a∈R1/\e.2.2=a.1/\0<=l a.1/\r=(l a.1).toNat)->g' r+t' e.1=c r e.1)(H:E6 n c g' t' s L e.1)(ag:∀a,a∈R1->L a.1=l a.1):
  (e.2.2=-1/\(∀j,j<n->lu L e.1 s j=-1\/(0<=lu L e.1 s j/\lu L e.1 s j<s+1))/\(∀j,j<n->0<=lu L e.1 s j->g' (lu L e.1 s j).toNat+t' j=c (lu L e.1 s j).toNat j)
  /\(∀i j,i<n->j<n->0<=lu L e.1 s i->lu L e.1 s i=lu L e.1 s j->i=j)/\(∀i,i<s+1->∃j,j<n/\lu L e.1 s j=i)/\(∀j,j<n->lu L e.1 s j=-1->t' j=0))
 \/∃S1 a S2,R1=S1++a::S2/\e.2.2=a.1/\E6 n c g' t' s (lu L e.1 (L a.1)) a.1/\∀b,b∈S1->lu L e.1 (L a.1) b.1=l b.1:=by
 have en:e.1<n:=rn e (by rw [he];exact r_ _ q_)
 have ne:∀a,a∈R1->a.1≠e.1:=λa ha z=>by
  rw [he,mr] at nd;exact (O7.mp nd).2.2 a.1 (c5.mpr ⟨_,_,ha⟩) e.1 q_ z
 rcases pr with ⟨e1,_⟩|⟨a,ha,e1,e2,_⟩
 .refine .inl ⟨e1,λj hj=>?_,λj hj h0=>?_,λi j hi hj h0 h=>?_,λi hi=>?_,λj hj h=>?_⟩
  .by_cases cj:j=e.1
   .subst cj;rw [cF];exact .inr ⟨by omega,by omega⟩
   .rw [bA cj];exact (H.ld j hj cj).imp id λz=>⟨z.1,by omega⟩
  .by_cases cj:j=e.1
   .subst cj;rw [cF,tj];exact ti s (.inl ⟨e1,rfl⟩)
   .rw [bA cj] at h0 ⊢;exact H.tg j hj cj h0
  .by_cases ci:i=e.1 <;> by_cases cj:j=e.1
   .rw [ci,cj]
   .exfalso;rw [ci,cF,bA cj] at h;rcases H.ld j hj cj with z|z <;> omega
   .exfalso;rw [cj,cF,bA ci] at h;rcases H.ld i hi ci with z|z <;> omega
   .rw [bA ci] at h0;rw [bA ci,bA cj] at h;exact H.inj i j hi hj ci cj h0 h
  .by_cases c:i=s
   .exact⟨e.1,en,by rw [cF,c]⟩
   .obtain⟨j,h1,h2,h3⟩:=H.sur i ⋯;exact⟨j,h1,by rw [bA h2];exact h3⟩
  .by_cases cj:j=e.1
   .subst cj;rw [cF] at h;omega
   .rw [bA cj] at h;exact H.fr j hj cj h
 .obtain⟨S1,S2,es⟩:=append_of_mem ha;have an:a.1<n:=rn a (by rw [he];exact Mf _ ha);have La:=ag a ha;have nae:=ne a ha
  have sa:∀b,b∈S1->b.1≠a.1:=λb hb z=>by
   rw [he,mr] at nd;have nd:=(O7.mp nd).1;rw [es,mr] at nd;exact (O7.mp nd).2.2 b.1 (c5.mpr ⟨_,_,hb⟩) a.1 q_ z
  refine .inr ⟨S1,a,S2,es,e1,⟨λj hj ja=>?_,λj hj ja h0=>?_,λi j hi hj ia ja h0 h=>?_,λi hi=>?_,λj hj ja h=>?_⟩,λb hb=>?_⟩
  .by_cases cj:j=e.1
   .subst cj;rw [cF];exact H.ld a.1 an nae
   .rw [bA cj];exact H.ld j hj cj
  .by_cases cj:j=e.1
   .subst cj;rw [cF,La];exact ti _ (.inr ⟨a,ha,e1,e2,rfl⟩)
   .rw [bA cj] at h0 ⊢;exact H.tg j hj cj h0
  .by_cases ci:i=e.1 <;> by_cases cj:j=e.1
   .rw [ci,cj]
   .exfalso;rw [ci,cF] at h0;rw [ci,cF,bA cj] at h;exact ja (H.inj a.1 j an hj nae cj h0 h).symm
   .exfalso;rw [bA ci] at h0;rw [cj,cF,bA ci] at h;exact ia (H.inj i a.1 hi an ci nae h0 h)
   .rw [bA ci] at h0;rw [bA ci,bA cj] at h;exact H.inj i j hi hj ci cj h0 h
  .obtain⟨j,h1,h2,h3⟩:=H.sur i hi
   by_cases c:j=a.1
   .exact⟨e.1,en,λz=>nae z.symm,by rw [cF,<- c,h3]⟩
   .exact⟨j,h1,c,by rw [bA h2];exact h3⟩
  .by_cases cj:j=e.1
   .subst cj;rw [cF,La] at h;omega
   .rw [bA cj] at h;exact H.fr j hj cj h
  .rw [bA (ne b (by rw [es];exact Mf _ hb))];exact ag b (by rw [es];exact Mf _ hb)
theorem vU{R:cu}{g' t':Nat->Int}(nd:(eX R).Nodup)(rn:∀e,e∈R->e.1<n)(ti:∀R1 e R2,R=R1++e::R2->zU c g t l s R1 e/\∀r,(e.2.2=-1/\r=s)\/(∃a,a∈R1/\e.2.2=a.1/\0<=l a.1/\r=(l a.1).toNat)->g' r+t' e.1=c r e.1)(c0:∀i j,i<n->j<n->0<=c i j)(up:∀i j,i<n->j<n->c i j<=g' i+t' j)(t0:∀j,j<n->0<=t' j):
  ∀(m:Nat) (R1:cu) (e:Nat×Int×Int) (R2:cu) (L:Nat->Int),R=R1++e::R2->R1.length<m->E6 n c g' t' s L e.1->(∀a,a∈R1->L a.1=l a.1) ->
   uf n c g' t' (i6 R s m L e.1) (s+1)
 | 0,_,_,_,_,_,h,_,_=>absurd h (NC _)
 | m+1,R1,e,R2,L,he,hm,H,ag=>by
  have hp:prv R ((e.1:Nat):Int).toNat=e.2.2:=by
   rw [tj];exact Dp (d:=e.2.1) nd (by rw [he];exact r_ _ q_)
  obtain⟨pr,ti'⟩:=ti R1 e R2 he;unfold i6;rw [if_neg ⋯,hp,tj]
  rcases zW nd rn he pr ti' H ag with ⟨e1,h1,h2,h3,h4,h5⟩|⟨S1,a,S2,es,e1,H',ag'⟩
  .rw [e1,if_neg ⋯]
   have:∀(m:Nat) (L:Nat->Int),i6 R s m L (-1)=L:=λm L=>by
    cases m with
    | zero=>rfl
    | succ m=>unfold i6;rw [if_pos ⋯]
   rw [this];exact⟨c0,up,h1,h2,h3,h4,t0,h5⟩
  .rw [e1,if_pos ⋯,tj];exact vU nd rn ti c0 up t0 m S1 a (S2++e::R2) _ (by rw [he,es,M0];rfl) (by rw [es,kx,Mm] at hm;omega) H' ag'
noncomputable def gSt(g:Nat->Int)(s:Nat)(F:Int):Nat->Int:=lu g s (g s - F)
def Do.fit{R0:cu}{q:Nat}{x p:Int}(W:Do n c g t l s R0 q x p)(A:uf n c g t l s)(hs:s<n){m:Nat}(hm:R0.length<m):
  uf n c ((R0++[(q,x,p)]).foldl (upF l x) (t,gSt g s x)).2 ((R0++[(q,x,p)]).foldl (upF l x) (t,gSt g s x)).1 (i6 (R0++[(q,x,p)]) s m l q) (s+1)
  /\∀i,i<n->0<=((R0++[(q,x,p)]).foldl (upF l x) (t,gSt g s x)).2 i:=by
 have lq:l q=-1:=by
  rcases A.ld q (W.rn _ (r_ _ q_)) with h|h
  .exact h
  .have:=W.fr;omega
 have wfr:=W.fr;generalize hR:R0++[(q,x,p)]=R at *;have hnd:(eX R).Nodup:=by rw [<- hR];exact W.nd
 have hrn:∀e,e∈R->e.1<n:=by rw [<- hR];exact W.rn
 have hpr:∀R1 e R2,R=R1++e::R2->zU c g t l s R1 e:=by rw [<- hR];exact W.pr
 have hlr:∀e,e∈R->e.2.1<=x:=by rw [<- hR];exact W.lr
 have hsc:∀r y,ScP l s R r y->r<n/\∀j,j<n->(∃e,e∈R/\e.1=j/\e.2.1<=y+nS c g t r j)\/(j∉eX R/\x<=y+nS c g t r j):=by rw [<- hR];exact W.sc
 have hq:(q,x,p)∈R:=by rw [<- hR];exact r_ _ q_
 have hl:∀e,e∈R->l e.1<0->e.2.1=x:=λe he h=>by
  rw [<- hR] at he
  rcases Mv.mp he with he|he
  .have:=W.ld e he;omega
  .rw [u_] at he;rw [he]
 have hinj:∀a b,a∈R->b∈R->0<=l a.1->l a.1=l b.1->a.1=b.1:=λa b ha hb h e=>A.inj a.1 b.1 (hrn a ha) (hrn b hb) h e;have ent:∀e,e∈R->∀j,e.1=j->∃d p,(j,d,p)∈R/\e=(j,d,p):=λe he j ej=>⟨e.2.1,e.2.2,by subst ej;exact he,by subst ej;rfl⟩
 generalize hg:(R.foldl (upF l x) (t,gSt g s x)).2=g';generalize ht:(R.foldl (upF l x) (t,gSt g s x)).1=t'
 -- the prices told
 have tR:∀e,e∈R->t' e.1=t e.1+(x - e.2.1):=λe he=>by
  rw [<- ht]
  by_cases h:0<=l e.1
  .exact (Iu hnd).1 e he rfl h
  .rw [(Iu hnd).2 (.inr ⋯),hl e he ⋯];show t e.1=_;omega
 have tN:∀j,j∉eX R->t' j=t j:=λj h=>by rw [<- ht];exact (Iu hnd).2 (.inl h)
 have tF:∀j,l j<0->t' j=t j:=λj h=>by rw [<- ht];exact (Iu hnd).2 (.inr h)
 have ls:∀e,e∈R->l e.1≠(s:Int):=λe he z=>by
  rcases A.ld e.1 (hrn e he) with h|h <;> omega
 have gS:g' s=g s - x:=by
  rw [<- hg,(Jo hnd hinj).2 ls];exact cF
 have gR:∀e,e∈R->∀i:Nat,l e.1=i->g' i=g i - (x - e.2.1):=λe he i ei=>by
  rw [<- hg,(Jo hnd hinj).1 e he ei];show lu g s _ i - _=_;rw [bA λz=>ls e he (by rw [ei,z])]
 have gN:∀i,i≠s->(∀e,e∈R->l e.1≠(i:Int))->g' i=g i:=λi h1 h2=>by
  rw [<- hg,(Jo hnd hinj).2 h2];exact bA h1
 -- what a scanned row's price became
 have gSc:∀r y,ScP l s R r y->g' r=g r - (x - y):=λr y h=>by
  rcases h with ⟨rfl,rfl⟩|⟨e,he,h1,h2⟩
  .rw [gS];omega
  .rw [gR e he r h1,h2]
 have scOr:∀i,(∃y,ScP l s R i y)\/(i≠s/\∀e,e∈R->l e.1≠(i:Int)):=λi=>by
  by_cases h:i=s
  .exact .inl ⟨0,.inl ⟨h,rfl⟩⟩
  .by_cases h2:∃e,e∈R/\l e.1=(i:Int)
   .obtain⟨e,he,h2⟩:=h2;exact .inl ⟨e.2.1,.inr ⟨e,he,h2,rfl⟩⟩
   .exact .inr ⟨h,λe he z=>h2 ⟨e,he,z⟩⟩
 have uniq:∀{j d p d' p'},(j,d,p)∈R->(j,d',p')∈R->d=d':=λ{j d p d' p'} h1 h2=>by
  have a:=jM hnd h1;rw [jM hnd h2] at a;cases a;rfl
 have up:∀i j,i<n->j<n->c i j<=g' i+t' j:=λi j hi hj=>by
  have u:=A.up i j hi hj
  rcases scOr i with ⟨y,h⟩|⟨h1,h2⟩
  .rw [gSc i y h]
   rcases (hsc i y h).2 j hj with ⟨e,he,ej,hle⟩|⟨hn,hle⟩
   .subst ej;rw [tR e he];unfold nS at hle;omega
   .rw [tN j hn];unfold nS at hle;omega
  .rw [gN i h1 h2]
   by_cases hj2:j∈eX R
   .obtain⟨d,p,hm⟩:=c5.mp hj2;have:=tR _ hm;have:=hlr _ hm;simp only at *;omega
   .rw [tN j hj2];exact u
 have t0:∀j,j<n->0<=t' j:=λj hj=>by
  have u:=A.t0 j hj
  by_cases hj2:j∈eX R
  .obtain⟨d,p,hm⟩:=c5.mp hj2;have:=tR _ hm;have:=hlr _ hm;simp only at *;omega
  .rw [tN j hj2];exact u
 have tight:∀j,j<n->0<=l j->g' (l j).toNat+t' j=c (l j).toNat j:=λj hj h=>by
  have u:=A.tg j hj h
  by_cases hj2:j∈eX R
  .obtain⟨d,p,hm⟩:=c5.mp hj2;have a:=tR _ hm;have b:=gR _ hm (l j).toNat (by show l j=_;omega);simp only at a b;rw [a,b];omega
  .rw [tN j hj2,gN]
   .exact u
   .intro z;rcases A.ld j hj with h|h <;> omega
   .intro e he z;have:=A.inj j e.1 hj (hrn e he) h ⋯;exact hj2 (by rw [this];exact c5.mpr ⟨_,_,he⟩)
 have ti:∀R1 e R2,R=R1++e::R2->zU c g t l s R1 e/\∀r,(e.2.2=-1/\r=s)\/(∃a,a∈R1/\e.2.2=a.1/\0<=l a.1/\r=(l a.1).toNat)->g' r+t' e.1=c r e.1:=λR1 e R2 h=>by
  have hp:=hpr R1 e R2 h;have he:e∈R:=by rw [h];exact r_ _ q_
  refine⟨hp,λr hr=>?_⟩;have a:=tR e he
  rcases hr with ⟨z,rfl⟩|⟨b,hb,z1,z2,rfl⟩
  .rcases hp with ⟨_,h2⟩|⟨q',_,h2,_⟩
   .rw [gS,a,h2];unfold nS;omega
   .omega
  .have hbR:b∈R:=by rw [h];exact Mf _ hb
   rcases hp with ⟨h1,_⟩|⟨q',hq',h1,h2,h3⟩
   .omega
   .have e2:q'.1=b.1:=by omega
    obtain⟨qa,qd,qp⟩:=q';obtain⟨ba,bd,bp⟩:=b;simp only at e2 h1 h2 h3 z1 z2 ⊢;subst e2;have hqR:(qa,qd,qp)∈R:=by rw [h];exact Mf _ hq'
    have:=gR _ hqR (l qa).toNat (by show l qa=_;omega);simp only at this;rw [this,a,h3];unfold nS;omega
 refine⟨vU hnd hrn ti A.c0 up t0 m R0 (q,x,p) [] l hR.symm hm ⟨λj hj _=>A.ld j hj,λj hj _ h=>tight j hj h,λi j hi hj _ _ h e=>A.inj i j hi hj h e,λi hi=>?_,λj hj _ h=>?_⟩ λa _=>rfl,λi hi=>?_⟩
 .obtain⟨j,hj,e⟩:=A.sur i hi;exact⟨j,hj,λz=>by rw [z] at e;simp only at e;omega,e⟩
 .rw [tF j ⋯];exact A.fr j hj h
 .have hqn:=hrn _ hq;have a:=up i q hi hqn;have b:=A.c0 i q hi hqn;have e:t' q=0:=by rw [tF q ⋯];exact A.fr q hqn lq
  omega
def rQ{m:Nat}{R:cu}{i x k:Int}(h:i<0):Ca n c g t l m f R i x k=R:=by
 cases m with
 | zero=>rfl
 | succ m=>unfold Ca;rw [if_pos h]
def rR{m:Nat}{f':NrT}{R:cu}{i x k:Int}(h:0<=i)(ef:f'=fM (λj=>x+g i.toNat+t j - c i.toNat j) R f k n){mq:Int×Nat}(hq:fk f' n mq):
  Ca n c g t l (m+1) f R i x k=Ca n c g t l m (qk f' mq.2) (R++[(mq.2,mq.1,E5 f' mq.2)]) (l mq.2) mq.1 mq.2:=by
 rw [Ca,if_neg ⋯];simp only;rw [<- ef,B9 hq]
theorem zX(F:uf n c g t l s)(hs:s<n):∀(m:Nat) (Z:List (Nat×Int)) (f:NrT) (R:cu) (i x k:Int),rP n c g t l s Z f R i x k->n<R.length+m ->
  ∃R0 q x' p,Ca n c g t l m f R i x k=R0++[(q,x',p)]/\Do n c g t l s R0 q x' p
 | 0,_,_,R,_,_,_,D,h=>absurd D.len ⋯
 | m+1,Z,f,R,i,x,k,D,h=>by
  by_cases hi:i<0
  .rw [rQ hi];obtain⟨R0,q,p,e,W⟩:=D.way hi;exact⟨R0,q,x,p,e,W⟩
  .obtain⟨mq,hq⟩:=D.near F hs ⋯ (sl:=λj=>x+g i.toNat+t j - c i.toNat j);rw [rR ⋯ rfl hq];exact zX F hs m _ _ _ _ _ _ (D.step F hs ⋯ rfl hq) (by rw [kx];simp only [Mm,OC];omega)
def Iv(F:uf n c g t l s)(hs:s<n):∃R0 q x p,Jn n c g t l s=R0++[(q,x,p)]/\Do n c g t l s R0 q x p :=
 zX F hs (n+1) [] _ [] s 0 (-1) (rP.start hs) (by simp)
abbrev PrT:=(Nat->Int)×(Nat->Int)×(Nat->Int)
noncomputable def zY(R:cu):Nat×Int×Int:=R.getLastD (0,0,-1)
noncomputable def mx(n:Nat)(c:Nat->Nat->Int)(s:Nat)(S:PrT):PrT :=
 let R:=Jn n c S.1 S.2.1 S.2.2 s
 let tg:=R.foldl (upF S.2.2 (zY R).2.1) (S.2.1,gSt S.1 s (zY R).2.1)
 (tg.2,tg.1,i6 R s (n+1) S.2.2 (zY R).1)
def rS{R:cu}{e:Nat×Int×Int}:zY (R++[e])=e:=by
 unfold zY;rw [getLastD_eq_getLast?,getLast?_append];rfl
def Do.len{R0:cu}{q:Nat}{x p:Int}(W:Do n c g t l s R0 q x p):R0.length+1<=n:=by
 have:=io (M:=n) W.nd λj hj=>by
  obtain⟨d,p,h⟩:=c5.mp hj;exact W.rn _ h
 unfold eX at this;rw [cy,kx] at this;exact this
def rT{S:PrT}(A:uf n c S.1 S.2.1 S.2.2 s)(hs:s<n):uf n c (mx n c s S).1 (mx n c s S).2.1 (mx n c s S).2.2 (s+1)/\∀i,i<n->0<=(mx n c s S).1 i:=by
 obtain⟨R0,q,x,p,e,W⟩:=Iv A hs;have:=W.fit A hs (m:=n+1) (by have:=W.len;omega);unfold mx;simp only;rw [e,rS];exact this
noncomputable def AO(f:Nat->Int):Nat->Int
 | 0=>0
 | 1=>f 0
 | m+2=>if AO f (m+1)<f (m+1) then f (m+1) else AO f (m+1)
theorem ug{f:Nat->Int}:∀{m j:Nat},j<m->f j<=AO f m
 | 0,_,h=>absurd h (NC _)
 | 1,j,h=>by
  have:j=0:=by omega
  subst this;exact Nk _
 | m+2,j,h=>by
  unfold AO
  by_cases c:j=m+1
  .subst c;split <;> omega
  .have:=ug (f:=f) (m:=m+1) (j:=j) ⋯;split <;> omega
theorem vV{f:Nat->Int}:∀{m:Nat},0<m->∃j,j<m/\AO f m=f j
 | 0,h=>absurd h (Md _)
 | 1,_=>⟨0,Mu _,rfl⟩
 | m+2,_=>by
  unfold AO
  split
  .exact⟨m+1,Mu _,rfl⟩
  .obtain⟨j,hj,e⟩:=vV (f:=f) (m:=m+1) ⋯;exact⟨j,by omega,e⟩
noncomputable def bpN(n:Nat)(c:Nat->Nat->Int):Nat->PrT
 | 0=>(λi=>AO (c i) n,λ_=>0,λ_=>-1)
 | s+1=>mx n c s (bpN n c s)
theorem pd(c0:∀i j,i<n->j<n->0<=c i j):∀s,s<=n->uf n c (bpN n c s).1 (bpN n c s).2.1 (bpN n c s).2.2 s
 | 0,_=>⟨c0,λi j hi hj=>by show c i j<=AO (c i) n+0;have:=ug (f:=c i) hj;omega,λj _=>.inl rfl,λj _ h=>absurd (show (0:Int)<=-1 from h) ⋯,
  λi j _ _ h=>absurd (show (0:Int)<=-1 from h) ⋯,λi h=>absurd h (NC _),λj _=>Nk _,λj _ _=>rfl⟩
 | s+1,h=>(rT (pd c0 s ⋯) ⋯).1
def Iw(c0:∀i j,i<n->j<n->0<=c i j)(hi:i<n):0<=(bpN n c n).1 i:=by
 cases n with
 | zero=>omega
 | succ s=>exact (rT (pd c0 s ⋯) ⋯).2 i hi
noncomputable def bpF(n:Nat)(c:Nat->Nat->Int)(i:Nat):Nat:=((g_ n).map (bpN n c n).2.2).idxOf (i:Int)
def vW(c0:∀i j,i<n->j<n->0<=c i j)(hi:i<n):bpF n c i<n/\(bpN n c n).2.2 (bpF n c i)=i:=by
 obtain⟨j,hj,e⟩:=(pd c0 n (f_ _)).sur i hi;have hm:(i:Int)∈(g_ n).map (bpN n c n).2.2:=Mp.mpr ⟨j,L_.mpr hj,e⟩;have h:=idxOf_lt_length_of_mem hm;have h':bpF n c i<n:=by rw [cy,x_] at h;exact h
 refine⟨h',?_⟩;have:=getElem_idxOf h;rw [ON,P8] at this;exact this
def uh(c0:∀i j,i<n->j<n->0<=c i j):(∀i,i<n->bpF n c i<n/\0<=(bpN n c n).1 i/\0<=(bpN n c n).2.1 i/\(bpN n c n).1 i+(bpN n c n).2.1 (bpF n c i)=c i (bpF n c i)
  /\∀j,j<n->c i j<=(bpN n c n).1 i+(bpN n c n).2.1 j)/\((g_ n).map (bpF n c)).Perm (g_ n):=by
 have A:=pd c0 n (f_ _)
 refine⟨λi hi=>?_,?_⟩
 .obtain⟨h1,h2⟩:=vW c0 hi;refine⟨h1,Iw c0 hi,A.t0 i hi,?_,λj hj=>A.up i j hi hj⟩;have:=A.tg _ h1 ⋯;rw [h2,tj] at this;exact this
 .have nd:((g_ n).map (bpF n c)).Nodup:=by
   refine Oj.mpr (P7 (R:=λa b=>a≠b) (λ{a b} ha hb hne he=>?_) QV);rw [L_] at ha hb;have h1:=(vW c0 ha).2;have h2:=(vW c0 hb).2;rw [he,h2] at h1;exact hne ⋯
  refine (qj nd (λx hx=>?_) (by rw [cy])).symm;obtain⟨j,hj,rfl⟩:=Mp.mp hx;rw [L_] at hj ⊢;exact (vW c0 hj).1
noncomputable def itf(f:Nat->Nat)(i:Nat):Nat->Nat
 | 0=>i
 | k+1=>f (itf f i k)
structure jN (f:Nat->Nat) (n:Nat):Prop where
 lt:∀i,i<n->f i<n
 inj:∀i j,i<n->j<n->f i=f j->i=j
section
variable {f:Nat->Nat}
theorem my(P:jN f n)(hi:i<n):∀k,itf f i k<n
 | 0=>hi
 | k+1=>P.lt _ (my P hi k)
theorem f7(i a:Nat):∀b,itf f i (a+b)=itf f (itf f i a) b
 | 0=>rfl
 | b+1=>congrArg f (f7 i a b)
theorem zZ(P:jN f n)(hi:i<n)(hj:j<n):∀a,itf f i a=itf f j a->i=j
 | 0,h=>h
 | a+1,h=>zZ P hi hj a (P.inj _ _ (my P hi a) (my P hj a) h)
def vX(P:jN f n)(hi:i<n){a k:Nat}(h:itf f i (a+k)=itf f i a):itf f i k=i:=by
 rw [add_comm,f7] at h;exact zZ P (my P hi k) hi a h
noncomputable def E7(f:Nat->Nat)(n i p:Nat):Prop:=1<=p/\p<=n/\itf f i p=i/\∀k,1<=k->k<p->itf f i k≠i
def z0:∀p,1<=p->itf f i p=i->∃q,1<=q/\q<=p/\itf f i q=i/\∀k,1<=k->k<q->itf f i k≠i:=λp=>by
 induction p using Nat.strongRecOn with
 | _ p ih =>
  intro h1 h2
  by_cases h:∃k,1<=k/\k<p/\itf f i k=i
  .obtain⟨k,a,b,c⟩:=h;obtain⟨q,q1,q2,q3,q4⟩:=ih k b a c;exact⟨q,q1,by omega,q3,q4⟩
  .exact⟨p,h1,f_ _,h2,λk a b c=>h ⟨k,a,b,c⟩⟩
def Dq(P:jN f n)(hi:i<n):∃p,E7 f n i p:=by
 have ex:∃p,1<=p/\p<=n/\itf f i p=i:=by
  refine MN λno=>?_
  have nd:((g_ (n+1)).map (itf f i)).Nodup:=by
   refine Oj.mpr (N1.imp_of_mem λ{a b} ha hb h z=>?_);have hb:=L_.mp hb;have e:itf f i (a+(b - a))=itf f i a:=by rw [show a+(b - a)=b by omega];exact z.symm
   exact no ⟨b - a,by omega,by omega,vX P hi e⟩
  have:=io nd λx hx=>by
   obtain⟨k,_,rfl⟩:=Mp.mp hx;exact my P hi k
  rw [cy,x_] at this;omega
 obtain⟨p,a,b,c⟩:=ex;obtain⟨q,q1,q2,q3,q4⟩:=z0 p a c;exact⟨q,q1,by omega,q3,q4⟩
open Classical in
noncomputable def per(f:Nat->Nat)(n i:Nat):Nat:=if h:∃p,E7 f n i p then choose h else 1
def mB(P:jN f n)(hi:i<n):E7 f n i (per f n i):=by
 unfold per;rw [dif_pos (Dq P hi)];exact O_ (Dq P hi)
noncomputable def iB(f:Nat->Nat)(i k:Nat):Δ:=(g_ k).map (itf f i)
def dN(f:Nat->Nat)(i k:Nat):iB f i (k+1)=iB f i k++[itf f i k]:=by
 unfold iB;rw [range_succ,D_];rfl
def fe(f:Nat->Nat)(i k:Nat):(iB f i k).length=k:=by unfold iB;rw [cy,x_]
def ql{k p:Nat}(h:k<p):(iB f i p)[k]?=ψ (itf f i k):=by
 unfold iB;rw [h_,Mj h];rfl
theorem qm(f:Nat->Nat)(i a:Nat):∀b,iB f i (a+b)=iB f i a++iB f (itf f i a) b
 | 0=>by rw [Q4];exact (Mr _).symm
 | b+1=>by rw [<- add_assoc,dN,qm f i a b,dN,f7,M0]
def vY{p c:Nat}(hp:itf f i p=i)(hc:c<=p):(iB f i p).drop c++(iB f i p).take c=iB f (itf f i c) p:=by
 obtain⟨b,rfl⟩:∃b,p=c+b:=⟨p - c,by omega⟩
 rw [qm f i c b,List.drop_left' (fe ..),List.take_left' (fe ..),add_comm c b,qm f _ b c,<- f7,hp]
noncomputable def orb(f:Nat->Nat)(n i:Nat):Δ:=iB f i (per f n i)
def j9(P:jN f n)(hi:i<n):x∈orb f n i ↔ ∃k,itf f i k=x:=by
 obtain⟨p1,_,p3,_⟩:=mB P hi;unfold orb iB;rw [Mp]
 constructor
 .rintro⟨k,_,e⟩;exact⟨k,e⟩
 .rintro⟨k,e⟩
  induction k using Nat.strongRecOn generalizing x with
  | _ k ih =>
   by_cases h:k<per f n i
   .exact⟨k,L_.mpr h,e⟩
   .refine ih (k - per f n i) ⋯ ?_;rw [<- e,show k=per f n i+(k - per f n i) by omega,f7,p3,add_sub_cancel_left]
def rV(P:jN f n)(hi:i<n):(orb f n i).Nodup:=by
 obtain⟨_,_,_,p4⟩:=mB P hi;refine Oj.mpr (N1.imp_of_mem λ{a b} ha hb h z=>?_);have hb:=L_.mp hb;have e:itf f i (a+(b - a))=itf f i a:=by rw [show a+(b - a)=b by omega];exact z.symm
 exact p4 (b - a) ⋯ ⋯ (vX P hi e)
def rW(P:jN f n)(hi:i<n)(h:x∈orb f n i):x<n:=by
 obtain⟨k,rfl⟩:=(j9 P hi).mp h;exact my P hi k
def vZ(P:jN f n)(hi:i<n):i∈orb f n i:=(j9 P hi).mpr ⟨0,rfl⟩
def rX(P:jN f n)(hi:i<n){y:Nat}(h:x∈orb f n i)(h':y∈orb f n x):y∈orb f n i:=by
 obtain⟨b,rfl⟩:=(j9 P (rW P hi h)).mp h';obtain⟨a,rfl⟩:=(j9 P hi).mp h;exact (j9 P hi).mpr ⟨a+b,f7 ..⟩
def Aa(P:jN f n)(hi:i<n)(h:x∈orb f n i):i∈orb f n x:=by
 have hx:=rW P hi h;obtain⟨p1,_,p3,_⟩:=mB P hi;obtain⟨k,hk,rfl⟩:=Mp.mp h;have hk:=L_.mp hk;refine (j9 P hx).mpr ⟨per f n i - k,?_⟩;rw [<- f7,show k+(per f n i - k)=per f n i by omega,p3]
noncomputable def Cb(f:Nat->Nat)(n i:Nat):Bool:=decide (∀a∈orb f n i,i<=a)
noncomputable def rgs(f:Nat->Nat)(n:Nat):Γ:=((g_ n).filter (Cb f n)).map (orb f n)
theorem wc:∀{l:Δ},l≠[]->∃m∈l,∀a∈l,m<=a
 | [],h=>absurd rfl h
 | [a],_=>⟨a,u_.mpr rfl,λx hx=>by rw [u_.mp hx];exact f_ _⟩
 | a::b::l,_=>by
  obtain⟨m,hm,hl⟩:=wc (l:=b::l) (by simp)
  by_cases h:a<=m
  .refine⟨a,q_,λx hx=>?_⟩
   rcases B_.mp hx with rfl|hx
   .exact f_ _
   .exact Mn h (hl x hx)
  .refine⟨m,n_ _ hm,λx hx=>?_⟩
   rcases B_.mp hx with rfl|hx
   .omega
   .exact hl x hx
def lv(P:jN f n):(rgs f n).flatten.Perm (g_ n):=by
 refine (perm_ext_iff_of_nodup (pairwise_flatten.mpr ⟨λl hl=>?_,?_⟩) QV).mpr λx=>?_
 .obtain⟨i,hi,rfl⟩:=Mp.mp hl;exact rV P (L_.mp (Mq.mp hi).1)
 .refine Oj.mpr (((N1).filter _).imp_of_mem λ{a b} ha hb h x hx y hy e=>?_);obtain⟨ha,ra⟩:=Mq.mp ha;obtain⟨hb,rb⟩:=Mq.mp hb;have ha:=L_.mp ha;have hb:=L_.mp hb;subst e;have:=of_decide_eq_true rb a (rX P hb hy (Aa P ha hx));omega
 .rw [mem_flatten,L_]
  constructor
  .rintro⟨l,hl,hx⟩;obtain⟨i,hi,rfl⟩:=Mp.mp hl;exact rW P (L_.mp (Mq.mp hi).1) hx
  .intro hx;obtain⟨m,hm,hl⟩:=wc (l:=orb f n x) λz=>by have:=vZ P hx;rw [z] at this;cases this
   have hmn:=rW P hx hm;refine⟨orb f n m,Od (Mq.mpr ⟨L_.mpr hmn,decide_eq_true λa ha=>hl a (rX P hx hm ha)⟩),Aa P hx hm⟩
end
def Ab(ws:Γ)(pre:Δ)(l j:Nat):vR ws (pre++[l]++[j])=vR ws (pre++[l])+eG (pw ws l) (pw ws j):=by
 cases pre with
 | nil=>show eG _ _+0=0+_;omega
 | cons a r=>exact rM ws j a r l
theorem wd(ws:Γ):∀l m:Δ,vR ws l+vR ws m<=vR ws (l++m)
 | [],m=>by show 0+_<=_;rw [PD];exact f_ _
 | [a],[]=>f_ _
 | [a],b::m=>by show 0+qJ ws b m<=eG _ _+qJ ws b m;omega
 | a::b::l,m=>by
  have:=wd ws (b::l) m;show eG _ _+qJ ws b l+vR ws m<=eG _ _+qJ ws b (l++m);have e1:vR ws (b::l)=qJ ws b l:=rfl;have e2:vR ws (b::l++m)=qJ ws b (l++m):=rfl;omega
theorem wf(ws:Γ)(f:Nat->Nat)(x:Nat):∀k,vR ws (iB f x (k+1))=((iB f x k).map λy=>eG (pw ws y) (pw ws (f y))).sum
 | 0=>rfl
 | k+1=>by
  rw [dN,dN,Ab,<- dN,wf ws f x k,dN,D_,Qx];simp only [so,P2,MW,sum_nil,Q4];rfl
theorem FVs.each:∀{xs:List V}{ds:List D},FVs K O H xs ds->(∀d∈ds,∀v,FV K O H v d->FV K O' H v d)->FVs K O' H xs ds
 | _,_,.nil,_=>.nil
 | _,_,.cons a b,h=>.cons (h _ (q_ ..) _ a) (FVs.each b λd hd=>h d (n_ _ hd))
noncomputable def XI(K:b_)(G:Addr)(nm:String)(C:Addr):Prop:=Eo K mainGlobals nm=ψ (ψ (.ref C))/\(∃(q:Str) (N:Addr) (bs sub:Ξ) (sn:List Str) (ab:Bool) (col:Option Bool) (k0 k1 k2 k3 k5:Option Value),K.lookup C=ψ (excClassObj nm q C N bs (.ref G::[.type "ValueError",.type "Exception",.type "BaseException",.type "object"]) η sn sub ab col ω k0 k1 k2 k3 k5 "ValueError.__new__")) /\
 s_ K (.ref C) "__getattribute__"=ψ (ψ (.builtin "BaseException.__getattribute__"))/\s_ K (.ref C) "__getattr__"=ψ ω/\s_ K (.ref C) "__setattr__"=ψ (ψ (.builtin "object.__setattr__"))/\s_ K (.ref C) "__class__"=ψ (ψ (.builtin "object.__class__"))/\Mb K (.ref C)=η
variable {C:Addr}
def KB{G:Addr}{nm:String}{q:Str}{N:Addr}{bs sub:Ξ}{sn:List Str}{ab:Bool}{col:Option Bool}{k0 k1 k2 k3 k5:Option Value}(a:Eo K mainGlobals nm=ψ (ψ (.ref C)))(l:K.lookup C=ψ (excClassObj nm q C N bs (.ref G::[.type "ValueError",.type "Exception",.type "BaseException",.type "object"]) η sn sub ab col ω k0 k1 k2 k3 k5 "ValueError.__new__"))(g:s_ K (.ref C) "__getattribute__"=ψ (ψ (.builtin "BaseException.__getattribute__")))(h:s_ K (.ref C) "__getattr__"=ψ ω)(s:s_ K (.ref C) "__setattr__"=ψ (ψ (.builtin "object.__setattr__")))(c:s_ K (.ref C) "__class__"=ψ (ψ (.builtin "object.__class__")))(k:Mb K (.ref C)=η):XI K G nm C :=
 ⟨a,⟨_,_,_,_,_,_,_,_,_,_,_,_,l⟩,g,h,s,c,k⟩
noncomputable def XJ(K:b_)(C:Addr)(qn at_:String)(st:Stmt):Prop:=∃(fx:Addr) (oc kV dc pm cd ct:Value) (od an:Option Addr) (sl:Array (Option Value)),s_ K (.ref C) "__init__"=ψ (ψ (.ref fx))/\QO K (.ref fx)=ψ (.type "function")/\K.lookup fx=ψ ⟨oc,od,.func (Me "__init__" qn (b9 st) (aU st) (ai st) .none kV dc pm an cd ct),sl⟩/\MH K cd qn=η/\Mb K (.ref fx)=η/\s_ K (.ref C) at_=ψ ω
def KC{qn at_:String}{fx:Addr}{kV dc cd:Value}{sl:Array (Option Value)}(i:s_ K (.ref C) "__init__"=ψ (ψ (.ref fx)))(t:QO K (.ref fx)=ψ (.type "function"))(l:K.lookup fx=ψ ⟨oc,od,.func (Me "__init__" qn (b9 st) (aU st) (ai st) .none kV dc pm an cd ct),sl⟩)(c:MH K cd qn=η)(k:Mb K (.ref fx)=η)(n:s_ K (.ref C) at_=ψ ω):XJ K C qn at_ st :=
 ⟨_,_,_,_,_,_,_,_,_,_,i,t,l,c,k,n⟩
section
open PySem.AutoSeq1 (wpAny_loadPart')
open PySem.MeetsSeq PySem.MeetsSeq2 PySem.MeetsSeq3
end
def eW.m{k:Nat}{A:G_}(r:eW k A)(h:Pu j k=η):eW j A:=r.mono (N3 h)
section
variable {x:Str}{ps:List Str}
abbrev rY(x:Str)(st:Stmt)(ps:List Str):Prop:=∀(kV doc pm:Value) (an:Option Addr) (cdv ct:Value) (us:Ξ),us.length=ps.length->bindArgs (Me x x (b9 st) (aU st) (ai st) .none kV doc pm an cdv ct) ⟨us,[]⟩=pure (ps.zip us)
variable {P:v_}{base:Heap}{N:List Str}{k:Nat}{pp:PTS}
def aZ.oP{c:FN}(D:aZ K mg x st)(S:aE N ps (ai st))(hb:rY x st ps)(ln:∀ds Q,c ds Q->ds.length=n)(h1:n=ps.length)(h2:Pu n N.length=η)(rd:∀ds Q,c ds Q->HQ pp N.length ds Q)(hbody:∀(f:Addr) (cdv:Value) (A:G_) (outer:List Env) (s:d_) (H:Hp) (E:XK),eW k (A.deeper (envOfC x (ai st) s⁻¹ f cdv))->(A.deeper (envOfC x (ai st) s⁻¹ f cdv)).units+64<cLine ->
   ∃t,PSs (qG CX0 P w K mg base N x (ai st) f cdv A outer s H E).nox (aU st) t/\LS K [] t pp):Cal P w K mg base (k+1) x ps (spP K c):=by
 refine D.ok S hb (λvs H Q E h=>(Jm ln h).trans h1) λf cdv A outer s H vs Q E hr h=>?_;obtain⟨t,h3,h4⟩:=hbody f cdv A outer s H E hr hr.units;exact⟨t,h3,fnP h4 (λds Q h=>Mn (Pj (ln ds Q h)) (N3 h2)) rd h⟩
def aZ.oR{c:FR}(D:aZ K mg x st)(S:aE N ps (ai st))(hb:rY x st ps)(ln:∀p ds Q,c p ds Q->ds.length+1=n)(h1:n=ps.length)(h2:Pu n N.length=η)(rd:∀p ds Q,p.isOwn=η->c p ds Q->Km pp N.length p ds Q)(hbody:∀(f:Addr) (cdv:Value) (A:G_) (outer:List Env) (s:d_) (H:Hp) (E:XK),eW k (A.deeper (envOfC x (ai st) s⁻¹ f cdv))->(A.deeper (envOfC x (ai st) s⁻¹ f cdv)).units+64<cLine ->
   ∃t,PSs (qG CX0 P w K mg base N x (ai st) f cdv A outer s H E).nox (aU st) t/\LS K [0] t pp):Cal P w K mg base (k+1) x ps (spR K c):=by
 refine D.ok S hb (λvs H Q E h=>(Lp ln h).trans h1) λf cdv A outer s H vs Q E hr h=>?_;obtain⟨t,h3,h4⟩:=hbody f cdv A outer s H E hr hr.units;exact⟨t,h3,fnR h4 (λp ds Q h=>Mn (Pj (ln p ds Q h)) (N3 h2)) rd h⟩
end
noncomputable def psO{fs:Δ}{A:b_->(Θ)->Prop}{ts:b_->(Θ)->TS}{ps:PTS}(_:∀K mg,A K mg->LS K fs (ts K mg) ps):PTS:=ps
noncomputable def cN(p:Prop):List D->Prop|[]=>p|_=>False
noncomputable def cD(f:D->List D->Prop):List D->Prop|d::r=>f d r|_=>False
noncomputable def cS(f:Δ->List D->Prop):List D->Prop|.str t::r=>f t r|_=>False
noncomputable def cI(f:Int->List D->Prop):List D->Prop|.int t::r=>f t r|_=>False
noncomputable def cL(f:List D->List D->Prop):List D->Prop|.lst t::r=>f t r|_=>False
noncomputable def cT(f:List D->List D->Prop):List D->Prop|.tup t::r=>f t r|_=>False
noncomputable def cR(f:Λ->List D->Prop):List D->Prop|.scr t::r=>f t r|_=>False
noncomputable def cO(f:Str->List Str->List D->List D->Prop):List D->Prop|.obj c ns fs::r=>f c ns fs r|_=>False
noncomputable def oL(f:List D->Prop):PV->Prop|.own ds=>f ds|_=>False
def KE{l:List α}(h:l.length=1):∃a,l=[a]:=match l,h with|[a],_=>⟨a,rfl⟩
def Ix{l:List α}(h:l.length=2):∃a b,l=[a,b]:=match l,h with|[a,b],_=>⟨a,b,rfl⟩
def KF{l:List α}(h:l.length=3):∃a b c,l=[a,b,c]:=match l,h with|[a,b,c],_=>⟨a,b,c,rfl⟩
noncomputable def oI(c:Str)(f:Prop):PV->Prop|.ins c' ns ds=>c'=c/\ns=[]/\ds=[]/\f|_=>False
section
variable {P:List D->Prop}
@[elab_as_elim] theorem f8 {p:Prop}(h:cN p ds)(k:p->P []):P ds:=match ds,h with|[],h=>k h
@[elab_as_elim] theorem AQ {f:D->List D->Prop}(h:cD f ds)(k:∀d r,f d r->P (d::r)):P ds:=match ds,h with|d::r,h=>k d r h
@[elab_as_elim] theorem Ac {f:Δ->List D->Prop}(h:cS f ds)(k:∀t r,f t r->P (.str t::r)):P ds:=match ds,h with|.str t::r,h=>k t r h
@[elab_as_elim] theorem rZ {f:Int->List D->Prop}(h:cI f ds)(k:∀t r,f t r->P (.int t::r)):P ds:=match ds,h with|.int t::r,h=>k t r h
@[elab_as_elim] theorem AR {f:List D->List D->Prop}(h:cL f ds)(k:∀t r,f t r->P (.lst t::r)):P ds:=match ds,h with|.lst t::r,h=>k t r h
@[elab_as_elim] theorem AS {f:List D->List D->Prop}(h:cT f ds)(k:∀t r,f t r->P (.tup t::r)):P ds:=match ds,h with|.tup t::r,h=>k t r h
@[elab_as_elim] theorem L5 {f:Λ->List D->Prop}(h:cR f ds)(k:∀t r,f t r->P (.scr t::r)):P ds:=match ds,h with|.scr t::r,h=>k t r h
@[elab_as_elim] theorem Iy {f:Str->List Str->List D->List D->Prop}(h:cO f ds)(k:∀c ns fs r,f c ns fs r->P (.obj c ns fs::r)):P ds:=match ds,h with|.obj c ns fs::r,h=>k c ns fs r h
@[elab_as_elim] theorem FU {P:PV->Prop}{f:List D->Prop}(h:oL f p)(k:∀es,f es->P (.own es)):P p:=match p,h with|.own es,h=>k es h
@[elab_as_elim] theorem L6 {P:PV->Prop}{c:Str}{f:Prop}(h:oI c f p)(k:f->P (.ins c [] [])):P p:=match p,h with|.ins _ _ _,⟨e1,e2,e3,hf⟩=>by subst e1 e2 e3;exact k hf
end
abbrev PRl(c:FN)(pp:PTS)(m n:Nat):Prop:=∀ds Q,c ds Q->ds.length=n/\HQ pp m ds Q
abbrev RRl(c:FR)(pp:PTS)(m n:Nat):Prop:=∀p ds Q,c p ds Q->ds.length+1=n/\Km pp m p ds Q
section
variable {P:v_}{base:Heap}{x:Str}{N ps:List Str}{k:Nat}{pp:PTS}
def aZ.oP2{c:FN}(D:aZ K mg x st)(S:aE N ps (ai st))(hb:rY x st ps)(rl:PRl c pp N.length n)(h1:n=ps.length)(h2:Pu n N.length=η)(hbody:∀(f:Addr) (cdv:Value) (A:G_) (outer:List Env) (s:d_) (H:Hp) (E:XK),eW k (A.deeper (envOfC x (ai st) s⁻¹ f cdv))->(A.deeper (envOfC x (ai st) s⁻¹ f cdv)).units+64<cLine ->
   ∃t,PSs (qG CX0 P w K mg base N x (ai st) f cdv A outer s H E).nox (aU st) t/\LS K [] t pp):Cal P w K mg base (k+1) x ps (spP K c):=D.oP S hb (λds Q h=>(rl ds Q h).1) h1 h2 (λds Q h=>(rl ds Q h).2) hbody
def aZ.oR2{c:FR}(D:aZ K mg x st)(S:aE N ps (ai st))(hb:rY x st ps)(rl:RRl c pp N.length n)(h1:n=ps.length)(h2:Pu n N.length=η)(hbody:∀(f:Addr) (cdv:Value) (A:G_) (outer:List Env) (s:d_) (H:Hp) (E:XK),eW k (A.deeper (envOfC x (ai st) s⁻¹ f cdv))->(A.deeper (envOfC x (ai st) s⁻¹ f cdv)).units+64<cLine ->
   ∃t,PSs (qG CX0 P w K mg base N x (ai st) f cdv A outer s H E).nox (aU st) t/\LS K [0] t pp):Cal P w K mg base (k+1) x ps (spR K c):=D.oR S hb (λp ds Q h=>(rl p ds Q h).1) h1 h2 (λp ds Q _ h=>(rl p ds Q h).2) hbody
end
theorem Iz:∀xs ys:Λ,HT.lexLt xs ys=lxB xs ys
 | [],[]=>rfl
 | [],_::_=>rfl
 | _::_,[]=>rfl
 | x::xs,y::ys=>by
  rw [HT.lexLt_cons];show _=if x=y then lxB xs ys else decide (x<y)
  rw [Iz xs ys]
abbrev AT(h0 h:Heap):Prop:=∀b o,h0.get? b=ψ o->h.get? b=ψ o
section
def mwn:(toString "min"++toString ".loop":String)="min.loop":=by decide
variable {P:v_}{A:G_}{I:Addr}{fp wr:List Addr}{Pv:Nat->Value->Prop}{St:Nat->Heap->Prop}{h0:Heap}
theorem ui{kw:List (Str×Value)}(W:Walks P w A.in1 I fp wr n Pv St)(bt:Nat->Nat->Bool)(hcmp:∀i j vi vj (y:d_) (Q:Value->d_->Prop) (E:Value->d_->Prop),AT h0 y.heap->Pv i vi->Pv j vj->Q (.bool (bt i j)) y->wpAny (model P w) A.in1 (richCompare .Lt vi vj) Q E y)(B:Addr)(hB:B∉fp)(nB:∀b o,h0.get? b=ψ o->b≠B)(nw:∀b o,h0.get? b=ψ o->b∉wr):∀(k j:Nat) (z:d_) (vb:Value) (c:Nat),n=j+1+k->St (j+1) z.heap->AT h0 z.heap->Pv (argBest bt j) vb ->
  z.heap.get? B=ψ { cls:=.type "list",dict:=ω,data:=.seq #[vb,vb] c,slots:=#[] } ->
  (∀v h' tk,Pv (argBest bt (n - 1)) v->AT h0 h'->R (.ok (.ret v)) { z with heap:=h',toks:=tk }) ->
  codeAny (model P w) A (.builtin "min.loop" ⟨[.ref I,.none,.ref B],kw⟩) R z
 | 0,j,z,vb,c,hn,st,hz,pb,hS,hR=>by
  refine Nx F.entry_min_loop ?_;rw [Ob F.plain_min_loop _];show wpAny _ A.in1 (seqItems? (.ref B) >>= _) _ _ z;refine cn (MK hS rfl ?_);show wpAny _ A.in1 (tryCatch (pyNext (.ref I)) _ >>= _) _ _ z;refine cn (PX (W.done z _ _ (by rw [hn];exact st) λh' tk old=>?_));have hS':=old B _ (λq=>hB (W.sub _ q)) hS;show wpAny _ A.in1 (updateSeq B (λ_=>#[]) >>= _) _ _ _
  refine cn (Po hS' rfl (cn (N_ (gV ?_))));exact hR vb _ tk (by rw [hn];exact pb) λb o e=>(Mx _ _ (Nh (nB b o e))).trans (old b o (nw b o e) (hz b o e))
 | k+1,j,z,vb,c,hn,st,hz,pb,hS,hR=>by
  refine Nx F.entry_min_loop ?_;rw [Ob F.plain_min_loop _];show wpAny _ A.in1 (seqItems? (.ref B) >>= _) _ _ z;refine cn (MK hS rfl ?_);show wpAny _ A.in1 (tryCatch (pyNext (.ref I)) _ >>= _) _ _ z;refine cn (PX (W.item (j+1) z _ _ ⋯ st λv h' tk hv st' old=>?_));have hS':=old B _ (λq=>hB (W.sub _ q)) hS;have hz1:AT h0 h':=λb o e=>old b o (nw b o e) (hz b o e)
  show wpAny _ A.in1 (tryCatch (holding [v,v] (richCompare .Lt v vb >>= _)) _ >>= _) _ _ _;refine cn (PX (Mw (cn (hcmp (j+1) (argBest bt j) v vb _ _ _ hz1 hv pb ?_))));refine cn (Mw (MC ?_));refine cn (N_ (gV ?_))
  cases hb:bt (j+1) (argBest bt j) with
  | true =>
   simp only [if_true];refine cn (Po hS' rfl (cn (N_ ?_)));rw [mwn];exact gV ⟨Ou F.plain_min_loop _,ui W bt hcmp B hB nB nw k (j+1) _ v _ ⋯ (W.frame _ _ _ st' λb hb o e=>(Mx _ _ (λq:B=b=>hB (by rw [q];exact hb))).trans e) (λb o e=>(Mx _ _ (Nh (nB b o e))).trans (hz1 b o e)) (by show Pv (if bt (j+1) (argBest bt j) then j+1 else argBest bt j) v;rw [hb];exact hv) (Nu _ hS' rfl) λv' h2 t2 p2 o2=>hR v' h2 t2 p2 o2⟩
  | false =>
   simp only [NX,if_false];refine cn (N_ ?_);rw [mwn];exact gV ⟨Ou F.plain_min_loop _,ui W bt hcmp B hB nB nw k (j+1) _ vb c ⋯ st' hz1 (by show Pv (if bt (j+1) (argBest bt j) then j+1 else argBest bt j) vb;rw [hb];exact pb) hS' λv' h2 t2 p2 o2=>hR v' h2 t2 p2 o2⟩
end
section
open PySem.SeqAt
end
section
variable {P:v_}{A:G_}{I:Addr}{fp wr:List Addr}{Pv:Nat->Value->Prop}{St:Nat->Heap->Prop}{h0:Heap}
def Ad(W:Walks P w A.in1 I fp wr n Pv St)(bt:Nat->Nat->Bool)(hcmp:∀i j vi vj (y:d_) (Q:Value->d_->Prop) (E:Value->d_->Prop),AT h0 y.heap->Pv i vi->Pv j vj->Q (.bool (bt i j)) y->wpAny (model P w) A.in1 (richCompare .Lt vi vj) Q E y)(B:Addr)(hB:B∉fp)(nB:∀b o,h0.get? b=ψ o->b≠B)(nw:∀b o,h0.get? b=ψ o->b∉wr){z:d_}{c:Nat}(st:St 0 z.heap)(hz:AT h0 z.heap)(hS:z.heap.get? B=ψ { cls:=.type "list",dict:=ω,data:=.seq #[] c,slots:=#[] })(hn:0<n)(hR:∀v h' tk,Pv (argBest bt (n - 1)) v->AT h0 h'->R (.ok (.ret v)) { z with heap:=h',toks:=tk }):
  codeAny (model P w) A (.builtin "min.loop" ⟨[.ref I,.none,.ref B],[]⟩) R z:=by
 refine Nx F.entry_min_loop ?_;rw [Ob F.plain_min_loop _];show wpAny _ A.in1 (seqItems? (.ref B) >>= _) _ _ z;refine cn (MK hS rfl ?_);show wpAny _ A.in1 (tryCatch (pyNext (.ref I)) _ >>= _) _ _ z;refine cn (PX (W.item 0 z _ _ ⋯ st λv h' tk hv st' old=>?_));have hS':=old B _ (λq=>hB (W.sub _ q)) hS;show wpAny _ A.in1 (updateSeq B (λ_=>#[v,v]) >>= _) _ _ _
 refine cn (Po hS' rfl ?_);rw [mwn];exact gV ⟨Ou F.plain_min_loop _,ui W bt hcmp B hB nB nw (n - 1) 0 _ v _ ⋯ (W.frame _ _ _ st' λb hb o e=>(Mx _ _ (λq:B=b=>hB (by rw [q];exact hb))).trans e) (λb o e=>(Mx _ _ (Nh (nB b o e))).trans (old b o (nw b o e) (hz b o e))) hv (Nu _ hS' rfl) λv' h2 t2 p2 o2=>hR v' h2 t2 p2 o2⟩
end
def Ae(a:Value):argsOk "min" ⟨[a],[]⟩:=by unfold argsOk;kernel_rfl
def xr{P:v_}{A:G_}{z:d_}{l:Addr}{vs:Array Value}(hh:A.handled=ω)(hl:z.heap.IsList l vs)(bt:Nat->Nat->Bool)(hcmp:∀i j vi vj (y:d_) (Q:Value->d_->Prop) (E:Value->d_->Prop),AT z.heap y.heap->vs[i]?=ψ vi->vs[j]?=ψ vj->Q (.bool (bt i j)) y->wpAny (model P w) A.in1 (richCompare .Lt vi vj) Q E y)(h0:0<vs.size)(k:∀v h' tk,vs[argBest bt (vs.size - 1)]?=ψ v->AT z.heap h'->Q v { z with heap:=h',toks:=tk }):
  wpAny (model P w) A (call (.builtin "min") [.ref l]) Q E z:=by
 refine kmk_tree F.kind_min F.plain_min F.entry_min (Ae _) ?_;show wpAny _ A.in1 (PF "min" ["key","default"] 0 ⟨[],[]⟩ >>= _) _ _ z;refine cn (Oa (show PF "min" ["key","default"] 0 ⟨[],[]⟩=pure [ω,ω] from rfl) ?_);refine cn (gV ?_);refine cn (NB hl ?_);refine cn (MD ?_)
 rw [mwn];have hlt:l<z⁻¹:=by obtain⟨_,e,_⟩:=hl;exact m_ e
 have e1:(z.heap.push { cls:=.type "list_iterator",data:=.fields #[.ref l,.int 0 0] }).objs.size=z⁻¹+1:=Mi ..;have W:=Walks.list (prog:=P) (w:=w) (A:=A.in1) hh z⁻¹ l (Mh hlt) vs;have old:AT z.heap (z.heap.push { cls:=.type "list_iterator",data:=.fields #[.ref l,.int 0 0] }):=λb o e=>c_ _ e;have st0:(z.heap.push { cls:=.type "list_iterator",data:=.fields #[.ref l,.int 0 0] }).IsListIter z⁻¹ l 0:=⟨_,i_ _ rfl,rfl,rfl⟩
 have hl1:=hl.at λo e=>old l o e;show wpAny _ _ _ _ _ _;generalize z.heap.push { cls:=.type "list_iterator",data:=.fields #[.ref l,.int 0 0] }=h1 at e1 old st0 hl1
 refine gV ⟨Ou F.plain_min_loop _,Ad (h0:=z.heap) W bt hcmp h1.objs.size (λhm=>?_) (λb o e=>Mh (Nat.lt_trans (m_ e) ⋯)) (λb o e hm=>?_) (W.frame _ _ _ ⟨st0,hl1⟩ λb _ o e=>c_ _ e) (λb o e=>c_ _ (old b o e)) (i_ _ rfl) h0 k⟩
 .rcases B_.mp hm with q|q
  .exact absurd (e1.symm.trans q) (succ_ne_self _)
  .have q:=u_.mp q;exact absurd (q.symm ▸ hlt:h1.objs.size<z⁻¹) (by rw [e1];exact not_lt.mpr (le_succ _))
 .have q:=u_.mp hm;exact absurd (m_ e) (by rw [q];exact Md _)
noncomputable def Dr(K:b_):List V->Hp->VK->Prop:=λxs H Q=>∃(p:Addr) (prs:List (Addr×Λ)),xs=[.ref p]/\SqL K H p (prs.map λpr=>V.ref pr.1)/\(∀pr∈prs,SqT K H pr.1 (pr.2.map V.int))/\prs≠[]/\∀pr∈prs,(∀q∈prs,lxB q.2 pr.2=ξ)->Q (.ref pr.1) H
def E8(K:b_)(e:X.K=K)(hc:X.calm=η)(hu:X.A.units+64<cLine):bD X (.builtin "min") (Dr K):=by
 subst e;intro pins s σ H xs us Q I r h;obtain⟨p,prs,rfl,hS,ht,hne,q⟩:=h;obtain⟨u,rfl,rx⟩:=d0 r;cases rx;obtain⟨its,rv,pl,hz⟩:=I.list hS;have hv:=Di rv;subst hv;have hsz:(prs.map λpr=>vx pr.1).toArray.size=prs.length:=by rw [we,cy]
 have at_:∀{i:Nat}{u:Value},(prs.map λpr=>vx pr.1).toArray[i]?=ψ u->∃pr,prs[i]?=ψ pr/\u=.ref pr.1:=λ{i u} h=>by
  rw [getElem?_toArray,h_] at h
  cases g:prs[i]? with
  | none=>rw [g] at h;cases h
  | some pr=>rw [g] at h;cases h;exact⟨pr,rfl,rfl⟩
 have gd:∀{i:Nat}{pr:Addr×Λ},prs[i]?=ψ pr->i<(prs.map (·.2)).length/\(prs.map (·.2)).getD i []=pr.2:=λ{i pr} h=>by
  have hi:i<prs.length:=by
   by_cases c:i<prs.length
   .exact c
   .rw [C_ ⋯] at h;cases h
  exact⟨by rw [cy];exact hi,by rw [e_,h_,h];rfl⟩
 have hpos:0<prs.length:=length_pos_iff.mpr hne
 refine xr (by exact I.ok.hd hc) pl.isList (λi j=>decide (-(rkL (prs.map (·.2)) i:Int) > -(rkL (prs.map (·.2)) j:Int))) (λi j vi vj y Q E old hi hj z=>?_) ⋯ λu h' tk hu old=>?_
 .obtain⟨pi,gi,rfl⟩:=at_ hi;obtain⟨pj,gj,rfl⟩:=at_ hj;obtain⟨ii,ei⟩:=gd gi;obtain⟨ij,ej⟩:=gd gj;obtain⟨is1,vs1,⟨o,e,c,n,d⟩,_⟩:=I.tuple (ht pi (Mc gi));obtain⟨is2,vs2,⟨o2,e2,c2,n2,d2⟩,_⟩:=I.tuple (ht pj (Mc gj));refine HT.lt_tupInts (s:=y) (A:=X.A.in1) ⟨o,old _ _ e,c,n,d⟩ ⟨o2,old _ _ e2,c2,n2,d2⟩ (bQ vs1) (bQ vs2) (lt_of_le_of_lt (add_le_add_left (by decide:1<=64) _) hu) ?_
  rw [Iz,<- ei,<- ej,Dh ii ij];refine (congrArg (λb=>Q (.bool b) y) (decide_eq_decide.mpr ?_)).mpr z;constructor <;> intro h <;> omega
 .obtain⟨pr,g,rfl⟩:=at_ hu;obtain⟨h1,h2⟩:=argBest_gt (λi=>-(rkL (prs.map (·.2)) i:Int)) ((prs.map λpr=>vx pr.1).toArray.size - 1);obtain⟨ib,eb⟩:=gd g;refine⟨.ref pr.1,H,I.kept (t':=tk) old,rfl,q pr (Mc g) λr hr=>?_⟩;obtain⟨j,hj,ej⟩:=O6 hr;obtain⟨ij,e2⟩:=gd (cx hj);have:=h2 j ⋯;rw [<- ej,<- e2,<- eb,Dh ij ib];exact decide_eq_false ⋯
noncomputable def Ds:FN
 | [.lst ds],Q=>∃rows:List (Λ),ds=rows.map Ks/\rows≠[]/\∀r∈rows,(∀q∈rows,lxB q r=ξ)->Q (.dat (Ks r))
 | _,_=>False
def Cc:LC K (Dr K) Ds:=by
 intro O H xs as Q Q' dom fs q k;unfold Ds at q
 split at q
 .cases fs with
  | cons a b =>
   cases b;obtain⟨rows,rfl,hne,q⟩:=q;obtain⟨a1,xs1,rfl,g1,g2⟩:=a.lst;obtain⟨prs,rfl,hr,hp⟩:=vQ g2;refine⟨a1,prs,rfl,SqL.of g1,λpr h=>SqT.of (hp pr h).2,λe=>hne (by rw [<- hr,e];rfl),λpr h hm=>k _ H _ (q pr.2 (by rw [<- hr];exact Od h) λq hq=>?_) (Gr.refl _) (.tup (hp pr h).1 (hp pr h).2 (FVs.of_ints _))⟩;rw [<- hr] at hq;obtain⟨p',h',rfl⟩:=Mp.mp hq;exact hm p' h'
 .exact q.elim
section
variable {fs:Δ}{ts:TS}{ps:PTS}
noncomputable def LS0(K:b_)(fs:Δ)(ts:TS)(ps:PTS):Prop:=∀(fx:List (Nat×V)) (A:Ψ) (H0:Hp) (ρ:PSt) (σ:St) (H:Hp) (D:EB) (D':DM),fx.map y_=fs->Rel K A ρ σ H->eC fx (λ_=>False) H0 ρ σ H->ps D ρ ->
 (∀ρ' σ' H',D.nx ρ'->Rel K A ρ' σ' H'->eC fx (λ_=>False) H0 ρ' σ' H'->D'.nx σ' H') ->
 (∀v p ρ' σ' H',D.rt p ρ'->Out K A ρ' σ' H0 H' p v->eC fx (λ_=>False) H0 ρ' σ' H'->D'.rt v H') ->
 (∀ρ' σ' H',D.bk ρ'->Rel K A ρ' σ' H'->eC fx (λ_=>False) H0 ρ' σ' H'->D'.bk σ' H') ->
 (∀ρ' σ' H',D.ct ρ'->Rel K A ρ' σ' H'->eC fx (λ_=>False) H0 ρ' σ' H'->D'.ct σ' H')->ts D' σ H
variable {ta tb:TS}{pa pb:PTS}
def qo(ha:LS K fs ta pa)(hb:LS0 K fs tb pb):LS0 K fs (Ju ta tb) (lX pa pb):=λfx A H0 ρ σ H D D' hf r F q k1 k2 k3 k4 =>
 ha fx A _ H0 ρ σ H _ _ hf r F q (λρ1 σ1 H1 q1 r1 F1=>hb fx A H0 ρ1 σ1 H1 _ _ hf r1 F1 q1 k1 k2 k3 k4) k2 k3 k4
noncomputable def Dt(i:Nat):PTS:=λE ρ=>match ρ[i]? with
 | some (ψ p)=>p.isOwn=η/\E.rt p (ρ.set i ω)
 | _=>False
variable {a:Addr}
def Rel.give(R:Rel K A ρ σ H)(e:ρ[i]?=ψ (ψ p))(o:p.isOwn=η)(s:σ[i]?=ψ (ψ (.ref a))):Rel K (cZ A a) (ρ.set i ω) σ H/\∀b,OO (cZ A a) (ρ.set i ω) σ b->OO A ρ σ b:=by
 have wa:Wr ρ σ a:=⟨i,p,e,o,s⟩
 have ww:∀b,Wr (ρ.set i ω) σ b->Wr ρ σ b:=λb ⟨j,q,e1,o1,s1⟩=>⟨j,q,(j8 e1).2,o1,s1⟩
 have lo:∀b,OO (cZ A a) (ρ.set i ω) σ b->OO A ρ σ b:=λb z=>by
  rcases z with (z|z)|z
  .exact .inl z
  .exact .inr (by rw [z];exact wa)
  .exact .inr (ww b z)
 refine⟨⟨by rw [My];exact R.len,λj q e1=>?_,λj l p1 q1 v e1 e2 o1 o2 s1 s2=>R.dj j l p1 q1 v (j8 e1).2 (j8 e2).2 o1 o2 s1 s2,λb z=>?_,λb z w=>?_⟩,lo⟩
 .obtain⟨v,s',r⟩:=R.get j q (j8 e1).2;exact⟨v,s',r.keeps (aG.less lo) λ_ _ _=>rfl⟩
 .rcases z with z|z
  .exact R.dom b z
  .rw [z];exact R.wr wa
 .rcases z with z|z
  .exact R.sep b z (ww b w)
  .subst z;obtain⟨j,q,e1,o1,s1⟩:=w;obtain⟨n,e2⟩:=j8 e1;exact n (R.dj j i q p _ e2 e o1 o s1 s)
def Cd:LS0 K fs (Jv (aS i)) (Dt i):=λfx A H0 ρ σ H D D' hf r F q k1 k2 k3 k4=>by
 unfold Dt at q
 split at q
 .rename_i p e;obtain⟨o,q⟩:=q;obtain⟨v,s,rs⟩:=r.get i p e;have F':eC fx (λ_=>False) H0 (ρ.set i ω) σ H:=⟨F.kp,F.dm,λb ⟨j,x,e1,o1,s1⟩=>F.ow b ⟨j,x,(j8 e1).2,o1,s1⟩,F.fx⟩
  have h0:∀a,v=.ref a->¬ A a/\H0 a=none:=λa ea=>by
   have w:Wr ρ σ a:=⟨i,p,e,o,by rw [<- ea];exact s⟩
   exact⟨λz=>r.sep a z w,(F.ow a w).elim (λz=>z.elim) id⟩
  refine⟨v,s,k2 v p _ σ H q ?_ F'⟩
  cases p with
  | dat d=>cases o
  | own ds =>
   obtain⟨a,xs,rfl,g,f⟩:=rs;obtain⟨r1,lo⟩:=r.give e o s;exact⟨a,xs,rfl,(h0 a rfl).1,(h0 a rfl).2,g,r1,f.keeps (aG.less lo)⟩
  | ins c ns ds =>
   obtain⟨a,dx,fl,rfl,g,m,f⟩:=rs;obtain⟨r1,lo⟩:=r.give e o s;exact⟨a,dx,fl,rfl,(h0 a rfl).1,(h0 a rfl).2,g,m,r1,f.keeps (aG.less lo)⟩
  | odc ks ds =>
   obtain⟨a,kvs,rfl,g,m,f⟩:=rs;obtain⟨r1,lo⟩:=r.give e o s;exact⟨a,kvs,rfl,(h0 a rfl).1,(h0 a rfl).2,g,m,r1,f.keeps (aG.less lo)⟩
 .exact q.elim
variable {N:List Str}{vs:List V}
def L7{c:FN}(hl:LS0 K [] ts ps)(hn:∀ds Q,c ds Q->ds.length<=N.length)(hc:∀ds Q,c ds Q->ps { nx:=λ_=>Q (.dat .non),rt:=λp _=>Q p } (bT N.length (ds.map .dat))){Q:VK}{E:XK}(h:spP K c vs H Q E):ts { nx:=λ_ H'=>Q .non H',rt:=Q } (start N vs) H:=by
 obtain⟨O,ds,Qc,dom,fv,hq,k⟩:=h
 have nw:∀(ρ:PSt) (b:Addr),ρ=bT N.length (ds.map .dat)->¬ Wr ρ (start N vs) b:=λρ b e ⟨i,p,e1,o1,s1⟩=>by
  rw [e] at e1;have:=bX e1;rw [h_] at this
  cases e2:ds[i]? with
  | none=>rw [e2] at this;cases this
  | some d=>rw [e2] at this;cases this;cases o1
 have lenv:=fv.length;have hle:=hn ds Qc hq
 have R0:Rel K O (bT N.length (ds.map .dat)) (start N vs) H:=by
  refine⟨?_,λi p e=>?_,λi j p q v e1 e2 o1 o2 s1 s2=>?_,dom,λb _ w=>nw _ b rfl w⟩
  .unfold bT start;rw [kx,kx,cy,cy,cy,MU,MU,lenv]
  .have:=bX e;rw [h_] at this
   cases e2:ds[i]? with
   | none=>rw [e2] at this;cases this
   | some d =>
    rw [e2] at this;cases this;obtain⟨v,hv,f⟩:=fv.getD e2;exact⟨v,dt hv,f.keeps (aG.less λb z=>z.elim id λw=>absurd w (nw _ b rfl))⟩
  .have:=bX e1;rw [h_] at this
   cases e3:ds[i]? with
   | none=>rw [e3] at this;cases this
   | some d=>rw [e3] at this;cases this;cases o1
 refine hl [] O H _ _ H _ _ rfl R0 ⟨λ_ _ _ h=>h,λ_ h=>h,λb w=>absurd w (nw _ b rfl),λp hp=>nomatch hp⟩ (hc ds Qc hq) (λρ' σ' H' q r F=>?_) (λv p ρ' σ' H' q o F=>?_) (λ_ _ _ z=>z.elim) (λ_ _ _ z=>z.elim)
 .exact k _ q .non H' (λb o e=>F.kp b o id e) .non
 .exact k _ q v H' (λb o e=>F.kp b o id e) o.outV
end
noncomputable def L8{fs:Δ}{A:b_->(Θ)->Prop}{ts:b_->(Θ)->TS}{ps:PTS}(_:∀K mg,A K mg->LS0 K fs (ts K mg) ps):PTS:=ps
section
variable {P:v_}{base:Heap}{x:Str}{N ps:List Str}{k:Nat}{pp:PTS}
def aZ.oP0{c:FN}(D:aZ K mg x st)(S:aE N ps (ai st))(hb:rY x st ps)(ln:∀ds Q,c ds Q->ds.length=n)(h1:n=ps.length)(h2:Pu n N.length=η)(rd:∀ds Q,c ds Q->HQ pp N.length ds Q)(hbody:∀(f:Addr) (cdv:Value) (A:G_) (outer:List Env) (s:d_) (H:Hp) (E:XK),eW k (A.deeper (envOfC x (ai st) s⁻¹ f cdv))->(A.deeper (envOfC x (ai st) s⁻¹ f cdv)).units+64<cLine ->
   ∃t,PSs (qG CX0 P w K mg base N x (ai st) f cdv A outer s H E).nox (aU st) t/\LS0 K [] t pp):Cal P w K mg base (k+1) x ps (spP K c):=by
 refine D.ok S hb (λvs H Q E h=>(Jm ln h).trans h1) λf cdv A outer s H vs Q E hr h=>?_;obtain⟨t,h3,h4⟩:=hbody f cdv A outer s H E hr hr.units;exact⟨t,h3,L7 h4 (λds Q h=>Mn (Pj (ln ds Q h)) (N3 h2)) rd h⟩
def aZ.oP20{c:FN}(D:aZ K mg x st)(S:aE N ps (ai st))(hb:rY x st ps)(rl:PRl c pp N.length n)(h1:n=ps.length)(h2:Pu n N.length=η)(hbody:∀(f:Addr) (cdv:Value) (A:G_) (outer:List Env) (s:d_) (H:Hp) (E:XK),eW k (A.deeper (envOfC x (ai st) s⁻¹ f cdv))->(A.deeper (envOfC x (ai st) s⁻¹ f cdv)).units+64<cLine ->
   ∃t,PSs (qG CX0 P w K mg base N x (ai st) f cdv A outer s H E).nox (aU st) t/\LS0 K [] t pp):Cal P w K mg base (k+1) x ps (spP K c):=D.oP0 S hb (λds Q h=>(rl ds Q h).1) h1 h2 (λds Q h=>(rl ds Q h).2) hbody
end
section
abbrev FMs:=List PV->(List PV->Prop)->Prop
noncomputable def Ce(ps ps':List PV):Prop:=ps'.length=ps.length/\∀(i:Nat) (p p':PV),ps[i]?=ψ p->ps'[i]?=ψ p'->p.isOwn=p'.isOwn/\(p.isOwn=ξ->p'=p)
def Ce.at{ps ps':List PV}(s:Ce ps ps'){p':PV}(e:ps'[i]?=ψ p'):∃p,ps[i]?=ψ p/\p.isOwn=p'.isOwn/\(p.isOwn=ξ->p'=p):=by
 have hi:i<ps.length:=by rw [<- s.1];exact (k_.mp e).1
 exact⟨ps[i],cx hi,s.2 i _ _ (cx hi) e⟩
def bz{l:List α}{x:α}:(l.map ψ)[i]?=ψ (ψ x) ↔ l[i]?=ψ x:=by
 rw [h_];cases l[i]? <;> simp
noncomputable def spM(K:b_)(c:FMs):Sp:=λvs H Q _=>∃(A:Ψ) (ps:List PV) (Qc:List PV->Prop),Rel K A (ps.map ψ) (vs.map ψ) H/\c ps Qc /\
 ∀ps',Qc ps'->Ce ps ps'->∀H',Rel K A (ps'.map ψ) (vs.map ψ) H'->Fr (ps.map ψ) (vs.map ψ) H (ps'.map ψ) H'->Q .non H'
variable {fs:Δ}
noncomputable def AU(fs:Δ)(ps:List PV)(Q:List PV->Prop)(ρ:PSt):Prop:=∃ps',Ce ps ps'/\(∀i∈fs,∀p':PV,ps'[i]?=ψ p'->ρ[i]?=ψ (ψ p'))/\Q ps'
variable {ts:TS}{pp:PTS}{N:List Str}{vs:List V}
def fnM{c:FMs}(hl:LS K fs ts pp)(hn:∀ps Q,c ps Q->ps.length<=N.length/\∀i,i∈fs ↔ ∃p,ps[i]?=ψ p/\p.isOwn=η)(hc:∀ps Q,c ps Q->pp { nx:=AU fs ps Q,rt:=λr ρ=>r=.dat .non/\AU fs ps Q ρ } (bT N.length ps)){Q:VK}{E:XK}(h:spM K c vs H Q E):ts { nx:=λ_ H'=>Q .non H',rt:=Q } (start N vs) H:=by
 obtain⟨A,ps,Qc,R,hq,k⟩:=h;obtain⟨hle,hfs⟩:=hn ps Qc hq;have hlen:ps.length=vs.length:=by have:=R.len;rw [cy,cy] at this;exact this
 have val:∀{i:Nat}{p:PV},ps[i]?=ψ p->∃v,vs[i]?=ψ v/\RS K (OO A (ps.map ψ) (vs.map ψ)) H p v:=λ{i p} e=>by
  obtain⟨v,s,r⟩:=R.get i p (bz.mpr e);exact⟨v,bz.mp s,r⟩
 have wr:∀b,Wr (bT N.length ps) (start N vs) b->Wr (ps.map ψ) (vs.map ψ) b:=λb ⟨i,p,e,o,s⟩=>by
  have e:=bX e;obtain⟨v,hv,_⟩:=val e;rw [dt hv] at s;cases s;exact⟨i,p,bz.mpr e,o,bz.mpr hv⟩
 have R0:Rel K A (bT N.length ps) (start N vs) H:=by
  refine⟨?_,λi p e=>?_,λi j p q v e1 e2 o1 o2 s1 s2=>?_,R.dom,λb z w=>R.sep b z (wr b w)⟩
  .unfold bT start;rw [kx,kx,cy,cy,MU,MU,hlen]
  .obtain⟨v,hv,r⟩:=val (bX e);exact⟨v,dt hv,r.keeps (aG.less λb z=>z.imp id (wr b)) λ_ _ _=>rfl⟩
  .have e1:=bX e1;have e2:=bX e2;obtain⟨v1,h1,_⟩:=val e1;obtain⟨v2,h2,_⟩:=val e2;rw [dt h1] at s1;cases s1;rw [dt h2] at s2;cases s2;exact R.dj i j p q _ (bz.mpr e1) (bz.mpr e2) o1 o2 (bz.mpr h1) (bz.mpr h2)
 have fxm:(fs.map λi=>(i,vs.getD i .non)).map y_=fs:=by rw [Ms];exact List.map_id' _
 have fxv:∀i∈fs,∃v,vs[i]?=ψ v/\vs.getD i .non=v:=λi hi=>by
  obtain⟨p,e,_⟩:=(hfs i).mp hi;obtain⟨v,hv,_⟩:=val e;exact⟨v,hv,by rw [e_,hv];rfl⟩
 have fin:∀(ρ':PSt) (σ':St) (H':Hp),AU fs ps Qc ρ'->Rel K A ρ' σ' H'->eC (fs.map λi=>(i,vs.getD i .non)) (Wr (bT N.length ps) (start N vs)) H ρ' σ' H'->Q .non H':=λρ' σ' H' ⟨ps',sk,hps,q⟩ r F=>by
  have own:∀{i:Nat}{p':PV},ps'[i]?=ψ p'->p'.isOwn=η->ρ'[i]?=ψ (ψ p')/\∃v,vs[i]?=ψ v/\σ'[i]?=ψ (ψ v)/\∃p,ps[i]?=ψ p/\p.isOwn=true:=λ{i p'} e o=>by
   obtain⟨p,e1,e2,_⟩:=sk.at e;have hi:i∈fs:=(hfs i).mpr ⟨p,e1,by rw [e2];exact o⟩;obtain⟨v,hv,hv2⟩:=fxv i hi;have:=F.fx (i,vs.getD i .non) (Mp.mpr ⟨i,hi,rfl⟩);rw [hv2] at this;exact⟨hps i hi p' e,v,hv,this,p,e1,by rw [e2];exact o⟩
  have w1:∀b,Wr (ps'.map ψ) (vs.map ψ) b->Wr ρ' σ' b:=λb ⟨i,p',e,o,s⟩=>by
   obtain⟨h1,v,hv,h2,_⟩:=own (bz.mp e) o;rw [bz.mpr hv] at s;cases s;exact⟨i,p',h1,o,h2⟩
  have w2:∀b,Wr (ps'.map ψ) (vs.map ψ) b->Wr (ps.map ψ) (vs.map ψ) b:=λb ⟨i,p',e,o,s⟩=>by
   obtain⟨_,v,hv,_,p,e1,o1⟩:=own (bz.mp e) o;exact⟨i,p,bz.mpr e1,o1,s⟩
  have kp:∀b u,¬ Wr (ps.map ψ) (vs.map ψ) b->H b=ψ u->H' b=ψ u:=λb u n h=>F.kp b u (λz=>n (wr b z)) h
  refine k ps' q sk H' ⟨by rw [cy,cy,sk.1,hlen],λi p' e=>?_,λi j p q v e1 e2 o1 o2 s1 s2=>?_,λb z=>F.dm b (R.dom b z),λb z w=>R.sep b z (w2 b w)⟩ ⟨kp,F.dm,w2⟩
  .have e:=bz.mp e;obtain⟨p,e1,e2,e3⟩:=sk.at e
   cases ho:p'.isOwn with
   | true =>
    obtain⟨h1,v,hv,h2,_⟩:=own e ho;obtain⟨v',s',rs⟩:=r.get i p' h1;rw [h2] at s';cases s';exact⟨v,bz.mpr hv,rs.keeps (aG.less λb z=>z.imp id (w1 b)) λ_ _ _=>rfl⟩
   | false =>
    have e3:=e3 (by rw [e2];exact ho);subst e3;obtain⟨v,hv,rs⟩:=val e1;exact⟨v,bz.mpr hv,rs.keeps (λb u n h=>⟨λz=>n (z.imp id (w2 b)),kp b u (λz=>n (.inr z)) h⟩) λo=>by rw [ho] at o;cases o⟩
  .obtain⟨_,_,_,_,p0,e3,o3⟩:=own (bz.mp e1) o1;obtain⟨_,_,_,_,q0,e4,o4⟩:=own (bz.mp e2) o2;exact R.dj i j p0 q0 v (bz.mpr e3) (bz.mpr e4) o3 o4 s1 s2
 refine hl _ A _ H _ _ H _ _ fxm R0 (eC.start λp hp=>?_) (hc ps Qc hq) (λρ' σ' H' q r F=>fin ρ' σ' H' q r F) (λv p ρ' σ' H' q o F=>?_) (λ_ _ _ z=>z.elim) (λ_ _ _ z=>z.elim)
 .obtain⟨i,hi,rfl⟩:=Mp.mp hp;obtain⟨v,hv,hv2⟩:=fxv i hi;show (start N vs)[i]?=ψ (ψ (vs.getD i .non));rw [hv2];exact dt hv
 .obtain⟨rfl,q⟩:=q;obtain⟨r,fv⟩:=o;cases fv;exact fin ρ' σ' H' q r F
noncomputable def E9:Δ->TA
 | []=>dz
 | i::r=>aL (aS i) (E9 r)
theorem wg:∀(is:Δ) (vs:List V) (Q:List V->Hp->Prop),(is.map λi=>σ[i]?)=vs.map (λv=>ψ (ψ v))->Q vs H->E9 is σ H Q
 | [],vs,Q,e,q=>by
  cases vs with
  | nil=>exact q
  | cons v r=>cases e
 | i::is,vs,Q,e,q=>by
  cases vs with
  | nil=>cases e
  | cons v r =>
   rw [so,so] at e;injection e with e1 e2;exact⟨v,e1,wg is r _ e2 q⟩
noncomputable def IA(c:FMs)(is:Δ):PTE:=λρ Q=>BH (is.map ψ)=η/\∃ps:List PV,(is.map λi=>ρ[i]?)=ps.map (λp=>ψ (ψ p))/\c ps λps'=>Q (.dat .non) (dU (is.map ψ) ρ (ps'.map ψ))
def Cf{c:FMs}{is:Δ}:LE K (dA (spM K c) [] E0 (E9 is)) (IA c is):=λA ρ σ H Q Q' R q k=>by
 obtain⟨hok,ps,hps,q⟩:=q
 have pat:∀{j:Nat}{p:PV},ps[j]?=ψ p->∃i,is[j]?=ψ i/\ρ[i]?=ψ (ψ p):=λ{j p} e=>by
  have h:=congrArg (λl=>l[j]?) hps;simp only [h_,e,Option.map_some] at h
  cases hi:is[j]? with
  | none=>rw [hi] at h;cases h
  | some i=>rw [hi] at h;exact⟨i,rfl,by simpa using h⟩
 have plen:ps.length=is.length:=by have:=congrArg P1 hps;rw [cy,cy] at this;exact this.symm
 have tap:∀{j i:Nat},is[j]?=ψ i->∃p,ps[j]?=ψ p/\ρ[i]?=ψ (ψ p):=λ{j i} e=>by
  have hj:j<ps.length:=by rw [plen];exact (k_.mp e).1
  obtain⟨i',e1,e2⟩:=pat (cx hj);rw [e] at e1;cases e1;exact⟨_,cx hj,e2⟩
 obtain⟨vs,hvs⟩:∃vs:List V,(is.map λi=>σ[i]?)=vs.map (λv=>ψ (ψ v)):=by
  refine⟨is.map λi=>match σ[i]? with|some (ψ v)=>v|_=>.non,?_⟩;rw [Ms];refine NL λi hi=>?_;obtain⟨j,hj,e⟩:=O6 hi;obtain⟨p,_,e2⟩:=tap (show is[j]?=ψ i by rw [cx hj,e]);obtain⟨v,s,_⟩:=R.get i p e2;show σ[i]?=ψ (ψ (match σ[i]? with|some (ψ v)=>v|_=>V.non));rw [s]
 have vat:∀{j i:Nat}{v:V},is[j]?=ψ i->σ[i]?=ψ (ψ v)->vs[j]?=ψ v:=λ{j i v} e s=>by
  have h:=congrArg (λl=>l[j]?) hvs;simp only [h_,e,Option.map_some,s] at h
  cases hv:vs[j]? with
  | none=>rw [hv] at h;cases h
  | some w=>rw [hv] at h;simpa using h.symm
 have vlen:vs.length=is.length:=by have:=congrArg P1 hvs;rw [cy,cy] at this;exact this.symm
 refine wg is vs _ hvs ?_;rw [Mr]
 have w1:∀b,Wr (ps.map ψ) (vs.map ψ) b->Wr ρ σ b:=λb ⟨j,p,e,o,s⟩=>by
  obtain⟨i,e1,e2⟩:=pat (bz.mp e);obtain⟨v,s1,_⟩:=R.get i p e2;have:=vat e1 s1;rw [bz.mp s] at this;cases this;exact⟨i,p,e2,o,s1⟩
 let A':Addr->Prop:=λb=>OO A ρ σ b/\¬ Wr (ps.map ψ) (vs.map ψ) b
 have o1:∀b,OO A' (ps.map ψ) (vs.map ψ) b->OO A ρ σ b:=λb z=>z.elim (λz=>z.1) λz=>.inr (w1 b z)
 have o2:∀b,OO A ρ σ b->OO A' (ps.map ψ) (vs.map ψ) b:=λb z=>by
  by_cases w:Wr (ps.map ψ) (vs.map ψ) b
  .exact .inr w
  .exact .inl ⟨z,w⟩
 refine⟨A',ps,_,⟨by rw [cy,cy,plen,vlen],λj p e=>?_,λj l p q v e1 e2 p1 p2 s1 s2=>?_,λb z=>R.dom2 b z.1,λb z=>z.2⟩,q,λps' q' sk H' R' f'=>?_⟩
 .obtain⟨i,e1,e2⟩:=pat (bz.mp e);obtain⟨v,s,r⟩:=R.get i p e2;exact⟨v,bz.mpr (vat e1 s),r.keeps (aG.less o1) λ_ _ _=>rfl⟩
 .obtain⟨i1,e3,e4⟩:=pat (bz.mp e1);obtain⟨i2,e5,e6⟩:=pat (bz.mp e2);obtain⟨v1,t1,_⟩:=R.get i1 p e4;obtain⟨v2,t2,_⟩:=R.get i2 q e6;have h1:=vat e3 t1;have h2:=vat e5 t2;rw [bz.mp s1] at h1;cases h1;rw [bz.mp s2] at h2;cases h2;have:=R.dj i1 i2 p q _ e4 e6 p1 p2 t1 t2;subst this;exact jG hok (by rw [h_,e3];rfl) (by rw [h_,e5];rfl)
 .have get':∀(j:Nat) (p:PV),(dU (is.map ψ) ρ (ps'.map ψ))[j]?=ψ (ψ p)->(∃m,is[m]?=ψ j/\ps'[m]?=ψ p)\/(j∉is/\ρ[j]?=ψ (ψ p)):=λj p e=>by
   by_cases hj:j∈is
   .obtain⟨m,hm,em⟩:=O6 hj;have em':is[m]?=ψ j:=by rw [cx hm,em]
    obtain⟨p0,_,e0⟩:=tap em';rw [lY (is.map ψ) ρ (ps'.map ψ) j m hok (by rw [h_,em'];rfl) (by rw [cy,sk.1,plen];exact hm) (k_.mp e0).1] at e;exact .inl ⟨m,em',bz.mp e⟩
   .rw [il (is.map ψ) ρ (ps'.map ψ) j (λz=>by obtain⟨i,hi,e⟩:=Mp.mp z;cases e;exact hj hi)] at e;exact .inr ⟨hj,e⟩
  have ownB:∀{j:Nat}{p:PV},(dU (is.map ψ) ρ (ps'.map ψ))[j]?=ψ (ψ p)->p.isOwn=η->∃p0,ρ[j]?=ψ (ψ p0)/\p0.isOwn=true:=λ{j p} e o=>by
   rcases get' j p e with ⟨m,h1,h2⟩|⟨_,h⟩
   .obtain⟨p0,h3,h4,_⟩:=sk.at h2;obtain⟨i,h5,h6⟩:=pat h3;rw [h1] at h5;cases h5;exact⟨p0,h6,by rw [h4];exact o⟩
   .exact⟨p,h,o⟩
  have wb:∀b,Wr (dU (is.map ψ) ρ (ps'.map ψ)) σ b->Wr ρ σ b:=λb ⟨j,p,e,o,s⟩=>by
   obtain⟨p0,h1,h2⟩:=ownB e o;exact⟨j,p0,h1,h2,s⟩
  have ws:∀b,Wr (ps.map ψ) (vs.map ψ) b->Wr (ps'.map ψ) (vs.map ψ) b:=λb ⟨j,p,e,o,s⟩=>by
   have e:=bz.mp e;have hj:j<ps'.length:=by rw [sk.1];exact (k_.mp e).1
   exact⟨j,ps'[j],bz.mpr (cx hj),by rw [<- (sk.2 j _ _ e (cx hj)).1];exact o,s⟩
  have kp:∀b u,¬ Wr ρ σ b->H b=ψ u->H' b=ψ u:=λb u n h=>f'.kp b u (λz=>n (w1 b z)) h;have fr:Fr ρ σ H (dU (is.map ψ) ρ (ps'.map ψ)) H':=⟨kp,f'.dm,wb⟩
  refine k _ H' (.dat .non) _ q' fr ⟨⟨by rw [jF];exact R.len,λj p e=>?_,λi j p q v e1 e2 p1 p2 s1 s2=>?_,λb z=>f'.dm b (R.dom b z),λb z w=>R.sep b z (wb b w)⟩,.non⟩
  .rcases get' j p e with ⟨m,h1,h2⟩|⟨nj,h⟩
   .obtain⟨v,s,r⟩:=R'.get m p (bz.mpr h2);obtain⟨p0,_,h4⟩:=tap h1;obtain⟨v0,s0,_⟩:=R.get j p0 h4;have:=vat h1 s0;rw [bz.mp s] at this;cases this;refine⟨v,s0,r.keeps (aG.less λb z=>?_) λ_ _ _=>rfl⟩
    rcases o2 b (z.imp id (wb b)) with z|z
    .exact .inl z
    .exact .inr (ws b z)
   .obtain⟨v,s,r⟩:=R.get j p h;refine⟨v,s,r.keeps fr.keeps λow a ea=>?_⟩;subst ea;obtain⟨a',u,z1,z2⟩:=r.ref ow;cases z1;rw [z2];refine f'.kp a u (λ⟨m,x,t1,t2,t3⟩=>?_) z2;obtain⟨i,t4,t5⟩:=pat (bz.mp t1);obtain⟨w,t6,_⟩:=R.get i x t5;have:=vat t4 t6;rw [bz.mp t3] at this;cases this;exact nj (by rw [R.dj j i p x _ h t5 ow t2 s t6];exact Mc t4)
  .obtain⟨p0,h1,h2⟩:=ownB e1 p1;obtain⟨q0,h3,h4⟩:=ownB e2 p2;exact R.dj i j p0 q0 v h1 h3 h2 h4 s1 s2
end
section
variable {vs:List V}
def L9{c:FMs}(h:∀as Q,c as Q->as.length=n){Q:VK}{E:XK}(z:spM K c vs H Q E):vs.length=n:=by
 obtain⟨A,as,Qc,R,hq,_⟩:=z;have:=R.len;rw [cy,cy] at this;exact this.symm.trans (h as Qc hq)
variable {P:v_}{base:Heap}{x:Str}{N ps:List Str}{k:Nat}{pp:PTS}
def aZ.oM{c:FMs}{fs:Δ}(D:aZ K mg x st)(S:aE N ps (ai st))(hb:rY x st ps)(ln:∀as Q,c as Q->as.length=n)(h1:n=ps.length)(h2:Pu n N.length=η)(ho:∀as Q,c as Q->∀i,i∈fs ↔ ∃p:PV,as[i]?=ψ p/\p.isOwn=η)(rd:∀as Q,c as Q->pp { nx:=AU fs as Q,rt:=λr ρ=>r=.dat .non/\AU fs as Q ρ } (bT N.length as))(hbody:∀(f:Addr) (cdv:Value) (A:G_) (outer:List Env) (s:d_) (H:Hp) (E:XK),eW k (A.deeper (envOfC x (ai st) s⁻¹ f cdv))->(A.deeper (envOfC x (ai st) s⁻¹ f cdv)).units+64<cLine ->
   ∃t,PSs (qG CX0 P w K mg base N x (ai st) f cdv A outer s H E).nox (aU st) t/\LS K fs t pp):Cal P w K mg base (k+1) x ps (spM K c):=by
 refine D.ok S hb (λvs H Q E h=>(L9 ln h).trans h1) λf cdv A outer s H vs Q E hr h=>?_;obtain⟨t,h3,h4⟩:=hbody f cdv A outer s H E hr hr.units;exact⟨t,h3,fnM h4 (λas Q h=>⟨Mn (Pj (ln as Q h)) (N3 h2),ho as Q h⟩) rd h⟩
def aZ.oM2{c:FMs}{fs:Δ}(D:aZ K mg x st)(S:aE N ps (ai st))(hb:rY x st ps)(rl:∀as Q,c as Q->as.length=n/\(∀i,i∈fs ↔ ∃p:PV,as[i]?=ψ p/\p.isOwn=η)/\pp { nx:=AU fs as Q,rt:=λr ρ=>r=.dat .non/\AU fs as Q ρ } (bT N.length as))(h1:n=ps.length)(h2:Pu n N.length=η)(hbody:∀(f:Addr) (cdv:Value) (A:G_) (outer:List Env) (s:d_) (H:Hp) (E:XK),eW k (A.deeper (envOfC x (ai st) s⁻¹ f cdv))->(A.deeper (envOfC x (ai st) s⁻¹ f cdv)).units+64<cLine ->
   ∃t,PSs (qG CX0 P w K mg base N x (ai st) f cdv A outer s H E).nox (aU st) t/\LS K fs t pp):Cal P w K mg base (k+1) x ps (spM K c) :=
 D.oM S hb (λas Q h=>(rl as Q h).1) h1 h2 (λas Q h=>(rl as Q h).2.1) (λas Q h=>(rl as Q h).2.2) hbody
end
abbrev KG(i j k:Nat):TGs:=lA (bE i) (lA (bE j) (lA (bE k) FI))
noncomputable def IB(i j k:Nat)(ta:TA):TS:=λD σ H=>ta σ H λvs H1=>KG i j k vs σ H1 D.nx
def Fa{k:Nat}{x y z:Str}{a b c:Expr}{ta:TA}{px py pz pt:Pos}{kt k2 pt2}(hc:X.calm=η)(hN:X.N.Nodup)(hi:X.N[i]?=ψ x)(hj:X.N[j]?=ψ y)(hk:X.N[k]?=ψ z)(hij:i≠j/\i≠k/\j≠k)
  (hx:X.env.scope.names.lookup x=ψ .local) (hy:X.env.scope.names.lookup y=ψ .local) (hz:X.env.scope.names.lookup z=ψ .local) (ha:PA X [a,b,c] ta)
  (hw:swappedStores [.Tuple [.Name x px,.Name y py,.Name z pz] kt pt] (.Tuple [a,b,c] k2 pt2) X.env=pure (ψ [x,y,z]))
  (hs:swapsWithSole [.Tuple [.Name x px,.Name y py,.Name z pz] kt pt] (.Tuple [a,b,c] k2 pt2) pos.line X.env=pure false:=by rfl) :
  PS X (.Assign [.Tuple [.Name x px,.Name y py,.Name z pz] kt pt] (.Tuple [a,b,c] k2 pt2) pos) (IB i j k ta):=by
 intro pins s σ H D I h;rw [exec_Assign_arm];refine cn (Nj ?_);rw [hs];refine cn (gV ?_);rw [if_neg (by decide)];refine cn (Tuple_ (thn (ha _ pins s σ H _ I h) λus s1 ⟨vs,H1,I1,r1,q1⟩=>?_));obtain⟨u,t1,rfl,v,t2,rfl,w,t3,rfl,e1,q1⟩:=q1;subst e1
 obtain⟨u1,u2,u3,rfl,ru,rv,rw'⟩:∃u1 u2 u3,us=[u1,u2,u3]/\cC u u1/\cC v u2/\cC w u3:=by
  cases r1 with
  | cons p q =>
   cases q with
   | cons p' q' =>
    cases q' with
    | cons p2 q2 =>
     cases q2;exact⟨_,_,_,rfl,p,p',p2⟩
 refine MD ?_ (by show 3<=sizeLine;decide);have I2:Inv X pins σ H1 { s1 with heap:=s1.heap.push { cls:=.type "tuple",data:=.seq [u1,u2,u3].toArray } }:=I1.kept (t':=s1.toks) λb o e=>c_ _ e;rw [hw];refine cn (gV ?_);show wpAny (model X.prog X.w) X.A (do rule "assign.swapped-stores";let items <- unpackItems (.ref s1⁻¹) 3 ω;assignInOrder [λv=>bindName X.env z v,λv=>bindName X.env y v,λv=>bindName X.env x v] items.reverse;pure Flow.next) _ _ _
 refine cn (Pe (cn (unpackItems_tuple (items:=#[u1,u2,u3]) (I.ok.hd hc) (IsTup.new s1.heap _) λh' hx'=>?_)));have I3:=I2.kept (h':=h') (t':=s1.toks) λb o e=>hx' b o (Mh (m_ e)) e;show wpAny _ _ (assignInOrder [λv=>bindName X.env z v,λv=>bindName X.env y v,λv=>bindName X.env x v] [u3,u2,u1] >>= λ_=>pure Flow.next) _ _ _;refine cn (OA (wpAny_bindName (ik I3 hN hk (.inl hz) rw' (λs2 I4=>?_) (.inr hz))))
 refine OA (wpAny_bindName (ik I4 hN hj (.inl hy) rv (λs3 I5=>?_) (.inr hy)));refine OA (wpAny_bindName (ik I5 hN hi (.inl hx) ru (λs4 I6=>assignInOrder_nil (gV ?_)) (.inr hx)));refine⟨_,H1,I6,?_⟩;rw [set_comm _ _ (Nh hij.1),set_comm _ _ (Nh hij.2.1),set_comm _ _ (Nh hij.2.2)];exact q1
section
variable {k:Nat}
abbrev IC(i j k:Nat):BF:=rA (fK i) (rA (fK j) (rA (fK k) EC))
variable {pa:PTA}
noncomputable def ID(i j k:Nat)(pa:PTA):PTS:=λE ρ=>pa ρ λas ρ1=>match avD as with
 | some ds=>IC i j k ds ρ1 E.nx
 | none=>False
variable {fs:Δ}{ta:TA}
def Fb(hi:fs.contains i=ξ)(hj:fs.contains j=ξ)(hk:fs.contains k=ξ)(h:LAs K ta pa):LS K fs (IB i j k ta) (ID i j k pa):=λfx A R H0 ρ σ H D D' hf r F q k1 k2 k3 k4 =>
 h A ρ σ H _ _ r q λvs H1 as ρ1 q1 f1 r1 o1=>by
  split at q1
  .rename_i ds ed;exact ck (d3 (i:=i) hi) (ck (d3 (i:=j) hj) (ck (d3 (i:=k) hk) iZ)) fx A R H0 ρ1 σ H1 ds vs _ _ hf (F.fr f1) r1 (o1.avD ed) q1 λρ2 σ2 q2 r2 F2 w2=>k1 ρ2 σ2 H1 q2 r2 F2
  .exact q1.elim
end
inductive FW:D->Prop
 | fl {d:D}:d.fl=η->FW d
 | tup {ds:List D}:(∀d∈ds,FW d)->FW (.tup ds)
def FV.loanT(hO:∀b,O' b->O b\/∃o,H b=ψ o/\∀zs,o≠.tup zs){d:D}(h:FW d):∀v,FV K O H v d->FV K O' H v d:=by
 induction h with
 | fl hf=>exact λv f=>FV.flat f hf
 | @tup ds hs ih =>
  intro v f
  cases f with
  | tup nn e f =>
   refine .tup (λz=>?_) e (f.each ih)
   rcases hO _ z with z|⟨o,e2,k⟩
   .exact nn z
   .rw [e] at e2;cases e2;exact k _ rfl
variable {a:Addr}
def Rel.addA(R:Rel K A ρ σ H)(g:Gr H H')(h:H a=ω)(h1:H' a≠ω):Rel K (cZ A a) ρ σ H':=by
 have k:aG (OO A ρ σ) H (OO (cZ A a) ρ σ) H':=λb u n e=>by
  refine⟨λz=>?_,g b u e⟩
  rcases z with (z|z)|z
  .exact n (.inl z)
  .rw [z,h] at e;cases e
  .exact n (.inr z)
 refine⟨R.len,λi q e=>?_,R.dj,λb z=>?_,λb z w=>?_⟩
 .obtain⟨v,s,r⟩:=R.get i q e;refine⟨v,s,r.keeps k λow b eb=>?_⟩;obtain⟨b',u,e1,e2⟩:=r.ref ow;rw [eb] at e1;cases e1;rw [e2,g _ _ e2]
 .rcases z with z|z
  .have:=R.dom b z
   cases e:H b with
   | none=>exact absurd e this
   | some o=>rw [g _ _ e];exact nofun
  .rw [z];exact h1
 .rcases z with z|z
  .exact R.sep b z w
  .obtain⟨i,p,e,o,s⟩:=w;obtain⟨v,s',r⟩:=R.get i p e;rw [s] at s';cases s';obtain⟨b',u,e1,e2⟩:=r.ref o;cases e1;rw [z,h] at e2;cases e2
noncomputable def IE(pe:PTE):PTE:=λρ Q=>pe (frzA ρ) λp _=>match p with
 | .odc ks ds=>(∀d∈ds,FW d)/\Q (.odc ks ds) ρ
 | _=>False
def Cg(h:LE K te pe):LE K te (IE pe):=λA ρ σ H Q Q' R q k=>h A _ σ H _ _ R.frzA q λv H1 p ρ1 q1 f1 o1=>by
 split at q1
 .rename_i ks ds;obtain⟨hn,q1⟩:=q1;have g:Gr H H1:=λb o e=>f1.kp b o qi e;obtain⟨a,kvs,rfl,na,e0,e1,m,_,f⟩:=o1;have R1:Rel K (cZ A a) ρ σ H1:=R.addA g e0 (by rw [e1];exact nofun);refine k _ H1 _ ρ q1 g.fr ⟨a,kvs,rfl,na,e0,e1,m,R1,f.each λd hd=>FV.loanT (λb z=>?_) (hn d hd)⟩
  rcases z with z|⟨i,p,e3,ow,s1⟩
  .exact .inl (.inl z)
  .refine .inr ?_;obtain⟨v',s',r⟩:=R1.get i p e3;rw [s1] at s';cases s'
   cases p with
   | dat d=>cases ow
   | own es =>
    obtain⟨a,xs,e,g1,f⟩:=r;cases e;exact⟨_,g1,nofun⟩
   | ins c ns ds =>
    obtain⟨a,dx,fs,e,g1,m,f⟩:=r;cases e;exact⟨_,g1,nofun⟩
   | odc ks ds =>
    obtain⟨a,kvs,e,g1,m,f⟩:=r;cases e;exact⟨_,g1,nofun⟩
 .exact q1.elim
noncomputable def Lv(i:Nat):PA1:=λρ Q=>match ρ[i]? with
 | some (ψ (.dat d))=>Q (.v d) ρ
 | some (ψ (.odc _ _))=>Q (.sl i) ρ
 | _=>False
def jO:LA1 K (aS i) (Lv i):=by
 intro A ρ σ H Q Q' R q k;unfold Lv at q
 split at q
 .rename_i d e;obtain⟨v,s,r⟩:=R.get i _ e;exact⟨v,s,k v H _ ρ q (Fr.refl _ _ _) R r⟩
 .rename_i e;obtain⟨v,s,r⟩:=R.get i _ e;exact⟨v,s,k v H _ ρ q (Fr.refl _ _ _) R s⟩
 .exact q.elim
variable {l:Addr}{s:d_}{A:G_}{xs:Array (Int×Tok)}
def mC(hl:s.heap.IsTuple l (intItems xs))(h:∀s₂:d_,s₂={ s with heap:=s.heap.push { cls:=.type "tuple_iterator",data:=.fields #[.ref l,.int 0 0] } } ->
   (s₂.heap.IsTupleIter s⁻¹ l 0/\s₂.heap.IsTuple l (intItems xs))->(∀b∈[s⁻¹,l],b<s₂⁻¹)->l≠s⁻¹->Q (.ref s⁻¹) s₂):
  wpAny (model prog w) A (pyIter (.ref l)) Q E s:=by
 have hlt:l<s⁻¹:=by obtain⟨_,e,_⟩:=hl;exact m_ e
 refine NS hl (h _ rfl ⟨⟨_,i_ _ rfl,rfl,rfl⟩,hl.push _⟩ (λb hb=>?_) (Mh hlt));show b<(s.heap.push _).objs.size;rw [Mi]
 rcases B_.mp hb with rfl|hb
 .exact Mu _
 .rcases B_.mp hb with rfl|hb
  .exact NH hlt
  .cases hb
def xt(hh:A.handled=ω)(hl:s.heap.IsTuple l (intItems xs))(hne:0<xs.size)(h:∀v h' tk,(intItems xs)[argBest (λi j=>decide (numAt xs i > numAt xs j)) (xs.size - 1)]?=ψ v->(∀b o,s.heap.get? b=ψ o->h'.get? b=ψ o)->Q v { s with heap:=h',toks:=tk }):
  wpAny (model prog w) A (call (.builtin "max") [.ref l]) Q E s:=by
 refine call_max_walk (mC hl λs₂ e st hfp hlI=>?_);subst e;refine⟨_,_,_,_,_,_,_,rfl,QU (A:=A.in1) hh _ l hlI (intItems xs),st,hfp,by simpa [intItems] using hne,CmpOf.ints_gt (numAt xs) (λ_ _=>OM),λv h' tk hP hk=>?_⟩;exact h v h' tk (by simpa [intItems] using hP) (λb o e=>hk b o (λz=>absurd (m_ e) (by rw [u_.mp z];exact Md _)) (c_ _ e))
noncomputable def Fc(K:b_):List V->Hp->VK->Prop:=λxs H Q=>∃(p:Addr) (ns:Λ),xs=[.ref p]/\(SqL K H p (ns.map V.int)\/SqT K H p (ns.map V.int))/\0<ns.length/\∀m:Int,m∈ns->(∀a∈ns,a<=m)->Q (.int m) H
variable {s:Nat}
def IF(K:b_)(e:X.K=K)(hc:X.calm=η):bD X (.builtin "max") (Fc K):=by
 intro pins s σ H xs us Q I r h;obtain⟨p,ns,rfl,hS,hne,q⟩:=h
 rcases hS with hS|hS
 .exact HS K e hc pins s σ H _ us Q I r ⟨p,ns,rfl,hS,hne,q⟩
 .subst e;obtain⟨u,rfl,ru⟩:=d0 r;cases (show u=vx p from ru);obtain⟨its,rv,pl,hz⟩:=I.tuple hS;have hi:=bQ rv;have hl:s.heap.IsTuple p its.toArray:=pl;obtain⟨ys,e⟩:=hi.allInts.items;have hns:ns=ys.toList.map (·.1):=by rw [<- hi.numsOf,<- Ov,<- e]
  have hsz:0<ys.size:=by
   have h3:=hne;rw [hns,cy,C0] at h3;exact h3
  rw [e] at hl;refine xt (by exact I.ok.hd hc) hl hsz λv h' tk hv hk=>?_;obtain⟨t,rfl⟩:=OM hv;obtain⟨h1,h2⟩:=argBest_gt (numAt ys) (ys.size - 1)
  refine⟨.int _,H,I.kept (t':=tk) hk,⟨t,rfl⟩,q _ ?_ λa ha=>?_⟩
  .rw [hns,O5];exact getD_mem (by rw [cy,C0];omega)
  .rw [hns] at ha;obtain⟨j,hj,rfl⟩:=mem_getD ha;rw [cy,C0] at hj;rw [<- O5];exact h2 j ⋯
noncomputable def KH:FN:=λas Q=>∃(d:D) (ns:Λ),as=[d]/\qI d (ns.map .int)/\0<ns.length/\∀m:Int,m∈ns->(∀a∈ns,a<=m)->Q (.dat (.int m))
def Fd:LC K (Fc K) KH:=by
 intro O H xs as Q Q' dom fs q k;obtain⟨d,ns,rfl,hd,h0,q⟩:=q
 cases fs with
 | cons a b =>
  cases b
  rcases hd with rfl|rfl
  .obtain⟨p,ys,rfl,e1,f1⟩:=a.lst;rw [f1.ints] at e1;exact⟨p,ns,rfl,.inl (SqL.of e1),h0,λm h1 h2=>k _ H _ (q m h1 h2) (Gr.refl _) (.int _)⟩
  .obtain⟨p,ys,rfl,_,e1,f1⟩:=a.tup;rw [f1.ints] at e1;exact⟨p,ns,rfl,.inr (SqT.of e1),h0,λm h1 h2=>k _ H _ (q m h1 h2) (Gr.refl _) (.int _)⟩
noncomputable def Ch(kds:List (Key×D))(k:Key)(d:D):List (Key×D) :=
 if (kds.any λp=>decide (p.1=k))=η then kds.map (λp=>if p.1=k then (p.1,d) else p) else kds++[(k,d)]
noncomputable def KD(K:b_)(O:Ψ)(H:Hp)(kvs:List (Key×V))(kds:List (Key×D)):Prop:=kvs.map y_=kds.map y_/\FVs K O H (kvs.map Mo) (kds.map Mo)
variable {kvs:List (Key×V)}{kds:List (Key×D)}
def KD.len(h:KD K O H kvs kds):kvs.length=kds.length:=by have:=congrArg P1 h.1;rwa [cy,cy] at this
theorem KD.map(k:Key){d:D}(f:FV K O H v d):∀{kvs:List (Key×V)}{kds:List (Key×D)},KD K O H kvs kds ->
  KD K O H (kvs.map λp=>if p.1=k then (p.1,v) else p) (kds.map λp=>if p.1=k then (p.1,d) else p)
 | [],[],_=>⟨rfl,.nil⟩
 | [],_::_,h=>nomatch h.1
 | _::_,[],h=>nomatch h.1
 | p::r,q::s,⟨h1,h2⟩=>by
  rw [so,so] at h1 h2;injection h1 with e1 e2
  cases h2 with
  | cons a b =>
   obtain⟨i1,i2⟩:=KD.map k f (kvs:=r) (kds:=s) ⟨e2,b⟩
   by_cases z:p.1=k
   .refine⟨?_,?_⟩
    .rw [so,so,so,so,i1,if_pos z,if_pos (e1.symm.trans z)];exact congrArg (·::_) e1
    .rw [so,so,so,so,if_pos z,if_pos (e1.symm.trans z)];exact .cons f i2
   .refine⟨?_,?_⟩
    .rw [so,so,so,so,i1,if_neg z,if_neg λy=>z (e1.trans y)];exact congrArg (·::_) e1
    .rw [so,so,so,so,if_neg z,if_neg λy=>z (e1.trans y)];exact .cons a i2
variable {l:Nat->Int}
def Fe(k:Key){l:List (Key×α)}{m:List (Key×β)}(h:l.map y_=m.map y_):(l.any λp=>decide (p.1=k))=m.any λp=>decide (p.1=k):=by
 have e:=congrArg (List.any · λx=>decide (x=k)) h;have e:(l.map y_).any (λx=>decide (x=k))=(m.map y_).any (λx=>decide (x=k)):=e;rw [any_map,any_map] at e;exact e
def KD.put{k:Key}{d:D}(h:KD K O H kvs kds)(f:FV K O H v d):KD K O H (wV kvs k v) (Ch kds k d):=by
 unfold wV Ch;rw [Fe k h.1]
 split
 .exact KD.map k f h
 .refine⟨by rw [D_,D_,h.1];rfl,?_⟩;rw [D_,D_];exact h.2.append (.cons f .nil)
section
noncomputable def Af:R2:=λx y H Q=>∃a v,x=.ref a/\AM H a y (ψ v)/\Q v H
variable {td ty:TE}{o i:Expr}
def iq(hu:X.A.units+64<cLine)(ho:PE X o td)(hi:PE X i ty)(hs:JQ i):PE X (.Subscript o i pos) (tOp Af td ty):=Ej ⋯ ho hi hs
noncomputable def FY:D->Option Key
 | .int i=>ψ (.inl i)
 | .str w=>ψ (.inr (S w))
 | _=>ω
def FV.key{d:D}{k:Key}(h:FV K O H v d)(e:FY d=ψ k):v=kV k:=by
 cases h <;> first|(cases e;done)|(cases e;rfl)
variable {ks:List Key}
def FVc.fdc(h:FVc K O H v (.fdc ks ds)):∃a o kvs,v=.ref a/\H a=ψ (.frz o (.dK kvs))/\kvs.map y_=ks/\FVs K O H (kvs.map Mo) ds:=by
 rcases h with h|⟨_,_,_,_,e,_⟩|⟨_,_,_,_,_,_,_,e,_⟩|⟨_,_,_,_,_,e,_⟩
 .cases h with
  | fdc n e m f=>exact⟨_,_,_,rfl,e,m,f⟩
 .cases e
 .cases e
 .cases e
noncomputable def IG:F2
 | .dic ks ds,d,Q=>∃k,FY d=ψ k/\∃r,d9 ks ds k=ψ r/\Q (.dat r)
 | .fdc ks ds,d,Q=>∃k,FY d=ψ k/\∃r,d9 ks ds k=ψ r/\Q (.dat r)
 | _,_,_=>False
def ka:LO K Af IG:=by
 intro O H x y a b Q Q' dom fx fy q k;unfold IG at q
 split at q
 .obtain⟨kk,ek,r,hr,q⟩:=q;obtain⟨p,kvs,rfl,e,m,f⟩:=fx.dic;have ey:y=kV kk:=(fy.fv (by intro _ z;rw [z] at ek;cases ek) (by intro _ _ _ z;rw [z] at ek;cases ek) (by intro _ _ z;rw [z] at ek;cases ek)).key ek;subst ey
  rcases ml kk m f with ⟨_,h2⟩|⟨v,d,h1,h2,fd⟩
  .rw [hr] at h2;cases h2
  .rw [hr] at h2;cases h2;exact⟨p,v,rfl,by have:=AM.k (k:=kk) e;rwa [h1] at this,k _ H _ q (Gr.refl _) fd⟩
 .obtain⟨kk,ek,r,hr,q⟩:=q;obtain⟨p,ob,kvs,rfl,e,m,f⟩:=fx.fdc;have ey:y=kV kk:=(fy.fv (by intro _ z;rw [z] at ek;cases ek) (by intro _ _ _ z;rw [z] at ek;cases ek) (by intro _ _ z;rw [z] at ek;cases ek)).key ek;subst ey
  rcases ml kk m f with ⟨_,h2⟩|⟨v,d,h1,h2,fd⟩
  .rw [hr] at h2;cases h2
  .rw [hr] at h2;cases h2;exact⟨p,v,rfl,by have:AM H p (kV kk) (qH kvs kk):=.inl ⟨kvs,kk,.inr ⟨ob,e⟩,rfl,rfl⟩;rwa [h1] at this,k _ H _ q (Gr.refl _) fd⟩
 .exact q.elim
noncomputable def Lw(neg:Bool):R2:=λx y H Q=>∃a kvs k,y=.ref a/\x=kV k/\H a=ψ (.dK kvs)/\Q (.bl (if neg then !(qH kvs k).isSome else (qH kvs k).isSome)) H
def wj(hu:X.A.units+64<cLine):OpR X (compareOp .NotIn) (Lw η):=by
 intro pins s σ H x y v u Q I rx ry h;obtain⟨a,kvs,k,rfl,rfl,e,q⟩:=h;cases (show u=vx a from ry);exact Eg ⋯ I (AM.k e) rx λs' I'=>⟨.bl _,H,I',rfl,q⟩
noncomputable def Lx(neg:Bool):F2
 | d,.dic ks ds,Q=>∃k,FY d=ψ k/\Q (.dat (.bl (if neg then !(d9 ks ds k).isSome else (d9 ks ds k).isSome)))
 | _,_,_=>False
def Du{neg:Bool}:LO K (Lw neg) (Lx neg):=by
 intro O H x y a b Q Q' dom fx fy q k;unfold Lx at q
 split at q
 .obtain⟨kk,ek,q⟩:=q;obtain⟨p,kvs,rfl,e,m,f⟩:=fy.dic;have ey:x=kV kk:=(fx.fv (by intro _ z;rw [z] at ek;cases ek) (by intro _ _ _ z;rw [z] at ek;cases ek) (by intro _ _ z;rw [z] at ek;cases ek)).key ek;subst ey;refine⟨p,kvs,kk,rfl,rfl,e,k _ H _ q (Gr.refl _) ?_⟩
  rcases ml kk m f with ⟨h1,h2⟩|⟨v,d,h1,h2,_⟩
  .rw [h1,h2];exact .bl _
  .rw [h1,h2];exact .bl _
 .exact q.elim
end
noncomputable def qq(l:List (Key×D))(k:Key):Option D:=(l.find? λp=>decide (p.1=k)).map (·.2)
def gT(l:List (Key×D))(k:Key):d9 (l.map y_) (l.map Mo) k=qq l k:=by
 unfold d9 qq;rw [List.zip_map',find?_map]
 cases e:l.find? ((λp=>decide (p.1=k)) ∘ λa=>(a.1,a.2)) with
 | none=>rw [show (l.find? λp=>decide (p.1=k))=ω from e];rfl
 | some p=>rw [show (l.find? λp=>decide (p.1=k))=ψ p from e];rfl
noncomputable def xu(kds:List (Key×D))(k:Key):List (Key×D):=kds.filter λp=>decide (p.1≠k)
section
theorem KD.drop(k:Key):∀{kvs:List (Key×V)}{kds:List (Key×D)},KD K O H kvs kds->KD K O H (tM kvs k) (xu kds k)
 | [],[],_=>⟨rfl,.nil⟩
 | [],_::_,h=>nomatch h.1
 | _::_,[],h=>nomatch h.1
 | p::r,q::s,⟨h1,h2⟩=>by
  rw [so,so] at h1 h2;injection h1 with e1 e2
  cases h2 with
  | cons a b =>
   obtain⟨i1,i2⟩:=KD.drop k (kvs:=r) (kds:=s) ⟨e2,b⟩;unfold tM xu at i1 i2 ⊢
   by_cases z:p.1=k
   .rw [Oc,Oc,decide_eq_false (show ¬ p.1≠k from λy=>y z),decide_eq_false (show ¬ q.1≠k from λy=>y (e1.symm.trans z))];exact⟨i1,i2⟩
   .rw [Oc,Oc,decide_eq_true (show p.1≠k from z),decide_eq_true (show q.1≠k from λy=>z (e1.trans y))]
    refine⟨?_,?_⟩
    .rw [if_pos rfl,if_pos rfl,so,so,i1];exact congrArg (·::_) e1
    .rw [if_pos rfl,if_pos rfl,so,so];exact .cons a i2
variable {A:Ψ}
def Rel.odcAt(R:Rel K A ρ σ H)(e:ρ[i]?=ψ (ψ (.odc (kds.map y_) (kds.map Mo)))):∃a kvs,σ[i]?=ψ (ψ (.ref a))/\H a=ψ (.dK kvs)/\KD K (OO A ρ σ) H kvs kds:=by
 obtain⟨v,s,a,kvs,rfl,g,m,f⟩:=R.get i _ e;exact⟨a,kvs,s,g,m,f⟩
variable {ks:List Key}
def Rel.odcw(R:Rel K A ρ σ H)(e:ρ[i]?=ψ (ψ (.odc ks ds)))(es':σ[i]?=ψ (ψ (.ref a)))(f:KD K (OO A ρ σ) H kvs kds):
  Rel K A (ρ.set i (ψ (.odc (kds.map y_) (kds.map Mo)))) σ (upd H a (.dK kvs))/\Fr ρ σ H (ρ.set i (ψ (.odc (kds.map y_) (kds.map Mo)))) (upd H a (.dK kvs)):=by
 have wa:OO A ρ σ a:=.inr ⟨i,_,e,rfl,es'⟩;exact R.write (q:=.odc _ _) e rfl rfl es' ⟨a,kvs,rfl,aI,f.1,f.2.keeps λb u n h=>⟨n,by rw [ax (λz=>n (by rw [z];exact wa))];exact h⟩⟩
def KI:PTE:=λρ Q=>Q (.odc [] []) ρ
def Ag:LE K CW KI:=λA ρ σ H Q Q' R q k=>λp hp =>
 k _ _ (.odc [] []) ρ q (Fr.new hp) ⟨p,[],rfl,λz=>R.dom p z hp,hp,aI,rfl,R.growA hp,.nil⟩
noncomputable def IH(i:Nat)(pe pk:PTE):PTS:=λE ρ=>pe ρ λp ρ1=>(match ρ1[i]? with
 | some (ψ (.odc _ _))=>pk ρ1 λkp ρ2=>(match ρ2[i]?,kp with
  | some (ψ (.odc ks ds)),.dat d=>∃kds:List (Key×D),ks=kds.map y_/\ds=kds.map Mo/\kds.length<1000000/\∃k,FY d=ψ k/\E.nx (ρ2.set i (ψ (.odc ((Ch kds k p.d).map y_) ((Ch kds k p.d).map Mo))))
  | _,_=>False)
 | _=>False)
variable {fs:Δ}
def Ah(h:LE K te pe)(hk:LE K tk pk):LS K fs (Ei (aS i) tk te) (IH i pe pk):=λfx A R H0 ρ σ H D D' hf r F q k1 k2 k3 k4=>h A ρ σ H _ _ r q λv H1 p ρ1 q1 f1 o1=>by
 obtain⟨R1,fv⟩:=o1.frz
 split at q1
 .rename_i ks0 ds0 e0;obtain⟨v0,s0,a0,kvs0,rfl,g0,_⟩:=R1.get i _ e0;refine⟨_,s0,hk A ρ1 σ H1 _ _ R1 q1 λw H2 kp ρ2 q2 f2 o2=>?_⟩
  split at q2
  .rename_i ks ds d e2;obtain⟨kds,rfl,rfl,hl,kk,ek,q2⟩:=q2;obtain⟨R2,fw⟩:=o2;have ew:w=kV kk:=FV.key fw ek;subst ew;obtain⟨a,kvs,s,g,f⟩:=R2.odcAt e2;rw [s0] at s;cases s;obtain⟨R3,f3⟩:=R2.odcw e2 s0 (f.put (fv.keeps f2.keeps) (k:=kk));exact⟨a0,_,rfl,G3.k g (A_ (by rw [f.len];exact hl) (sz _ (f_ _))),k1 _ _ _ q2 R3 (((F.fr f1).fr f2).fr f3)⟩
  .exact q2.elim
 .exact q1.elim
noncomputable def II(i:Nat)(pk:PTE):PTE:=λρ Q=>match ρ[i]? with
 | some (ψ (.odc _ _))=>pk ρ λkp ρ1=>(match ρ1[i]?,kp with
  | some (ψ (.odc ks ds)),.dat d=>∃kds:List (Key×D),ks=kds.map y_/\ds=kds.map Mo/\∃k,FY d=ψ k/\∃r,qq kds k=ψ r/\Q (.dat r) (ρ1.set i (ψ (.odc ((xu kds k).map y_) ((xu kds k).map Mo))))
  | _,_=>False)
 | _=>False
def Ff(hk:LE K tk pk):LE K (CY (aS i) tk) (II i pk):=λA ρ σ H Q Q' R q k=>by
 unfold II at q
 split at q
 .rename_i ks0 ds0 e0;obtain⟨v0,s0,a0,kvs0,rfl,g0,_⟩:=R.get i _ e0;refine⟨_,s0,a0,rfl,.inl ⟨kvs0,.inl g0⟩,hk A ρ σ H _ _ R q λw H1 kp ρ1 q1 f1 o1=>?_⟩
  split at q1
  .rename_i ks ds d e1;obtain⟨kds,rfl,rfl,kk,ek,r,hr,q1⟩:=q1;obtain⟨R1,fw⟩:=o1;have ew:w=kV kk:=FV.key fw ek;subst ew;obtain⟨a,kvs,s,g,f⟩:=R1.odcAt e1;rw [s0] at s;cases s
   rcases ml kk f.1 f.2 with ⟨_,h2⟩|⟨v,d',h1,h2,fd⟩
   .rw [gT,hr] at h2;cases h2
   .rw [gT,hr] at h2;cases h2;obtain⟨R2,f2⟩:=R1.odcw e1 s0 (f.drop kk);exact⟨kvs,kk,v,g,rfl,h1,k _ _ _ _ q1 (f1.trans f2) ⟨R2,fd.keeps f2.keeps⟩⟩
  .exact q1.elim
 .exact q.elim
end
variable {s:d_}{o:Obj}
def Inv.freeze(I:Inv X pins σ H s)(e:H a=ψ (.dK kvs))(ho:s.heap.get? a=ψ o):Inv X pins σ (upd H a (.frz o (.dK kvs))) s:=by
 have mu:Mut (H a):=by rw [e];exact trivial
 have ne:∀b u,H b=ψ u->(∀l,u≠.dK l)->b≠a:=λb u h n z=>by rw [z,e] at h;exact n _ (w_ h).symm
 refine I.un (t':=s.toks) (Un.write mu (.inl rfl) (λ_ _ _ q=>q) ⟨o,ho⟩) (HOk.write I.hok mu (.inl rfl) (λ_ _ _ q=>q) ⟨o,ho⟩ ⟨ho,?_⟩);exact (I.hok a _ e).stay (λ_ _ _ q=>q) (λb q=>by rw [ax (ne b _ q nofun)];exact q) λb xs q=>by rw [ax (ne b _ q nofun)];exact q
def Inv.thaw(I:Inv X pins σ H s)(e:H a=ψ (.frz o (.dK kvs)))(nb:∀o u,X.H₀ a≠ψ (.frz o u)):Inv X pins σ (upd H a (.dK kvs)) s:=by
 have nn:∀b,H b=ω->b≠a:=λb h z=>by rw [z,e] at h;cases h
 have hown:∀b c,H b=ψ (.own c)->upd H a (.dK kvs) b=ψ (.own c):=λb c q=>by
  rw [ax λz=>by rw [z,e] at q;injection q with q;injection q];exact q
 have htup:∀b xs,H b=ψ (.tup xs)->upd H a (.dK kvs) b=ψ (.tup xs):=λb xs q=>by
  rw [ax λz=>by rw [z,e] at q;injection q with q;injection q];exact q
 have hb:Un X.fs X.ex X.H₀ (upd H a (.dK kvs)) X.s₀.heap s.heap:=by
  refine⟨I.base.keep,I.base.slot,λb ob q n hx=>?_,I.base.there,λb xs q=>htup b xs (I.base.tups b xs q),λb ob u q=>?_,λb ps q=>?_⟩
  .have:=I.base.free b ob q n hx;rw [ax (nn b this)];exact this
  .by_cases z:b=a
   .rw [z] at q;exact absurd q (nb _ _)
   .rw [ax z];exact I.base.frzs b ob u q
  .obtain⟨m,h⟩:=I.base.tbls b ps q;refine⟨m,?_⟩;rw [ax λz=>by rw [z,e] at h;injection h with h;injection h];exact h
 refine⟨I.ok,I.os,I.bare,hb,I.loc,I.cell,?_,λx c q=>?_,λp hp=>?_,λb u q=>?_,I.len⟩
 .rw [ax (nn _ I.free)];exact I.free
 .rw [ax (nn _ (I.freeC x c q))];exact I.freeC x c q
 .obtain⟨h1,h2,h3⟩:=I.pin p hp;exact⟨h1,by rw [ax (nn _ h2)];exact h2,h3⟩
 .by_cases z:b=a
  .subst z;rw [aI] at q;injection q with q;subst q;have h:s.heap.get? b=ψ o/\bN X.prog X.w H s.heap b (.dK kvs):=I.hok b _ e;exact h.2.stay (λ_ _ _ q=>q) (λc q=>hown c b q) htup
  .rw [ax z] at q;exact (I.hok b u q).stay (λ_ _ _ q=>q) (λc q=>hown c b q) htup
def Inv.dkObj(I:Inv X pins σ H s)(e:H a=ψ (.dK kvs)):∃o,s.heap.get? a=ψ o:=by
 obtain⟨_,_,vs,_,o,_,_,ho,_⟩:=Bv I.hok e;exact⟨o,ho⟩
noncomputable def Ly(te:TE):TE:=λσ H Q=>∃a kvs,H a=ψ (.dK kvs)/\∀o,te σ (upd H a (.frz o (.dK kvs))) λv H1=>H1 a=ψ (.frz o (.dK kvs))/\Q v (upd H1 a (.dK kvs))
def IJ(he:PE X e te):PE X e (Ly te):=λpins s σ H Q I ⟨a,kvs,ea,q⟩=>by
 obtain⟨o,ho⟩:=I.dkObj ea;have nb:∀o u,X.H₀ a≠ψ (.frz o u):=λo u z=>by have:=I.base.frzs a o u z;rw [ea] at this;cases this
 exact thn (he pins s σ _ _ (I.freeze ea ho) (q o)) λu s1 ⟨v,H1,I1,r,e1,q1⟩=>⟨v,_,I1.thaw e1 nb,r,q1⟩
noncomputable def Itd(a:Addr)(o:Obj)(kvs:List (Key×V)):It :=
 ⟨λi H=>H a=ψ (.frz o (.dK kvs))/\i<kvs.length,λi H x H'=>H'=H/\∃p,kvs[i]?=ψ p/\x=kV p.1,λi H=>H a=ψ (.frz o (.dK kvs))/\kvs.length<=i⟩
theorem mD{F:α->β->Prop}:∀{l:List α}{m:List β},Paired F l m->∀{i:Nat}{p:α}{q:β},l[i]?=ψ p->m[i]?=ψ q->F p q
 | _,_,.nil,_,_,_,h,_=>by simp at h
 | _,_,.cons r t,0,_,_,h,k=>by simp at h k;subst h k;exact r
 | _,_,.cons r t,i+1,_,_,h,k=>mD t (by simpa using h) (by simpa using k)
variable {s:Nat}{tg:Expr}
def Aj{P:v_}{es:Array DictEntry}{ep:Nat}(a it:Addr)(o:Obj)(kvs:List (Key×V))(hd:o.data=.dict es ep):CN P w K tg (Itd a o kvs) [it] it (λi h=>h.IsKeyIter it a i kvs.length ep) where
 mem:=by simp
 obj:=λi h st b hb=>by
  have e:b=it:=by simpa using hb
  subst e;obtain⟨o,e,c,d⟩:=st;exact⟨o,e,λv z=>by rw [d] at z;cases z⟩
 keep:=λi h h' st k=>st.at λo e=>k it (by simp) o e
 item:=by
  intro X hP hw hK hc i pins s σ H E I hf st hg;subst hP hw hK;obtain⟨hq,hi⟩:=hg;obtain⟨ho,hk⟩:=(show s.heap.get? a=ψ o/\bN X.prog X.w H s.heap a (.dK kvs) from I.hok a _ hq)
  obtain⟨_,_,vs,rel,o',es',ep',ho',hx',hd',h3,h4,h5⟩:=hk;rw [ho] at ho';injection ho' with ho';subst ho';rw [hd] at hd';injection hd' with h1 h2;subst h1 h2;have hl:=rel.length;obtain⟨⟨k,x⟩,hx⟩:∃p,vs[i]?=ψ p:=⟨vs[i]'⋯,by rw [cx]⟩
  have hp:kvs[i]?=ψ kvs[i]:=cx hi;obtain⟨f0,f1,f2,f3,f4,f5⟩:=hf it (by simp);rw [hl] at st;refine wpAny_pyNext_dict_item (knd:=cB X.prog X.w) st ⟨o,es,ho,hx',hd,h3,h4,h5⟩ hx λkey h' hkey st' sb=>?_;have I1:Inv X pins σ H { s with heap:=h' }:=I.turned (t':=s.toks) (λb o hb e=>(sb.2 b hb).trans e) f0 f1 f3 f4 f5;obtain⟨ok,e,c,d⟩:=id st';have hk1:(kvs[i]).1=k:=(mD rel hp hx).1
  have r:cC (kV (kvs[i]).1) key:=by
   rw [hk1]
   rcases bH hkey with ⟨j,t,rfl,rfl⟩|⟨y,t,rfl,rfl⟩
   .exact⟨t,rfl⟩
   .exact⟨t,rfl⟩
  rw [<- hl] at st';exact⟨key,rfl,A1 (s:={ s with heap:=h' }) e c d (by decide) ⟨_,H,I1,r,⟨rfl,_,hp,rfl⟩,st',λb hb=>(hf b hb).1⟩⟩
 done:=by
  intro X hP hw hK hc i pins s σ H E I hf st hg;subst hP hw hK;obtain⟨hq,hi⟩:=hg;obtain⟨ho,hk⟩:=(show s.heap.get? a=ψ o/\bN X.prog X.w H s.heap a (.dK kvs) from I.hok a _ hq)
  obtain⟨_,_,vs,rel,o',es',ep',ho',hx',hd',h3,h4,h5⟩:=hk;rw [ho] at ho';injection ho' with ho';subst ho';rw [hd] at hd';injection hd' with h1 h2;subst h1 h2;have hl:=rel.length;obtain⟨f0,f1,f2,f3,f4,f5⟩:=hf it (by simp);rw [hl] at st;exact wpAny_pyNext_dict_end (knd:=cB X.prog X.w) (I.ok.hd hc) st ⟨o,es,ho,hx',hd,h3,h4,h5⟩ (C_ ⋯) λh' eb=>⟨rfl,I.turned (t':=s.toks) (λb o hb e=>eb b o hb e) f0 f1 f3 f4 f5⟩
 self:=λ_ _ _ _ _ st h=>wpAny_pyIter_keyiter st h
noncomputable def iDk(tl:TE):TI:=λσ H R=>tl σ H λx H1=>∃a o kvs,x=.ref a/\H1 a=ψ (.frz o (.dK kvs))/\R (Itd a o kvs) H1
def IK{l:Expr}{tl:TE}(hl:PE X l tl):PI X tg l (iDk tl):=by
 intro pins s σ H R I h;refine thn (hl pins s σ H _ I h) λv s1 ⟨x,H1,I1,r1,q1⟩=>?_;obtain⟨a,o,kvs,e,hq,q⟩:=q1;subst e;cases r1;obtain⟨ho,hk⟩:=(show s1.heap.get? a=ψ o/\bN X.prog X.w H1 s1.heap a (.dK kvs) from I1.hok a _ hq)
 obtain⟨_,ns,vs,rel,o',es,ep,ho',hx',hd,h3,h4,h5⟩:=hk;rw [ho] at ho';injection ho' with ho';subst ho';refine wpAny_pyIter_dict (knd:=cB X.prog X.w) ns ⟨o,es,ho,hx',hd,h3,h4,h5⟩ ?_
 refine⟨s1⁻¹,[s1⁻¹],_,_,H1,rfl,I1.kept (t':=s1.toks) λb o e=>c_ _ e,Aj a _ o kvs hd,⟨_,i_ _ rfl,rfl,?_⟩,λb hb=>?_,q⟩
 .rw [rel.length];rfl
 have e:b=s1⁻¹:=by simpa using hb
 subst e;exact I1.fpOk (f_ _) (I1.hok.fresh (f_ _))
mutual
noncomputable def D.noF:D->Bool
 | .lst ds=>D.noFs ds|.tup ds=>D.noFs ds|.dic _ ds=>D.noFs ds|.obj _ _ ds=>D.noFs ds|.exc _ _ ds=>D.noFs ds|.fdc _ _=>ξ
 | .non=>η|.bl _=>η|.int _=>η|.str _=>η|.ty _=>η|.scr _=>η
noncomputable def D.noFs:List D->Bool
 | []=>η
 | d::r=>d.noF && D.noFs r
end
variable {u:HO}
mutual
theorem FV.noF(g:H a=ψ (.frz o (.dK kvs))):∀{v:V}{d:D},FV K O H v d->d.noF=η->FV K (cZ O a) (upd H a u) v d
 | _,_,.non,_=>.non
 | _,_,.bl b,_=>.bl b
 | _,_,.int i,_=>.int i
 | _,_,.str l h,_=>.str l h
 | _,_,.ty n,_=>.ty n
 | _,_,.scr (a:=b) s,_=>.scr (by
   rcases s with ⟨n,r⟩|s
   .rcases r with e|⟨ob,e⟩
    .have ne:b≠a:=λz=>by rw [z,g] at e;cases e
     exact .inl ⟨λz=>z.elim n ne,.inl (by rw [ax ne];exact e)⟩
    .have ne:b≠a:=λz=>by rw [z,g] at e;cases e
     exact .inl ⟨λz=>z.elim n ne,.inr ⟨ob,by rw [ax ne];exact e⟩⟩
   .exact .inr s)
 | _,_,.lst n e f,p=>have ne:_≠a:=λz=>by rw [z,g] at e;cases e
  .lst (λz=>z.elim n ne) (by rw [ax ne];exact e) (FVs.noF g f p)
 | _,_,.tup n e f,p=>have ne:_≠a:=λz=>by rw [z,g] at e;cases e
  .tup (λz=>z.elim n ne) (by rw [ax ne];exact e) (FVs.noF g f p)
 | _,_,.dic n e m f,p=>have ne:_≠a:=λz=>by rw [z,g] at e;cases e
  .dic (λz=>z.elim n ne) (by rw [ax ne];exact e) m (FVs.noF g f p)
 | _,_,.fdc _ _ _ _,p=>nomatch p
 | _,_,.obj n e m f,p=>have ne:_≠a:=λz=>by rw [z,g] at e;cases e
  .obj (λz=>z.elim n ne) (by rw [ax ne];exact e) m (FVs.noF g f p)
 | _,_,.exc0 n e,_=>have ne:_≠a:=λz=>by rw [z,g] at e;cases e
  .exc0 (λz=>z.elim n ne) (by rw [ax ne];exact e)
 | _,_,.exc1 n n2 e e2 m f,p=>have ne:_≠a:=λz=>by rw [z,g] at e;cases e
  have ne2:_≠a:=λz=>by rw [z,g] at e2;cases e2
  .exc1 (λz=>z.elim n ne) (λz=>z.elim n2 ne2) (by rw [ax ne];exact e) (by rw [ax ne2];exact e2) m (FVs.noF g f p)
theorem FVs.noF(g:H a=ψ (.frz o (.dK kvs))):∀{vs:List V}{ds:List D},FVs K O H vs ds->D.noFs ds=η->FVs K (cZ O a) (upd H a u) vs ds
 | _,_,.nil,_=>.nil
 | _,_,.cons x y,p=>by
  have p:(_ && _)=true:=p;rw [Mg] at p;exact .cons (FV.noF g x p.1) (FVs.noF g y p.2)
end
section
variable {ks:List Key}
abbrev wk(ρ:PSt)(x:Nat)(ks:List Key)(ds:List D):PSt:=ρ.set x (ψ (.dat (.fdc ks ds)))
def Fg(e:ρ[x]?=ψ (ψ (.odc ks ds))){m:Nat}{y:PV}(em:(wk ρ x ks ds)[m]?=ψ (ψ y))(oy:y.isOwn=η):m≠x/\ρ[m]?=ψ (ψ y):=by
 have hx:x<ρ.length:=(k_.mp e).1
 by_cases z:x=m
 .subst z;rw [tf hx] at em;cases em;cases oy
 .rw [p_ z] at em;exact⟨λq=>z q.symm,em⟩
variable {A:Ψ}
def mE(R:Rel K A ρ σ H)(e:ρ[x]?=ψ (ψ (.odc ks ds)))(s:σ[x]?=ψ (ψ (.ref a))):Wr (wk ρ x ks ds) σ b ↔ Wr ρ σ b/\b≠a:=by
 constructor
 .rintro⟨j,r,e1,o1,s1⟩;obtain⟨n,e2⟩:=Fg e e1 o1;exact⟨⟨j,r,e2,o1,s1⟩,λz=>n (R.dj j x r _ _ e2 e o1 rfl s1 (by rw [z];exact s))⟩
 .rintro⟨⟨j,r,e1,o1,s1⟩,n⟩;have nx:x≠j:=λz=>by subst z;rw [s] at s1;cases s1;exact n rfl
  exact⟨j,r,by show (ρ.set _ _)[j]?=_;rw [p_ nx];exact e1,o1,s1⟩
def Rel.fzD(R:Rel K A ρ σ H)(e:ρ[x]?=ψ (ψ (.odc ks ds)))(s:σ[x]?=ψ (ψ (.ref a)))(g:H a=ψ (.dK kvs))(m:kvs.map y_=ks)(f:FVs K (OO A ρ σ) H (kvs.map Mo) ds):
  Rel K A (wk ρ x ks ds) σ (upd H a (.frz o (.dK kvs))):=by
 have hx:x<ρ.length:=(k_.mp e).1;have wa:Wr ρ σ a:=⟨x,_,e,rfl,s⟩
 have k:aG (OO A ρ σ) H (OO A (wk ρ x ks ds) σ) (upd H a (.frz o (.dK kvs))):=λb u n h=>by
  have ne:b≠a:=λz=>n (.inr (by rw [z];exact wa));exact⟨λz=>n (z.imp id λz=>((mE R e s).mp z).1),by rw [ax ne];exact h⟩
 refine⟨by rw [My];exact R.len,λj r e1=>?_,λj l p1 q1 v e1 e2 o1 o2 s1 s2=>R.dj j l p1 q1 v (Fg e e1 o1).2 (Fg e e2 o2).2 o1 o2 s1 s2,λb z=>?_,λb z w=>R.sep b z ((mE R e s).mp w).1⟩
 .by_cases z:x=j
  .subst z;rw [tf hx] at e1;cases e1;exact⟨_,s,.fdc (λz=>z.elim (λz=>R.sep a z wa) λz=>((mE R e s).mp z).2 rfl) aI m (f.keeps k)⟩
  .rw [p_ z] at e1;obtain⟨v,s',r'⟩:=R.get j r e1;refine⟨v,s',r'.keeps k λow b eb=>?_⟩;rw [ax];intro zz;subst zz;rw [eb] at s';exact z (R.dj x j _ r _ e e1 rfl ow s s')
 .by_cases y:b=a
  .rw [y,aI];exact nofun
  .rw [ax y];exact R.dom b z
noncomputable def Lz(ts:TS):TS:=λD σ H=>∃a kvs,H a=ψ (.dK kvs)/\∀o,ts D σ (upd H a (.frz o (.dK kvs)))
def IL{ts:TS}(h:PS X st ts):PS X st (Lz ts):=λpins s σ H D I ⟨a,kvs,ea,q⟩=>by
 obtain⟨o,ho⟩:=I.dkObj ea;exact h pins s σ _ D (I.freeze ea ho) (q o)
noncomputable def IM(x:Nat)(ps:PTS):PTS:=λE ρ=>match ρ[x]? with
 | some (ψ (.odc ks ds))=>ps E (wk ρ x ks ds)
 | _=>False
variable {fs:Δ}
def IN{ts:TS}{ps:PTS}(h:LS K fs ts ps):LS K fs (Lz ts) (IM x ps):=λfx A R H0 ρ σ H D D' hf r F q k1 k2 k3 k4=>by
 unfold IM at q
 split at q
 .rename_i ks ds e;obtain⟨v,s,a,kvs,rfl,g,m,f⟩:=r.get x _ e;have wa:Wr ρ σ a:=⟨x,_,e,rfl,s⟩
  refine⟨a,kvs,g,λo=>h fx A R H0 _ σ _ D D' hf (r.fzD e s g m f) ⟨λb u n h0=>?_,λb z=>?_,λb w=>F.ow b ((mE r e s).mp w).1,F.fx⟩ q k1 k2 k3 k4⟩
  .have ne:b≠a:=λz=>by
    subst z
    rcases F.ow b wa with z|z
    .exact n z
    .rw [z] at h0;cases h0
   rw [ax ne];exact F.kp b u n h0
  .by_cases y:b=a
   .rw [y,aI];exact nofun
   .rw [ax y];exact F.dm b z
 .exact q.elim
noncomputable def KJ(x:Nat)(ρ:PSt):Prop:=∀j p,j≠x->ρ[j]?=ψ (ψ p)->p.isOwn=η->p.d.noF=η
noncomputable def LA(x:Nat)(pe:PTE):PTE:=λρ Q=>match ρ[x]? with
 | some (ψ (.odc ks ds))=>KJ x ρ/\pe (wk ρ x ks ds) λp ρ1=>ρ1=wk ρ x ks ds/\p.d.noF=η/\(match p with|.dat _=>True|.own _=>True|_=>False)/\Q p ρ
 | _=>False
variable {A':Ψ}
def Rel.unfz(R:Rel K A ρ σ H)(e:ρ[x]?=ψ (ψ (.odc ks ds)))(s:σ[x]?=ψ (ψ (.ref a)))(m:kvs.map y_=ks)(f:FVs K (OO A ρ σ) H (kvs.map Mo) ds)(kp:∀b u,¬ Wr (wk ρ x ks ds) σ b->upd H a (.frz o (.dK kvs)) b=ψ u->H1 b=ψ u)(hA:∀b,A' b->A b\/H b=ω)(hA2:∀b,A b->A' b)(nf:KJ x ρ)(R1:Rel K A' (wk ρ x ks ds) σ H1):
  Rel K A' ρ σ (upd H1 a (.dK kvs)):=by
 have wa:Wr ρ σ a:=⟨x,_,e,rfl,s⟩
 have na:¬ Wr (wk ρ x ks ds) σ a:=λz=>((mE R e s).mp z).2 rfl;have g1:H1 a=ψ (.frz o (.dK kvs)):=kp a _ na aI;have ha:H a≠none:=R.wr wa
 have up:∀b,OO A' ρ σ b->cZ (OO A' (wk ρ x ks ds) σ) a b:=λb z=>by
  by_cases y:b=a
  .exact .inr y
  .exact .inl (z.imp id λz=>(mE R e s).mpr ⟨z,y⟩)
 have kk:aG (OO A ρ σ) H (OO A' ρ σ) (upd H1 a (.dK kvs)):=λb u n h=>by
  have ne:b≠a:=λz=>n (.inr (by rw [z];exact wa))
  refine⟨λz=>?_,?_⟩
  .rcases z with z|z
   .rcases hA b z with y|y
    .exact n (.inl y)
    .rw [y] at h;cases h
   .exact n (.inr z)
  .rw [ax ne];exact kp b u (λz=>n (.inr ((mE R e s).mp z).1)) (by rw [ax ne];exact h)
 refine⟨R.len,λj p e1=>?_,R.dj,λb z=>?_,λb z w=>?_⟩
 .by_cases y:x=j
  .subst y;rw [e] at e1;cases e1;exact⟨_,s,a,kvs,rfl,aI,m,f.keeps kk⟩
  .have e2:(wk ρ x ks ds)[j]?=ψ (ψ p):=by show (ρ.set _ _)[j]?=_;rw [p_ y];exact e1
   cases hp:p with
   | dat d =>
    rw [hp] at e1;obtain⟨v,s',r⟩:=R.get j _ e1;exact⟨v,s',FV.keeps kk r⟩
   | own es =>
    rw [hp] at e1 e2;obtain⟨v,s',b,xs,rfl,h1,f1⟩:=R1.get j _ e2;have ne:b≠a:=λz=>by subst z;rw [g1] at h1;cases h1
    exact⟨_,s',b,xs,rfl,by rw [ax ne];exact h1,(FVs.noF g1 f1 (nf j _ (λz=>y z.symm) e1 rfl)).keeps (aG.less up)⟩
   | ins c ns es =>
    rw [hp] at e1 e2;obtain⟨v,s',b,dx,fl,rfl,h1,m1,f1⟩:=R1.get j _ e2;have ne:b≠a:=λz=>by subst z;rw [g1] at h1;cases h1
    exact⟨_,s',b,dx,fl,rfl,by rw [ax ne];exact h1,m1,(FVs.noF g1 f1 (nf j _ (λz=>y z.symm) e1 rfl)).keeps (aG.less up)⟩
   | odc ks' es =>
    rw [hp] at e1 e2;obtain⟨v,s',b,kv',rfl,h1,m1,f1⟩:=R1.get j _ e2;have ne:b≠a:=λz=>by subst z;rw [g1] at h1;cases h1
    exact⟨_,s',b,kv',rfl,by rw [ax ne];exact h1,m1,(FVs.noF g1 f1 (nf j _ (λz=>y z.symm) e1 rfl)).keeps (aG.less up)⟩
 .by_cases y:b=a
  .rw [y,aI];exact nofun
  .rw [ax y];exact R1.dom b z
 .by_cases y:b=a
  .subst y
   rcases hA b z with z|z
   .exact R.sep b z wa
   .exact ha z
  .exact R1.sep b z ((mE R e s).mpr ⟨w,y⟩)
def IP(h:LE K te pe):LE K (Ly te) (LA x pe):=λA ρ σ H Q Q' R q k=>by
 unfold LA at q
 split at q
 .rename_i ks ds e;obtain⟨nf,q⟩:=q;obtain⟨v,s,a,kvs,rfl,g,m,f⟩:=R.get x _ e;have wa:Wr ρ σ a:=⟨x,_,e,rfl,s⟩
  have na:¬ Wr (wk ρ x ks ds) σ a:=λz=>((mE R e s).mp z).2 rfl;refine⟨a,kvs,g,λo=>h A _ σ _ _ _ (R.fzD e s g m f) q λv H1 p ρ1 q1 F1 o1=>?_⟩;obtain⟨rfl,np,pk,q1⟩:=q1;have g1:H1 a=ψ (.frz o (.dK kvs)):=F1.kp a _ na aI
  have up:∀{B:Ψ} (b:Addr),OO B ρ σ b->cZ (OO B (wk ρ x ks ds) σ) a b:=λb z=>by
   by_cases y:b=a
   .exact .inr y
   .exact .inl (z.imp id λz=>(mE R e s).mpr ⟨z,y⟩)
  have fr:Fr ρ σ H ρ (upd H1 a (.dK kvs)):=by
   refine⟨λb u n h0=>?_,λb z=>?_,λ_ w=>w⟩
   .have ne:b≠a:=λz=>n (by rw [z];exact wa);rw [ax ne];exact F1.kp b u (λz=>n ((mE R e s).mp z).1) (by rw [ax ne];exact h0)
   .by_cases y:b=a
    .rw [y,aI];exact nofun
    .rw [ax y];exact F1.dm b (by rw [ax y];exact z)
  refine⟨g1,k _ _ p ρ q1 fr ?_⟩
  cases p with
  | dat d =>
   obtain⟨r1,fv⟩:=o1;exact⟨R.unfz e s m f F1.kp (λb z=>.inl z) (λ_ z=>z) nf r1,(FV.noF g1 fv np).keeps (aG.less λb z=>up b z)⟩
  | own es =>
   obtain⟨b,xs,rfl,nA,h0,h1,r1,fv⟩:=o1;have ne:b≠a:=λz=>by subst z;rw [g1] at h1;cases h1
   have hb:H b=none:=by rw [ax ne] at h0;exact h0
   exact⟨b,xs,rfl,nA,hb,by rw [ax ne];exact h1,R.unfz e s m f F1.kp (λc z=>z.imp id λz=>by rw [z];exact hb) (λ_ z=>.inl z) nf r1,(FVs.noF g1 fv np).keeps (aG.less λc z=>up c z)⟩
  | ins c ns es=>exact pk.elim
  | odc ks' es=>exact pk.elim
 .exact q.elim
noncomputable def Ma(pe:PTE):PTI:=λρ Q=>pe ρ λp ρ1=>match p with
 | .dat (.fdc ks _)=>∃is:Λ,ks=is.map M_/\Q is.length (λk=>.int (is.getD k 0)) ρ1
 | _=>False
def IQ(h:LE K te pe):LI K (iDk te) (Ma pe):=λA ρ σ H Q Q' R q k=>h A ρ σ H _ _ R q λv H1 p ρ1 q1 F1 o1=>by
 split at q1
 .rename_i ks ds;obtain⟨is,rfl,q1⟩:=q1;obtain⟨r1,fv⟩:=o1
  cases fv with
  | @fdc a o kvs _ _ n e m f =>
   refine⟨a,o,kvs,rfl,e,k _ H1 _ _ ρ1 q1 F1 r1 λO' H' kk dom=>?_⟩;have hl:kvs.length=is.length:=by have:=congrArg P1 m;rw [cy,cy] at this;exact this
   obtain⟨n2,e2⟩:=kk a _ n e;refine⟨λj hj=>⟨⟨e2,by omega⟩,λy H'' ⟨z1,p,z2,z3⟩=>?_⟩,e2,by omega⟩;subst z1 z3;refine⟨Gr.refl _,?_⟩;have h1:(kvs.map y_)[j]?=ψ p.1:=by rw [h_,z2];rfl
   rw [m,h_] at h1
   cases h2:is[j]? with
   | none=>rw [h2] at h1;cases h1
   | some i =>
    rw [h2] at h1;have h1:ψ (M_ i)=ψ p.1:=h1;injection h1 with h1;rw [<- h1,e_,h2];exact .int i
 .exact q1.elim
end
theorem r0{F:α->β->Prop}:∀{l:List α}{m:List β},l.length=m.length->(∀(i:Nat) (p:α) (q:β),l[i]?=ψ p->m[i]?=ψ q->F p q)->Paired F l m
 | [],[],_,_=>.nil
 | [],_::_,h,_=>nomatch h
 | _::_,[],h,_=>nomatch h
 | p::l,q::m,h,f=>.cons (f 0 p q rfl rfl) (r0 (by simpa using h) λi x y a b=>f (i+1) x y (by simpa using a) (by simpa using b))
noncomputable def Dv:List V->Hp->VK->Prop:=λxs H Q=>∃p kvs,xs=[.ref p]/\H p=ψ (.dK kvs)/\∀l,H l=ω->Q (.ref l) (upd H l (.lst (kvs.map λq=>kV q.1)))
def Fh(hc:X.calm=η):bD X (.type "list") Dv:=by
 intro pins s σ H xs us Q I r h;obtain⟨p,kvs,rfl,e,q⟩:=h;obtain⟨u,rfl,rx⟩:=d0 r;cases rx;obtain⟨hl,ns,vs,rel,dd⟩:=Bv I.hok e;obtain⟨ep,da⟩:=dd.dictAt;have hlen:=rel.length;refine PySem.W.kdl_call (PySem.W.kdl_dict (knd:=cB X.prog X.w) (kvs:=vs) (ep:=ep) ns) (I.ok.hd hc) da (by rw [<- hlen];exact hl) λh' tk acc' c' kp e2 hacc=>?_;refine⟨.ref s⁻¹,_,I.laid (t':=tk) kp (f_ _) (show bN X.prog X.w _ h' _ (.lst (kvs.map λq=>kV q.1)) from ⟨by rw [cy];exact hl,acc'.toList,c',?_,by simpa using e2⟩),rfl,q _ (I.hok.fresh (f_ _))⟩
 refine r0 (by rw [cy];exact (hlen.trans hacc.1.symm).trans (C0 ..).symm) λi x y h1 h2=>?_;rw [h_] at h1
 cases h3:kvs[i]? with
 | none=>rw [h3] at h1;cases h1
 | some pr =>
  rw [h3] at h1;injection h1 with h1;obtain⟨k,z,h4,hk⟩:=hacc.2 i y (by rw [<- NY];exact h2);have h5:pr.1=k:=(mD rel h3 h4).1;rw [<- h1];show cC (kV pr.1) y;rw [h5]
  rcases bH hk with ⟨j,t,rfl,rfl⟩|⟨w,t,rfl,rfl⟩
  .exact⟨t,rfl⟩
  .exact⟨t,rfl⟩
noncomputable def Dw:FN
 | [.dic ks _],Q=>∃is:Λ,ks=is.map M_/\is.length<=1000000/\Q (.own (is.map .int))
 | _,_=>False
def Ci:LC K Dv Dw:=by
 intro O H xs as Q Q' dom fs q k;unfold Dw at q
 split at q
 .cases fs with
  | cons a b =>
   cases b;obtain⟨is,rfl,hl,q⟩:=q;obtain⟨p,kvs,rfl,e,m,f⟩:=a.dic
   have e1:(kvs.map λq=>kV q.1)=is.map V.int:=by
    have:kvs.map (λq=>kV q.1)=(kvs.map y_).map kV:=by rw [Ms];rfl
    rw [this,m,Ms];rfl
   refine⟨p,kvs,rfl,e,λl h0=>?_⟩;rw [e1];exact k _ _ (.own (is.map .int)) q (Gr.new h0) ⟨l,_,rfl,h0,aI,FVs.of_ints is⟩
 .exact q.elim
def wm{o i:Expr}{p:Pos}{td ty tv:TE}(hu:X.A.units+1<cLine)(ho:PE X o td)(hi:PE X i ty)(hv:PE X e tv)(h:Ky e=true:=by rfl):PS X (.Assign [.Subscript o i p] e pos) (Ei td ty tv) :=
 Ek hu ho hi hv (rO (o:=o) (i:=i) (p:=p) (l:=pos.line) (env:=X.env) h)
def aC(i:Nat):LA1 K (aS i) (pSl i):=fH
def cH(i:Nat):LE K (aS i) (yX i):=jC
def Cj(i:Int):LE K (tC (.int i)) (pC (.int i)):=le_int
def cv(i:Nat):LA1 K (aS i) (pFz (yX i)):=ah jC
def bi(i:Int):LA1 K (tC (.int i)) (pFz (pC (.int i))):=ah le_int
def cm{fs:Δ}(i:Nat)(hi:fs.contains i=ξ):LG K fs (bE i) (fK i):=y0 hi
def bq{fs:Δ}(i:Nat)(hi:fs.contains i=ξ):LGd K fs (bE i) (fK i):=d3 hi
variable {l:Addr}{s:d_}
def xv(hh:A.handled=ω)(hl:s.heap.IsTuple l (intItems xs))(hne:0<xs.size)(h:∀v h' tk,(intItems xs)[argBest (λi j=>decide (numAt xs i<numAt xs j)) (xs.size - 1)]?=ψ v->(∀b o,s.heap.get? b=ψ o->h'.get? b=ψ o)->Q v { s with heap:=h',toks:=tk }):
  wpAny (model prog w) A (call (.builtin "min") [.ref l]) Q E s:=by
 refine call_min_walk (mC hl λs₂ e st hfp hlI=>?_);subst e;refine⟨_,_,_,_,_,_,_,rfl,QU (A:=A.in1) hh _ l hlI (intItems xs),st,hfp,by simpa [intItems] using hne,CmpOf.ints_lt (numAt xs) (λ_ _=>OM),λv h' tk hP hk=>?_⟩;exact h v h' tk (by simpa [intItems] using hP) (λb o e=>hk b o (λz=>absurd (m_ e) (by rw [u_.mp z];exact Md _)) (c_ _ e))
noncomputable def Ak(K:b_):List V->Hp->VK->Prop:=λxs H Q=>∃(p:Addr) (ns:Λ),xs=[.ref p]/\(SqL K H p (ns.map V.int)\/SqT K H p (ns.map V.int))/\0<ns.length/\∀m:Int,m∈ns->(∀a∈ns,m<=a)->Q (.int m) H
variable {s:Nat}
def Fi(K:b_)(e:X.K=K)(hc:X.calm=η):bD X (.builtin "min") (Ak K):=by
 intro pins s σ H xs us Q I r h;obtain⟨p,ns,rfl,hS,hne,q⟩:=h
 rcases hS with hS|hS
 .exact vD K e hc pins s σ H _ us Q I r ⟨p,ns,rfl,hS,hne,q⟩
 .subst e;obtain⟨u,rfl,ru⟩:=d0 r;cases (show u=vx p from ru);obtain⟨its,rv,pl,hz⟩:=I.tuple hS;have hi:=bQ rv;have hl:s.heap.IsTuple p its.toArray:=pl;obtain⟨ys,e⟩:=hi.allInts.items;have hns:ns=ys.toList.map (·.1):=by rw [<- hi.numsOf,<- Ov,<- e]
  have hsz:0<ys.size:=by
   have h3:=hne;rw [hns,cy,C0] at h3;exact h3
  rw [e] at hl;refine xv (by exact I.ok.hd hc) hl hsz λv h' tk hv hk=>?_;obtain⟨t,rfl⟩:=OM hv;obtain⟨h1,h2⟩:=argBest_lt (numAt ys) (ys.size - 1)
  refine⟨.int _,H,I.kept (t':=tk) hk,⟨t,rfl⟩,q _ ?_ λa ha=>?_⟩
  .rw [hns,O5];exact getD_mem (by rw [cy,C0];omega)
  .rw [hns] at ha;obtain⟨j,hj,rfl⟩:=mem_getD ha;rw [cy,C0] at hj;rw [<- O5];exact h2 j ⋯
noncomputable def IR:FN:=λas Q=>∃(d:D) (ns:Λ),as=[d]/\qI d (ns.map .int)/\0<ns.length/\∀m:Int,m∈ns->(∀a∈ns,m<=a)->Q (.dat (.int m))
def Ck:LC K (Ak K) IR:=by
 intro O H xs as Q Q' dom fs q k;obtain⟨d,ns,rfl,hd,h0,q⟩:=q
 cases fs with
 | cons a b =>
  cases b
  rcases hd with rfl|rfl
  .obtain⟨p,ys,rfl,e1,f1⟩:=a.lst;rw [f1.ints] at e1;exact⟨p,ns,rfl,.inl (SqL.of e1),h0,λm h1 h2=>k _ H _ (q m h1 h2) (Gr.refl _) (.int _)⟩
  .obtain⟨p,ys,rfl,_,e1,f1⟩:=a.tup;rw [f1.ints] at e1;exact⟨p,ns,rfl,.inr (SqT.of e1),h0,λm h1 h2=>k _ H _ (q m h1 h2) (Gr.refl _) (.int _)⟩
abbrev AW(led:Bool):Obj:={ cls:=.type "set",dict:=ω,data:=.set #[] 0 (.fresh 0 0 led) }
def Fj:isSubtype (.type "tuple") (.type "set")=pure false:=by rw [PR];kernel_rfl
def xw:isSubtype (.type "tuple") (.type "frozenset")=pure false:=by rw [PR];kernel_rfl
variable {s:d_}
theorem Fk{T newId initId:String}{Bi:Ow}{args:Ξ}{Q₁:Value->d_->Prop}(ft:TypeCalled T newId initId)(hct:checkTypeCall T ⟨args,[]⟩=pure ())(entryI:entryFor table initId=ψ Bi)(hnew:codeAny (model prog w) A.in1 (.call (.builtin newId) ⟨.type T::args,[]⟩) (wants Q₁ E) s)(hnext:∀obj s₁,Q₁ obj s₁->s₁.TypeIs obj T/\wpAny (model prog w) A.in1.in1 (checkBuiltinCall initId ⟨obj::args,[]⟩) (λ_ s₂=>wpAny (model prog w) A.in1.in1 (Bi ⟨obj::args,[]⟩)
    (λfin s'=>match fin with|.done f=>wants (λr s₂=>r=.none/\Q obj s₂) E (.ok f) s'|.again c'=>c'.quiet=η/\codeAny (model prog w) A.in1 c' (wants (λr s₂=>r=.none/\Q obj s₂) E) s')
    (λe s'=>wants (λr s₂=>r=.none/\Q obj s₂) E (.error e) s') s₂) (λe s'=>wants (λr s₂=>r=.none/\Q obj s₂) E (.error e) s') s₁):
  wpAny (model prog w) A (call (.type T) args) Q E s:=by
 obtain⟨c,tl,hmro⟩:=ft.mro;have hmade:=ft.made;have hsub:=ft.sub;refine wpAny_call (QF (gV ⟨Code.quiet_builtin _ (by decide +kernel),Nx F.entry_type_call ?_⟩));rw [Around.under_plain (weight_type_call_type T args []) rfl];have h1:=ft.notType;have h2:=ft.canCreate
 repeat (any_goals (first|assumption|wp_step))
 refine OU hnew λr s₁ hr=>?_
 cases r with
 | error e=>exact hr
 | ok fl =>
  cases fl with
  | ret obj =>
   obtain⟨hT,hsi⟩:=hnext _ _ hr;have hli:=ft.init.lookup;have hbi:=ft.init.bind obj
   repeat (any_goals (first|assumption|wp_step))
   refine OU (codeAny_call_builtin ft.init.plain entryI hsi) λr₂ s₂ hr₂=>?_
   cases r₂ with
   | error e=>exact hr₂
   | ok fl₂ =>
    cases fl₂ with
    | ret r =>
     obtain⟨rfl,hq⟩:=hr₂
     repeat (any_goals (first|assumption|wp_step))
    | _=>exact hr₂.elim
  | _=>exact hr.elim
variable {l:Nat->Int}{M:Model}
def Cm{id:String}{S l:Addr}{Q:Unit->d_->Prop}(hT:s.TypeIs (.ref l) "tuple")(h:wpAny M A (pyIter (.ref l)) (λit s'=>wpAny M A (runValue (.builtin "set.update.loop" ⟨[.ref S,it],[]⟩)) (λ_ s''=>Q () s'') E s') E s):
  wpAny M A (Ng id S (.ref l)) Q E s:=by
 unfold Ng Builtin.Frozenset.isAnySet;refine cn (cn (Oi (b:=ξ) hT Fj ?_));refine Oi (b:=ξ) hT xw ?_;rw [if_neg l_];refine cn (OW hT ?_);rw [if_neg (by decide)];exact cn (Ml h (λit s' h'=>cn (Ml h' (λ_ _ q=>gV q) λ_ _ x=>x)) λ_ _ x=>x)
def r8{l:Addr}(hh:A.handled=ω)(hl:s.heap.IsTuple l items)(hi:NZ items.toList ns)(hb:ns.length+1<scanBound)(h:∀(h':Heap) (tk:Nat),h'.SetOf (intKind prog w) s⁻¹ (λk'=>(firstMet (λi=>ns.getD i 0) items.size).any (· == k')) (firstMet (λi=>ns.getD i 0) items.size).length->(∀b o,b<s⁻¹->s.heap.get? b=ψ o->h'.get? b=ψ o)->s.toks<=tk->Q (.ref s⁻¹) { s with heap:=h',toks:=tk }):
  wpAny (model prog w) A (call (.type "set") [.ref l]) Q E s:=by
 refine Fk (Q₁:=λobj s₁=>∃led,obj=.ref s⁻¹/\s₁={ s with heap:=s.heap.push (AW led) }) F.called_set (F.typeCall_set_1 _) F.entry_set_init (code_set_new_1 _ λled=>⟨led,rfl,rfl⟩) λobj s₁ hr=>?_;obtain⟨led,rfl,rfl⟩:=hr;have hS:(s.heap.push (AW led)).get? s⁻¹=ψ ⟨.type "set",ω,.set #[] 0 (.fresh 0 0 led),#[]⟩:=i_ _ rfl;have hT:Shared.TypeIs { s with heap:=s.heap.push (AW led) } (.ref s⁻¹) "set":=⟨_,hS,rfl⟩
 refine⟨hT,check_set_init_1 hT ?_⟩;have hz:items.size=ns.length:=by rw [<- C0];exact IntsAre.length hi
 have hl1:(s.heap.push (AW led)).IsTuple l items:=hl.push _;have hlt:l<s⁻¹:=by obtain⟨o,ho,_⟩:=hl;exact m_ ho
 have hTl:Shared.TypeIs { s with heap:=s.heap.push (AW led) } (.ref l) "tuple":=hl1.typeIs;have hU:∀{A':G_}{E':Value->d_->Prop}{Q':Unit->d_->Prop},wpAny (model prog w) A' (pyIter (.ref l)) (λit s'=>wpAny (model prog w) A' (runValue (.builtin "set.update.loop" ⟨[.ref s⁻¹,it],[]⟩)) (λ_ s''=>Q' () s'') E' s') E' { s with heap:=s.heap.push (AW led) }->wpAny (model prog w) A' (Ng "set.__init__" s⁻¹ (.ref l)) Q' E' { s with heap:=s.heap.push (AW led) }:=λh=>Cm hTl h
 unfold Ow.«set.__init__» noKeywords;generalize Ng "set.__init__"=U at hU ⊢;have hsz:(s.heap.push (AW led)).objs.size=s⁻¹+1:=Mi ..;have hF:(s.heap.push (AW led)).SetOf (intKind prog w) s⁻¹ (λk'=>(firstMet (λi=>ns.getD i 0) 0).any (· == k')) (firstMet (λi=>ns.getD i 0) 0).length:=⟨_,#[],0,_,i_ _ rfl,⟨rfl,rfl,rfl⟩,rfl,(λe he=>nomatch he),(λk=>by rw [firstMet_zero];simp),by decide,rfl,rfl⟩
 generalize hgg:s.heap.push (AW led)=g at *
 wp_walk
 refine hU ?_;refine NS hl1 ?_;refine wpAny_runValue ?_;have hh3:A.in1.in1.in1.handled=none:=by simp [hh]
 have hneI:l≠g.objs.size:=by rw [hsz];exact Mh (NH hlt)
 have hSf:s⁻¹∉[g.objs.size,l]:=by
  rw [hsz];simp only [B_,MV,or_false,not_or];exact⟨Mh (Mu _),Oo hlt⟩
 refine codeAny_set_update_loopS ((QU hh3 _ l hneI items).toS) s⁻¹ hSf (λi=>ns.getD i 0) (λi v hv=>IntsAre.int_at hi i v (by rw [NY];exact hv)) ⋯ (items.size - 0) 0 _ ⋯ (NJ _)
  ⟨⟨_,i_ _ rfl,rfl,rfl⟩,(hl1.push _)⟩ (by obtain⟨o,es,ep,tb,ho,r⟩:=hF;exact⟨o,es,ep,tb,c_ _ ho,r⟩) λs' hm hS'=>?_
 obtain⟨h',g',d',tk',os'⟩:=s';have eg:g'=s.gens:=hm.gens;have ed:d'=s.drawn:=hm.drawn;have eo:os'=s.os:=hm.os;have et:s.toks<=tk':=hm.toks;subst eg;subst ed;subst eo;refine gV ⟨rfl,h h' tk' hS' (λb o hb e=>?_) et⟩;exact hm.heap b o (by rw [B_,u_,hsz,not_or];exact⟨Mh hb,Mh (NH hb)⟩) (c_ _ (hgg ▸ c_ _ e))
theorem Al(hd:ns.Nodup):∀i,i<=ns.length->(firstMet (λi=>ns.getD i 0) i).length=i
 | 0,_=>rfl
 | i+1,h=>by
  have g:∀{j:Nat} (hj:j<ns.length),ns.getD j 0=ns[j]:=λ{j} hj=>by rw [e_,cx hj];rfl
  rw [firstMet_succ,step_length,firstMet_any,Al hd i ⋯,if_neg];rw [any_map,any_eq_true];rintro⟨j,hj,e⟩;have hj:=L_.mp hj;have e:ns.getD j 0=ns.getD i 0:=beq_iff_eq.mp e;rw [g ⋯,g ⋯] at e;exact pairwise_iff_getElem.mp hd j i ⋯ ⋯ hj e
def Am:bootBuiltins "set"=ψ (.type "set"):=by decide +kernel
noncomputable def IS(K:b_):List V->Hp->VK->Prop:=λxs H Q=>∃(p:Addr) (ns:Λ),xs=[.ref p]/\SqT K H p (ns.map V.int)/\ns.Nodup/\ns.length<1000/\Q (.int (ns.length:Int)) H
variable {t:TA}{p p' pos':Pos}
def Fl(K:b_)(eK:X.K=K)(hc:X.calm=η)(hg:Gl X "len")(hm:X.mg "len"=ω)(hg2:Gl X "set")(hm2:X.mg "set"=ω)(ha:PA X [e] t)(hn:nSt e=true:=by rfl):
  PE X (.Call (.Name "len" p) [.Call (.Name "set" p') [e] [] pos'] [] pos) (tCB (IS K) t):=by
 subst eK;intro pins s σ H Q I h;refine Np (eY I hg hm boot_len ?_ (by decide) (by decide));refine Pb ?_ rfl rfl;refine Nn ?_;refine Np (eY I hg2 hm2 Am ?_ (by decide) (by decide));refine I_ (thn (ha pos' pins s σ H _ I h) λus s1 ⟨vs,H1,I1,r1,q1⟩=>?_) (gQ hn) rfl;obtain⟨a,ns,rfl,hS,hd,hl,q⟩:=q1;obtain⟨u,rfl,ru⟩:=d0 r1
 cases (show u=vx a from ru);obtain⟨its,rv,pl,hz⟩:=I1.tuple hS;have hi:=bQ rv;refine r8 (I1.ok.hd hc) pl hi (by unfold scanBound;omega) λh2 tk hS2 k2 _=>?_;refine Nz ?_;have old:∀b u,s1.heap.get? b=ψ u->h2.get? b=ψ u:=λb u e=>k2 b u (m_ e) e;obtain⟨o,es,ep,tt,hx,hex,hda,_,_,_,hf,hsz⟩:=hS2;have hil:its.toArray.size=ns.length:=by rw [we];exact IntsAre.length hi
 rw [hil,Al hd _ (f_ _)] at hsz;refine call_len_set hx hex hda hf ⋯ ?_;exact⟨.int (ns.length:Int),H1,I1.kept old,⟨_,by rw [hsz]⟩,q⟩
noncomputable def IT:FN
 | [.tup ds],Q=>∃ns:Λ,ds=ns.map .int/\ns.Nodup/\ns.length<1000/\Q (.dat (.int (ns.length:Int)))
 | _,_=>False
def Fm:LC K (IS K) IT:=by
 intro O H xs as Q Q' dom fs q k;unfold IT at q
 split at q
 .obtain⟨ns,rfl,hd,h0,q⟩:=q
  cases fs with
  | cons a b =>
   cases b;obtain⟨p,ys,rfl,_,e1,f1⟩:=a.tup;rw [f1.ints] at e1;exact⟨p,ns,rfl,SqT.of e1,hd,h0,k _ _ _ q (Gr.refl _) (.int _)⟩
 .exact q.elim
end L2
namespace K32
open PySem PySem.Spec PyProof.Rows L2
noncomputable def top(i:Nat):Stmt:=PySem.Challenge.pw_shortglue_k32_whole_by_rings.main.body.getD i (.Pass ⟨0,0,0,0⟩)
abbrev qt:Stmt:=top 7
abbrev i7:Stmt:=top 8
abbrev fN:Stmt:=top 13
abbrev kc:Stmt:=top 14
abbrev gb:Stmt:=top 15
abbrev i8:Stmt:=top 19
abbrev gc:Stmt:=top 20
abbrev eN:Stmt:=top 21
abbrev fm:Stmt:=top 22
abbrev mF:Stmt:=top 24
abbrev gU:Stmt:=top 25
abbrev gk:Stmt:=top 26
abbrev jb:Stmt:=top 27
abbrev kd:Stmt:=top 28
abbrev qu:Stmt:=top 29
abbrev ke:Stmt:=top 30
abbrev Fn:Stmt:=top 32
abbrev kf:Stmt:=top 33
abbrev fo:Stmt:=top 35
abbrev eO:Stmt:=top 36
abbrev mG:Stmt:=top 37
abbrev kg:Stmt:=top 38
abbrev cp:Stmt:=yu (top 39) 0
abbrev cr:Stmt:=yu (top 39) 1
abbrev kh:Stmt:=top 41
abbrev ki:Stmt:=top 42
abbrev kj:Stmt:=top 43
abbrev mH:Stmt:=top 44
abbrev kl:Stmt:=top 45
abbrev gl:Stmt:=top 46
abbrev jc:Stmt:=top 47
abbrev km:Stmt:=top 48
abbrev jd:Stmt:=top 49
abbrev gm:Stmt:=top 50
abbrev je:Stmt:=top 51
abbrev mI:Stmt:=top 53
abbrev gW:Stmt:=top 54
abbrev jf:Stmt:=top 55
abbrev jg:Stmt:=top 56
abbrev kn:Stmt:=top 57
abbrev Cn:Stmt:=top 58
def An:aE ["thing"] ["thing"] (ai qt):=by fin2
def sd:aE ["thing"] ["thing"] (ai i7):=by fin2
def xx:aE ["thing","least","most"] ["thing","least","most"] (ai fN):=by fin2
def uj:aE ["thing","least","most"] ["thing","least","most"] (ai kc):=by fin2
def nU:aE ["text","piece"] ["text","piece"] (ai gb):=by fin2
def se:aE ["thing"] ["thing"] (ai i8):=by fin2
def bb:aE ["rows","gives","takes","leaders","start","reached","near","i","distance","column","j","number","step"] ["rows","gives","takes","leaders","start"] (ai gc):=by fin2
def bB:aE ["rows","gives","takes","leaders","start","reached","column","farthest","j","before"] ["rows","gives","takes","leaders","start"] (ai eN):=by fin2
def bY:aE ["rows","gives","takes","leaders","start","followers"] ["rows"] (ai fm):=by fin2
def xy:aE ["thing","many"] ["thing","many"] (ai mF):=by fin2
def qv:aE ["family","ring"] ["family","ring"] (ai gU):=by fin2
def nV:aE ["ring"] ["ring"] (ai gk):=by fin2
def kA:aE ["followers","first","ring"] ["followers","first"] (ai jb):=by fin2
def jh:aE ["family","followers","rings"] ["family"] (ai kd):=by fin2
def mJ:aE ["family","ring","laps","cut"] ["family","ring"] (ai qu):=by fin2
def uk:aE ["family"] ["family"] (ai ke):=by fin2
def Dx:aE ["one","other","k"] ["one","other"] (ai Fn):=by fin2
def ul:aE ["words"] ["words"] (ai kf):=by fin2
def eP:aE ["things","at","thing"] ["things"] (ai fo):=by fin2
def kY:aE ["piece","other"] ["piece","other"] (ai eO):=by fin2
def ko:aE ["pieces","at","piece","longer"] ["pieces","at"] (ai mG):=by fin2
def mK:aE ["pieces","kept","at","holder"] ["pieces","kept","at"] (ai kg):=by fin2
def iH:aE ["self","pieces","indexes"] ["self","pieces"] (ai cp):=by fin2
def nW:aE ["self"] ["self"] (ai cr):=by fin2
def c6:aE ["_law_cells","_law_many_here","_law_own","_law_row","_law_deck_here","_law_k","_law_at","_law_one"] ["_law_cells","_law_many_here"] (ai kh):=by fin2
def um:aE ["_law_deck_here"] ["_law_deck_here"] (ai ki):=by fin2
def mL:aE ["_law_one","_law_other","_law_k","_law_at"] ["_law_one","_law_other","_law_k"] (ai kj):=by fin2
def pq:aE ["_law_one","_law_other","_law_k"] ["_law_one","_law_other"] (ai mH):=by fin2
def gn:aE ["_law_pieces","_law_found","_law_k","_law_longer"] ["_law_pieces"] (ai kl):=by fin2
def dH:aE ["_law_number","_law_letters","_law_found"] ["_law_number","_law_letters"] (ai gl):=by fin2
def bo:aE ["_law_deck_here","_law_most","_law_letters","_law_text","_law_found","_law_k","_law_number","_law_at","_law_piece"] ["_law_deck_here","_law_most"] (ai jc):=by fin2
def dC:aE ["_law_words","_law_order_here","_law_text","_law_k","_law_own"] ["_law_words","_law_order_here"] (ai km):=by fin2
def gX:aE ["_law_deck_here","_law_many_here","_law_rest","_law_found"] ["_law_deck_here","_law_many_here"] (ai jd):=by fin2
def bw:aE ["_law_deck_here","_law_words","_law_order_here","_law_text","_law_k","_law_number","_law_own"] ["_law_deck_here","_law_words"] (ai gm):=by fin2
def sf:aE ["_law_found"] ["_law_found"] (ai je):=by fin2
def dD:aE ["_law_many_here","_law_found","_law_step","_law_longer","_law_order_here","_law_i"] ["_law_many_here"] (ai mI):=by fin2
def dw:aE ["_law_words","_law_laps","_law_ring","_law_found","_law_k","_law_other"] ["_law_words","_law_laps","_law_ring"] (ai gW):=by fin2
def sg:aE ["_law_laps","_law_ring"] ["_law_laps","_law_ring"] (ai jf):=by fin2
def gY:aE ["_law_deck_here","_law_words","_law_found","_law_order_here"] ["_law_deck_here","_law_words"] (ai jg):=by fin2
def cG:aE ["_law_deck_here","_law_text","_law_k","_law_found","_law_begin","_law_at"] ["_law_deck_here"] (ai kn):=by fin2
def dZ:aE ["_law_script","_law_deck_here","_law_pieces","_law_words","_law_laps","_law_family","_law_order_here","_law_rings","_law_rows","_law_ring","_law_weights","_law_cuts","_law_long","_law_text"] ["_law_script"] (ai Cn):=by fin2
structure Txt (mg:Θ):Prop where
 b_all:mg "all"=ω
 b_any:mg "any"=ω
 b_bool:mg "bool"=ω
 b_enumerate:mg "enumerate"=ω
 b_int:mg "int"=ω
 b_isinstance:mg "isinstance"=ω
 b_len:mg "len"=ω
 b_list:mg "list"=ω
 b_max:mg "max"=ω
 b_min:mg "min"=ω
 b_range:mg "range"=ω
 b_reversed:mg "reversed"=ω
 b_set:mg "set"=ω
 b_sorted:mg "sorted"=ω
 b_str:mg "str"=ω
 b_sum:mg "sum"=ω
 b_tuple:mg "tuple"=ω
 b_zip:mg "zip"=ω
 g_MOST_NUMBER:∃t,mg "MOST_NUMBER"=ψ (.int 1000000 t)
 g_MOST_PIECES:∃t,mg "MOST_PIECES"=ψ (.int 40 t)
 g_MOST_ROWS:∃t,mg "MOST_ROWS"=ψ (.int 40 t)
 g_MOST_SIGNS:∃t,mg "MOST_SIGNS"=ψ (.int 60 t)
structure TxC (K:b_):Prop where
 clφ:Cls K (bZ K "Family")
 nφ_pieces:eZ K (bZ K "Family") "pieces"
 nφ_kept:eZ K (bZ K "Family") "kept"
 nφ_words:eZ K (bZ K "Family") "words"
 nφ_left:eZ K (bZ K "Family") "left"
 nφ_laps:eZ K (bZ K "Family") "laps"
 nφ_total:eZ K (bZ K "Family") "total"
local macro_rules | `(tactic| walk_at "s")=>`(tactic| first | (with_reducible omega) | (with_reducible assumption) | (with_reducible rfl) | exact le_of_ble_eq_true rfl | (simp only [length_cons,length_nil,length_append,length_map];(with_reducible omega)) | assumption | rfl | (refine ⟨?_,?_⟩ <;> first | (with_reducible omega) | (with_reducible assumption) | (with_reducible rfl) | exact le_of_ble_eq_true rfl | assumption | rfl | (refine ⟨?_,?_⟩ <;> first | (with_reducible omega) | (with_reducible assumption) | (with_reducible rfl) | exact le_of_ble_eq_true rfl | assumption | rfl | (refine ⟨?_,?_⟩ <;> first | (with_reducible omega) | (with_reducible assumption) | (with_reducible rfl) | exact le_of_ble_eq_true rfl | assumption | rfl | fail) | fail) | fail) | omega | fail)
local macro_rules | `(tactic| z_go)=>`(tactic| ((try dsimp only [set_cons_zero,set_cons_succ,zy,zA,zC,zB,Ib,Ic,rJ,o5,o7,vN,vO,tail_cons,rK,rL,vP,zR,zS,Dn]);(conv=>whnf);(repeat (first | ((with_reducible refine And.intro ?_ ?_);(next=>walk_at "s");(conv=>whnf)) | ((with_reducible refine (show Exists _ from ?_));(first | (refine ⟨_,rfl,?_⟩) | (refine ⟨_,qI.lst _,?_⟩) | (refine ⟨_,qI.tup _,?_⟩));(conv=>whnf)) | ((refine (show iY _ _ _ from ?_));(first | (with_reducible refine LL (by assumption) ?_) | (with_reducible refine LN (by assumption) ?_) | (with_reducible refine JW (by assumption) ?_) | (with_reducible refine Er (by assumption) ?_) | ((with_reducible refine JU ?_ ?_);(next=>(first | (with_reducible rfl) | (with_reducible assumption) | (with_reducible omega)))) | ((with_reducible refine JV ?_ ?_);(next=>(first | (with_reducible rfl) | (with_reducible assumption) | (with_reducible omega)))) | ((with_reducible refine G8 ?_ ?_);(next=>(first | (with_reducible rfl) | (with_reducible assumption) | (with_reducible omega)))) | ((with_reducible refine G9 ?_ ?_);(next=>(first | (with_reducible rfl) | (with_reducible assumption) | (with_reducible omega)))));(conv=>whnf))));(try refine (show iY _ _ _ from ?_));(try dsimp only [set_cons_zero,set_cons_succ,zy,zA,zC,zB,Ib,Ic,rJ,o5,o7,vN,vO,tail_cons,rK,rL,vP,zR,zS,Dn])))
local macro_rules | `(tactic| k_in)=>`(tactic| dsimp only [HQ,Km,bT,List.map,List.length,List.replicate,cons_append,nil_append,Nat.reduceSub,Nat.reduceAdd,Nat.zero_add])
noncomputable def fO:FN:=λa_ Q=>cD (λd=>cN (d.sort=η/\Q (.dat (.bl (Kp d))))) a_
noncomputable def gZ:FN:=λa_ Q=>cD (λd=>cN (d.sort=η/\Q (.dat (.bl (Ko d))))) a_
noncomputable def fP:FN:=λa_ Q=>cD (λd=>cI (λa=>cI (λb=>cN (d.sort=η/\Kn d<=1000000/\Q (.dat (.bl (BN d a b))))))) a_
noncomputable def dE:FN:=λa_ Q=>cI (λx=>cI (λa=>cI (λb=>cN ((a<=x/\x<=b)/\Q (.dat (.bl η)))))) a_
noncomputable def dI:FN:=λa_ Q=>cS (λa=>cS (λb=>cN (Q (.dat (.int (fnd a b 0)))))) a_
noncomputable def de(n:Nat)(f:Nat->Int):List D:=(g_ n).map λi=>.int (f i)
abbrev sh(n:Nat)(c:Nat->Nat->Int):List D:=(g_ n).map λi=>D.tup (de n (c i))
variable {n:Nat}
def dJ{f:Nat->Int}:(de n f).length=n:=by unfold de;rw [cy,x_]
variable {i:Nat}
def jP{f:Nat->Int}(h:i<n):(de n f)[i]?=ψ (.int (f i)):=by
 unfold de;rw [h_,Mj h];rfl
def Ao{f:Nat->Int}(h:i<n):itD (de n f) i=.int (f i):=by
 unfold itD;rw [e_,jP h];rfl
def wn{c:Nat->Nat->Int}(h:i<n):itD (sh n c) i=.tup (de n (c i)) :=
 gP (by rw [h_,Mj h];rfl)
variable {ds:List D}
def getElem?_itD{k:Nat}(h:k<ds.length):ds[k]?=ψ (itD ds k):=by
 unfold itD;rw [e_,cx h];rfl
variable {α:Type}
def qw(xs:List α):(xs.map λ_=>η).all id=true:=N9.mpr λb h=>by
 obtain⟨_,_,rfl⟩:=Mp.mp h;rfl
noncomputable def g9:FN:=λa_ Q=>cT (λrs=>cN (∃(n:Nat) (c:Nat->Nat->Int),rs=sh n c/\(n<=40/\∀i j,i<n->j<n->0<=c i j/\c i j<=1000000)/\Q (.dat (.bl η)))) a_
noncomputable def IU(e:Nat×Int×Int):D:=.tup [.int e.2.1,.int e.2.2]
noncomputable def kdR(R:cu):List (Key×D):=R.map λe=>(.inl (e.1:Int),IU e)
def ksR(R:cu):List Key:=(kdR R).map y_
def dsR(R:cu):List D:=(kdR R).map Mo
structure Fo (n:Nat) (c:Nat->Nat->Int) (d:D) (rs:List D):Prop where
 sq:qI d rs
 len:rs.length=n
 at_:∀i,i<n->qI (itD rs i) (de n (c i))
def mM{f:Nat->Int}(h:i<n):atI (de n f) (i:Int)=ψ (.int (f i)):=gA (j:=i) (jP h) rfl
noncomputable def xz(N:cu)(j:Nat)(p:Int×Int):cu:=if o9 N j then N.map (λe=>if e.1=j then (j,p) else e) else N++[(j,p)]
noncomputable def xA(N:cu)(j:Nat):cu:=N.filter λe=>decide (e.1≠j)
def Dy(N:cu)(j:Nat):((kdR N).any λp=>decide (p.1=.inl (j:Int)))=o9 N j:=by
 unfold kdR o9 eX;rw [any_map]
 cases h:(List.map (·.1) N).contains j with
 | true =>
  rw [M9,Mp] at h;obtain⟨e,he,rfl⟩:=h;exact any_eq_true.mpr ⟨e,he,decide_eq_true rfl⟩
 | false =>
  refine Qn.mpr λe he z=>?_;have z:(M_ (e.1:Int):Key)=.inl (j:Int):=of_decide_eq_true z;have z:e.1=j:=by injection z;omega
  have:(List.map (·.1) N).contains j=true:=M9.mpr (Mp.mpr ⟨e,he,z⟩);rw [this] at h;cases h
def Dz(N:cu)(j:Nat)(p:Int×Int):Ch (kdR N) (.inl (j:Int)) (.tup [.int p.1,.int p.2])=kdR (xz N j p):=by
 unfold Ch xz;rw [Dy]
 by_cases h:o9 N j=η
 .rw [if_pos h,if_pos h];unfold kdR;rw [Ms,Ms];refine NL λe _=>?_;show (if (M_ (e.1:Int):Key)=.inl (j:Int) then _ else _)=_
  by_cases c:e.1=j
  .subst c;rw [if_pos rfl];simp only [Function.comp,if_true];rfl
  .rw [if_neg λz=>c (by injection z;omega)];simp only [Function.comp,if_neg c]
 .rw [if_neg h,if_neg h];unfold kdR;rw [D_];rfl
def Fp(N:cu)(j:Nat):xu (kdR N) (.inl (j:Int))=kdR (xA N j):=by
 unfold xu xA kdR;rw [filter_map];congr 1;refine filter_congr λe _=>?_;show decide ((M_ (e.1:Int):Key)≠.inl (j:Int))=decide (e.1≠j);exact decide_eq_decide.mpr ⟨λz y=>z (by rw [y]),λz y=>z (by injection y;omega)⟩
structure fQ (N:cu) (f:NrT):Prop where
 e:∀e,e∈N->f e.1=ψ e.2
 m:∀j p,f j=ψ p->(j,p)∈N
theorem uo:∀{N:cu}{f:NrT}{j:Nat} ,(∀e,e∈N->f e.1=ψ e.2)->(∀p,f j=ψ p->(j,p)∈N)->qq (kdR N) (.inl (j:Int))=(f j).map λp=>.tup [.int p.1,.int p.2]
 | [],f,j,_,h=>by
  cases e:f j with
  | none=>rfl
  | some p=>exact absurd (h p e) (by intro z;cases z)
 | a::N,f,j,h1,h=>by
  show qq ((.inl (a.1:Int),IU a)::kdR N) _=_;unfold qq;rw [NT]
  by_cases c:a.1=j
  .rw [decide_eq_true (by rw [c])];have:=h1 a q_;rw [c] at this;rw [this];rfl
  .rw [decide_eq_false λz:(M_ (a.1:Int):Key)=.inl (j:Int)=>c (by injection z;omega)];refine uo (λe he=>h1 e (n_ _ he)) λp hp=>?_
   rcases B_.mp (h p hp) with z|z
   .rw [<- z] at c;exact absurd rfl c
   .exact z
variable {f:NrT}
def fQ.look{N:cu}(h:fQ N f)(j:Nat):d9 (ksR N) (dsR N) (.inl (j:Int))=(f j).map λp=>.tup [.int p.1,.int p.2]:=by
 unfold ksR dsR;rw [gT];exact uo h.e (h.m j)
variable {j:Nat}
def Co{N:cu}{p:Int×Int}{e:Nat×Int×Int}(h:e∈xz N j p):e=(j,p)\/(e∈N/\e.1≠j):=by
 unfold xz at h
 by_cases c:o9 N j=η
 .rw [if_pos c,Mp] at h;obtain⟨a,ha,h⟩:=h
  by_cases c2:a.1=j
  .rw [if_pos c2] at h;exact .inl h.symm
  .rw [if_neg c2] at h;subst h;exact .inr ⟨ha,c2⟩
 .rw [if_neg c] at h
  rcases Mv.mp h with h|h
  .refine .inr ⟨h,λz=>c (ip.mpr ?_)⟩;rw [<- z];exact Mp.mpr ⟨e,h,rfl⟩
  .exact .inl (u_.mp h)
def Cp{N:cu}{p:Int×Int}:(j,p)∈xz N j p:=by
 unfold xz
 by_cases c:o9 N j=η
 .rw [if_pos c,Mp];obtain⟨d,q,h⟩:=c5.mp (ip.mp c);exact⟨_,h,if_pos rfl⟩
 .rw [if_neg c];exact r_ _ q_
def Cq{N:cu}{p:Int×Int}{e:Nat×Int×Int}(h:e∈N)(ne:e.1≠j):e∈xz N j p:=by
 unfold xz
 by_cases c:o9 N j=η
 .rw [if_pos c,Mp];exact⟨e,h,if_neg ne⟩
 .rw [if_neg c];exact Mf _ h
def Cr{N:cu}{p:Int×Int}:(xz N j p).length<=N.length+1:=by
 unfold xz
 split
 .rw [cy];omega
 .rw [kx];exact f_ _
def fQ.put{N:cu}(h:fQ N f){p:Int×Int}{f':NrT}(ef:f'=λi=>if i=j then ψ p else f i):fQ (xz N j p) f':=by
 subst ef
 refine⟨λe he=>?_,λi q hq=>?_⟩
 .rcases Co he with rfl|⟨he,ne⟩
  .exact if_pos rfl
  .exact (if_neg ne).trans (h.e e he)
 .by_cases c:i=j
  .subst c;rw [if_pos rfl] at hq;cases hq;exact Cp
  .rw [if_neg c] at hq;exact Cq (h.m i q hq) c
def fQ.drop{N:cu}(h:fQ N f):fQ (xA N j) (qk f j):=by
 refine⟨λe he=>?_,λi q hq=>?_⟩
 .unfold xA at he;rw [Mq,decide_eq_true_eq] at he;exact (if_neg he.2).trans (h.e e he.1)
 .unfold qk at hq
  by_cases c:i=j
  .rw [if_pos c] at hq;cases hq
  .rw [if_neg c] at hq;exact Mq.mpr ⟨h.m i q hq,decide_eq_true c⟩
variable {sl:Nat->Int}{R:cu}
def Ap{k:Int}{m:Nat}(h1:o9 R m=ξ)(h2:f m=ω\/∃p,f m=ψ p/\sl m<p.1):
  fM sl R f k (m+1)=λi=>if i=m then ψ (sl m,k) else fM sl R f k m i:=by
 funext i;unfold fM
 by_cases c:i=m
 .subst c;rw [if_pos (Mu _),if_pos rfl];unfold zT
  rcases h2 with e|⟨p,e,h⟩
  .rw [e];simp only;rw [if_neg (by rw [h1];exact l_)]
  .rw [e];simp only;rw [if_pos ⟨h1,h⟩]
 .rw [if_neg c]
  by_cases c2:i<m
  .rw [if_pos c2,if_pos ⋯]
  .rw [if_neg c2,if_neg ⋯]
def xB{k:Int}{m:Nat}(h:o9 R m=η\/∃p,f m=ψ p/\¬ sl m<p.1)(fn:∀j,(∃p,f j=ψ p)->j∉eX R):
  fM sl R f k (m+1)=fM sl R f k m:=by
 funext i;unfold fM
 by_cases c:i=m
 .subst c;rw [if_pos (Mu _),if_neg (Md _)];unfold zT
  rcases h with e|⟨p,e,h⟩
  .cases e2:f i with
   | none=>simp only;rw [if_pos e]
   | some p=>exact absurd (ip.mp e) (fn i ⟨p,e2⟩)
  .rw [e];simp only;rw [if_neg λz=>h z.2]
 .by_cases c2:i<m
  .rw [if_pos c2,if_pos ⋯]
  .rw [if_neg c2,if_neg ⋯]
def Fq{k:Int}{m:Nat}:fM sl R f k m m=f m:=if_neg (Md _)
def IV{k:Int}:fM sl R f k 0=f:=funext λ_=>if_neg (NC _)
def Aq(R:cu)(j:Nat):(d9 (ksR R) (dsR R) (.inl (j:Int))).isSome=o9 R j:=by
 unfold ksR dsR;rw [gT,<- Dy];unfold qq;rw [P3]
 induction kdR R with
 | nil=>rfl
 | cons a r ih =>
  rw [NT,N6]
  cases decide (a.1=(M_ (j:Int):Key)) with
  | true=>rfl
  | false=>rw [P6];exact ih
def Fs{d:D}{xs:List D}(h:qI d xs):rowD d=ψ xs:=by
 rcases h with rfl|rfl <;> rfl
noncomputable def mN(v:Option PV):Prop:=∀p,v=ψ p->p.isOwn=ξ
def cW{d:D}:mN (ψ (.dat d)):=λp h=>by cases h;rfl
def mO:mN none:=λp h=>by cases h
theorem DA:∀R:cu,D.noFs (dsR R)=η
 | []=>rfl
 | e::R=>by
  show D.noFs (IU e::dsR R)=η;have:=DA R;simp [D.noFs,D.noF,IU,this]
def IW{a0 a1 a2 a3 a4 a7 a8 a9:D}{w v10 v11 v12:Option PV}(h:mN v10/\mN v11/\mN v12):KJ 6 [ψ (.dat a0),ψ (.dat a1),ψ (.dat a2),ψ (.dat a3),ψ (.dat a4),ψ (.odc (ksR R) (dsR R)),w,ψ (.dat a7),ψ (.dat a8),ψ (.dat a9),v10,v11,v12]:=λj p hj e o=>by
 match j,e with
 | 0,e|1,e|2,e|3,e|4,e|7,e|8,e|9,e=>cases e;cases o
 | 5,e=>cases e;exact DA R
 | 6,e=>exact absurd rfl hj
 | 10,e=>cases e;rw [h.1 p rfl] at o;cases o
 | 11,e=>cases e;rw [h.2.1 p rfl] at o;cases o
 | 12,e=>cases e;rw [h.2.2 p rfl] at o;cases o
 | _+13,e=>cases e
variable {ks:List Key}
def Ar{k:Key}(c:(if η=η then !(d9 ks ds k).isSome else (d9 ks ds k).isSome)=η):d9 ks ds k=none:=by
 rw [if_pos rfl] at c
 cases h:d9 ks ds k with
 | none=>rfl
 | some d=>rw [h] at c;cases c
def As{k:Key}(c:(if η=η then !(d9 ks ds k).isSome else (d9 ks ds k).isSome)=ξ):(d9 ks ds k).isSome=true:=by
 rw [if_pos rfl] at c
 cases h:d9 ks ds k with
 | none=>rw [h] at c;cases c
 | some d=>rfl
def Cs(N:cu):(D.lst (N.map λe=>.tup [.int e.2.1,.int e.1])).noF=true:=by
 show D.noFs _=η
 induction N with
 | nil=>rfl
 | cons e N ih =>
  rw [so];simp [D.noFs,D.noF,ih]
def Ct{N:cu}(h:fQ N f)(hn:∀j p,f j=ψ p->j<n){e:Nat×Int×Int}(he:e∈N)(hm:∀q,q∈N.map (λe=>[e.2.1,(e.1:Int)])->lxB q [e.2.1,(e.1:Int)]=ξ):fk f n (e.2.1,e.1):=by
 refine⟨hn _ _ (h.e e he),⟨e.2.2,h.e e he⟩,λj _ p hp=>?_⟩;have:=hm _ (Mp.mpr ⟨(j,p),h.m j p hp,rfl⟩);show e.2.1<p.1\/(e.2.1=p.1/\e.1<=j)
 unfold lxB at this
 by_cases c:p.1=e.2.1
 .rw [if_pos c] at this;unfold lxB at this
  by_cases c2:(j:Int)=(e.1:Int)
  .exact .inr ⟨c.symm,by omega⟩
  .rw [if_neg c2] at this;have:¬ (j:Int)<e.1:=of_decide_eq_false this;exact .inr ⟨c.symm,by omega⟩
 .rw [if_neg c] at this;have:¬ p.1<e.2.1:=of_decide_eq_false this;exact .inl ⋯
def Cu{p:Int×Int}(h:j∉eX R):xz R j p=R++[(j,p)]:=if_neg λz=>h (ip.mp z)
def At:(xA R j).length<=R.length:=NM _ _
noncomputable def fq:FN:=λa_ Q=>cD (λd=>cL (λga=>cL (λta=>cL (λla=>cI (λm=>cN (∃(n:Nat) (c:Nat->Nat->Int) (rs:List D),Fo n c d rs/\∃g:Nat->Int,ga=de n g/\∃t:Nat->Int,ta=de n t/\∃l:Nat->Int,la=de n l/\∃s:Nat,m=s/\(n<=40/\s<n/\uf n c g t l s)/\∀R0 q x p,Jn n c g t l s=R0++[(q,x,p)]->Do n c g t l s R0 q x p->Q (.odc (ksR (R0++[(q,x,p)])) (dsR (R0++[(q,x,p)]))))))))) a_
def KL{a m:D}{ga ta la ga' ta' la':List D}{Q:List PV->Prop}{v5 v6 v7 v8 v9:Option PV}(q:Q [.dat a,.own ga',.own ta',.own la',.dat m]):
  AU [1,2,3] [.dat a,.own ga,.own ta,.own la,.dat m] Q [ψ (.dat a),ψ (.own ga'),ψ (.own ta'),ψ (.own la'),ψ (.dat m),v5,v6,v7,v8,v9]:=by
 refine⟨[.dat a,.own ga',.own ta',.own la',.dat m],⟨rfl,λi p p' e e'=>?_⟩,λi hi p' e=>?_,q⟩
 .match i,e,e' with
  | 0,e,e'=>cases e;cases e';exact⟨rfl,λ_=>rfl⟩
  | 1,e,e'=>cases e;cases e';exact⟨rfl,λz=>(by cases z)⟩
  | 2,e,e'=>cases e;cases e';exact⟨rfl,λz=>(by cases z)⟩
  | 3,e,e'=>cases e;cases e';exact⟨rfl,λz=>(by cases z)⟩
  | 4,e,e'=>cases e;cases e';exact⟨rfl,λ_=>rfl⟩
  | _+5,e,e'=>cases e
 .rw [B_,B_,u_] at hi;rcases hi with rfl|rfl|rfl <;> (cases e;rfl)
def IX(R:cu):∀d∈dsR R,FW d:=λd hd=>by
 unfold dsR kdR at hd;rw [Ms] at hd;obtain⟨e,_,rfl⟩:=Mp.mp hd;refine .tup λx hx=>?_;rw [B_,u_] at hx;rcases hx with rfl|rfl <;> exact .fl rfl
def jQ{f:Nat->Int}{v:Int}:(de n f).set i (.int v)=de n (lu f i v):=by
 refine NA λj=>?_;unfold de;rw [getElem?_set,h_,h_,cy,x_]
 by_cases hj:j<n
 .rw [Mj hj]
  by_cases c:i=j
  .subst c;rw [if_pos rfl,if_pos hj];show ψ (D.int v)=ψ (D.int (lu f i v i));rw [cF]
  .rw [if_neg c];show ψ (D.int (f j))=ψ (D.int (lu f i v j));rw [bA (λz=>c z.symm)]
 .have e:(g_ n)[j]?=none:=C_ (by rw [x_];omega);rw [e]
  by_cases c:i=j
  .rw [if_pos c,if_neg ⋯];rfl
  .rw [if_neg c];rfl
def Ft(R:cu):ksR R=(R.map λe=>(e.1:Int)).map M_:=by
 unfold ksR kdR;rw [Ms,Ms];rfl
def Au(nd:(eX R).Nodup){e:Nat×Int×Int}(h:e∈R):d9 (ksR R) (dsR R) (.inl (e.1:Int))=ψ (.tup [.int e.2.1,.int e.2.2]):=by
 unfold ksR dsR;rw [gT];unfold qq kdR;rw [find?_map]
 have:List.find? ((λp:Key×D=>decide (p.1=M_ (e.1:Int))) ∘ λe=>((M_ (e.1:Int):Key),IU e)) R=ψ e:=by
  have h2:=jM (q:=e.1) (d:=e.2.1) (p:=e.2.2) nd h;rw [<- h2];congr 1;funext x;show decide ((M_ (x.1:Int):Key)=M_ (e.1:Int))=(x.1 == e.1)
  rw [Ox,decide_eq_true_eq,beq_iff_eq];exact⟨λz=>by injection z;omega,λz=>by rw [z]⟩
 rw [this];rfl
def Fu(R0:cu)(e:Nat×Int×Int):atI (((R0++[e]).map λe=>(e.1:Int)).map D.int) (-1)=ψ (.int (e.1:Int)):=by
 rw [D_,D_];unfold atI;simp [ixN];have e2:(-1+((R0.length:Int)+1)).toNat=R0.length:=by omega
 rw [if_pos ⋯,e2,Option.bind_some,Nt (by rw [cy];exact f_ _),cy,sub_self];rfl
def Av{s m:Nat}{L:Nat->Int}{k:Int}(h:0<=k):i6 R s (m+1) L k=i6 R s m (lu L k.toNat (if 0<=prv R k.toNat then L (prv R k.toNat).toNat else s)) (prv R k.toNat):=by
 rw [i6,if_neg ⋯]
def Cv{s m:Nat}{L:Nat->Int}{k:Int}(h:k<0):i6 R s m L k=L:=by
 cases m with
 | zero=>rfl
 | succ m=>unfold i6;rw [if_pos h]
noncomputable def cX:FMs
 | [.dat d,.own ga,.own ta,.own la,.dat (.int m)],Q=>∃(n:Nat) (c:Nat->Nat->Int) (rs:List D),Fo n c d rs/\∃g:Nat->Int,ga=de n g/\∃t:Nat->Int,ta=de n t/\∃l:Nat->Int,la=de n l/\∃s:Nat,m=s/\(n<=40/\s<n/\uf n c g t l s)/\Q [.dat d,.own (de n (mx n c s (g,t,l)).1),.own (de n (mx n c s (g,t,l)).2.1),.own (de n (mx n c s (g,t,l)).2.2),.dat (.int m)]
 | _,_=>False
noncomputable def bpJ(n:Nat)(c:Nat->Nat->Int):Δ:=(g_ n).map (bpF n c)
noncomputable def bpG(n:Nat)(c:Nat->Nat->Int):Λ:=(g_ n).map (bpN n c n).1
noncomputable def bpT(n:Nat)(c:Nat->Nat->Int):Λ:=(g_ n).map (bpN n c n).2.1
noncomputable def bpP(n:Nat)(c:Nat->Nat->Int):D:=.tup [.tup ((bpJ n c).map nD),.tup ((bpG n c).map .int),.tup ((bpT n c).map .int)]
def lw(n:Nat)(f:Nat->Int):de n f=((g_ n).map f).map .int:=by unfold de;rw [Ms];rfl
def Fv(n:Nat)(c:Nat->Nat->Int):Fo n c (.tup (sh n c)) (sh n c):=⟨.inr rfl,by rw [cy,x_],λi hi=>.inr (wn hi)⟩
noncomputable def eQ:FN:=λa_ Q=>cT (λrs=>cN (∃(n:Nat) (c:Nat->Nat->Int),rs=sh n c/\(n<=40/\∀i j,i<n->j<n->0<=c i j/\c i j<=1000000)/\Q (.dat (bpP n c)))) a_
noncomputable def Aw(ws:Γ)(i j:Nat):Int:=(eG (pw ws i) (pw ws j):Int)
noncomputable def Jp(ws:Γ):Δ:=bpJ ws.length (Aw ws)
noncomputable def fA(ws:Γ)(k:Nat):Nat:=(Jp ws).getD k 0
def uq(ws:Γ):∀i j,i<ws.length->j<ws.length->0<=Aw ws i j:=λ_ _ _ _=>O8 _
def Cw(ws:Γ):(Jp ws).length=ws.length:=by unfold Jp bpJ;rw [cy,x_]
variable {ws:Γ}
def ur{k:Nat}(h:k<ws.length):fA ws k=bpF ws.length (Aw ws) k:=by
 unfold fA Jp bpJ;rw [e_,h_,Mj h];rfl
def si(ws:Γ):((g_ ws.length).map (fA ws)).Perm (g_ ws.length):=by
 rw [show (g_ ws.length).map (fA ws)=(g_ ws.length).map (bpF ws.length (Aw ws)) from NL λi hi=>ur (L_.mp hi)];exact (uh (uq ws)).2
def xC(ws:Γ):jN (fA ws) ws.length:=by
 refine⟨λi hi=>by rw [ur hi];exact ((uh (uq ws)).1 i hi).1,λi j hi hj h=>?_⟩;have nd:=(si ws).symm.nodup QV
 have e:((g_ ws.length).map (fA ws))[i]?=((g_ ws.length).map (fA ws))[j]?:=by
  rw [h_,h_,Mj hi,Mj hj];show ψ (fA ws i)=ψ (fA ws j);rw [h]
 exact (getElem?_inj (by rw [cy,x_];exact hi) nd).mp e
noncomputable def rgW(ws:Γ):Γ:=rgs (fA ws) ws.length
noncomputable def hW(ws:Γ)(x:Nat):Nat:=eG (pw ws x) (pw ws (fA ws x))
noncomputable def joi(ws:Γ)(l:Δ):Λ:=l.map λx=>(hW ws x:Int)
noncomputable def wgt(ws:Γ)(l:Δ):Int:=(l.map λx=>((pw ws x).length:Int) - hW ws x).sum
noncomputable def mnI:Λ->Int
 | []=>0
 | a::l=>l.foldl min a
theorem qx:∀(l:Λ) (a:Int),(∀x∈a::l,l.foldl min a<=x)/\l.foldl min a∈a::l
 | [],a=>⟨λx hx=>by rw [u_.mp hx];exact Nk _,u_.mpr rfl⟩
 | y::l,a=>by
  obtain⟨h1,h2⟩:=qx l (min a y);rw [Qt];have hm:=h1 _ q_
  refine⟨λx hx=>?_,?_⟩
  .rcases B_.mp hx with rfl|hx
   .omega
   .rcases B_.mp hx with rfl|hx
    .omega
    .exact h1 x (n_ _ hx)
  .rcases B_.mp h2 with e|h2
   .rw [e]
    rcases le_total a y with c|c
    .rw [Int.min_eq_left c];exact q_
    .rw [Int.min_eq_right c];exact n_ _ q_
   .exact n_ _ (n_ _ h2)
def Fw{l:Λ}(h:l≠[]):mnI l∈l:=by
 cases l with
 | nil=>exact absurd rfl h
 | cons a l=>exact (qx l a).2
def DB{l:Λ}{m:Int}(h1:m∈l)(h2:∀a∈l,m<=a):m=mnI l:=by
 cases l with
 | nil=>cases h1
 | cons a l=>exact Int.le_antisymm (h2 _ (qx l a).2) ((qx l a).1 _ h1)
noncomputable def opn(ws:Γ)(l:Δ):Δ:=l.drop ((joi ws l).idxOf (mnI (joi ws l))+1)++l.take ((joi ws l).idxOf (mnI (joi ws l))+1)
def Cy(ws:Γ)(l:Δ):(opn ws l).Perm l:=by
 unfold opn;exact Qg.trans (by rw [NN])
theorem ut(ws:Γ):∀L:Γ,(L.map (opn ws)).flatten.Perm L.flatten
 | []=>List.Perm.refl _
 | l::L=>by rw [so,MM,MM];exact (Cy ws l).append (ut ws L)
noncomputable def kq:FN:=λa_ Q=>cT (λds=>cI (λm=>cN (∃l:Δ,ds=l.map nD/\(0<l.length/\l.length<=40/\l.Nodup/\m<=1000/\∀x∈l,(x:Int)<m)/\Q (.dat (.bl η))))) a_
noncomputable def gp:FN:=λa_ Q=>cO (λc ns fs=>cT (λds=>cN (c="Family"/\ns=nQ/\∃ps:Γ,fs=nR ps/\∃l:Δ,ds=l.map nD/\((am ps).length<=40/\0<l.length/\l.length<=40/\l.Nodup/\∀x∈l,x<(am ps).length)/\Q (.dat .non)))) a_
noncomputable def FZ(js:Δ):List (Nat×Nat):=js.zip (js.tail++js.take 1)
def wo(js:Δ):(FZ js).length=js.length:=by
 unfold FZ;rw [Qz,kx,P5,MG];omega
variable {js:Δ}
def Cz{k:Nat}(h:k<js.length):(FZ js)[k]?=ψ (js.getD k 0,js.getD ((k+1) % js.length) 0):=by
 unfold FZ;rw [getElem?_zip_eq_some];refine⟨by rw [e_,cx h];rfl,?_⟩
 by_cases z:k+1<js.length
 .rw [N5 (by rw [P5];omega),getElem?_tail,mod_eq_of_lt z,cx z];show ψ js[k+1]=ψ (js.getD (k+1) 0);rw [e_,cx z];rfl
 .have e:k+1=js.length:=by omega
  rw [Nt (by rw [P5];omega),P5,show k - (js.length - 1)=0 by omega,e,mod_self,getElem?_take,if_pos ⋯,cx (show 0<js.length by omega)];show ψ js[0]=ψ (js.getD 0 0);rw [e_,cx (show 0<js.length by omega)];rfl
noncomputable def dL:FN:=λa_ Q=>cD (λd=>cN (∃js:Δ,qI d (js.map nD)/\js.length<=60/\Q (.own ((FZ js).map λp=>.tup [nD p.1,nD p.2])))) a_
def jR{L:Δ}(h:i<L.length):atI (L.map nD) (i:Int)=ψ (.int ((L.getD i 0:Nat):Int)):=by
 refine gA (j:=i) ?_ rfl;rw [h_,cx h,e_,cx h];rfl
def CA(f:Nat->Nat)(i m:Nat):atI ((iB f i (m+1)).map nD) (-1)=ψ (.int ((itf f i m:Nat):Int)):=by
 unfold atI
 have:ixN ((iB f i (m+1)).map nD).length (-1)=ψ m:=by
  unfold ixN;rw [cy,fe,if_neg ⋯,if_pos ⋯];congr 1;omega
 rw [this];show ((iB f i (m+1)).map nD)[m]?=_;rw [h_,ql (Mu m)];rfl
noncomputable def fg:FN:=λa_ Q=>cT (λds=>cI (λz=>cN (∃js:Δ,ds=js.map nD/\∃i:Nat,z=(i:Int)/\(js.length<=40/\jN (λk=>js.getD k 0) js.length/\i<js.length)/\Q (.dat (.tup ((orb (λk=>js.getD k 0) js.length i).map nD)))))) a_
abbrev KM(ws:Γ)(w:Δ):D:=.tup (ws.map λv=>.int (eG w v:Int))
def Ax(ws:Γ):ws.map (KM ws)=sh ws.length (Aw ws):=by
 refine ext_getElem (by rw [cy,cy,x_]) λi a b=>?_;rw [cy] at a;rw [ON,ON,P8];show D.tup _=D.tup _;congr 1;unfold de;refine ext_getElem (by rw [cy,cy,x_]) λj c d=>?_;rw [cy] at c;rw [ON,ON,P8];unfold Aw;rw [show pw ws i=ws[i] from w_ ((fb a).symm.trans (cx a)),show pw ws j=ws[j] from w_ ((fb c).symm.trans (cx c))]
def Fx(hn:ws.length<=40)(h:∀w∈ws,0<w.length/\w.length<=10000):ws.length<=40/\∀i j,i<ws.length->j<ws.length->0<=Aw ws i j/\Aw ws i j<=1000000 :=
 ⟨hn,λi j hi hj=>⟨O8 _,by
  have a:=h _ (dY hi);have b:=h _ (dY hj);have:=(mf a.1 b.1).1;unfold Aw;omega⟩⟩
noncomputable def eT:FN:=λa_ Q=>cO (λc ns fs=>cN (c="Family"/\ns=nQ/\∃ps:Γ,fs=nR ps/\((am ps).length<=40/\∀w∈am ps,0<w.length/\w.length<=10000)/\Q (.dat (.tup ((rgW (am ps)).map λl=>D.tup (l.map nD)))))) a_
def Fy(h:i<ws.length):atI (ws.map (KM ws)) (i:Int)=ψ (KM ws (pw ws i)) :=
 gA (j:=i) (by rw [h_,fb h];rfl) rfl
def uu{w:Δ}(h:i<ws.length):atI (ws.map λv=>D.int (eG w v:Int)) (i:Int)=ψ (.int (eG w (pw ws i):Int)) :=
 gA (j:=i) (by rw [h_,fb h];rfl) rfl
variable {l:Δ}
def Ay(h:l∈rgW ws):∃i,i<ws.length/\l=orb (fA ws) ws.length i:=by
 obtain⟨i,hi,e⟩:=Mp.mp h;exact⟨i,L_.mp (Mq.mp hi).1,e.symm⟩
def CB(h:l∈rgW ws):0<l.length/\l.length<=ws.length/\l.Nodup/\∀x∈l,x<ws.length:=by
 obtain⟨i,hi,rfl⟩:=Ay h;obtain⟨p1,p2,_,_⟩:=mB (xC ws) hi;exact⟨by unfold orb;rw [fe];exact p1,by unfold orb;rw [fe];exact p2,rV (xC ws) hi,λx hx=>rW (xC ws) hi hx⟩
def uv(h:l∈rgW ws){k:Nat}(hk:k<l.length):l.getD ((k+1) % l.length) 0=fA ws (l.getD k 0):=by
 obtain⟨i,hi,rfl⟩:=Ay h;obtain⟨p1,_,p3,_⟩:=mB (xC ws) hi;unfold orb at hk ⊢;generalize per (fA ws) ws.length i=p at p1 p3 hk ⊢;rw [fe] at hk ⊢;have g:∀{j:Nat},j<p->(iB (fA ws) i p).getD j 0=itf (fA ws) i j:=λ{j} hj=>by rw [e_,ql hj];rfl
 rw [g hk]
 by_cases z:k+1<p
 .rw [mod_eq_of_lt z,g z];rfl
 .have e:k+1=p:=by omega
  rw [e,mod_self,g p1];show i=itf (fA ws) i (k+1);rw [e,p3]
def CC(h:l∈rgW ws):FZ l=l.map λx=>(x,fA ws x):=by
 refine NA λk=>?_
 by_cases hk:k<l.length
 .rw [Cz hk,uv h hk,h_,cx hk,e_,cx hk];rfl
 .rw [C_ (by rw [wo];omega),C_ (by rw [cy];omega)]
def Az(ws:Γ)(l:Δ):(joi ws l).length=l.length:=cy _
noncomputable def hC:FN:=λa_ Q=>cO (λc ns fs=>cT (λds=>cN (c="Family"/\ns=nQ/\∃ps:Γ,fs=nR ps/\∃l:Δ,ds=l.map nD/\((am ps).length<=40/\(∀w∈am ps,0<w.length/\w.length<=10000)/\l∈rgW (am ps))/\Q (.dat (.tup ((opn (am ps) l).map nD)))))) a_
noncomputable def gq:FN:=λa_ Q=>cO (λc ns fs=>cN (c="Family"/\ns=nQ/\∃ps:Γ,fs=nR ps/\((am ps).length<=40/\∀w∈am ps,0<w.length/\w.length<=10000)/\Q (.dat (.tup (((rgW (am ps)).map (opn (am ps))).flatten.map nD))))) a_
noncomputable def sj:FN:=λa_ Q=>cS (λa=>cS (λb=>cN ((0<a.length/\a.length<=10000)/\(0<b.length/\b.length<=10000)/\Q (.dat (.int (eG a b:Int)))))) a_
noncomputable def gu:FN:=λa_ Q=>cT (λds=>cN (∃ws:Γ,ds=ws.map .str/\(ws.length<=1000/\∀w∈ws,0<w.length/\w.length<=10000)/\Q (.dat (HZ ws)))) a_
noncomputable def dy:FN:=λa_ Q=>cD (λd=>cN (∃ws:Γ,qI d (ws.map .str)/\(ws.length<=40/\Pcs 60 ws)/\Q (.dat .non))) a_
noncomputable def bR:FN:=λa_ Q=>cS (λa=>cS (λb=>cN (Q (.dat (.bl (gI a b)))))) a_
noncomputable def fR:FN:=λa_ Q=>cT (λds=>cI (λi=>cN (∃ws:Γ,ds=ws.map .str/\(ws.length<=1000/\∀w∈ws,w.length<=10000)/\(0<=i/\i<(ws.length:Int))/\Q (.dat (.bl (eE ws i.toNat)))))) a_
noncomputable def eU:FN:=λa_ Q=>cT (λds=>cT (λks=>cI (λi=>cN (∃ws:Γ,ds=ws.map .str/\ks=(br ws).map nD/\(ws.length<=1000/\∀w∈ws,w.length<=60)/\(0<=i/\i<(ws.length:Int))/\Q (.dat (i5 ws i.toNat)))))) a_
def IY{d:D}{xs:List D}{Q:PV->Prop}(h:qI d xs)(q:Q (.dat (.tup xs))):l5 [d] Q:=by
 rcases h with rfl|rfl <;> exact q
noncomputable def cw:FR:=λp a_ Q=>oI "Family" (cD (λd=>cN (∃ws:Γ,qI d (ws.map .str)/\(ws.length<=40/\Pcs 60 ws)/\Q (.dat .non) (.ins "Family" nQ (nR ws)))) a_) p
noncomputable def bV:FN:=λa_ Q=>cO (λc ns fs=>cN (c="Family"/\ns=nQ/\∃ws:Γ,fs=nR ws/\Q (.dat (.int ((am ws).length:Int))))) a_
noncomputable def Dk(zs:Λ):Prop:=∀x∈zs,0<=x/\x<1000000000000000000
noncomputable def ji:FN:=λa_ Q=>cR (λns=>cI (λmo=>cN ((ns.length<=64/\0<=mo/\mo<=2000)/\∀zs:Λ,Dk zs->zs.length=mo.toNat->Q (.own (zs.map .int))))) a_
noncomputable def aO:FR:=λp a_ Q=>oL (λds=>cN (∃zs:Λ,ds=zs.map .int/\(Dk zs/\0<zs.length/\zs.length<=100000)/\∀(z:Int) (ys:Λ),0<=z->z<1000000000000000000->Dk ys->ys.length+1=zs.length->Q (.dat (.int z)) (.own (ys.map .int))) a_) p
def AA{a b:Δ}(ha:n<=a.length)(hb:n<=b.length):b.take n <:+ a ↔ ∀j,j<n->a.getD (a.length - n+j) 0=b.getD j 0:=by
 rw [PQ,MG,show min n b.length=n by omega]
 constructor
 .intro h j hj;have e:=congrArg (λl=>l[j]?) h;simp only [Pr hj,getElem?_drop] at e;rw [e_,e_,<- e]
 .intro h;refine NA λj=>?_
  by_cases hj:j<n
  .rw [Pr hj,getElem?_drop];have:=h j hj;rw [e_,e_,cx (show a.length - n+j<a.length by omega),cx (show j<b.length by omega)] at this;rw [cx (show a.length - n+j<a.length by omega),cx (show j<b.length by omega)];exact congrArg ψ this.symm
  .rw [C_ (by rw [MG];omega),C_ (by rw [MQ];omega)]
noncomputable def jj:FN:=λa_ Q=>cS (λa=>cS (λb=>cI (λk=>cN (∃n:Nat,k=n/\((n<=a.length/\a.length<=10000)/\n<=b.length/\b.length<=10000)/\Q (.dat (.bl (decide (b.take n <:+ a)))))))) a_
noncomputable def dF:FN:=λa_ Q=>cS (λa=>cS (λb=>cN ((0<a.length/\a.length<=10000)/\(0<b.length/\b.length<=10000)/\Q (.dat (.int (eG a b:Int)))))) a_
variable {ps:Γ}
def Fz{k:Nat}:eE ps k=(decide ((ps.filter λo=>decide ((pw ps k).length<o.length) && gI (pw ps k) o)=[]) && !decide (pw ps k∈ps.take k)):=by
 unfold eE;rw [Bool.and_comm];congr 1
 cases hf:(ps.filter λo=>decide ((pw ps k).length<o.length) && gI (pw ps k) o) with
 | nil =>
  rw [decide_eq_true rfl,P4,Qn];intro o ho z;obtain⟨m1,m2⟩:=Mq.mp ho;have:o∈ps.filter λo=>decide ((pw ps k).length<o.length) && gI (pw ps k) o:=Mq.mpr ⟨m1,by rw [m2];exact z⟩;rw [hf] at this;cases this
 | cons o r =>
  rw [decide_eq_false (λz=>nomatch z)];have:o∈ps.filter λo=>decide ((pw ps k).length<o.length) && gI (pw ps k) o:=by rw [hf];exact q_ ..
  obtain⟨m1,m2⟩:=Mq.mp this;rw [Mg] at m2;rw [Bool.not_eq_false',any_eq_true];exact⟨o,Mq.mpr ⟨m1,m2.1⟩,m2.2⟩
def uw(h:∀w∈ws,Lts w):xU (.lst (ws.map .str)) (.lst []):=xU.of (Sh.lstS h) (Sh.lstI [])
def sm(ws:Γ):deq (.lst (ws.map .str)) (.lst [])=decide (ws=[]):=by
 show N7 (.list (D.pys (ws.map .str))) (.list [])=_;rw [tZ];cases ws <;> simp [N7,Os]
noncomputable def jk:FN:=λa_ Q=>cL (λds=>cN (∃ps:Γ,ds=ps.map .str/\(ps.length<=40/\∀w∈ps,w.length<=60/\Lts w)/\Q (.dat (.lst ((am ps).map .str))))) a_
def FA{l k:Nat}{z:Int}(hk:k<=9)(h5:l<=5)(h:1000000<=z)(hz:z<(l:Int)^k):k=9:=by
 refine MN λn=>?_;have h1:l^k<=5^k:=QG h5 k;have h2:5^k<=5^8:=Qh (by decide) ⋯;have h3:(l:Int)^k=((l^k:Nat):Int):=(natCast_pow l k).symm;have h4:(5:Nat)^8=390625:=by decide
 rw [h3] at hz;omega
noncomputable def cA:FN:=λa_ Q=>cI (λz=>cS (λls=>cN ((0<=z/\0<ls.length/\ls.length<=26)/\∀w:Δ,w.length<=9->(∀c∈w,c∈ls)->(0<z->0<w.length)->(ls.length<=5->1000000<=z->w.length=9)->Q (.dat (.str w))))) a_
def xD(z:Int):∃ls:Δ,atI [D.str [97,98],D.str [97,98],D.str [97,98,99],D.str [120,121,122,97,98]] (z % 4)=ψ (.str ls)/\0<ls.length/\ls.length<=26/\Lts ls:=by
 have h:z % 4=0\/z % 4=1\/z % 4=2\/z % 4=3:=by omega
 rcases h with h|h|h|h <;> rw [h]
 .exact⟨[97,98],rfl,by decide,by decide,j4.mp (by decide)⟩
 .exact⟨[97,98],rfl,by decide,by decide,j4.mp (by decide)⟩
 .exact⟨[97,98,99],rfl,by decide,by decide,j4.mp (by decide)⟩
 .exact⟨[120,121,122,97,98],rfl,by decide,by decide,j4.mp (by decide)⟩
def ir{w ls:Δ}(h:∀c∈w,c∈ls)(l:Lts ls):Lts w:=λc hc=>l c (h c hc)
def CD{p:Δ}(hL:Lts p)(hl:p.length<=60):Pc 60 (dO (p++[97]) ω (ψ (if (p.length:Int) > 1 then (p.length:Int) else 1))):=by
 obtain⟨n,hn,hn2⟩:∃n:Nat,(if (p.length:Int) > 1 then (p.length:Int) else 1)=(n:Int)/\n=max 1 p.length:=by
  refine⟨max 1 p.length,?_,rfl⟩;split <;> omega
 rw [hn,gL];have hlen:((p++[97]).take n).length=n:=by rw [MG,kx];show min n (p.length+1)=n;omega
 refine⟨by rw [hlen];omega,by rw [hlen];omega,Lts.take (hL.app (Lts.one ⟨by decide,by decide⟩)) n⟩
noncomputable def hJ:FR:=λp a_ Q=>oL (λds=>cI (λm=>cN (∃zs:Λ,ds=zs.map .int/\(Dk zs/\4+m<=(zs.length:Int)/\zs.length<=10000/\1<=m/\m<=40)/\∀(ps:Γ) (ys:Λ),0<ps.length->(ps.length:Int)<=m->Pcs 60 ps->Dk ys->(zs.length:Int)<=ys.length+4+m->ys.length<=zs.length->Q (.dat (.lst (ps.map .str))) (.own (ys.map .int)))) a_) p
noncomputable def glL(ws:Γ)(js:Δ):Nat->Int
 | 0=>0
 | k+1=>glL ws js k+(pw ws (js.getD k 0)).length - (if k=0 then 0 else (eG (pw ws (js.getD (k - 1) 0)) (pw ws (js.getD k 0)):Int))
def AB{a b:Δ}(ha:0<a.length)(hb:0<b.length):eG a b<b.length:=by
 have:=(mf ha hb).1;omega
noncomputable def xE(ws:Γ):Prop:=ws.length<=40/\∀w∈ws,0<w.length/\w.length<=60
def xE.at(h:xE ws)(hi:i<ws.length):0<(pw ws i).length/\(pw ws i).length<=60:=h.2 _ (dY hi)
noncomputable def eV:FN:=λa_ Q=>cL (λds=>cD (λd=>cN (∃ws:Γ,ds=ws.map .str/\∃js:Δ,qI d (js.map nD)/\(xE ws/\js.length<=40/\∀i,i<js.length->js.getD i 0<ws.length)/\∀t:Δ,(t.length:Int)=glL ws js js.length->t.length<=3000->Q (.dat (.str t))))) a_
def AC(js:Δ):js.map nD=(js.map λj=>((j:Nat):Int)).map D.int:=by rw [Ms];rfl
def AD(rs:Δ):xU (.lst (rs.map nD)) (.lst []):=by rw [AC];exact xU.of (Sh.lstI _) (Sh.lstI [])
def FB(rs:Δ):deq (.lst (rs.map nD)) (.lst [])=decide (rs=[]):=by
 rw [AC,show (D.lst [])=D.lst (([]:Λ).map D.int) from rfl,vM];exact decide_eq_decide.mpr ⟨λz=>by simpa using z,λz=>by rw [z];rfl⟩
noncomputable def hX:FR:=λp a_ Q=>oL (λds=>cI (λm=>cN (∃zs:Λ,ds=zs.map .int/\(Dk zs/\m.toNat<=zs.length/\zs.length<=10000/\0<=m/\m<=40)/\∀(js:Δ) (ys:Λ),js.Perm (g_ m.toNat)->Dk ys->ys.length+m.toNat=zs.length->Q (.dat (.lst (js.map nD))) (.own (ys.map .int)))) a_) p
noncomputable def dM:FR:=λp a_ Q=>oL (λds=>cL (λes=>cN (∃zs:Λ,ds=zs.map .int/\∃ws:Γ,es=ws.map .str/\(xE ws/\Dk zs/\2*ws.length+3<=zs.length/\zs.length<=10000)/\∀(js t:Δ) (ys:Λ),js.Perm (g_ ws.length)->glL ws js ws.length<=t.length->t.length<=4000->Dk ys->zs.length<=ys.length+2*ws.length+3->ys.length<=zs.length->Q (.dat (.str t)) (.own (ys.map .int)))) a_) p
noncomputable def fh:FN:=λa_ Q=>cI (λz=>cN (Q (.dat (.bl η)))) a_
structure xV (n k:Nat) (o:Δ):Prop where
 len:o.length=k
 nd:o.Nodup
 lt:∀x∈o,x<n
def xV.perm{o:Δ}(h:xV n n o):o.Perm (g_ n) :=
 (qj h.nd (λx hx=>L_.mpr (h.lt x hx)) (by rw [h.len,x_])).symm
def xV.add{k:Nat}{o:Δ}(h:xV n k o)(hi:i<n)(hn:i∉o):xV n (k+1) (o++[i]):=by
 refine⟨by rw [kx,h.len];rfl,O7.mpr ⟨h.nd,by simp,λa ha b hb z=>?_⟩,λx hx=>?_⟩
 .rw [u_] at hb;subst hb;subst z;exact hn ha
 .rcases Mv.mp hx with z|z
  .exact h.lt x z
  .rw [u_.mp z];exact hi
def xV.last{k:Nat}{o:Δ}(h:xV n (k+1) o):∃(y:Δ) (x:Nat),o=y++[x]/\xV n k y/\x<n/\x∉y:=by
 have ne:o≠[]:=λz=>by have:=h.len;rw [z] at this;cases this
 have e:=dropLast_concat_getLast ne;have nd:=h.nd;rw [<- e] at nd;obtain⟨n1,_,n3⟩:=O7.mp nd;exact⟨o.dropLast,o.getLast ne,e.symm,⟨by rw [length_dropLast,h.len];rfl,n1,λx hx=>h.lt x ((dropLast_sublist o).subset hx)⟩,h.lt _ (getLast_mem ne),λz=>n3 _ z _ (u_.mpr rfl) rfl⟩
noncomputable def kr:FN:=λa_ Q=>cI (λm=>cN (∃n:Nat,m=n/\n<=5/\∀L:Γ,(∀o,o∈L ↔ xV n n o)->L.length<=3125->Q (.dat (.lst (L.map λo=>.lst (o.map nD)))))) a_
abbrev Jq(ws:Γ)(w:Δ):D:=.lst (ws.map λv=>.int (eG w v:Int))
abbrev mP(ws:Γ):List D:=ws.map (Jq ws)
def wp(h:i<ws.length):atI (mP ws) (i:Int)=ψ (Jq ws (pw ws i)) :=
 gA (j:=i) (by rw [h_,fb h];rfl) rfl
noncomputable def ee:FN:=λa_ Q=>cL (λds=>cL (λes=>cD (λd=>cN (∃ws:Γ,ds=ws.map .str/\es=mP ws/\∃l:Δ,d=.tup (l.map nD)/\(ws.length<=40/\(∀w∈ws,0<w.length/\w.length<=60)/\l∈rgW ws)/\Q (.dat (.int (wgt ws l))))))) a_
noncomputable def fi:FN:=λa_ Q=>cL (λes=>cD (λd=>cN (∃ws:Γ,es=mP ws/\∃l:Δ,d=.tup (l.map nD)/\(ws.length<=40/\l∈rgW ws)/\Q (.own ((joi ws l).map .int))))) a_
def gv{as bs:Λ}(h:as.Perm bs):as.sum=bs.sum:=by
 induction h with
 | nil=>rfl
 | cons x _ ih=>rw [MW,MW,ih]
 | swap x y l=>rw [MW,MW,MW,MW];omega
 | trans _ _ i1 i2=>rw [i1,i2]
theorem ly(f:Nat->Nat):∀l:Δ,(((l.map f).sum:Nat):Int)=(l.map λi=>((f i:Nat):Int)).sum
 | []=>rfl
 | a::l=>by rw [so,so,MW,MW,<- ly f l,natCast_add]
theorem uz(f g:Nat->Int):∀l:Δ,(l.map λi=>f i - g i).sum=(l.map f).sum - (l.map g).sum
 | []=>rfl
 | a::l=>by
  have:=uz f g l;rw [so,so,so,MW,MW,MW,this];omega
theorem qy(g:Nat->Int):∀L:Γ,(L.flatten.map g).sum=(L.map λl=>(l.map g).sum).sum
 | []=>rfl
 | l::L=>by rw [MM,D_,Qx,so,MW,qy g L]
noncomputable def AE(ws:Γ):Int:=((g_ ws.length).map λx=>((pw ws x).length:Int) - hW ws x).sum
def FC(ws:Γ):((rgW ws).map (wgt ws)).sum=AE ws:=by
 unfold AE;rw [<- gv ((lv (xC ws)).map λx=>((pw ws x).length:Int) - hW ws x),qy];rfl
theorem DC{G T:Nat->Int}(hG:∀i,i<ws.length->0<=G i/\0<=T i)(hL:∀a b,a<ws.length->b<ws.length->(eG (pw ws a) (pw ws b):Int)<=G a+T b):
  ∀(r:Δ) (p:Nat),(∀x∈p::r,x<ws.length)->(qJ ws p r:Int)<=G p+(r.map λx=>G x+T x).sum
 | [],p,hm=>by
  have:=(hG p (hm p q_)).1;show ((0:Nat):Int)<=_+0;omega
 | q::r,p,hm=>by
  have hp:=hm p q_;have hq:=hm q (n_ _ q_);have ih:=DC hG hL r q λx hx=>hm x (n_ _ hx);have l:=hL p q hp hq;show ((eG (pw ws p) (pw ws q)+qJ ws q r:Nat):Int)<=G p+(G q+T q+(r.map λx=>G x+T x).sum)
  omega
def FD(ws:Γ):∃G T:Nat->Int,(∀i,i<ws.length->(0<=G i/\0<=T i)/\(hW ws i:Int)=G i+T (fA ws i))/\∀a b,a<ws.length->b<ws.length->(eG (pw ws a) (pw ws b):Int)<=G a+T b:=by
 obtain⟨h,_⟩:=uh (uq ws);refine⟨_,_,λi hi=>?_,λa b ha hb=>(h a ha).2.2.2.2 b hb⟩;obtain⟨h1,h2,h3,h4,_⟩:=h i hi;rw [<- ur hi] at h4;exact⟨⟨h2,h3⟩,h4.symm⟩
def FE(hw:∀w∈ws,0<w.length)(hp:js.Perm (g_ ws.length)):AE ws<=((glN ws js).length:Int):=by
 obtain⟨G,T,h1,h2⟩:=FD ws;have lt:∀j∈js,j<ws.length:=λj h=>L_.mp (hp.mem_iff.mp h);have e1:=zI λj hj=>hw _ (dY (lt j hj));have e2:=ly (λj=>(pw ws j).length) js;have e3:=gv (hp.map λx=>((pw ws x).length:Int))
 have e4:(vR ws js:Int)<=(js.map λx=>G x+T x).sum:=by
  cases js with
  | nil=>exact Nk _
  | cons p r =>
   have a:=DC (λi hi=>(h1 i hi).1) h2 r p lt;have b:=(h1 p (lt p q_)).1;show _<=G p+T p+(r.map λx=>G x+T x).sum;have:vR ws (p::r)=qJ ws p r:=rfl;omega
 have e5:=gv (hp.map λx=>G x+T x)
 have e6:((g_ ws.length).map λx=>(hW ws x:Int)).sum=((g_ ws.length).map λx=>G x+T x).sum:=by
  have a:(g_ ws.length).map (λx=>(hW ws x:Int))=(g_ ws.length).map λx=>G x+T (fA ws x):=NL λi hi=>(h1 i (L_.mp hi)).2;have b:=gv ((si ws).map T);rw [Ms] at b
  have s:∀(u v:Nat->Int) (l:Δ),(l.map λx=>u x+v x).sum=(l.map u).sum+(l.map v).sum:=λu v l=>by
   induction l with
   | nil=>rfl
   | cons y l ih=>rw [so,so,so,MW,MW,MW,ih];omega
  rw [a,s,s,<- b];rfl
 unfold AE;rw [uz];omega
def FF(h:l∈rgW ws):(vR ws (opn ws l):Int)=(joi ws l).sum - mnI (joi ws l):=by
 obtain⟨i,hi,rfl⟩:=Ay h;obtain⟨p1,_,p3,_⟩:=mB (xC ws) hi;unfold orb;generalize per (fA ws) ws.length i=p at p1 p3 ⊢;have jl:(joi ws (iB (fA ws) i p)).length=p:=by unfold joi;rw [cy,fe]
 have jn:joi ws (iB (fA ws) i p)≠[]:=λz=>by rw [z] at jl;simp at jl;omega
 have hc:=idxOf_lt_length_of_mem (Fw jn);have hg:=getElem_idxOf hc;unfold opn;generalize (joi ws (iB (fA ws) i p)).idxOf (mnI (joi ws (iB (fA ws) i p)))=c at hc hg ⊢;rw [jl] at hc;rw [vY p3 ⋯]
 have hm:mnI (joi ws (iB (fA ws) i p))=(hW ws (itf (fA ws) i c):Int):=by
  rw [<- hg];have e:(joi ws (iB (fA ws) i p))[c]?=ψ (hW ws (itf (fA ws) i c):Int):=by unfold joi;rw [h_,ql hc];rfl
  exact w_ ((cx (by rw [jl];exact hc)).symm.trans e)
 rw [hm];obtain⟨k,rfl⟩:∃k,p=k+1:=⟨p - 1,by omega⟩
 rw [wf,ly]
 have lastE:itf (fA ws) (itf (fA ws) i (c+1)) k=itf (fA ws) i c:=by
  rw [<- f7,show c+1+k=(k+1)+c by omega,f7,p3]
 have tot:(joi ws (iB (fA ws) i (k+1))).sum=(joi ws (iB (fA ws) (itf (fA ws) i (c+1)) (k+1))).sum:=by
  rw [<- vY p3 (show c+1<=k+1 by omega)];refine gv (List.Perm.map _ ?_);exact (Qg.trans (by rw [NN])).symm
 rw [tot,dN];unfold joi;rw [D_,Qx,lastE];simp only [so,P2,MW,sum_nil];show _=_+((hW ws (itf (fA ws) i c):Int)+0) - _;have:∀y,eG (pw ws y) (pw ws (fA ws y))=hW ws y:=λ_=>rfl;simp only [this];omega
def wq(ws:Γ):((rgW ws).map (opn ws)).flatten.Perm (g_ ws.length):=(ut ws _).trans (lv (xC ws))
def IZ(hw:∀w∈ws,0<w.length):((glN ws ((rgW ws).map (opn ws)).flatten).length:Int)<=AE ws+((rgW ws).map λl=>mnI (joi ws l)).sum:=by
 have hp:=wq ws;have lt:∀j∈((rgW ws).map (opn ws)).flatten,j<ws.length:=λj h=>L_.mp (hp.mem_iff.mp h);have e1:=zI λj hj=>hw _ (dY (lt j hj));have e2:=ly (λj=>(pw ws j).length) ((rgW ws).map (opn ws)).flatten;have e3:=gv (hp.map λx=>((pw ws x).length:Int))
 have e4:∀L:Γ,(∀l∈L,l∈rgW ws)->(L.map λl=>(joi ws l).sum).sum - (L.map λl=>mnI (joi ws l)).sum<=(vR ws (L.map (opn ws)).flatten:Int):=λL=>by
  induction L with
  | nil=>intro _;exact Nk _
  | cons l L ih =>
   intro h;have a:=ih λx hx=>h x (n_ _ hx);have b:=FF (h l q_);have c:=wd ws (opn ws l) (L.map (opn ws)).flatten;rw [so,so,so,MW,MW,MM];omega
 have e5:=e4 _ λ_ h=>h
 have e6:((rgW ws).map λl=>(joi ws l).sum).sum=((g_ ws.length).map λx=>(hW ws x:Int)).sum:=by
  rw [<- gv ((lv (xC ws)).map λx=>(hW ws x:Int)),qy];rfl
 unfold AE;rw [uz];omega
theorem uA(hw:xE ws)(h:∀i,i<js.length->js.getD i 0<ws.length):∀k,k<=js.length->((glN ws (js.take k)).length:Int)=glL ws js k
 | 0,_=>rfl
 | k+1,hk=>by
  have ih:=uA hw h k ⋯;have a:=hw.at (h k ⋯);rw [B2 ⋯,kx,MQ,natCast_add,ih];show _=glL ws js k+_ - _
  by_cases z:k=0
  .rw [if_pos z,if_pos z];omega
  .rw [if_neg z,if_neg z];have:=AB (hw.at (h (k - 1) ⋯)).1 a.1;omega
def wt(hw:xE ws)(hp:js.Perm (g_ ws.length)):AE ws<=glL ws js ws.length:=by
 have hl:js.length=ws.length:=by rw [hp.length_eq,x_]
 have h:∀i,i<js.length->js.getD i 0<ws.length:=λi hi=>L_.mp (hp.mem_iff.mp (by rw [e_,cx hi];exact MB _));rw [<- hl,<- uA hw h js.length (f_ _),M5];exact FE (λw hm=>(hw.2 w hm).1) hp
noncomputable def hZ:FR:=λp a_ Q=>oL (λds=>cL (λes=>cN (∃zs:Λ,ds=zs.map .int/\∃ws:Γ,es=ws.map .str/\(xE ws/\Dk zs/\8*ws.length+12<=zs.length/\zs.length<=10000)/\∀(Ts:Γ) (ys:Λ),(∀t∈Ts,AE ws<=(t.length:Int))->Dk ys->Q (.dat (.lst (Ts.map .str))) (.own (ys.map .int)))) a_) p
variable {β:Type}
def CF(f:α->β)(xs:List α)(i:Int)(y:α):insN (xs.map f) i (f y)=(insN xs i y).map f:=by
 unfold insN;rw [D_,D_,Qd,map_drop,cy];rfl
def sr(xs:List α)(i:Int)(y:α):(insN xs i y).Perm (y::xs):=by
 unfold insN;rw [M0,singleton_append];refine perm_middle.trans ?_;rw [NN]
def CG(xs:List α)(a l:Nat):dO xs (ψ (a:Int)) (ψ ((a:Int)+(l:Int)))=(xs.drop a).take l:=by
 rw [show (a:Int)+(l:Int)=((a+l:Nat):Int) by omega,yz,add_sub_cancel_left]
def FG{a b f:α}{P:α->Prop}(h:f=a\/f=b)(e:P b->P a)(p:P b):P f:=by
 rcases h with rfl|rfl
 .exact e p
 .exact p
noncomputable def jo:FR:=λp a_ Q=>oL (λds=>cN (∃zs:Λ,ds=zs.map .int/\(Dk zs/\20<=zs.length/\zs.length<=10000)/\∀(ps:Γ) (ys:Λ),ps.length<=12->Pcs 60 ps->Dk ys->zs.length<=ys.length+20->ys.length<=zs.length->Q (.dat (.lst (ps.map .str))) (.own (ys.map .int))) a_) p
def DD:Nat:=14
abbrev DE:FN:=Lh
noncomputable def ss(K:b_)(mg:Θ)(TC:TxC K):=((aQ (Hi .list .tuple nN (aC 0))):LS K [] _ _)
def AF:PTS:=psO ss
def AG:PRl fO AF 1 1:=λ_ Q h=>AQ h λd _ h=>f8 h λh=>FX rfl <| by
 k_in;obtain⟨hd,q⟩:=h;cases d <;> first|(cases hd;done)|(z_go;exact q)
noncomputable def kB(K:b_)(mg:Θ)(TC:TxC K):=((aQ (oU (oV .int (aC 0)) (yY (oV .bool (aC 0))))):LS K [] _ _)
def su:PTS:=psO kB
def sv:PRl gZ su 1 1:=λ_ Q h=>AQ h λd _ h=>f8 h λh=>FX rfl <| by
 k_in;obtain⟨hd,q⟩:=h;cases d <;> first|(cases hd;done)|(z_go;exact q)
noncomputable def pA:PTS:=(lX (Ld (pOr (JY (pB (Lb .str (pSl 0)))) (JY (pB (yZ fLe fLe (pSl 1) (pFz (pCB EA (dk (pSl 0) iy))) (pSl 2))))) (BG (pC (.bl ξ))) C1) (BG (pCB Ki (dk (pFz (xc [ω] (xb (yX 0)) (fK 0) AN (yZ fLe fLe (pFz (pC (.str [97]))) (pSl 0) (pFz (pC (.str [122])))))) iy))))
def ku:PRl fP pA 3 3:=λ_ Q h=>AQ h λd _ h=>rZ h λa _ h=>rZ h λb _ h=>f8 h λh=>FX rfl <| by
 k_in;obtain⟨hd,hl,q⟩:=h
 cases d with
 | str l =>
  have hl:l.length<=1000000:=hl;z_go
  refine eB (λc1=>?_) (λc1=>?_)
  .z_go
   refine tQ (λc2=>?_) (λc2=>?_)
   .z_go;rw [show BN (.str l) a b=ξ by rw [qb,decide_eq_false c2,PN];rfl] at q;exact q
   .z_go
    refine xh (λτ=>∃v,τ=[v]) (λk=>.bl (ltB (l.getD k 0))) ?_ ?_ ?_
    .exact⟨_,rfl⟩
    .rintro k τ _ hk rfl ⟨v,rfl⟩ K1 k1;z_go
     refine tQ (λc=>?_) (λc=>?_)
     .have hc:97<=l.getD k 0:=of_decide_eq_true (by rw [<- tY];rw [decide_eq_false c];rfl);z_go;show K1 (.bl (!decide (([122]:Δ)<[l.getD k 0]))) _;rw [tY];rw [show ltB (l.getD k 0)=decide (l.getD k 0<=122) by unfold ltB;rw [decide_eq_true hc];rfl] at k1;exact k1 _ ⟨_,rfl⟩
     .have hc:¬ 97<=l.getD k 0:=of_decide_eq_false (by rw [<- tY,decide_eq_true c];rfl);z_go;rw [show ltB (l.getD k 0)=ξ by unfold ltB;rw [decide_eq_false hc];rfl] at k1;exact k1 _ ⟨_,rfl⟩
    .rintro τ ⟨v,rfl⟩;z_go;refine⟨(g_ l.length).map λk=>ltB (l.getD k 0),by rw [Ms];rfl,?_⟩
     have e:BN (.str l) a b=(((g_ l.length).map λk=>ltB (l.getD k 0)).all id):=by
      rw [qb,decide_eq_true c1,decide_eq_true c2,Bool.and_self,Bool.true_and,i3];rw [all_map];rfl
     rw [e] at q;exact q
  .z_go;rw [show BN (.str l) a b=ξ by rw [qb,decide_eq_false c1,PJ];rfl] at q;exact q
 | non=>z_go;exact q
 | bl b=>z_go;exact q
 | int i=>z_go;exact q
 | ty n=>cases hd
 | lst ds=>z_go;exact q
 | tup ds=>z_go;exact q
 | scr ns=>cases hd
 | dic ks ds=>z_go;exact q
 | obj c ns ds=>cases hd
 | exc c ns ds=>cases hd
 | fdc ks ds=>cases hd
noncomputable def mQ(K:b_)(mg:Θ)(TC:TxC K):=((aQ (oU (aD (c:=gZ) (aa (cv 0) ac)) (pZ w4 w4 (aC 1) (aC 0) (aC 2)))):LS K [] _ _)
def uB:PTS:=psO mQ
def uC:PRl dE uB 3 3:=λ_ Q h=>rZ h λx _ h=>rZ h λa _ h=>rZ h λb _ h=>f8 h λh=>FX rfl <| by
 k_in;obtain⟨⟨h1,h2⟩,q⟩:=h;z_go;rw [decide_eq_true h2];exact q
noncomputable def iI(K:b_)(mg:Θ)(TC:TxC K):=((aQ (HG BL (cH 0) (aa (aC 1) ac))):LS K [] _ _)
def nX:PTS:=psO iI
def nY:PRl dI nX 2 2:=λ_ Q h=>Ac h λa _ h=>Ac h λb _ h=>f8 h λh=>FX rfl <| by
 k_in;z_go;exact h
noncomputable def kC(K:b_)(mg:Θ)(TC:TxC K):=((au (dr (wZ (iE (vB (aD (c:=fO) (aa (cv 0) ac)))) (fJ (ak lW (ah (aK aT (aa (aC 0) ac))) (bi 40)))) (aQ (nL (i:=ξ))) bh) (au (dr (iE (vB (aK vE (aa (ah (aY (ix:=[ω,ψ 0]) rfl (bM (cH 0)) (λfs hc=>(bq 0 (gH hc (by decide)))) bW (oU (aD (c:=fO) (aa (cv 0) ac)) (ak fc (ah (aK aT (aa (aC 0) ac))) (ah (aK aT (aa (aC 1) ac))))))) ac)))) (aQ (nL (i:=ξ))) bh) (aQ (aK vE (aa (ah (vJ (ix:=[ω,ω]) rfl (bM (cH 0)) (λfs hc=>(bq 0 (gH hc (by decide)))) bW (bM (cH 0)) (λfs hc=>(bq 1 (gH hc (by decide)))) bW (aD (c:=dE) (aa (cv 1) (aa (bi 0) (aa (bi 1000000) ac)))))) ac))))):LS K [] _ _)
def sx:PTS:=psO kC
def sy:PRl g9 sx 1 1:=λ_ Q h=>AS h λrs _ h=>f8 h λh=>FX rfl <| by
 k_in;obtain⟨n,c,rfl,⟨hn,hc⟩,q⟩:=h;have hl:(sh n c).length=n:=by rw [cy,x_]
 have hnn:n*n<=40*40:=Nat.mul_le_mul hn hn;z_go
 refine cm1 (xs:=g_ n) (e:=λi=>D.tup (de n (c i))) (λ_=>.bl η) (λi hi v K1 k1=>?_) (λv=>?_)
 .have e1:(de n (c i)).length=n:=dJ;z_go;rw [e1,hl,decide_eq_true rfl];exact k1 _
 .z_go;refine⟨(g_ n).map λ_=>η,by rw [Ms];rfl,?_⟩;rw [qw];z_go;rw [hl]
  refine⟨⟨λk ys τ=>ys=H_ (k*n) (D.bl η)/\∃v w,τ=[v,w],⟨by rw [Nat.zero_mul];rfl,_,_,rfl⟩,?_,?_⟩⟩
  .rintro k ys τ _ hk rfl ⟨rfl,v,w,rfl⟩;rw [wn hk];have hkn:(k+1)*n<=40*40:=Nat.mul_le_mul ⋯ hn;rw [Qa] at hkn;z_go;rw [dJ]
   refine⟨λj zs τ=>zs=H_ (k*n+j) (D.bl η)/\∃w,τ=[ψ (.dat (.tup (de n (c k)))),w],⟨rfl,_,rfl⟩,?_,?_⟩
   .rintro j zs τ _ hj rfl ⟨rfl,w,rfl⟩;have g:=hc k j hk hj;rw [Ao hj];z_go;refine⟨by rw [MU];omega,?_,_,rfl⟩;rw [<- List.replicate_succ'];rfl
   .rintro zs τ ⟨rfl,w,rfl⟩;exact⟨by rw [Qa],_,_,rfl⟩
  .rintro ys τ ⟨rfl,v,w,rfl⟩;z_go;refine⟨(g_ (n*n)).map λ_=>η,by rw [Ms];show _=(g_ (n*n)).map λ_=>D.bl η;rw [List.map_const',x_],?_⟩;rw [qw];exact q
noncomputable def iJ(K:b_)(mg:Θ)(TC:TxC K):=((qo (aB Ag (cm 5 rfl)) (qo (aB Ag (cm 6 rfl)) (qo (Fb (i:=7) (j:=8) (k:=9) rfl rfl rfl (aa (cv 4) (aa (bi 0) (aa (ah (wY oX (bi 1))) ac)))) (qo (jE (fJ (ak w6 (aC 7) (bi 0))) (au (cM (tT (aa (ah (ak aW (aC 0) (aC 7))) ac)) (me (n:=2) (ck (bq 10 rfl) (ck (bq 11 rfl) iZ))) (au (aB (ak jD (ah (ak aN (ah (ak aN (aC 8) (ah (ak aW (aC 1) (aC 7))))) (ah (ak aW (aC 2) (aC 10))))) (aC 11)) (cm 12 rfl)) (dr (oS (fJ (ak (Du (neg:=η)) (aC 10) (jO (i:=5)))) (wZ (fJ (ak (Du (neg:=η)) (aC 10) (jO (i:=6)))) (fJ (ak Ew (aC 12) (ah (ak aW (ah (ak ka (jO (i:=6)) (aC 10))) (bi 0))))))) (Ah (i:=6) (rz (aa (cv 12) (aa (cv 9) ac))) (cH 10)) bh))) (au (aB (aK Cc (aa (ah (IP (x:=6) (aY (ix:=[ω,ψ 6]) rfl (IQ (cH 6)) (λfs hc=>(bq 0 (gH hc (by decide)))) bW (rz (aa (ah (ak aW (ah (ak ka (jO (i:=1)) (aC 0))) (bi 0))) (aa (cv 0) ac)))))) ac)) (HX (n:=2) (ck (bq 8 rfl) (ck (bq 9 rfl) iZ)))) (au (Ah (i:=5) (Ff (i:=6) (cH 9)) (cH 9)) (aB (ak aW (aC 3) (aC 9)) (cm 7 rfl)))))) (Cd (i:=5)))))):LS0 K [] _ _)
def nZ:PTS:=L8 iJ
def n0:PRl fq nZ 13 5:=λ_ Q h=>AQ h λd _ h=>AR h λga _ h=>AR h λta _ h=>AR h λla _ h=>rZ h λm _ h=>f8 h λh=>FX rfl <| by
 k_in;obtain⟨n,c,rs,hd,g,rfl,t,rfl,l,rfl,s,rfl,⟨hn,hs,A⟩,q⟩:=h;z_go;refine⟨λm ρ=>∃(Z:List (Nat×Int)) (N:cu) (f:NrT) (R:cu) (i x k:Int) (v10 v11 v12:Option PV),ρ=[ψ (.dat d),ψ (.dat (.lst (de n g))),ψ (.dat (.lst (de n t))),ψ (.dat (.lst (de n l))),ψ (.dat (.int s)),ψ (.odc (ksR R) (dsR R)),ψ (.odc (ksR N) (dsR N)),ψ (.dat (.int i)),ψ (.dat (.int x)),ψ (.dat (.int k)),v10,v11,v12]
 /\(mN v10/\mN v11/\mN v12)/\rP n c g t l s Z f R i x k/\fQ N f/\N.length<=40*R.length/\Ca n c g t l m f R i x k=Jn n c g t l s/\n<R.length+m,⟨n+1,[],[],λ_=>ω,[],s,0,-1,_,_,_,rfl,⟨mO,mO,mO⟩,rP.start hs,⟨λe h=>(by cases h),λj p h=>(by cases h)⟩,f_ _,rfl,by simp⟩,?_⟩
 rintro m ρ ⟨Z,N,f,R,i,x,k,v10,v11,v12,rfl,hv,D,hN,hNl,hw,hm⟩;z_go
 refine wX (λhi=>?_) (λhi=>?_)
 .have hi:0<=i:=of_decide_eq_true hi;have hin:i.toNat<n:=D.row A hs hi;obtain⟨i0,rfl⟩:∃i0:Nat,i=i0:=⟨i.toNat,by omega⟩
  rw [tj] at hin;refine BS hd.sq ⟨_,gA (j:=i0) (getElem?_itD (by rw [hd.len];exact hin)) rfl,?_⟩;z_go;rw [Fs (hd.at_ i0 hin)];z_go;refine⟨λkk ρ=>∃(N':cu) (v10 v11 v12:Option PV),ρ=[ψ (.dat d),ψ (.dat (.lst (de n g))),ψ (.dat (.lst (de n t))),ψ (.dat (.lst (de n l))),ψ (.dat (.int s)),ψ (.odc (ksR R) (dsR R)),ψ (.odc (ksR N') (dsR N')),ψ (.dat (.int i0)),ψ (.dat (.int x)),ψ (.dat (.int k)),v10,v11,v12]
  /\(mN v10/\mN v11/\mN v12)/\fQ N' (fM (λj=>x+g i0+t j - c i0 j) R f k kk)/\N'.length<=40*R.length+kk,⟨N,_,_,_,rfl,hv,by rw [IV];exact hN,hNl⟩,?_,?_⟩
  .rintro kk ρ _ hkk rfl ⟨N',v10,v11,v12,rfl,hv',hN',hl'⟩;rw [dJ] at hkk;have a1:=mM (f:=g) hin;have a2:=mM (f:=t) hkk;rw [Ao hkk];z_go;refine⟨_,a1,?_⟩;z_go;refine⟨_,a2,?_⟩;z_go;have l1:=Aq R kk;have l2:=hN'.look kk;rw [Fq] at l2;have hkl:(kdR N').length<1000000:=by unfold kdR;rw [cy];have:=D.len;omega
   have take:∀u10 u11 u12,(mN u10/\mN u11/\mN u12)->o9 R kk=ξ->(f kk=ω\/∃p,f kk=ψ p/\x+g i0+t kk - c i0 kk<p.1) ->
     ∃(N2:cu) (v10 v11 v12:Option PV),[ψ (.dat d),ψ (.dat (.lst (de n g))),ψ (.dat (.lst (de n t))),ψ (.dat (.lst (de n l))),ψ (.dat (.int s)),ψ (.odc (ksR R) (dsR R)),ψ (.odc ((Ch (kdR N') (.inl (kk:Int)) (.tup [.int (x+g i0+t kk - c i0 kk),.int k])).map y_) ((Ch (kdR N') (.inl (kk:Int)) (.tup [.int (x+g i0+t kk - c i0 kk),.int k])).map Mo)),ψ (.dat (.int i0)),ψ (.dat (.int x)),ψ (.dat (.int k)),u10,u11,u12]=[ψ (.dat d),ψ (.dat (.lst (de n g))),ψ (.dat (.lst (de n t))),ψ (.dat (.lst (de n l))),ψ (.dat (.int s)),ψ (.odc (ksR R) (dsR R)),ψ (.odc (ksR N2) (dsR N2)),ψ (.dat (.int i0)),ψ (.dat (.int x)),ψ (.dat (.int k)),v10,v11,v12]
    /\(mN v10/\mN v11/\mN v12)/\fQ N2 (fM (λj=>x+g i0+t j - c i0 j) R f k (kk+1))/\N2.length<=40*R.length+(kk+1):=λu10 u11 u12 hu h1 h2=>by
    rw [Dz N' kk (x+g i0+t kk - c i0 kk,k)];refine⟨xz N' kk (x+g i0+t kk - c i0 kk,k),u10,u11,u12,rfl,hu,hN'.put (Ap h1 h2),?_⟩;have:=Cr (N:=N') (j:=kk) (p:=(x+g i0+t kk - c i0 kk,k));omega
   have leave:∀u10 u11 u12,(mN u10/\mN u11/\mN u12)->(o9 R kk=η\/∃p,f kk=ψ p/\¬ x+g i0+t kk - c i0 kk<p.1) ->
     ∃(N2:cu) (v10 v11 v12:Option PV),[ψ (.dat d),ψ (.dat (.lst (de n g))),ψ (.dat (.lst (de n t))),ψ (.dat (.lst (de n l))),ψ (.dat (.int s)),ψ (.odc (ksR R) (dsR R)),ψ (.odc (ksR N') (dsR N')),ψ (.dat (.int i0)),ψ (.dat (.int x)),ψ (.dat (.int k)),u10,u11,u12]=[ψ (.dat d),ψ (.dat (.lst (de n g))),ψ (.dat (.lst (de n t))),ψ (.dat (.lst (de n l))),ψ (.dat (.int s)),ψ (.odc (ksR R) (dsR R)),ψ (.odc (ksR N2) (dsR N2)),ψ (.dat (.int i0)),ψ (.dat (.int x)),ψ (.dat (.int k)),v10,v11,v12]
    /\(mN v10/\mN v11/\mN v12)/\fQ N2 (fM (λj=>x+g i0+t j - c i0 j) R f k (kk+1))/\N2.length<=40*R.length+(kk+1):=λu10 u11 u12 hu h=>by
    refine⟨N',u10,u11,u12,rfl,hu,?_,by omega⟩;rw [xB h λj z=>(D.fn j z).2];exact hN'
   refine wX (λcR=>?_) (λcR=>?_)
   .have cR:=Ar cR;rw [cR] at l1;have l1:o9 R kk=false:=l1.symm;z_go
    refine wX (λcN=>?_) (λcN=>?_)
    .have cN:=Ar cN;rw [cN] at l2
     have cf:f kk=none:=by
      cases h:f kk with
      | none=>rfl
      | some p=>rw [h] at l2;cases l2
     z_go;exact take _ _ _ ⟨cW,cW,cW⟩ l1 (.inl cf)
    .have cN:=As cN;rw [l2] at cN
     obtain⟨p,cf⟩:∃p,f kk=ψ p:=by
      cases h:f kk with
      | none=>rw [h] at cN;cases cN
      | some p=>exact⟨p,rfl⟩
     rw [cf] at l2;have l2:d9 (ksR N') (dsR N') (M_ (kk:Int))=ψ (.tup [.int p.1,.int p.2]):=l2;z_go;refine⟨_,l2,?_⟩;z_go
     refine wX (λcl=>?_) (λcl=>?_)
     .z_go;exact take _ _ _ ⟨cW,cW,cW⟩ l1 (.inr ⟨p,cf,of_decide_eq_true cl⟩)
     .z_go;exact leave _ _ _ ⟨cW,cW,cW⟩ (.inr ⟨p,cf,of_decide_eq_false cl⟩)
   .have cR:=As cR;rw [l1] at cR;z_go;exact leave _ _ _ ⟨cW,cW,cW⟩ (.inl cR)
  .rintro ρ ⟨N',v10,v11,v12,rfl,hv',hN',hl'⟩;z_go;refine⟨IW hv',?_⟩;z_go;have hnl:(N'.map λe=>(e.1:Int)).length<=1000000:=by rw [cy];have:=D.len;rw [dJ] at hl';omega
   refine⟨N'.map λe=>(e.1:Int),by unfold ksR kdR;rw [Ms,Ms];rfl,rfl,hnl,⟨λkk ys τ=>ys=(N'.take kk).map (λe=>.tup [.int e.2.1,.int e.1])/\∃v,τ=[v,ψ (.dat (.fdc (ksR N') (dsR N')))],⟨rfl,_,rfl⟩,?_,?_⟩⟩
   .rintro kk ys τ _ hkk rfl ⟨rfl,v,rfl⟩;rw [cy] at hkk;have ek:(N'.map λe=>(e.1:Int)).getD kk 0=(N'[kk].1:Int):=by rw [e_,h_,cx hkk];rfl
    rw [ek];have l2:=hN'.look N'[kk].1;rw [hN'.e _ (MB hkk)] at l2;have l2:d9 (ksR N') (dsR N') (M_ (N'[kk].1:Int))=ψ (.tup [.int N'[kk].2.1,.int N'[kk].2.2]):=l2;z_go;refine⟨_,l2,?_⟩;z_go;exact⟨by rw [NU,cx hkk,D_];rfl,_,rfl⟩
   .rintro ys τ ⟨rfl,v,rfl⟩;rw [cy,M5];rw [dJ] at hN' hl';have hnf:=Cs N';obtain⟨mq,hq⟩:=D.near A hs (O8 _) (sl:=λj=>x+g i0+t j - c i0 j);obtain⟨_,⟨p0,e0⟩,_⟩:=hq
    have hne:N'.map (λe=>[e.2.1,(e.1:Int)])≠[]:=λz=>by
     have:=hN'.m _ _ e0;rw [map_eq_nil_iff.mp z] at this;cases this
    z_go;refine⟨trivial,?_⟩;z_go;refine⟨N'.map λe=>[e.2.1,(e.1:Int)],by rw [Ms];rfl,hne,λr hr hmin=>?_⟩;obtain⟨e,he,rfl⟩:=Mp.mp hr;have ls:=Ct hN' (λj p hp=>(mw hp D.fn).1) he hmin;have hp2:E5 (fM (λj=>x+g i0+t j - c i0 j) R f k n) e.1=e.2.2:=by unfold E5;rw [hN'.e e he];rfl
    have hnR:=(mw (hN'.e e he) D.fn).2.1
    have hpop:qq (kdR N') (.inl (e.1:Int))=ψ (.tup [.int e.2.1,.int e.2.2]):=by
     rw [uo hN'.e (hN'.m e.1),hN'.e e he];rfl
    have hRl:=D.len;have hkl:(kdR R).length<1000000:=by unfold kdR;rw [cy];omega
    have al:=mM (f:=l) ls.1;have al:atI (de n l) (e.1:Int)=ψ (.int (l e.1)):=al;z_go;refine⟨_,hpop,?_⟩;z_go;refine⟨_,al,?_⟩;z_go;obtain⟨m',rfl⟩:∃m',m=m'+1:=⟨m - 1,by omega⟩
    have st:=D.step A hs (O8 _) (by rw [tj]) ls;have sw:=rR (m:=m') (R:=R) (x:=x) (k:=k) (f:=f) (n:=n) (c:=c) (g:=g) (t:=t) (l:=l) (O8 i0) (by rw [tj]) ls;rw [hp2] at st sw
    refine⟨m',Mu _,_,xA N' e.1,_,R++[e],l e.1,e.2.1,e.1,v10,v11,v12,?_,hv',st,hN'.drop,?_,by rw [<- sw];exact hw,?_⟩
    .have e1:Ch (kdR R) (.inl (e.1:Int)) (.tup [.int e.2.1,.int e.2.2])=kdR (R++[e]):=by rw [Dz R e.1 e.2,Cu hnR]
     rw [e1,Fp];rfl
    .have:=At (R:=N') (j:=e.1);rw [kx];simp only [Mm,OC];omega
    .rw [kx];simp only [Mm,OC];omega
 .have hi:i<0:=not_le.mp (of_decide_eq_false hi);rw [rQ hi] at hw;obtain⟨R0,q',p,e,W⟩:=D.way hi;subst e;exact⟨rfl,q R0 q' x p hw.symm W⟩
noncomputable def gE(K:b_)(mg:Θ)(TC:TxC K):=((au (aB (Cg (aD (c:=fq) (aa (cv 0) (aa (cv 1) (aa (cv 2) (aa (cv 3) (aa (cv 4) ac))))))) (cm 5 rfl)) (au (aB (ak aW (ah (aK Ci (aa (jO (i:=5)) ac))) (ah (wY oX (bi 1)))) (cm 6 rfl)) (au (aB (ak aW (ah (ak ka (jO (i:=5)) (aC 6))) (bi 0)) (cm 7 rfl)) (au (ue (f:=(λi j=>i - j)) (i:=1) (cH 4) (cH 7)) (au (IN (x:=5) (cM (IQ (cH 5)) (bq 8 rfl) (dr (fJ (ak w6 (ah (ak aW (aC 3) (aC 8))) (bi 0))) (au (ue (f:=(λi j=>i+j)) (i:=2) (cH 8) (ak jD (aC 7) (ah (ak aW (ah (ak ka (jO (i:=5)) (aC 8))) (bi 0))))) (ue (f:=(λi j=>i - j)) (i:=1) (ak aW (aC 3) (aC 8)) (ak jD (aC 7) (ah (ak aW (ah (ak ka (jO (i:=5)) (aC 8))) (bi 0)))))) bh))) (jE (fJ (ak w6 (aC 6) (bi 0))) (au (aB (ak aW (ah (ak ka (jO (i:=5)) (aC 6))) (bi 1)) (cm 9 rfl)) (au (y8 (i:=3) (J1 (fJ (ak w6 (aC 9) (bi 0))) (ak aW (aC 3) (aC 9)) (cH 4)) (cH 6)) (aB (cH 9) (cm 6 rfl)))))))))):LS K [1,2,3] _ _)
def kZ:PTS:=psO gE
def k6:∀as Q,cX as Q->as.length=5/\(∀i,i∈([1,2,3]:Δ) ↔ ∃p:PV,as[i]?=ψ p/\p.isOwn=η)/\kZ { nx:=AU [1,2,3] as Q,rt:=λr ρ=>r=.dat .non/\AU [1,2,3] as Q ρ } (bT 10 as):=λas Q h=>by
 unfold cX at h
 split at h
 .refine⟨rfl,?_,?_⟩
  .intro i;rcases i with _|_|_|_|_|i <;> simp [PV.isOwn]
  k_in;rename_i d ga ta la m;obtain⟨n,c,rs,hd,g,rfl,t,rfl,l,rfl,s,rfl,⟨hn,hs,A⟩,q⟩:=h;z_go;refine⟨n,c,rs,hd,g,rfl,t,rfl,l,rfl,s,rfl,⟨hn,hs,A⟩,λR0 q' x p ew W=>⟨IX _,?_⟩⟩
  have hst:mx n c s (g,t,l)=(((R0++[(q',x,p)]).foldl (upF l x) (t,gSt g s x)).2,((R0++[(q',x,p)]).foldl (upF l x) (t,gSt g s x)).1,i6 (R0++[(q',x,p)]) s (n+1) l q'):=by
   unfold mx;simp only;rw [ew,rS]
  rw [hst] at q;have hRl:=W.len;have hla:=Fu R0 (q',x,p);have hnd:=W.nd;have hrn:=W.rn;have hpr:=W.pr;have hq:(q',x,p)∈R0++[(q',x,p)]:=r_ _ q_;have hll:(R0++[(q',x,p)]).length<=n:=by rw [kx];exact hRl
  generalize hR:R0++[(q',x,p)]=R at *;have hki:=Ft R;z_go;refine⟨R.map λe=>(e.1:Int),hki,by rw [cy];omega,?_⟩;z_go;refine⟨_,hla,?_⟩;z_go;refine⟨_,Au hnd hq,?_⟩;z_go;refine⟨s,g s,E2 (by rw [dJ];exact hs),jP hs,?_⟩;z_go;rw [jQ]
  refine⟨R.map λe=>(e.1:Int),hki,λkk ρ=>∃v8 v9:Option PV,ρ=[ψ (.dat d),ψ (.own (de n ((R.take kk).foldl (upF l x) (t,gSt g s x)).2)),ψ (.own (de n ((R.take kk).foldl (upF l x) (t,gSt g s x)).1)),ψ (.own (de n l)),ψ (.dat (.int s)),ψ (.dat (.fdc (ksR R) (dsR R))),ψ (.dat (.int (q':Nat))),ψ (.dat (.int x)),v8,v9],⟨_,_,rfl⟩,?_,?_⟩
  .rintro kk ρ _ hkk rfl ⟨v8,v9,rfl⟩;rw [cy] at hkk;have ek:(R.map λe=>(e.1:Int)).getD kk 0=(R[kk].1:Int):=by rw [e_,h_,cx hkk];rfl
   have hm:=MB hkk;have hen:=hrn _ hm;have hlk:=Au hnd hm;have hld:=A.ld _ hen
   have hf:(R.take (kk+1)).foldl (upF l x) (t,gSt g s x)=upF l x ((R.take kk).foldl (upF l x) (t,gSt g s x)) R[kk]:=by
    rw [NU,cx hkk];show QY _ _ (_++[R[kk]])=_;rw [foldl_append];rfl
   have a1:=mM (f:=l) hen;dsimp only;rw [ek,hf];generalize (R.take kk).foldl (upF l x) (t,gSt g s x)=tg at *;generalize R[kk]=e at *;z_go;refine⟨_,a1,?_⟩;z_go
   refine wX (λc1=>?_) (λc1=>?_)
   .have c1:0<=l e.1:=of_decide_eq_true c1;obtain⟨r,hr⟩:∃r:Nat,l e.1=(r:Int):=⟨(l e.1).toNat,by omega⟩
    have hrn':r<n:=by omega
    unfold upF;rw [if_pos c1,hr,tj];rw [hr] at a1;z_go;refine⟨e.1,tg.1 e.1,E2 (by rw [dJ];exact hen),jP hen,?_⟩;z_go;refine⟨_,hlk,?_⟩;z_go;refine⟨_,a1,?_⟩;z_go;refine⟨r,tg.2 r,E2 (by rw [dJ];exact hrn'),jP hrn',?_⟩;z_go;refine⟨_,hlk,?_⟩;z_go;rw [jQ,jQ];exact⟨_,_,rfl⟩
   .have c1:¬ 0<=l e.1:=of_decide_eq_false c1;unfold upF;rw [if_neg c1];z_go;exact⟨_,_,rfl⟩
  .rintro ρ ⟨v8,v9,rfl⟩;rw [cy,M5];z_go;generalize (R.foldl (upF l x) (t,gSt g s x)).2=G at *;generalize (R.foldl (upF l x) (t,gSt g s x)).1=T at *;refine⟨λm ρ=>∃(L:Nat->Int) (k:Int) (v8 v9:Option PV),ρ=[ψ (.dat d),ψ (.own (de n G)),ψ (.own (de n T)),ψ (.own (de n L)),ψ (.dat (.int s)),ψ (.dat (.fdc (ksR R) (dsR R))),ψ (.dat (.int k)),ψ (.dat (.int x)),v8,v9]/\i6 R s m L k=i6 R s (n+1) l q'/\(k<0\/∃R1 e R2,R=R1++e::R2/\k=(e.1:Int)/\R1.length<m),⟨n+1,l,q',_,_,rfl,rfl,.inr ⟨R0,(q',x,p),[],hR.symm,rfl,by omega⟩⟩,?_⟩
   rintro m ρ ⟨L,k,v8,v9,rfl,ht,hk⟩;z_go
   refine wX (λc1=>?_) (λc1=>?_)
   .have c1:0<=k:=of_decide_eq_true c1;obtain⟨R1,e,R2,eR,rfl,hlt⟩:=hk.resolve_left ⋯;have hm:e∈R:=by rw [eR];exact r_ _ q_
    have hlk:=Au hnd hm;have hen:=hrn _ hm;obtain⟨m',rfl⟩:∃m',m=m'+1:=⟨m - 1,by omega⟩
    have tc:=Av (R:=R) (s:=s) (m:=m') (L:=L) (k:=(e.1:Int)) c1;rw [tj,Dp (d:=e.2.1) (p:=e.2.2) hnd hm] at tc;rw [tc] at ht;clear tc;z_go;refine⟨_,hlk,?_⟩;z_go;have hp:=hpr R1 e R2 eR;generalize he2:e.2.2=b at *
    refine wX (λc2=>?_) (λc2=>?_)
    .have c2:0<=b:=of_decide_eq_true c2;rw [if_pos c2] at ht
     obtain⟨a,ha,eb,_⟩:∃a,a∈R1/\b=(a.1:Int)/\True:=by
      rcases hp with ⟨z,_⟩|⟨a,ha,z,_⟩
      .omega
      .exact⟨a,ha,by rw [<- he2];exact z,trivial⟩
     subst eb;have haR:a∈R:=by rw [eR];exact Mf _ ha
     have a1:=mM (f:=L) (hrn _ haR);rw [tj] at ht;obtain⟨S1,S2,eS⟩:=append_of_mem ha;z_go;refine⟨_,a1,?_⟩;z_go;refine⟨e.1,E2 (by rw [dJ];exact hen),?_⟩;z_go;rw [jQ];exact⟨m',Mu _,_,_,_,_,rfl,ht,.inr ⟨S1,a,S2++e::R2,by rw [eR,eS,M0];rfl,rfl,by rw [eS,kx,Mm] at hlt;omega⟩⟩
    .have c2:¬ 0<=b:=of_decide_eq_false c2;rw [if_neg c2] at ht;z_go;refine⟨e.1,E2 (by rw [dJ];exact hen),?_⟩;z_go;rw [jQ];exact⟨m',Mu _,_,_,_,_,rfl,ht,.inl ⋯⟩
   .have c1:¬ 0<=k:=of_decide_eq_false c1;rw [Cv ⋯] at ht;subst ht;exact KL q
 .exact h.elim
noncomputable def h7(K:b_)(mg:Θ)(TC:TxC K):=((au (dr (iE (vB (aD (c:=g9) (aa (cv 0) ac)))) lm bh) (au (aB (aY (ix:=[ω]) rfl (bM (cH 0)) (λfs hc=>(bq 0 (gH hc (by decide)))) bW (aK Fd (aa (aC 0) ac))) (cm 1 rfl)) (au (aB (aY (ix:=[ω]) rfl (bM (cH 0)) (λfs hc=>(bq 0 (gH hc (by decide)))) bW (Cj 0)) (cm 2 rfl)) (au (aB (aY (ix:=[ω]) rfl (bM (cH 0)) (λfs hc=>(bq 0 (gH hc (by decide)))) bW (wY oX (bi 1))) (cm 3 rfl)) (au (cM (iA (aa (ah (aK aT (aa (aC 0) ac))) ac)) (bq 4 rfl) (dS (Cf (c:=cX) (is:=[0,1,2,3,4])))) (au (aB (aK cE (aa (ah (aY (ix:=[ω,ψ 3]) rfl (iA (aa (ah (aK aT (aa (aC 0) ac))) ac)) (λfs hc=>(bq 0 (gH hc (by decide)))) bW (zN (aC 1) (cH 0)))) ac)) (cm 5 rfl)) (aQ (rz (aa (cv 5) (aa (ah (aK cE (aa (aC 1) ac))) (aa (ah (aK cE (aa (aC 2) ac))) ac))))))))))):LS K [] _ _)
def mR:PTS:=psO h7
def mS:PRl eQ mR 6 1:=λ_ Q h=>AS h λrs _ h=>f8 h λh=>FX rfl <| by
 k_in;obtain⟨n,cc,rfl,g,q⟩:=h;have hd:=Fv n cc;have hc0:∀i j,i<n->j<n->0<=cc i j:=λi j hi hj=>(g.2 i j hi hj).1;have hn:=g.1;z_go;refine⟨n,cc,rfl,g,?_⟩;generalize sh n cc=rs at *;have hN:=hd.len;z_go
 refine xh (λτ=>∃v,τ=[v]) (λk=>.int (AO (cc k) n)) ⟨_,rfl⟩ ?_ ?_
 .rintro k τ _ hk rfl ⟨v,rfl⟩ K1 k1;rw [hN] at hk;have hr:=hd.at_ k hk;z_go;refine⟨itD rs k,(g_ n).map (cc k),rfl,by rw [<- lw];exact hr,by rw [cy,x_];omega,λm hm hle=>?_⟩
  have em:m=AO (cc k) n:=by
   obtain⟨j,hj,rfl⟩:=Mp.mp hm;rw [L_] at hj;obtain⟨j2,hj2,e2⟩:=vV (f:=cc k) (m:=n) ⋯;have a:=ug (f:=cc k) hj;have b:=hle _ (Mp.mpr ⟨j2,L_.mpr hj2,rfl⟩);omega
  subst em;z_go;exact k1 _ ⟨_,rfl⟩
 .rintro τ ⟨v,rfl⟩;rw [hN];z_go
  refine xh (λτ=>∃v,τ=[v]) (λk=>.int 0) ⟨_,rfl⟩ ?_ ?_
  .rintro k τ _ hk rfl ⟨v,rfl⟩ K1 k1;z_go;exact k1 _ ⟨_,rfl⟩
  .rintro τ ⟨v,rfl⟩;rw [hN];z_go
   refine xh (λτ=>∃v,τ=[v]) (λk=>.int (-1)) ⟨_,rfl⟩ ?_ ?_
   .rintro k τ _ hk rfl ⟨v,rfl⟩ K1 k1;z_go;exact k1 _ ⟨_,rfl⟩
   .rintro τ ⟨v,rfl⟩;rw [hN];z_go;rw [hd.len];z_go;rw [tj]
    refine⟨λk ρ=>∃v4 v5:Option PV,ρ=[ψ (.dat (.tup rs)),ψ (.own (de n (bpN n cc k).1)),ψ (.own (de n (bpN n cc k).2.1)),ψ (.own (de n (bpN n cc k).2.2)),v4,v5],⟨_,_,rfl⟩,?_,?_⟩
    .rintro k ρ _ hk rfl ⟨v4,v5,rfl⟩;have hfit:=pd hc0 k ⋯;z_go;refine⟨[.dat (.tup rs),.own (de n (bpN n cc k).1),.own (de n (bpN n cc k).2.1),.own (de n (bpN n cc k).2.2),.dat (.int k)],rfl,?_⟩;exact⟨n,cc,rs,hd,_,rfl,_,rfl,_,rfl,k,rfl,⟨hn,hk,hfit⟩,_,_,rfl⟩
    .rintro ρ ⟨v4,v5,rfl⟩;z_go;rw [hd.len];z_go;rw [tj]
     refine xh (λτ=>∃v,τ=[v,ψ (.own (de n (bpN n cc n).2.2))]) (λk=>nD (bpF n cc k)) ⟨_,rfl⟩ ?_ ?_
     .rintro k τ _ hk rfl ⟨v,rfl⟩ K1 k1;z_go;have A:=pd hc0 n (f_ _)
      have hmem:(k:Int)∈(g_ n).map (bpN n cc n).2.2:=by
       obtain⟨j,hj,e⟩:=A.sur k hk;exact Mp.mpr ⟨j,L_.mpr hj,e⟩
      have hnl:∀z∈(g_ n).map (bpN n cc n).2.2,z.natAbs<2^64:=λz hz=>by
       obtain⟨j,hj,rfl⟩:=Mp.mp hz;have:=A.ld j (L_.mp hj);omega
      refine⟨(g_ n).map (bpN n cc n).2.2,lw _ _,⟨by rw [cy,x_];omega,hnl,hmem⟩,?_⟩;exact k1 _ ⟨_,rfl⟩
     .rintro τ ⟨v,rfl⟩;z_go
      have e:bpP n cc=.tup [.tup ((g_ n).map λk=>nD (bpF n cc k)),.tup (de n (bpN n cc n).1),.tup (de n (bpN n cc n).2.1)]:=by
       unfold bpP bpJ bpG bpT;rw [<- lw,<- lw,Ms];rfl
      rw [e] at q;exact q
noncomputable def pD(K:b_)(mg:Θ)(TC:TxC K):=((au (dr (wZ (iE (vB (aD (c:=fO) (aa (cv 0) ac)))) (fJ (ak fc (ah (aK aT (aa (aC 0) ac))) (bi 0)))) (aQ (nL (i:=ξ))) bh) (aQ (oU (aK vE (aa (ah (aY (ix:=[ω,ψ 1]) rfl (bM (cH 0)) (λfs hc=>(bq 0 (gH hc (by decide)))) bW (aD (c:=dE) (aa (cv 0) (aa (bi 0) (aa (ah (ak jD (aC 1) (bi 1))) ac)))))) ac)) (ak fc (ah (aK Fm (aa (aC 0) ac))) (ah (aK aT (aa (aC 0) ac))))))):LS K [] _ _)
def xF:PTS:=psO pD
def xG:PRl kq xF 2 2:=λ_ Q h=>AS h λds _ h=>rZ h λm _ h=>f8 h λh=>FX rfl <| by
 k_in;obtain⟨l,rfl,⟨h0,h40,nd,hm,hx⟩,q⟩:=h;have hl:(l.map nD).length=l.length:=cy _;z_go
 refine cm1 (xs:=l) (e:=nD) (λ_=>.bl η) (λx hxm v K1 k1=>?_) (λv=>?_)
 .have e1:nD x=.int (x:Int):=rfl;have g:(0:Int)<=(x:Int)/\(x:Int)<=m - 1:=⟨by omega,by have:=hx x hxm;omega⟩
  rw [e1];z_go;exact k1 _
 .z_go;refine⟨l.map λ_=>η,by rw [Ms];rfl,?_⟩;rw [qw];z_go;refine⟨l.map λk=>((k:Nat):Int),o8 l,Oj.mpr (nd.imp λh e=>h ⋯),by rw [cy];omega,?_⟩;z_go;rw [cy,hl,decide_eq_true rfl];exact q
noncomputable def jS(K:b_)(mg:Θ)(TC:TxC K):=((dr (iE (vB (aD (c:=kq) (aa (cv 1) (aa (ah (vG (c0:="Family") (m:="many") (ns0:=["pieces","kept","words","left","laps","total"]) (c:=bV) (by decide +kernel) (cH 0) ac)) ac))))) lm bh):LS K [] _ _)
def qz:PTS:=psO jS
def qA:PRl gp qz 2 2:=λ_ Q h=>Iy h λc ns fs _ h=>AS h λds _ h=>f8 h λh=>FX rfl <| by
 k_in;obtain⟨rfl,rfl,ps,rfl,l,rfl,⟨hn,h0,h40,nd,hx⟩,q⟩:=h;have g:0<l.length/\l.length<=40/\l.Nodup/\((am ps).length:Int)<=1000/\∀x∈l,(x:Int)<((am ps).length:Int):=⟨h0,h40,nd,by omega,λx h=>by have:=hx x h;omega⟩
 z_go;exact q
noncomputable def iK(K:b_)(mg:Θ)(TC:TxC K):=((aQ (aY (ix:=[ω,ω]) rfl (Hn (aa (cv 0) (aa (ah (ak aN (ah (bG (aC 0) (bg (Cj 1)) cg)) (ah (bG (aC 0) cg (bg (Cj 1)))))) ac))) (λfs hc=>(me (n:=2) (ck (bq 0 (gH hc (by decide))) (ck (bq 1 (gH hc (by decide))) iZ)))) bW (rz (aa (cv 0) (aa (cv 1) ac))))):LS K [] _ _)
def n5:PTS:=psO iK
def n6:PRl dL n5 1 1:=λ_ Q h=>AQ h λd _ h=>f8 h λh=>FX rfl <| by
 k_in;obtain⟨js,hd,hl,q⟩:=h;have hjm:(js.map nD).length=js.length:=cy _;have ht1:((js.take 1).map nD).length<=1:=by rw [cy,MG];omega
 have ht2:(js.tail.map nD).length<=js.length:=by rw [cy,P5];omega
 rcases hd with rfl|rfl <;> (
  z_go;rw [L4,Kt];refine⟨by omega,?_⟩;rw [<- D_];have hz:min (js.map nD).length ((js.tail++js.take 1).map nD).length<=1000000:=by omega
  z_go
  refine cmZ (λa b=>.tup [nD a,nD b]) (λa b m v w K1 k1=>?_) (λv w=>?_)
  .z_go;exact k1 _ _
  .exact q)
noncomputable def kE(K:b_)(mg:Θ)(TC:TxC K):=((au (aB (dq (aa (cv 1) ac)) (cm 2 rfl)) (au (jE (fJ (ak md (ah (ak aW (aC 0) (ah (ak aW (aC 2) (ah (wY oX (bi 1))))))) (aC 1))) (dS (l4 (i:=2) (ak aW (aC 0) (ah (ak aW (aC 2) (ah (wY oX (bi 1))))))))) (aQ (aK cE (aa (aC 2) ac))))):LS K [] _ _)
def sA:PTS:=psO kE
def sB:PRl fg sA 3 2:=λ_ Q h=>AS h λds _ h=>rZ h λz _ h=>f8 h λh=>FX rfl <| by
 k_in;obtain⟨js,rfl,i,rfl,⟨hn,P,hi⟩,q⟩:=h;obtain⟨p1,p2,p3,p4⟩:=mB P hi;unfold orb at q;generalize per (λk=>js.getD k 0) js.length i=p at p1 p2 p3 p4 q;generalize hf:(λk=>js.getD k 0)=f at P p3 p4 q;z_go;refine⟨λk ρ=>k<p/\ρ=[ψ (.dat (.tup (js.map nD))),ψ (.dat (.int (i:Int))),ψ (.own ((iB f i (p - k)).map nD))],⟨p - 1,by omega,by rw [show p - (p - 1)=1 by omega];rfl⟩,?_⟩
 rintro k ρ ⟨hk,rfl⟩;obtain⟨m,rfl⟩:∃m,p=m+1+k:=⟨p - 1 - k,by omega⟩
 rw [show m+1+k - k=m+1 by omega];have hm:=my P hi m
 have fa:atI (js.map nD) ((itf f i m:Nat):Int)=ψ (.int ((itf f i (m+1):Nat):Int)):=by
  rw [show itf f i (m+1)=js.getD (itf f i m) 0 by rw [<- hf];rfl];exact jR hm
 have la:=CA f i m;have lo:((iB f i (m+1)).map nD).length<=40:=by rw [cy,fe];omega
 z_go;refine⟨_,la,?_⟩;z_go;refine⟨_,fa,?_⟩;z_go
 refine tQ (λc=>?_) (λc=>?_)
 .have hk0:0<k:=by
   refine pos_of_ne_zero λz=>c ?_;subst z;rw [Q4] at p3;rw [p3]
  z_go;refine⟨_,la,?_⟩;z_go;refine⟨_,fa,?_⟩;z_go;refine⟨k - 1,by omega,by omega,?_⟩;have e:(iB f i (m+1)).map nD++[.int ((itf f i (m+1):Nat):Int)]=(iB f i (m+1+1)).map nD:=by rw [dN f i (m+1),D_];rfl
  rw [show m+1+k - (k - 1)=m+1+1 by omega,<- e]
 .have hk0:k=0:=by
   refine MN λz=>p4 (m+1) ⋯ ⋯ ⋯
  subst hk0;z_go;exact q
noncomputable def mT(K:b_)(mg:Θ)(TC:TxC K):=((au (aB (ak aW (ah (aD (c:=eQ) (aa (ah (gD (ns0:=["pieces","kept","words","left","laps","total"]) TC.clφ TC.nφ_laps (i:=4) (by decide +kernel) (aC 0))) ac))) (bi 0)) (cm 1 rfl)) (au (aB (aY (ix:=[ω,ψ 1]) rfl (iA (aa (ah (vG (c0:="Family") (m:="many") (ns0:=["pieces","kept","words","left","laps","total"]) (c:=bV) (by decide +kernel) (cH 0) ac)) ac)) (λfs hc=>(bq 0 (gH hc (by decide)))) bW (aD (c:=fg) (aa (cv 1) (aa (cv 0) ac)))) (cm 2 rfl)) (aQ (aK cE (aa (ah (aY (ix:=[ω,ω]) rfl (tT (aa (cv 2) ac)) (λfs hc=>(me (n:=2) (ck (bq 0 (gH hc (by decide))) (ck (bq 1 (gH hc (by decide))) iZ)))) (fJ (ak fc (aC 0) (ah (aK Ck (aa (aC 1) ac))))) (cH 1))) ac))))):LS K [] _ _)
def uD:PTS:=psO mT
def uE:PRl eT uD 3 1:=λ_ Q h=>Iy h λc ns fs _ h=>f8 h λh=>FX rfl <| by
 k_in;obtain⟨rfl,rfl,ps,rfl,⟨hn,hw⟩,q⟩:=h;have sq:=Fx hn hw;have eL:=Ax (am ps);z_go;refine⟨_,_,eL,sq,?_⟩;have hfl:(bpJ (am ps).length (Aw (am ps))).length=(am ps).length:=Cw (am ps);have hP:=xC (am ps);z_go;rw [tj];unfold rgW rgs at q;generalize am ps=ws at hn hw q sq eL hfl hP ⊢;have hff:(λk=>(bpJ ws.length (Aw ws)).getD k 0)=fA ws:=rfl;obtain⟨f,hf⟩:∃f,f=fA ws:=⟨_,rfl⟩
 rw [<- hf] at hP hff q;clear hf sq eL
 refine cmR (λi=>D.tup ((orb f ws.length i).map nD)) (λi hi v K1 k1=>?_) (λv=>?_)
 .z_go;rw [hfl,hff];exact⟨⟨hn,hP,hi⟩,k1 _⟩
 have lM:((g_ ws.length).map λi=>D.tup ((orb f ws.length i).map nD)).length=ws.length:=by rw [cy,x_]
 z_go;rw [lM]
 refine cfm (λτ=>∃v w,τ=[v,w]) (λi=>if Cb f ws.length i=η then ψ (D.tup ((orb f ws.length i).map nD)) else ω) ⟨_,_,rfl⟩ ?_ ?_
 .rintro i τ _ hi rfl ⟨v,w,rfl⟩ K1 K2 k1 k2;have eI:itD ((g_ ws.length).map λi=>D.tup ((orb f ws.length i).map nD)) i=D.tup ((orb f ws.length i).map nD):=gP (by rw [h_,Mj hi];rfl);rw [eI];have hs:=vZ hP hi;have hl:0<(orb f ws.length i).length:=length_pos_of_mem hs;z_go;refine⟨_,(orb f ws.length i).map (λk=>((k:Nat):Int)),rfl,.inr (by rw [o8]),by rw [cy];exact hl,λm h1 h2=>?_⟩
  have hm:=h2 _ (Od hs);z_go
  refine eB (λc=>?_) (λc=>?_)
  .have r:Cb f ws.length i=true:=decide_eq_true λa ha=>by have:=h2 _ (Od ha);omega
   exact k1 _ _ (if_pos r) ⟨_,_,rfl⟩
  .have r:¬ Cb f ws.length i=true:=λz=>by
    obtain⟨a,ha,e⟩:=Mp.mp h1;have:=of_decide_eq_true z a ha;omega
   exact k2 _ (if_neg r) ⟨_,_,rfl⟩
 .rintro τ ⟨v,w,rfl⟩;z_go;rw [Ig];rw [Ms] at q;exact q
noncomputable def sC(K:b_)(mg:Θ)(TC:TxC K):=((au (dS (aD (c:=gp) (aa (cv 0) (aa (cv 1) ac)))) (au (aB (aY (ix:=[ω,ω,ψ 0]) rfl (bM (aD (c:=dL) (aa (cv 1) ac))) (λfs hc=>(me (n:=2) (ck (bq 0 (gH hc (by decide))) (ck (bq 1 (gH hc (by decide))) iZ)))) bW (ak aW (ah (ak aW (ah (gD (ns0:=["pieces","kept","words","left","laps","total"]) TC.clφ TC.nφ_laps (i:=4) (by decide +kernel) (aC 2))) (aC 0))) (aC 1))) (cm 2 rfl)) (au (aB (ak aN (ah (zN (aC 2) (aK tU (aa (aC 2) ac)))) (bi 1)) (cm 3 rfl)) (aQ (aK cE (aa (ah (ak aN (ah (bG (aC 1) (bg (cH 3)) cg)) (ah (bG (aC 1) cg (bg (cH 3)))))) ac)))))):LS K [] _ _)
def AH:PTS:=psO sC
def AI:PRl hC AH 4 2:=λ_ Q h=>Iy h λc ns fs _ h=>AS h λds _ h=>f8 h λh=>FX rfl <| by
 k_in;obtain⟨rfl,rfl,ps,rfl,l,rfl,⟨hn,hw,hl⟩,q⟩:=h;obtain⟨l0,ln,nd,lx⟩:=CB hl;have g:(am ps).length<=40/\0<l.length/\l.length<=40/\l.Nodup/\∀x∈l,x<(am ps).length:=⟨hn,l0,by omega,nd,lx⟩
 have fx:=λx (h:x∈l)=>(xC (am ps)).lt x (lx x h);have g2:l.length<=60:=by omega
 have er:=CC hl;have jl:=Az (am ps) l;z_go;refine⟨by rw [cy,wo];omega,?_⟩;rw [er,Ms]
 refine cm2 (xs:=l) (e:=(λp:Nat×Nat=>D.tup [nD p.1,nD p.2]) ∘ λx=>(x,fA (am ps) x)) (λx=>.int (hW (am ps) x:Int)) (λx hx v w K1 k1=>?_) (λv w=>?_)
 .show zp 2 _ (.dat (.tup [.int (x:Int),.int (fA (am ps) x:Int)])) _ _;z_go;refine⟨_,Fy (lx x hx),?_⟩;z_go;refine⟨_,uu (fx x hx),?_⟩;exact k1 _ _
 rw [show l.map (λx=>D.int (hW (am ps) x:Int))=(joi (am ps) l).map .int by unfold joi;rw [Ms];rfl];have jn:joi (am ps) l≠[]:=λz=>by rw [z] at jl;simp at jl;omega
 z_go;intro m h1 h2;have em:=DB h1 h2;subst em
 have gi:(joi (am ps) l).length<=1000/\(∀n∈joi (am ps) l,n.natAbs<2^64)/\mnI (joi (am ps) l)∈joi (am ps) l:=⟨by omega,λz hz=>by
  obtain⟨x,hx,rfl⟩:=Mp.mp hz;have a:=hw _ (dY (lx x hx));have b:=hw _ (dY (fx x hx));have:=(mf a.1 b.1).1;unfold hW;omega,h1⟩
 unfold opn at q;generalize hc:(joi (am ps) l).idxOf (mnI (joi (am ps) l))=c at q;have c1:dO (l.map nD) (ψ ((c:Int)+1)) ω=(l.drop (c+1)).map nD:=by rw [map_drop];exact jx _ (c+1)
 have c2:dO (l.map nD) ω (ψ ((c:Int)+1))=(l.take (c+1)).map nD:=by rw [Qd];exact gL _ (c+1)
 have l1:((l.drop (c+1)).map nD).length<=40:=by rw [cy,MQ];omega
 have l2:((l.take (c+1)).map nD).length<=40:=by rw [cy,MG];omega
 have cI:(joi (am ps) l).length<2^64:=by omega
 have cl:c<=l.length:=by rw [<- hc,<- jl];exact idxOf_le_length
 refine⟨_,rfl,gi,?_⟩;rw [hc];z_go;rw [c1,c2];z_go;rw [D_] at q;exact q
noncomputable def mU(K:b_)(mg:Θ)(TC:TxC K):=((aQ (aK cE (aa (ah (vJ (ix:=[ω,ω,ψ 0]) rfl (bM (aD (c:=eT) (aa (cv 0) ac))) (λfs hc=>(bq 0 (gH hc (by decide)))) bW (bM (aD (c:=hC) (aa (cv 2) (aa (cv 0) ac)))) (λfs hc=>(bq 1 (gH hc (by decide)))) bW (cH 1))) ac))):LS K [] _ _)
def uF:PTS:=psO mU
def uG:PRl gq uF 1 1:=λ_ Q h=>Iy h λc ns fs _ h=>f8 h λh=>FX rfl <| by
 k_in;obtain⟨rfl,rfl,ps,rfl,g,q⟩:=h;have hL:∀l∈rgW (am ps),l∈rgW (am ps):=λ_ h=>h;have tot:=(ut (am ps) (rgW (am ps))).trans (lv (xC (am ps)));have tl:=tot.length_eq;rw [x_] at tl;have hw40:=g.1;z_go;rw [cy];generalize hLL:rgW (am ps)=L at *
 refine⟨⟨λk ys τ=>ys=(((L.take k).map (opn (am ps))).flatten).map nD/\∃v w,τ=[v,w,ψ (.dat (.obj "Family" nQ (nR ps)))],⟨rfl,_,_,rfl⟩,?_,?_⟩⟩
 .rintro k ys τ _ hk rfl ⟨rfl,v,w,rfl⟩;have eI:itD (L.map λl=>D.tup (l.map nD)) k=D.tup (L[k].map nD):=gP (by rw [h_,cx hk];rfl);have hm:L[k]∈L:=MB hk;have ek:L.take (k+1)=L.take k++[L[k]]:=by rw [NU,cx hk];rfl
  have bl:∀j,j<=L.length->(((L.take j).map (opn (am ps))).flatten).length<=40:=λj hj=>by
   have e:=congrArg (λM=>((M.map (opn (am ps))).flatten).length) (NN j L);simp only [D_,O9,kx] at e;omega
  have e3:((L.take (k+1)).map (opn (am ps))).flatten=((L.take k).map (opn (am ps))).flatten++opn (am ps) L[k]:=by rw [ek,D_,O9,so,P2,MM,flatten_nil,Mr]
  have b1:=bl (k+1) hk;rw [ek,D_,O9,kx,so,P2,MM,flatten_nil,Mr] at b1;rw [eI];have g2:(am ps).length<=40/\(∀w∈am ps,0<w.length/\w.length<=10000)/\L[k]∈rgW (am ps):=⟨g.1,g.2,by rw [hLL];exact hm⟩
  z_go
  refine⟨λj zs τ=>zs=(((L.take k).map (opn (am ps))).flatten++(opn (am ps) L[k]).take j).map nD/\∃w,τ=[ψ (.dat (.tup (L[k].map nD))),w,ψ (.dat (.obj "Family" nQ (nR ps)))],⟨by rw [Qb,Mr],_,rfl⟩,?_,?_⟩
  .rintro j zs τ _ hj rfl ⟨rfl,w,rfl⟩;rw [cy] at hj;have eJ:itD ((opn (am ps) L[k]).map nD) j=nD (opn (am ps) L[k])[j]:=gP (by rw [h_,cx hj];rfl);rw [eJ];z_go;refine⟨by rw [cy,kx,MG];omega,?_,_,rfl⟩;rw [NU,cx hj,<- M0,D_ (l₁:=_++_)];rfl
  .rintro zs τ ⟨rfl,w,rfl⟩;refine⟨?_,_,_,rfl⟩;rw [cy,M5,e3]
 .rintro ys τ ⟨rfl,v,w,rfl⟩;rw [M5];z_go;exact q
noncomputable def DF(K:b_)(mg:Θ)(TC:TxC K):=((au (cM (Kc (aa (ah (ak jD (ah (aK y9 (aa (ah (aK aT (aa (aC 0) ac))) (aa (ah (aK aT (aa (aC 1) ac))) ac)))) (bi 1))) (aa (bi 0) (aa (ah (wY oX (bi 1))) ac)))) (bq 2 rfl) (dr (vB (HG EN (cH 0) (aa (ah (bG (aC 1) cg (bg (cH 2)))) ac))) (aQ (cH 2)) bh)) (aQ (Cj 0))):LS K [] _ _)
def I0:PTS:=psO DF
def Ja:PRl sj I0 3 2:=λ_ Q h=>Ac h λa _ h=>Ac h λb _ h=>f8 h λh=>FX rfl <| by
 k_in;obtain⟨⟨a0,a1⟩,⟨b0,b1⟩,q⟩:=h;have hm:(if (b.length:Int)<(a.length:Int) then (b.length:Int) else (a.length:Int))=((min a.length b.length:Nat):Int):=by split <;> omega
 z_go
 refine⟨λi ρ=>(∃v2:Option PV,ρ=[ψ (.dat (.str a)),ψ (.dat (.str b)),v2])/\∀j,min a.length b.length - i<=j->j<min a.length b.length->¬ b.take j <:+ a,⟨⟨_,rfl⟩,λj h1 h2=>by omega⟩,?_,?_⟩
 .rintro i ρ d hi ed ⟨⟨v2,rfl⟩,ih⟩;have hi:i<(((if (b.length:Int)<(a.length:Int) then (b.length:Int) else (a.length:Int)) - 1) - 0).toNat:=hi;have ed:d=.int (((if (b.length:Int)<(a.length:Int) then (b.length:Int) else (a.length:Int)) - 1) - (i:Int)):=ed;rw [hm] at hi ed;obtain⟨k,hk,hk2⟩:∃k:Nat,(((min a.length b.length:Nat):Int) - 1) - (i:Int)=(k:Int)/\k=min a.length b.length - 1 - i:=⟨min a.length b.length - 1 - i,by omega,rfl⟩
  rw [hk] at ed;subst ed;z_go;rw [gL]
  refine eB (λc=>?_) (λc=>?_)
  .z_go
   rw [show eG a b=k from ua ⟨by omega,c,λj h1 h2=>by
    rcases lt_or_ge k j with h|h
    .exact absurd h2 (ih j ⋯ h1)
    .exact h⟩] at q
   exact q
  .refine⟨⟨_,rfl⟩,λj h1 h2=>?_⟩
   by_cases hj:j=k
   .rw [hj];exact c
   .exact ih j ⋯ h2
 .rintro ρ ⟨⟨v2,rfl⟩,ih⟩;rw [hm] at ih;z_go
  rw [show eG a b=0 from ua ⟨by omega,by rw [Qb];exact nil_suffix,λj h1 h2=>by
   rcases eq_zero_or_pos j with h|h
   .omega
   .exact absurd h2 (ih j ⋯ h1)⟩] at q
  exact q
noncomputable def mW(K:b_)(mg:Θ)(TC:TxC K):=((aQ (aK cE (aa (ah (aY (ix:=[ω,ψ 0]) rfl (bM (cH 0)) (λfs hc=>(bq 0 (gH hc (by decide)))) bW (aK cE (aa (ah (aY (ix:=[ω,ψ 0]) rfl (bM (cH 1)) (λfs hc=>(bq 0 (gH hc (by decide)))) bW (aD (c:=sj) (aa (cv 1) (aa (cv 0) ac))))) ac)))) ac))):LS K [] _ _)
def uH:PTS:=psO mW
def uI:PRl gu uH 1 1:=λ_ Q h=>AS h λds _ h=>f8 h λh=>FX rfl <| by
 k_in;obtain⟨ws,rfl,⟨hn,hw⟩,q⟩:=h;have hlm:(ws.map D.str).length=ws.length:=cy _
 have rr:∀f:Δ->D,(g_ (ws.map D.str).length).map (λk=>f (pw ws k))=ws.map f:=λf=>by
  rw [hlm];apply NA;intro k;rw [h_,h_]
  by_cases hk:k<ws.length
  .rw [Mj hk,fb hk];rfl
  .rw [C_ (by rw [x_];omega),C_ ⋯];rfl
 z_go
 refine xh (λτ=>∃v,τ=[v,ψ (.dat (.tup (ws.map .str)))]) (λk=>.tup (ws.map λv=>.int (eG (pw ws k) v:Int))) ?_ ?_ ?_
 .exact⟨_,rfl⟩
 .rintro k τ d hk ed ⟨v,rfl⟩ K1 k1;rw [i4 hk] at ed;subst ed;have w1:=hw _ (dY (show k<ws.length by omega));z_go
  refine xh (λτ=>∃v,τ=[v,ψ (.dat (.str (pw ws k)))]) (λj=>.int (eG (pw ws k) (pw ws j):Int)) ?_ ?_ ?_
  .exact⟨_,rfl⟩
  .rintro j τ d hj ed ⟨v,rfl⟩ K2 k2;rw [i4 hj] at ed;subst ed;have w2:=hw _ (dY (show j<ws.length by omega));z_go;exact k2 _ ⟨_,rfl⟩
  .rintro τ ⟨v,rfl⟩;rw [rr (λw=>D.int (eG (pw ws k) w:Int))];z_go;exact k1 _ ⟨_,rfl⟩
 .rintro τ ⟨v,rfl⟩;rw [rr (λw=>D.tup (ws.map λv=>.int (eG w v:Int)))];z_go;exact q
noncomputable def ic(K:b_)(mg:Θ)(TC:TxC K):=((au (dr (fJ (ak lW (ah (aK aT (aa (aC 0) ac))) (bi 40))) lm bh) (cM (tT (aa (cv 0) ac)) (me (n:=2) (ck (bq 1 rfl) (ck (bq 2 rfl) iZ))) (dr (iE (vB (BM (c:=fP) (vs0:=[]) (ds:=[]) (by repeat (first|exact .nil|exact .cons (.int _) .nil|refine .cons (.int _) ?_)) (aa (cv 2) (aa (bi 1) (aa (bi 60) ac)))))) lm bh))):LS K [] _ _)
def mX:PTS:=psO ic
def mY:PRl dy mX 3 1:=λ_ Q h=>AQ h λd _ h=>f8 h λh=>FX rfl <| by
 k_in;obtain⟨ws,hd,⟨hn,hp⟩,q⟩:=h;have hlm:(ws.map D.str).length=ws.length:=cy _
 rcases hd with rfl|rfl
 .z_go
  refine⟨λk ρ=>∃v1 v2:Option PV,ρ=[ψ (.dat (.lst (ws.map .str))),v1,v2],⟨_,_,rfl⟩,?_,?_⟩
  .rintro k ρ d hk ed ⟨v1,v2,rfl⟩;have ed:d=.tup [.int k,itD (ws.map D.str) k]:=ed;rw [i4 hk] at ed;subst ed;have hw:=hp _ (dY (show k<ws.length by omega));have ht:BN (.str (pw ws k)) 1 60=true:=zf.mpr hw;have h1:(pw ws k).length<=1000000:=by have:=hw.2.1;omega
   z_go;refine Er ht ?_;exact⟨_,_,rfl⟩
  .rintro ρ ⟨v1,v2,rfl⟩;exact q
 .z_go
  refine⟨λk ρ=>∃v1 v2:Option PV,ρ=[ψ (.dat (.tup (ws.map .str))),v1,v2],⟨_,_,rfl⟩,?_,?_⟩
  .rintro k ρ d hk ed ⟨v1,v2,rfl⟩;have ed:d=.tup [.int k,itD (ws.map D.str) k]:=ed;rw [i4 hk] at ed;subst ed;have hw:=hp _ (dY (show k<ws.length by omega));have ht:BN (.str (pw ws k)) 1 60=true:=zf.mpr hw;have h1:(pw ws k).length<=1000000:=by have:=hw.2.1;omega
   z_go;refine Er ht ?_;exact⟨_,_,rfl⟩
  .rintro ρ ⟨v1,v2,rfl⟩;exact q
noncomputable def gF(K:b_)(mg:Θ)(TC:TxC K):=((aQ (ak w6 (ah (aD (c:=dI) (aa (cv 1) (aa (cv 0) ac)))) (bi 0))):LS K [] _ _)
def k7:PTS:=psO gF
def k8:PRl bR k7 2 2:=λ_ Q h=>Ac h λa _ h=>Ac h λb _ h=>f8 h λh=>FX rfl <| by
 k_in;z_go;exact h
noncomputable def pE(K:b_)(mg:Θ)(TC:TxC K):=((au (aB (ak aW (aC 0) (aC 1)) (cm 2 rfl)) (au (aB (aY (ix:=[ω,ψ 2]) rfl (bM (cH 0)) (λfs hc=>(bq 0 (gH hc (by decide)))) (fJ (ak lW (ah (aK aT (aa (aC 0) ac))) (ah (aK aT (aa (aC 1) ac))))) (cH 0)) (cm 3 rfl)) (aQ (oU (ak (rN (neg:=η)) (aC 2) (ah (bG (aC 0) cg (bg (cH 1))))) (yY (aK HB (aa (ah (aY (ix:=[ω,ψ 2]) rfl (bM (cH 3)) (λfs hc=>(bq 0 (gH hc (by decide)))) bW (aD (c:=bR) (aa (cv 1) (aa (cv 0) ac))))) ac))))))):LS K [] _ _)
def xH:PTS:=psO pE
def xI:PRl fR xH 4 2:=λ_ Q h=>AS h λds _ h=>rZ h λi _ h=>f8 h λh=>FX rfl <| by
 k_in;obtain⟨ws,rfl,⟨hn,hw⟩,hi,q⟩:=h;obtain⟨k,rfl⟩:∃k:Nat,i=(k:Int):=⟨i.toNat,by omega⟩
 have hk:k<ws.length:=by omega
 have hlm:(ws.map D.str).length=ws.length:=cy _;have w1:=hw _ (dY hk);z_go;refine⟨_,dW hk rfl,?_⟩;z_go
 refine cfm (λτ=>∃v,τ=[v,ψ (.dat (.str (pw ws k)))]) (λj=>if (pw ws k).length<(pw ws j).length then ψ (.str (pw ws j)) else ω) ?_ ?_ ?_
 .exact⟨_,rfl⟩
 .rintro j τ d hj ed ⟨v,rfl⟩ K1 K2 k1 k2;rw [i4 hj] at ed;subst ed;have w2:=hw _ (dY (show j<ws.length by omega));z_go
  refine eB (λc=>?_) (λc=>?_)
  .z_go;exact k1 _ _ (by rw [if_pos ⋯]) ⟨_,rfl⟩
  .exact k2 _ (by rw [if_neg ⋯]) ⟨_,rfl⟩
 .rintro τ ⟨v,rfl⟩
  have e1:(g_ (ws.map D.str).length).filterMap (λj=>if (pw ws k).length<(pw ws j).length then ψ (D.str (pw ws j)) else ω)=(ws.filter λo=>decide ((pw ws k).length<o.length)).map D.str:=by
   rw [hlm,BY (λw=>if (pw ws k).length<w.length then ψ (D.str w) else ω) ws,<- eM];congr 1;funext w
   by_cases h:(pw ws k).length<w.length
   .rw [if_pos h,if_pos (decide_eq_true h)]
   .rw [if_neg h,if_neg (by rw [decide_eq_false h];decide)]
  rw [e1];have hll:(ws.filter λo=>decide ((pw ws k).length<o.length)).length<=ws.length:=NM ..;generalize hL:(ws.filter λo=>decide ((pw ws k).length<o.length))=ls at hll ⊢;have hlm2:(ls.map D.str).length=ls.length:=cy _;have c1:dO (ws.map D.str) ω (ψ (k:Int))=(ws.take k).map D.str:=by rw [gL,Qd]
  have hfl:(dO (ws.map D.str) ω (ψ (k:Int))).all D.fl=true:=by rw [c1];exact zv _
  have hin:inD (.str (pw ws k)) (dO (ws.map D.str) ω (ψ (k:Int)))=decide (pw ws k∈ws.take k):=by rw [c1];exact qf _ _
  have hkb:eE ws k=(!inD (.str (pw ws k)) (dO (ws.map D.str) ω (ψ (k:Int))) && !ls.any λo=>gI (pw ws k) o):=by
   unfold eE;rw [hin,hL]
  rw [tj,hkb] at q;z_go
  refine tS (wX (λc=>?_) (λc=>?_))
  .z_go;have c:inD (.str (pw ws k)) (dO (ws.map D.str) ω (ψ (k:Int)))=true:=c;rw [c] at q;exact q
  .have c:inD (.str (pw ws k)) (dO (ws.map D.str) ω (ψ (k:Int)))=false:=c;rw [c,Bool.not_false,Bool.true_and] at q;z_go
   refine xh (λτ=>∃v,τ=[v,ψ (.dat (.str (pw ws k)))]) (λj=>.bl (gI (pw ws k) (pw ls j))) ?_ ?_ ?_
   .exact⟨_,rfl⟩
   .rintro j τ d hj ed ⟨v,rfl⟩ K1 k1;rw [i4 hj] at ed;subst ed;z_go;exact k1 _ ⟨_,rfl⟩
   .rintro τ ⟨v,rfl⟩;z_go
    refine⟨ls.map λo=>gI (pw ws k) o,?_,?_⟩
    .rw [hlm2,Ms]
     conv=>rhs;rw [<- zw ls,Ms]
     rfl
    .rw [show ((ls.map λo=>gI (pw ws k) o).any id)=ls.any (λo=>gI (pw ws k) o) by rw [any_map];rfl];z_go;exact q
noncomputable def mZ(K:b_)(mg:Θ)(TC:TxC K):=((au (aB (aK tU (aa (ah (aY (ix:=[ω,ψ 0,ψ 2]) rfl (bM (cH 1)) (λfs hc=>(bq 0 (gH hc (by decide)))) (vB (aD (c:=bR) (aa (ah (ak aW (aC 1) (aC 2))) (aa (ah (ak aW (aC 1) (aC 0))) ac)))) (cH 0))) ac)) (cm 3 rfl)) (aQ (rz (aa (cv 2) (aa (cv 3) (aa (ah (aD (c:=dI) (aa (ah (ak aW (aC 0) (aC 3))) (aa (ah (ak aW (aC 0) (aC 2))) ac)))) ac)))))):LS K [] _ _)
def uJ:PTS:=psO mZ
def uK:PRl eU uJ 4 3:=λ_ Q h=>AS h λds _ h=>AS h λks _ h=>rZ h λi _ h=>f8 h λh=>FX rfl <| by
 k_in;obtain⟨ws,rfl,rfl,⟨hn,hw⟩,hi,q⟩:=h;obtain⟨k,rfl⟩:∃k:Nat,i=(k:Int):=⟨i.toNat,by omega⟩
 have hk:k<ws.length:=by omega
 rw [tj] at q;have hkl:=j7 ws;have hkm:((br ws).map nD).length=(br ws).length:=cy _;z_go
 refine cfm (λτ=>∃v,τ=[v,ψ (.dat (.tup (ws.map .str))),ψ (.dat (.int (k:Int)))]) (λj=>if gI (pw ws k) (pw ws ((br ws).getD j 0))=η then ψ (nD ((br ws).getD j 0)) else ω) ?_ ?_ ?_
 .exact⟨_,rfl⟩
 .rintro j τ d hj ed ⟨v,rfl⟩ K1 K2 k1 k2;have hj2:(br ws).getD j 0<ws.length:=jK (Mc (by rw [e_,cx (show j<(br ws).length by omega)];rfl));rw [Dc hj] at ed;subst ed;generalize (br ws).getD j 0=z at hj2 k1 k2 ⊢;z_go;refine⟨_,dW hk rfl,?_⟩;z_go;refine⟨_,dW hj2 rfl,?_⟩;z_go
  cases hc:gI (pw ws k) (pw ws z) with
  | true=>z_go;exact k1 _ _ (by rw [if_pos hc];rfl) ⟨_,rfl⟩
  | false=>z_go;exact k2 _ (by rw [if_neg (by rw [hc];decide)]) ⟨_,rfl⟩
 .rintro τ ⟨v,rfl⟩
  have e1:(g_ ((br ws).map nD).length).filterMap (λj=>if gI (pw ws k) (pw ws ((br ws).getD j 0))=η then ψ (nD ((br ws).getD j 0)) else ω)=((mh ws k).map λj=>((j:Nat):Int)).map D.int:=by
   rw [hkm,BZ (λj=>if gI (pw ws k) (pw ws j)=η then ψ (nD j) else ω) (br ws),eM (λj=>gI (pw ws k) (pw ws j)) nD,Ms];rfl
  rw [e1];obtain⟨h0,hh0⟩:=xp hw hk;z_go;refine⟨by rw [cy];exact length_pos_of_mem hh0,λm hm hle=>?_⟩;obtain⟨z,hz,rfl⟩:=Mp.mp hm;have hz2:z<ws.length:=jK (Mq.mp hz).1;have hho:vL ws k=z:=zt hz λa ha=>by have:=hle _ (Od ha);omega
  z_go;refine⟨_,dW hz2 rfl,?_⟩;z_go;refine⟨_,dW hk rfl,?_⟩;z_go;unfold i5 at q;rw [hho] at q;exact q
noncomputable def iL:PTS:=(lX (C2 (rB dy (dk (pFz (yX 1)) iy))) (lX (l8 "Family" [] "pieces" 0 (pCB l5 (dk (pSl 1) iy))) (lX (Hj (HD ξ (dk (pFz (pCB EA (dk (pFz (zc "Family" ["pieces"] 0 (pSl 0))) iy))) iy)) (fK 2)) (lX (l8 "Family" ["pieces"] "kept" 0 (pCB l5 (dk (pFz (xc [ω,ψ 0] (xb (yX 2)) (fK 0) (pB (rB fR (dk (pFz (zc "Family" ["pieces"] 0 (pSl 1))) (dk (pFz (yX 0)) iy)))) (yX 0))) iy))) (lX (l8 "Family" ["pieces","kept"] "words" 0 (pCB l5 (dk (pFz (xc [ω,ψ 0] (xb (zc "Family" ["pieces","kept"] 1 (pSl 0))) (fK 0) AN (pOp fIx (pFz (zc "Family" ["pieces","kept"] 0 (pSl 1))) (pSl 0)))) iy))) (lX (l8 "Family" ["pieces","kept","words"] "left" 0 (pCB l5 (dk (pFz (xc [ω,ψ 0] (xb (yX 2)) (fK 0) (pB (pOp (Kw η) (pSl 0) (pFz (zc "Family" ["pieces","kept","words"] 1 (pSl 1))))) (rB eU (dk (pFz (zc "Family" ["pieces","kept","words"] 0 (pSl 1))) (dk (pFz (zc "Family" ["pieces","kept","words"] 1 (pSl 1))) (dk (pFz (yX 0)) iy)))))) iy))) (lX (l8 "Family" ["pieces","kept","words","left"] "laps" 0 (rB gu (dk (pFz (zc "Family" ["pieces","kept","words","left"] 2 (pSl 0))) iy))) (l8 "Family" ["pieces","kept","words","left","laps"] "total" 0 (pCB EJ (dk (pFz (xc [ω] (xb (zc "Family" ["pieces","kept","words","left","laps"] 2 (pSl 0))) (fK 0) AN (pCB EA (dk (pSl 0) iy)))) iy))))))))))
def fB:RRl cw iL 3 2:=λ_ _ Q h=>L6 h λh=>AQ h λd _ h=>f8 h λh=>FX rfl <| by
 k_in;obtain⟨ws,hd,⟨hn,hp⟩,q⟩:=h;have hlm:(ws.map D.str).length=ws.length:=cy _;have hkl:=j7 ws;have hkm:((br ws).map nD).length=(br ws).length:=cy _;have hrl:(sX 0 (((ws.map D.str).length:Nat):Int).toNat).length=ws.length:=by rw [qg];omega
 have hk1:ws.length<=1000/\∀w∈ws,w.length<=10000:=⟨by omega,λw hw=>by have:=(hp w hw).2.1;omega⟩
 have hk2:ws.length<=1000/\∀w∈ws,w.length<=60:=⟨by omega,λw hw=>(hp w hw).2.1⟩
 z_go;refine⟨ws,hd,⟨hn,hp⟩,?_⟩;z_go;refine IY hd ?_;z_go
 refine cfm (λτ=>∃v,τ=[v,ψ (.ins "Family" ["pieces"] [.tup (ws.map .str)])]) (λj=>if eE ws j=η then ψ (nD j) else ω) ?_ ?_ ?_
 .exact⟨_,rfl⟩
 .rintro j τ d hj ed ⟨v,rfl⟩ K1 K2 k1 k2;have hj2:j<ws.length:=by rw [qg] at hj;omega
  rw [zx hj] at ed;subst ed;z_go;rw [tj]
  cases hc:eE ws j with
  | true=>z_go;exact k1 _ _ (by rw [if_pos hc];rfl) ⟨_,rfl⟩
  | false=>z_go;exact k2 _ (by rw [if_neg (by rw [hc];decide)]) ⟨_,rfl⟩
 .rintro τ ⟨v,rfl⟩
  have e1:(g_ (sX 0 (((ws.map D.str).length:Nat):Int).toNat).length).filterMap (λj=>if eE ws j=η then ψ (nD j) else ω)=(br ws).map nD:=by
   rw [qg,hlm,tj,eM (eE ws) nD];rfl
  rw [e1];z_go
  refine xh (λτ=>∃v,τ=[v,ψ (.ins "Family" ["pieces","kept"] [.tup (ws.map .str),.tup ((br ws).map nD)])]) (λk=>.str (pw ws ((br ws).getD k 0))) ?_ ?_ ?_
  .exact⟨_,rfl⟩
  .rintro j τ d hj ed ⟨v,rfl⟩ K1 k1;have hj2:(br ws).getD j 0<ws.length:=jK (Mc (by rw [e_,cx (show j<(br ws).length by omega)];rfl));rw [Dc hj] at ed;subst ed;z_go;refine⟨_,dW hj2 rfl,?_⟩;z_go;exact k1 _ ⟨_,rfl⟩
  .rintro τ ⟨v,rfl⟩
   have e2:(g_ ((br ws).map nD).length).map (λk=>D.str (pw ws ((br ws).getD k 0)))=(am ws).map D.str:=by
    rw [hkm,i3 (λj=>D.str (pw ws j)) (br ws)];unfold am;rw [Ms];rfl
   rw [e2];have hwl:=o0 ws;have hwm:((am ws).map D.str).length=(am ws).length:=cy _;have hwp:=fL hp;have hwq:(am ws).length<=1000/\∀w∈am ws,0<w.length/\w.length<=10000:=⟨by omega,λw hw=>⟨(hwp w hw).1,by have:=(hwp w hw).2.1;omega⟩⟩
   have hfl:((br ws).map nD).all D.fl=true:=Kr _;z_go
   refine cfm (λτ=>∃v,τ=[v,ψ (.ins "Family" ["pieces","kept","words"] [.tup (ws.map .str),.tup ((br ws).map nD),.tup ((am ws).map .str)])]) (λj=>if (!decide (j∈br ws))=η then ψ (i5 ws j) else ω) ?_ ?_ ?_
   .exact⟨_,rfl⟩
   .rintro j τ d hj ed ⟨v,rfl⟩ K1 K2 k1 k2;have hj2:j<ws.length:=by omega
    rw [zx hj] at ed;subst ed;have hin:=zu j (br ws);z_go
    refine tS (wX (λc=>?_) (λc=>?_))
    .have c:inD (.int (j:Int)) ((br ws).map nD)=true:=c;rw [hin] at c;exact k2 _ (by rw [c];rfl) ⟨_,rfl⟩
    .have c:inD (.int (j:Int)) ((br ws).map nD)=false:=c;rw [hin] at c;z_go;rw [tj];exact k1 _ _ (by rw [c];rfl) ⟨_,rfl⟩
   .rintro τ ⟨v,rfl⟩
    have e3:(g_ (sX 0 (((ws.map D.str).length:Nat):Int).toNat).length).filterMap (λj=>if (!decide (j∈br ws))=η then ψ (i5 ws j) else ω)=(Db ws).map (i5 ws):=by
     rw [hrl,eM (λj=>!decide (j∈br ws)) (i5 ws)];rfl
    rw [e3];z_go
    refine xh (λτ=>∃v,τ=[v]) (λk=>.int ((pw (am ws) k).length:Int)) ?_ ?_ ?_
    .exact⟨_,rfl⟩
    .rintro j τ d hj ed ⟨v,rfl⟩ K1 k1;rw [i4 hj] at ed;subst ed;z_go;exact k1 _ ⟨_,rfl⟩
    .rintro τ ⟨v,rfl⟩
     have e4:(g_ ((am ws).map D.str).length).map (λk=>D.int ((pw (am ws) k).length:Int))=((am ws).map λw=>(w.length:Int)).map D.int:=by
      rw [hwm,Ms]
      conv=>rhs;rw [<- zw (am ws),Ms]
      rfl
     rw [e4];z_go;exact q
noncomputable def iM:PTS:=(BG (pCB EA (dk (pFz (zc "Family" ["pieces","kept","words","left","laps","total"] 2 (pSl 0))) iy)))
def fC:PRl bV iM 1 1:=λ_ Q h=>Iy h λc ns fs _ h=>f8 h λh=>FX rfl <| by
 k_in;obtain⟨rfl,rfl,ws,rfl,q⟩:=h;z_go;rw [cy];exact q
noncomputable def m5(K:b_)(mg:Θ)(TC:TxC K):=((au (aB (ak aN (ah (aK tV (aa (aC 0) ac))) (ah (ak iF (ah (dq (aa (bi 0) ac))) (ah (aK zh (aa (ah (ak fc (ah (aK aT (aa (aC 0) ac))) (bi 0))) ac)))))) (cm 2 rfl)) (au (aB (aY (ix:=[ω]) rfl (bM (cH 2)) (λfs hc=>(bq 0 (gH hc (by decide)))) bW (ak iF (aC 0) (ah (aK zh (aa (ah (ak w6 (aC 0) (ah (ak lV (bi 10) (bi 18))))) ac))))) (cm 3 rfl)) (au (aB (dq ac) (cm 4 rfl)) (au (cM (iA (aa (cv 1) ac)) (bq 5 rfl) (au (aB (ak bO (aC 5) (ah (aK aT (aa (aC 2) ac)))) (cm 6 rfl)) (au (aB (ak aN (ah (ak iF (ah (ak bO (ah (ak aN (ah (ak aN (ah (ak aW (aC 2) (aC 6))) (ah (ak iF (ah (ak iF (aC 5) (aC 5))) (bi 16807))))) (ah (ak iF (bi 3) (aC 5))))) (bi 2147483629))) (ah (ak aW (ah (dq (aa (bi 48271) (aa (bi 69621) (aa (bi 39373) (aa (bi 16807) ac)))))) (ah (ak bO (aC 5) (bi 4))))))) (bi 7)) (cm 7 rfl)) (au (dS (l4 (i:=4) (ak aW (ah (dq (aa (ah (ak bO (ah (ak iF (aC 7) (aC 7))) (bi 2147483629))) (aa (ah (ak bO (ah (ak aW (aC 3) (aC 6))) (ah (ak lV (bi 10) (bi 18))))) ac)))) (ah (aK zh (aa (ah (ak md (ah (ak aW (aC 3) (aC 6))) (bi 0))) ac)))))) (y8 (i:=3) (ak B6 (ah (ak aW (aC 3) (aC 6))) (ah (ak lV (bi 10) (bi 18)))) (cH 6)))))) (aQ (xg (aC 4))))))):LS K [] _ _)
def uL:PTS:=psO m5
def uM:PRl ji uL 8 2:=λ_ Q h=>L5 h λns _ h=>rZ h λmo _ h=>f8 h λh=>FX rfl <| by
 k_in;obtain⟨⟨hn,h0,h1⟩,q⟩:=h;have hnm:(ns.map D.int).length=ns.length:=cy _;z_go
 obtain⟨cs,hcs,hc0,hc1⟩:∃cs:Λ,ns.map D.int++xT [D.int 0] (if decide ((ns.length:Int)=0)=η then 1 else 0)=cs.map D.int/\0<cs.length/\cs.length<=65:=by
  by_cases e:ns.length=0
  .refine⟨[0],?_,by decide,by decide⟩;rw [if_pos (decide_eq_true ⋯),MJ.mp e];rfl
  .refine⟨ns,?_,by omega,by omega⟩;rw [if_neg (λz=>e (by have:=of_decide_eq_true z;omega))];exact Mr _
 have hcm:(cs.map D.int).length=cs.length:=cy _;rw [<- kx,hcs,hcm];refine⟨by omega,?_⟩;z_go
 refine cm1 (λc:Int=>.int (c*(if decide (c >= 10^18)=η then 1 else 0))) (λc hc v K1 k1=>?_) (λv=>?_)
 .z_go;exact k1 _
 .z_go;have e3:cs.map (λc=>D.int (c*if decide (c >= 10^18)=η then 1 else 0))=(cs.map λc=>c*if decide (c >= 10^18)=η then 1 else 0).map D.int:=by rw [Ms];rfl
  rw [e3];generalize hrs:(cs.map λc=>c*if decide (c >= 10^18)=η then 1 else 0)=rs;have hrl:rs.length=cs.length:=by rw [<- hrs,cy]
  clear hrs e3
  refine⟨λk ρ=>∃(rs zs:Λ) (v5 v6 v7:Option PV),rs.length=cs.length/\Dk zs/\zs.length=k/\ρ=[ψ (.dat (.scr ns)),ψ (.dat (.int mo)),ψ (.dat (.lst (cs.map .int))),ψ (.own (rs.map .int)),ψ (.own (zs.map .int)),v5,v6,v7],⟨rs,[],_,_,_,hrl,(λx hx=>nomatch hx),rfl,rfl⟩,?_,?_⟩
  .rintro k ρ _ hk rfl ⟨rs,zs,v5,v6,v7,hrl,hz,hzl,rfl⟩;have hk:k<mo.toNat:=hk;have hrm:(rs.map D.int).length=rs.length:=cy _;have hzm:(zs.map D.int).length=zs.length:=cy _;obtain⟨j,hj⟩:∃j:Nat,(k:Int) % (cs.length:Int)=(j:Int):=⟨((k:Int) % (cs.length:Int)).toNat,by have:=NO (k:Int) (show (cs.length:Int)≠0 by omega);omega⟩
   have hj2:j<cs.length:=by have:=Nb (k:Int) (show 0<(cs.length:Int) by omega);omega
   obtain⟨i,hi,hi2⟩:∃i:Nat,(k:Int) % 4=(i:Int)/\i<4:=⟨((k:Int) % 4).toNat,by omega,by omega⟩
   obtain⟨f,ef,hf0,hf1⟩:∃f:Int,atI ([.int 48271,.int 69621,.int 39373,.int 16807]:List D) (i:Int)=ψ (.int f)/\0<=f/\f<=69621:=by
    rcases i with _|_|_|_|i
    .exact⟨_,rfl,by decide,by decide⟩
    .exact⟨_,rfl,by decide,by decide⟩
    .exact⟨_,rfl,by decide,by decide⟩
    .exact⟨_,rfl,by decide,by decide⟩
    .omega
   have ec:atI (cs.map D.int) (j:Int)=ψ (.int cs[j]):=gA (j:=j) (by rw [h_,cx hj2];rfl) rfl;have er:atI (rs.map D.int) (j:Int)=ψ (.int (rs[j]'⋯)):=gA (j:=j) (by rw [h_,cx ⋯];rfl) rfl;generalize rs[j]'⋯=r at er;z_go;rw [hcm,hj];z_go;refine⟨_,ec,?_⟩;z_go;rw [hi];refine⟨_,ef,?_⟩;have hb:∀a:Int,0<=a % 2147483629*f+7/\a % 2147483629*f+7<=2147483629*69621+7:=λa=>⟨by have:=mul_nonneg (NO a (show (2147483629:Int)≠0 by decide)) hf0;omega,by have:=Int.mul_le_mul (Q3 (Nb a (show (0:Int)<2147483629 by decide))) hf1 hf0 (by decide);omega⟩
   have hb:=hb (cs[j]+(k:Int)*(k:Int)*16807+3*(k:Int));have p18:(0:Int)<10^Nl 18:=by decide
   have p18b:(10:Int)^Nl 18<18446744073709551616:=by decide
   have q18:((10:Int)^Nl 18)=1000000000000000000:=by decide
   z_go;generalize (cs[j]+(k:Int)*(k:Int)*16807+3*(k:Int)) % 2147483629*f+7=x at hb;refine⟨_,er,?_⟩;z_go;refine⟨_,er,?_⟩;z_go
   have fin:∀z:Int,0<=z->z<1000000000000000000->∃(rs' zs':Λ) (v5 v6 v7:Option PV),rs'.length=cs.length/\Dk zs'/\zs'.length=k+1/\[ψ (.dat (.scr ns)),ψ (.dat (.int mo)),ψ (.dat (.lst (cs.map .int))),ψ (.own ((rs.map D.int).set j (.int (r / 10^Nl 18)))),ψ (.own (zs.map D.int++[.int z])),ψ (.dat (.int (k:Int))),ψ (.dat (.int (j:Int))),ψ (.dat (.int x))]=[ψ (PV.dat (.scr ns)),ψ (.dat (.int mo)),ψ (.dat (.lst (cs.map .int))),ψ (.own (rs'.map .int)),ψ (.own (zs'.map .int)),v5,v6,v7]:=λz hz0 hz1=>by
    refine⟨rs.set j (r / 10^Nl 18),zs++[z],_,_,_,by rw [My];exact hrl,λy hy=>?_,by rw [kx,hzl];rfl,by rw [map_set,D_];rfl⟩
    rcases Mv.mp hy with w|w
    .exact hz y w
    .rw [u_.mp w];exact⟨hz0,hz1⟩
   obtain⟨z,ez,hz0,hz1⟩:∃z:Int,atI ([.int (x*x % 2147483629),.int (r % 10^Nl 18)]:List D) (if (!decide (r=0))=η then 1 else 0)=ψ (.int z)/\0<=z/\z<1000000000000000000:=by
    by_cases e:r=0
    .rw [decide_eq_true e];exact⟨x*x % 2147483629,rfl,NO _ (by decide),Int.lt_trans (Nb _ (by decide)) (by decide)⟩
    .rw [decide_eq_false e];exact⟨r % 10^Nl 18,rfl,NO _ (by decide),Int.lt_of_lt_of_le (Nb _ p18) (by rw [q18];decide)⟩
   refine⟨_,ez,?_⟩;z_go;refine⟨_,er,?_⟩;z_go;refine⟨j,?_,fin z hz0 hz1⟩;rw [hrm,hrl];exact E2 hj2
  .rintro ρ ⟨rs,zs,v5,v6,v7,hrl,hz,hzl,rfl⟩;z_go;rw [<- map_reverse];exact q _ (λx hx=>hz x (mem_reverse.mp hx)) (by rw [QR];exact hzl)
noncomputable def m7(K:b_)(mg:Θ)(TC:TxC K):=((aQ (Hs (i:=0))):LS K [0] _ _)
def uN:PTS:=psO m7
def uO:RRl aO uN 1 1:=λ_ _ Q h=>FU h λds h=>f8 h λh=>FX rfl <| by
 k_in;obtain⟨zs,rfl,⟨hz,h0,h1⟩,q⟩:=h;obtain⟨ys,z,rfl⟩:∃ys z,zs=ys++[z]:=⟨zs.dropLast,zs.getLast (ne_nil_of_length_pos h0),(dropLast_concat_getLast _).symm⟩
 have hm:((ys++[z]).map D.int)=ys.map D.int++[D.int z]:=by rw [D_];rfl
 have hl:(ys.map D.int++[D.int z]).length - 1=(ys.map D.int).length:=by rw [kx];rfl
 rw [hm];z_go;refine⟨.int z,by rw [hl,Nt (f_ _),sub_self];rfl,?_⟩;z_go;rw [dropLast_concat];have hzz:=hz z (r_ _ (u_.mpr rfl));exact q z ys hzz.1 hzz.2 (λx hx=>hz x (Mf _ hx)) (by rw [kx];rfl)
noncomputable def m8(K:b_)(mg:Θ)(TC:TxC K):=((au (cM (iA (aa (cv 2) ac)) (bq 3 rfl) (dr (fJ (ak md (ah (ak aW (aC 0) (ah (ak aN (ah (ak jD (ah (aK aT (aa (aC 0) ac))) (aC 2))) (aC 3))))) (ah (ak aW (aC 1) (aC 3))))) (aQ (nL (i:=ξ))) bh)) (aQ (nL (i:=η)))):LS K [] _ _)
def uP:PTS:=psO m8
def uQ:PRl jj uP 4 3:=λ_ Q h=>Ac h λa _ h=>Ac h λb _ h=>rZ h λk _ h=>f8 h λh=>FX rfl <| by
 k_in;obtain⟨n,rfl,⟨⟨ha,ha1⟩,hb,hb1⟩,q⟩:=h;z_go;rw [tj]
 refine⟨λi ρ=>(∃v3:Option PV,ρ=[ψ (.dat (.str a)),ψ (.dat (.str b)),ψ (.dat (.int (n:Int))),v3])/\∀j,j<i->a.getD (a.length - n+j) 0=b.getD j 0,⟨⟨_,rfl⟩,λj hj=>absurd hj (NC _)⟩,?_,?_⟩
 .rintro i ρ _ hi rfl ⟨⟨v3,rfl⟩,ih⟩;have h1:a.length - n+i<a.length:=by omega
  have h2:i<b.length:=by omega
  z_go;refine⟨_,gA (j:=a.length - n+i) (cx h1) ⋯,?_⟩;z_go;refine⟨_,gA (j:=i) (cx h2) rfl,?_⟩;z_go;have g1:a.getD (a.length - n+i) 0=a[a.length - n+i]:=by rw [e_,cx h1];rfl
  have g2:b.getD i 0=b[i]:=by rw [e_,cx h2];rfl
  refine tQ (λc=>?_) (λc=>?_)
  .z_go;rw [decide_eq_false (λz=>c (by rw [<- g1,<- g2,(AA ha hb).mp z i hi]))] at q;exact q
  .refine⟨⟨_,rfl⟩,λj hj=>?_⟩
   by_cases e:j<i
   .exact ih j e
   .rw [show j=i by omega,g1,g2];exact singleton_inj.mp c
 .rintro ρ ⟨⟨v3,rfl⟩,ih⟩;z_go;rw [decide_eq_true ((AA ha hb).mpr ih)] at q;exact q
noncomputable def pF(K:b_)(mg:Θ)(TC:TxC K):=((au (cM (Ke (aa (ah (aK y9 (aa (ah (aK aT (aa (aC 0) ac))) (aa (ah (aK aT (aa (aC 1) ac))) ac)))) ac)) (bq 2 rfl) (dr (vB (aD (c:=jj) (aa (cv 0) (aa (cv 1) (aa (cv 2) ac))))) (aQ (cH 2)) bh)) (aQ (Cj 0))):LS K [] _ _)
def xJ:PTS:=psO pF
def xK:PRl dF xJ 3 2:=λ_ Q h=>Ac h λa _ h=>Ac h λb _ h=>f8 h λh=>FX rfl <| by
 k_in;obtain⟨⟨a0,a1⟩,⟨b0,b1⟩,q⟩:=h;have hm:(if (b.length:Int)<(a.length:Int) then (b.length:Int) else (a.length:Int))=((min a.length b.length:Nat):Int):=by split <;> omega
 z_go;rw [hm,tj]
 refine⟨λi ρ=>(∃v2:Option PV,ρ=[ψ (.dat (.str a)),ψ (.dat (.str b)),v2])/\∀j,min a.length b.length - i<=j->j<min a.length b.length->¬ b.take j <:+ a,⟨⟨_,rfl⟩,λj h1 h2=>by omega⟩,?_,?_⟩
 .rintro i ρ d hi ed ⟨⟨v2,rfl⟩,ih⟩;obtain⟨k,hk,hk2⟩:∃k:Nat,(((min a.length b.length:Nat):Int) - 1) - (i:Int)=(k:Int)/\k=min a.length b.length - 1 - i:=⟨min a.length b.length - 1 - i,by omega,rfl⟩
  rw [hk] at ed;subst ed;have gf:(k<=a.length/\a.length<=10000)/\k<=b.length/\b.length<=10000:=⟨⟨by omega,a1⟩,by omega,b1⟩
  z_go
  refine eB (λc=>?_) (λc=>?_)
  .z_go
   rw [show eG a b=k from ua ⟨by omega,c,λj h1 h2=>by
    rcases lt_or_ge k j with h|h
    .exact absurd h2 (ih j ⋯ h1)
    .exact h⟩] at q
   exact q
  .refine⟨⟨_,rfl⟩,λj h1 h2=>?_⟩
   by_cases hj:j=k
   .rw [hj];exact c
   .exact ih j ⋯ h2
 .rintro ρ ⟨⟨v2,rfl⟩,ih⟩;exact absurd (show b.take 0 <:+ a by rw [Qb];exact nil_suffix) (ih 0 ⋯ ⋯)
noncomputable def m9(K:b_)(mg:Θ)(TC:TxC K):=((au (aB (dq ac) (cm 1 rfl)) (au (cM (iA (aa (ah (aK aT (aa (aC 0) ac))) ac)) (bq 2 rfl) (au (aB (aY (ix:=[ω,ψ 0,ψ 2]) rfl (bM (cH 0)) (λfs hc=>(bq 0 (gH hc (by decide)))) (oS (fJ (ak lW (ah (aK aT (aa (aC 0) ac))) (ah (aK aT (aa (ah (ak aW (aC 1) (aC 2))) ac))))) (fJ (ak (rN (neg:=ξ)) (ah (ak aW (aC 1) (aC 2))) (aC 0)))) (cH 0)) (cm 3 rfl)) (dr (oS (fJ (ak fc (aC 3) (ah (dq ac)))) (fJ (ak (rN (neg:=η)) (ah (ak aW (aC 0) (aC 2))) (ah (bG (aC 0) cg (bg (cH 2))))))) (dS (l4 (i:=1) (ak aW (aC 0) (aC 2)))) bh))) (aQ (cH 1)))):LS K [] _ _)
def uR:PTS:=psO m9
def uS:PRl jk uR 4 1:=λ_ Q h=>AR h λds _ h=>f8 h λh=>FX rfl <| by
 k_in;obtain⟨ps,rfl,⟨hn,hw⟩,q⟩:=h;have hlm:(ps.map D.str).length=ps.length:=cy _;z_go;rw [tj,hlm]
 refine⟨λk ρ=>∃v2 v3:Option PV,ρ=[ψ (.dat (.lst (ps.map .str))),ψ (.own ((((g_ k).filter (eE ps)).map (pw ps)).map .str)),v2,v3],⟨_,_,rfl⟩,?_,?_⟩
 .rintro k ρ _ hk rfl ⟨v2,v3,rfl⟩;have hpm:=dY hk;obtain⟨hpl,hpL⟩:=hw _ hpm;have hat:atI (ps.map D.str) (k:Int)=ψ (.str (pw ps k)):=dW hk rfl
  have hml:((((g_ k).filter (eE ps)).map (pw ps)).map D.str).length<=40:=by
   rw [cy,cy];refine Mn (NM ..) ?_;rw [x_];omega
  z_go
  refine cf1 (λo=>decide ((pw ps k).length<o.length) && gI (pw ps k) o) (λo=>.str o) (λo ho v K1 K2 k1 k2=>?_) (λv=>?_)
  .z_go;refine⟨_,hat,?_⟩;z_go
   refine eB (λc=>?_) (λc=>?_)
   .z_go;refine⟨_,hat,?_⟩;z_go
    cases hs:gI (pw ps k) o with
    | true=>exact k1 _ (by rw [decide_eq_true (by omega:(pw ps k).length<o.length)];exact hs)
    | false=>exact k2 _ (by rw [hs,PN])
   .exact k2 _ (by rw [decide_eq_false (by omega:¬ (pw ps k).length<o.length),PJ])
  .have c1:dO (ps.map D.str) ω (ψ (k:Int))=(ps.take k).map D.str:=by rw [gL,Qd]
   have hfl:(dO (ps.map D.str) ω (ψ (k:Int))).all D.fl=true:=by rw [c1];exact zv _
   have hin:inD (.str (pw ps k)) (dO (ps.map D.str) ω (ψ (k:Int)))=decide (pw ps k∈ps.take k):=by rw [c1];exact qf _ _
   have eF:=uw (ws:=ps.filter λo=>decide ((pw ps k).length<o.length) && gI (pw ps k) o) λw h=>(hw w (Mq.mp h).1).2;have eD:=sm (ps.filter λo=>decide ((pw ps k).length<o.length) && gI (pw ps k) o);have hkb:=Fz (ps:=ps) (k:=k)
   have hrs:((g_ (k+1)).filter (eE ps)).map (pw ps)=((g_ k).filter (eE ps)).map (pw ps)++(if eE ps k=η then [pw ps k] else []):=by
    rw [range_succ,filter_append,D_];congr 1;rw [Oc];split <;> rfl
   rw [hrs];generalize ((g_ k).filter (eE ps)).map (pw ps)=ks at hml ⊢;have hk1:(ks.map D.str).length<=40:=hml;z_go;rw [eD]
   refine eB (λc=>?_) (λc=>?_)
   .z_go;refine⟨_,hat,?_⟩;z_go;rw [hin]
    refine tS (wX (λc2=>?_) (λc2=>?_))
    .z_go;have e:eE ps k=false:=by rw [hkb,c2,Bool.not_true,PN]
     exact⟨_,_,by rw [e,if_neg (by decide),Mr]⟩
    .z_go;refine⟨_,hat,?_⟩;z_go;have e:eE ps k=true:=by rw [hkb,c2,decide_eq_true c];rfl
     exact⟨_,_,by rw [e,if_pos rfl,D_];rfl⟩
   .z_go;have e:eE ps k=false:=by rw [hkb,decide_eq_false c,PJ]
    exact⟨_,_,by rw [e,if_neg (by decide),Mr]⟩
 .rintro ρ ⟨v2,v3,rfl⟩;z_go;exact q
noncomputable def iN(K:b_)(mg:Θ)(TC:TxC K):=((au (aB (le_str (l:=[])) (cm 2 rfl)) (au (jE (oS (fJ (ak lW (aC 0) (bi 0))) (fJ (ak Ew (ah (aK aT (aa (aC 2) ac))) (bi 9)))) (au (aB (ak aN (aC 2) (ah (ak aW (aC 1) (ah (ak bO (aC 0) (ah (aK aT (aa (aC 1) ac)))))))) (cm 2 rfl)) (aB (ak fY (aC 0) (ah (aK aT (aa (aC 1) ac)))) (cm 0 rfl)))) (aQ (cH 2)))):LS K [] _ _)
def n8:PTS:=psO iN
def n9:PRl cA n8 3 2:=λ_ Q h=>rZ h λz _ h=>Ac h λls _ h=>f8 h λh=>FX rfl <| by
 k_in;obtain⟨⟨hz,hl0,hl1⟩,q⟩:=h;z_go;refine⟨λm ρ=>∃(w:Δ) (r:Int),w.length<=9/\(∀c∈w,c∈ls)/\0<=r/\((0<w.length\/r=z)/\z<(r+1)*(ls.length:Int)^w.length)/\m=9 - w.length/\ρ=[ψ (.dat (.int r)),ψ (.dat (.str ls)),ψ (.dat (.str w))],⟨_,[],z,by decide,(λc hc=>nomatch hc),hz,⟨.inr rfl,by show z<(z+1)*1;omega⟩,rfl,rfl⟩,?_⟩;rintro m ρ ⟨w,r,hw,hc,hr,⟨hp,hz2⟩,hm,rfl⟩;z_go
 refine eB (λc1=>?_) (λc1=>?_)
 .z_go
  refine eB (λc2=>?_) (λc2=>?_)
  .obtain⟨j,hj⟩:∃j:Nat,r % (ls.length:Int)=(j:Int):=⟨(r % (ls.length:Int)).toNat,by have:=NO r (show (ls.length:Int)≠0 by omega);omega⟩
   have hj2:j<ls.length:=by have:=Nb r (show 0<(ls.length:Int) by omega);omega
   have hdv:0<=r / (ls.length:Int):=ediv_nonneg hr ⋯;z_go;rw [hj];refine⟨_,gA (j:=j) (cx hj2) rfl,?_⟩;z_go
   refine⟨_,?_,w++[ls[j]],r / (ls.length:Int),?_,λc hx=>?_,hdv,⟨.inl ?_,?_⟩,rfl,rfl⟩
   .rw [kx];show 9 - (w.length+1)<m;omega
   .rw [kx];show w.length+1<=9;omega
   .rcases Mv.mp hx with x|x
    .exact hc c x
    .rw [u_.mp x];exact MB hj2
   .rw [kx];exact succ_pos _
   .rw [kx];show z<(r / (ls.length:Int)+1)*(ls.length:Int)^(w.length+1);rw [Int.pow_succ,Int.mul_comm ((ls.length:Int)^w.length),<- mul_assoc];have h1:=lt_ediv_add_one_mul_self r (show (0:Int)<ls.length by omega);exact Int.lt_of_lt_of_le hz2 (mul_le_mul_of_nonneg_right ⋯ (Q3 (pow_pos ⋯)))
  .z_go;exact q w hw hc (λa=>by omega) (λ_ _=>by omega)
 .z_go;exact q w hw hc (λa=>by omega) (λa b=>FA hw a b (by rw [show r=0 by omega] at hz2;omega))
noncomputable def kF(K:b_)(mg:Θ)(TC:TxC K):=((au (aB (ak aW (ah (dq (aa (ah (le_str (l:=[97,98]))) (aa (ah (le_str (l:=[97,98]))) (aa (ah (le_str (l:=[97,98,99]))) (aa (ah (le_str (l:=[120,121,122,97,98]))) ac)))))) (ah (ak bO (ah (bv (c:=aO) (i:=0) ac)) (bi 4)))) (cm 2 rfl)) (au (aB (aD (c:=cA) (aa (ah (ak aN (ah (bv (c:=aO) (i:=0) ac)) (ah (ak lV (bi 10) (bi 9))))) (aa (cv 2) ac))) (cm 3 rfl)) (au (aB (ak aN (aC 3) (ah (aD (c:=cA) (aa (ah (ak aN (ah (bv (c:=aO) (i:=0) ac)) (ah (ak lV (bi 10) (bi 9))))) (aa (cv 2) ac))))) (cm 3 rfl)) (au (aB (dq ac) (cm 4 rfl)) (au (cM (iA (aa (ah (ak aN (bi 1) (ah (ak bO (ah (bv (c:=aO) (i:=0) ac)) (aC 1))))) ac)) (bq 5 rfl) (au (aB (bv (c:=aO) (i:=0) ac) (cm 6 rfl)) (au (aB (ak bO (aC 6) (bi 12)) (cm 7 rfl)) (au (aB (bG (aC 3) (bg (cH 7)) (bg (ak aN (ah (ak aN (aC 7) (bi 1))) (ah (ak bO (ah (ak fY (aC 6) (bi 12))) (bi 7)))))) (cm 8 rfl)) (au (fZ (dr (fJ (ak fc (ah (ak bO (ah (ak fY (aC 6) (bi 84))) (bi 5))) (bi 0))) (aB (aD (c:=cA) (aa (ah (ak aN (ah (ak bO (ah (ak fY (aC 6) (bi 420))) (ah (ak lV (bi 10) (bi 4))))) (bi 1))) (aa (cv 2) ac))) (cm 8 rfl)) bh)) (au (fZ (dr (fJ (ak fc (ah (ak bO (ah (ak fY (aC 6) (bi 84))) (bi 5))) (bi 1))) (aB (bG (ah (ak iF (ah (bG (aC 3) (bg (cH 7)) (bg (ak aN (ah (ak aN (aC 7) (bi 1))) (ah (ak bO (ah (ak fY (aC 6) (bi 12))) (bi 3))))))) (bi 9))) cg (bg (ak aN (bi 2) (ah (ak bO (ah (ak fY (aC 6) (bi 36))) (bi 8)))))) (cm 8 rfl)) bh)) (au (fZ (dr (fJ (ak fc (ah (ak bO (ah (ak fY (aC 6) (bi 84))) (bi 15))) (bi 2))) (aB (bG (ah (ak iF (ah (bG (aC 3) (bg (cH 7)) (bg (ak aN (aC 7) (bi 2))))) (bi 30))) cg (bg (Cj 60))) (cm 8 rfl)) bh)) (dS (l4 (i:=4) (bG (ah (ak aN (aC 8) (ah (le_str (l:=[97]))))) cg (bg (aK EH (aa (bi 1) (aa (ah (aK aT (aa (aC 8) ac))) ac)))))))))))))) (aQ (cH 4))))))):LS K [0] _ _)
def sD:PTS:=psO kF
def sE:RRl hJ sD 9 2:=λ_ _ Q h=>FU h λds h=>rZ h λm _ h=>f8 h λh=>FX rfl <| by
 k_in;obtain⟨zs,rfl,⟨hz,h0,h1,hm0,hm1⟩,q⟩:=h;have g0:Dk zs/\0<zs.length/\zs.length<=100000:=⟨hz,by omega,by omega⟩
 z_go;rintro z1 y1 hz10 hz11 hd1 hy1;obtain⟨ls,hls,ll0,ll1,lL⟩:=xD z1;have g1:Dk y1/\0<y1.length/\y1.length<=100000:=⟨hd1,by omega,by omega⟩
 z_go;refine⟨_,hls,?_⟩;z_go;rintro z2 y2 hz20 hz21 hd2 hy2;have g2:Dk y2/\0<y2.length/\y2.length<=100000:=⟨hd2,by omega,by omega⟩
 have s2:0<=z2+10^Nl 9/\0<ls.length/\ls.length<=26:=⟨by show 0<=z2+1000000000;omega,ll0,ll1⟩
 z_go;rintro w1 hw1 hc1 _ _;z_go;rintro z3 y3 hz30 hz31 hd3 hy3;have g3:Dk y3/\0<y3.length/\y3.length<=100000:=⟨hd3,by omega,by omega⟩
 have s3:0<=z3+10^Nl 9/\0<ls.length/\ls.length<=26:=⟨by show 0<=z3+1000000000;omega,ll0,ll1⟩
 z_go;rintro w2 hw2 hc2 _ _;have tL:Lts (w1++w2):=(ir hc1 lL).app (ir hc2 lL);have tl:(w1++w2).length<=18:=by rw [kx];omega
 z_go;generalize w1++w2=t at tL tl ⊢;rintro z4 y4 hz40 hz41 hd4 hy4;have bm0:=NO z4 (show m≠0 by omega);have bm1:=Nb z4 (show 0<m by omega);z_go;obtain⟨N,hN,hN1⟩:∃N:Nat,(1+z4 % m).toNat=N/\1<=N/\(N:Int)<=m:=⟨(1+z4 % m).toNat,rfl,by have:=NO z4 (show m≠0 by omega);have:=Nb z4 (show 0<m by omega);omega⟩
 rw [hN]
 refine⟨λk ρ=>∃(ps:Γ) (ys:Λ) (v5 v6 v7 v8:Option PV),ps.length=k/\Pcs 60 ps/\Dk ys/\ys.length+k=y4.length/\ρ=[ψ (.own (ys.map .int)),ψ (.dat (.int m)),ψ (.dat (.str ls)),ψ (.dat (.str t)),ψ (.own (ps.map .str)),v5,v6,v7,v8],⟨[],y4,_,_,_,_,rfl,(λw hw=>nomatch hw),hd4,rfl,rfl⟩,?_,?_⟩
 .rintro k ρ _ hk rfl ⟨ps,ys,v5,v6,v7,v8,hpl,hps,hdy,hyl,rfl⟩;have g5:Dk ys/\0<ys.length/\ys.length<=100000:=⟨hdy,by omega,by omega⟩
  have hpm:(ps.map D.str).length=ps.length:=cy _;z_go;rintro x y5 hx0 hx1 hd5 hy5;have ca:=bU t (ψ (x % 12)) (ψ (x % 12+1+x / 12 % 7));have cL:Lts (dO t (ψ (x % 12)) (ψ (x % 12+1+x / 12 % 7))):=tL.cut _ _;z_go
  refine⟨λρ=>∃(p:Δ),Lts p/\p.length<=60/\ρ=[ψ (.own (y5.map .int)),ψ (.dat (.int m)),ψ (.dat (.str ls)),ψ (.dat (.str t)),ψ (.own (ps.map .str)),ψ (.dat (.int (k:Int))),ψ (.dat (.int x)),ψ (.dat (.int (x % 12))),ψ (.dat (.str p))],?_,?_⟩
  .z_go
   refine eB (λc=>?_) (λc=>?_)
   .have s5:0<=x / 420 % 10^Nl 4+1/\0<ls.length/\ls.length<=26:=⟨by show 0<=x / 420 % 10000+1;omega,ll0,ll1⟩
    z_go;rintro w hw hc _ _;exact⟨w,ir hc lL,by omega,rfl⟩
   .exact⟨_,cL,by omega,rfl⟩
  .rintro ρ ⟨p,pL,pl,rfl⟩;z_go
   refine⟨λρ=>∃(p:Δ),Lts p/\p.length<=60/\ρ=[ψ (.own (y5.map .int)),ψ (.dat (.int m)),ψ (.dat (.str ls)),ψ (.dat (.str t)),ψ (.own (ps.map .str)),ψ (.dat (.int (k:Int))),ψ (.dat (.int x)),ψ (.dat (.int (x % 12))),ψ (.dat (.str p))],?_,?_⟩
   .z_go
    refine eB (λc=>?_) (λc=>?_)
    .have cb:=bU t (ψ (x % 12)) (ψ (x % 12+1+x / 12 % 3));have cbL:Lts (dO t (ψ (x % 12)) (ψ (x % 12+1+x / 12 % 3))):=tL.cut _ _;have w2:(-1000000:Int)<=9/\(9:Int)<=1000000/\Nl 9*(dO t (ψ (x % 12)) (ψ (x % 12+1+x / 12 % 3))).length<=1000000:=⟨by decide,by decide,by show 9*_<=_;omega⟩
     z_go;refine⟨_,(cbL.rep 9).cut _ _,?_,rfl⟩;obtain⟨e,he,he1⟩:∃e:Nat,2+x / 36 % 8=(e:Int)/\e<=9:=⟨(2+x / 36 % 8).toNat,by omega,by omega⟩
     rw [he,gL,MG];omega
    .exact⟨p,pL,pl,rfl⟩
   .rintro ρ ⟨p,pL,pl,rfl⟩;z_go
    refine⟨λρ=>∃(p:Δ),Lts p/\p.length<=60/\ρ=[ψ (.own (y5.map .int)),ψ (.dat (.int m)),ψ (.dat (.str ls)),ψ (.dat (.str t)),ψ (.own (ps.map .str)),ψ (.dat (.int (k:Int))),ψ (.dat (.int x)),ψ (.dat (.int (x % 12))),ψ (.dat (.str p))],?_,?_⟩
    .z_go
     refine eB (λc=>?_) (λc=>?_)
     .have cb:=bU t (ψ (x % 12)) (ψ (x % 12+2));have cbL:Lts (dO t (ψ (x % 12)) (ψ (x % 12+2))):=tL.cut _ _;have w2:(-1000000:Int)<=30/\(30:Int)<=1000000/\Nl 30*(dO t (ψ (x % 12)) (ψ (x % 12+2))).length<=1000000:=⟨by decide,by decide,by show 30*_<=_;omega⟩
      z_go;refine⟨_,(cbL.rep 30).cut _ _,?_,rfl⟩;rw [show (60:Int)=((60:Nat):Int) from rfl,gL,MG];omega
     .exact⟨p,pL,pl,rfl⟩
    .rintro ρ ⟨p,pL,pl,rfl⟩;have hpc:=CD pL pl;have la:[97].length=1:=rfl;z_go;refine⟨ps++[_],y5,_,_,_,_,by rw [kx,hpl];rfl,λw hw=>?_,hd5,by omega,by rw [D_];rfl⟩
     rcases Mv.mp hw with h|h
     .exact hps w h
     .rw [u_.mp h];exact hpc
 .rintro ρ ⟨ps,ys,v5,v6,v7,v8,hpl,hps,hdy,hyl,rfl⟩;z_go;exact q ps ys ⋯ ⋯ hps hdy ⋯ ⋯
noncomputable def ng(K:b_)(mg:Θ)(TC:TxC K):=((au (aB (le_str (l:=[])) (cm 2 rfl)) (au (cM (iA (aa (ah (aK aT (aa (aC 1) ac))) ac)) (bq 3 rfl) (au (aB (Cj 0) (cm 4 rfl)) (au (fZ (dr (fJ (ak lW (aC 3) (bi 0))) (aB (aD (c:=dF) (aa (ah (ak aW (aC 0) (ah (ak aW (aC 1) (ah (ak jD (aC 3) (bi 1))))))) (aa (ah (ak aW (aC 0) (ah (ak aW (aC 1) (aC 3))))) ac))) (cm 4 rfl)) bh)) (aB (ak aN (aC 2) (ah (bG (ah (ak aW (aC 0) (ah (ak aW (aC 1) (aC 3))))) (bg (cH 4)) cg))) (cm 2 rfl))))) (aQ (cH 2)))):LS K [] _ _)
def uT:PTS:=psO ng
def uU:PRl eV uT 5 2:=λ_ Q h=>AR h λds _ h=>AQ h λd _ h=>f8 h λh=>FX rfl <| by
 k_in;obtain⟨ws,rfl,js,hd,⟨hw,hj,hjm⟩,q⟩:=h;have hlm:(js.map nD).length=js.length:=cy _;have hw40:=hw.1;z_go;refine HY hd ?_;z_go;rw [tj,hlm]
 refine⟨λk ρ=>∃(t:Δ) (v3 v4:Option PV),(t.length:Int)=glL ws js k/\t.length<=60*k/\ρ=[ψ (.dat (.lst (ws.map .str))),ψ (.dat d),ψ (.dat (.str t)),v3,v4],⟨[],_,_,rfl,f_ _,rfl⟩,?_,?_⟩
 .rintro k ρ _ hk rfl ⟨t,v3,v4,hgl,htl,rfl⟩;have hjk:=hjm k hk;have hwk:=hw.at hjk;have aj:atI (js.map nD) (k:Int)=ψ (.int ((js.getD k 0:Nat):Int)):=jR hk;have aw:atI (ws.map D.str) ((js.getD k 0:Nat):Int)=ψ (.str (pw ws (js.getD k 0))):=dW hjk rfl;z_go
  refine⟨λρ=>∃(o:Nat),(o:Int)=(if k=0 then 0 else (eG (pw ws (js.getD (k - 1) 0)) (pw ws (js.getD k 0)):Int))/\o<=(pw ws (js.getD k 0)).length/\ρ=[ψ (.dat (.lst (ws.map .str))),ψ (.dat d),ψ (.dat (.str t)),ψ (.dat (.int (k:Int))),ψ (.dat (.int (o:Int)))],?_,?_⟩
  .z_go
   refine eB (λc=>?_) (λc=>?_)
   .have hjp:=hjm (k - 1) ⋯;have hwp:=hw.at hjp;have ap:atI (js.map nD) ((k:Int) - 1)=ψ (.int ((js.getD (k - 1) 0:Nat):Int)):=by rw [show (k:Int) - 1=((k - 1:Nat):Int) by omega];exact jR ⋯
    have awp:atI (ws.map D.str) ((js.getD (k - 1) 0:Nat):Int)=ψ (.str (pw ws (js.getD (k - 1) 0))):=dW hjp rfl;have hlap:=AB hwp.1 hwk.1;z_go;refine BS hd ⟨_,ap,?_⟩;z_go;refine⟨_,awp,?_⟩;z_go;refine BS hd ⟨_,aj,?_⟩;z_go;refine⟨_,aw,?_⟩;z_go;exact⟨_,by rw [if_neg ⋯],by omega,rfl⟩
   .exact⟨0,by rw [if_pos ⋯];rfl,NJ _,rfl⟩
  .rintro ρ ⟨o,ho,hol,rfl⟩;have co:dO (pw ws (js.getD k 0)) (ψ (o:Int)) ω=(pw ws (js.getD k 0)).drop o:=jx _ _;have cl:((pw ws (js.getD k 0)).drop o).length=(pw ws (js.getD k 0)).length - o:=MQ;z_go;refine BS hd ⟨_,aj,?_⟩;z_go;refine⟨_,aw,?_⟩;z_go;rw [co];refine⟨by omega,?_⟩;z_go
   refine⟨_,_,_,?_,?_,rfl⟩
   .show _=glL ws js k+_ - (if k=0 then 0 else _);rw [<- ho,kx,cl];omega
   .rw [kx,cl];omega
 .rintro ρ ⟨t,v3,v4,hgl,htl,rfl⟩;z_go;exact q t hgl ⋯
noncomputable def kG(K:b_)(mg:Θ)(TC:TxC K):=((au (aB (p6 ξ (aa (cv 1) ac)) (cm 2 rfl)) (au (aB (dq ac) (cm 3 rfl)) (au (jE (fJ (ak md (aC 2) (ah (dq ac)))) (dS (l4 (i:=3) (BQ (i:=2) (ak bO (ah (bv (c:=aO) (i:=0) ac)) (ah (aK aT (aa (aC 2) ac)))))))) (aQ (Ie (cH 3)))))):LS K [0] _ _)
def sF:PTS:=psO kG
def sG:RRl hX sF 4 2:=λ_ _ Q h=>FU h λds h=>rZ h λm _ h=>f8 h λh=>FX rfl <| by
 k_in;obtain⟨zs,rfl,⟨hz,h0,h1,hm0,hm1⟩,q⟩:=h;obtain⟨n,rfl⟩:∃n:Nat,m=(n:Int):=⟨m.toNat,by omega⟩
 rw [tj] at q h0;z_go;refine⟨λk ρ=>∃(rs js:Δ) (ys:Λ),(js++rs).Perm (g_ n)/\Dk ys/\ys.length+js.length=zs.length/\k=rs.length/\ρ=[ψ (.own (ys.map .int)),ψ (.dat (.int (n:Int))),ψ (.own (rs.map nD)),ψ (.own (js.map nD))],⟨n,g_ n,[],zs,List.Perm.refl _,hz,rfl,by rw [x_],by rw [<- E1];rfl⟩,?_⟩;rintro k ρ ⟨rs,js,ys,hp,hy,hyl,rfl,rfl⟩
 have hpl:=hp.length_eq;rw [kx,x_] at hpl;have e1:=AD rs;have e2:=FB rs;z_go;rw [e2]
 refine tQ (λc=>?_) (λc=>?_)
 .have hrl:0<rs.length:=length_pos_iff.mpr c;have g0:Dk ys/\0<ys.length/\ys.length<=100000:=⟨hy,by omega,by omega⟩
  have hrm:(rs.map nD).length=rs.length:=cy _;have hjm:(js.map nD).length=js.length:=cy _;z_go;rintro z y1 hz0 hz1 hd1 hy1;obtain⟨i,hi⟩:∃i:Nat,z % (rs.length:Int)=(i:Int):=⟨(z % (rs.length:Int)).toNat,by have:=NO z (show (rs.length:Int)≠0 by omega);omega⟩
  have hir:i<rs.length:=by have:=Nb z (show 0<(rs.length:Int) by omega);omega
  z_go;rw [hrm,hi];refine⟨i,nD rs[i],⟨E2 hir,by omega⟩,by rw [h_,cx hir];rfl,by show (js.map nD).length<_;omega,rs.length - 1,by omega,rs.eraseIdx i,js++[rs[i]],y1,?_,hd1,by rw [kx];show y1.length+(js.length+1)=_;omega,by rw [length_eraseIdx,if_pos hir],by rw [D_,zE];rfl⟩;rw [M0];exact ((Qg.trans (zF hir)).append_left js).trans hp
 .have c:rs=[]:=c;subst c;rw [Mr] at hp;have hjl:js.length=n:=by rw [hp.length_eq,x_]
  z_go;exact q js ys hp hy ⋯
noncomputable def iO(K:b_)(mg:Θ)(TC:TxC K):=((au (aB (bv (c:=hX) (i:=0) (aa (ah (aK aT (aa (aC 1) ac))) ac)) (cm 2 rfl)) (au (dr (fJ (ak fc (ah (ak bO (ah (bv (c:=aO) (i:=0) ac)) (bi 2))) (bi 0))) (aQ (aD (c:=eV) (aa (cv 1) (aa (cv 2) ac)))) bh) (au (aB (bG (ah (le_str (l:=[98,97]))) cg (bg (ak bO (ah (bv (c:=aO) (i:=0) ac)) (bi 3)))) (cm 3 rfl)) (au (cM (iA (aa (ah (aK aT (aa (aC 2) ac))) ac)) (bq 4 rfl) (au (aB (bv (c:=aO) (i:=0) ac) (cm 5 rfl)) (au (aB (Cj 0) (cm 6 rfl)) (au (fZ (dr (oS (fJ (ak lW (aC 4) (bi 0))) (fJ (ak lW (ah (ak bO (aC 5) (bi 3))) (bi 0)))) (aB (aD (c:=dF) (aa (ah (ak aW (aC 1) (ah (ak aW (aC 2) (ah (ak jD (aC 4) (bi 1))))))) (aa (ah (ak aW (aC 1) (ah (ak aW (aC 2) (aC 4))))) ac))) (cm 6 rfl)) bh)) (au (fZ (dr (oS (fJ (ak fc (aC 6) (bi 0))) (fJ (ak lW (aC 4) (bi 0)))) (aB (ak aN (aC 3) (ah (bG (ah (le_str (l:=[113,97,98]))) cg (bg (ak bO (ah (ak fY (aC 5) (bi 3))) (bi 4)))))) (cm 3 rfl)) bh)) (aB (ak aN (aC 3) (ah (bG (ah (ak aW (aC 1) (ah (ak aW (aC 2) (aC 4))))) (bg (cH 6)) cg))) (cm 3 rfl))))))) (aQ (ak aN (aC 3) (ah (bG (ah (le_str (l:=[97,98]))) cg (bg (ak bO (ah (bv (c:=aO) (i:=0) ac)) (bi 3))))))))))):LS K [0] _ _)
def oa:PTS:=psO iO
def og:RRl dM oa 7 2:=λ_ _ Q h=>FU h λds h=>AR h λes _ h=>f8 h λh=>FX rfl <| by
 k_in;obtain⟨zs,rfl,ws,rfl,⟨hw,hz,h0,h1⟩,q⟩:=h;have hw40:=hw.1;have hlm:(ws.map D.str).length=ws.length:=cy _;have g0:Dk zs/\((ws.length:Nat):Int).toNat<=zs.length/\zs.length<=10000/\0<=((ws.length:Nat):Int)/\((ws.length:Nat):Int)<=40:=⟨hz,by omega,h1,by omega,by omega⟩
 z_go;rw [hlm];rintro js y1 hp hd1 hy1;rw [tj] at hp hy1;have hjl:js.length=ws.length:=by rw [hp.length_eq,x_]
 have hjm:∀i,i<js.length->js.getD i 0<ws.length:=λi hi=>L_.mp (hp.mem_iff.mp (by rw [e_,cx hi];exact MB _));have hjn:(js.map nD).length=js.length:=cy _;have g1:Dk y1/\0<y1.length/\y1.length<=100000:=⟨hd1,by omega,by omega⟩
 z_go;rintro z2 y2 hz20 hz21 hd2 hy2;z_go
 refine eB (λc=>?_) (λc=>?_)
 .have gg:xE ws/\js.length<=40/\∀i,i<js.length->js.getD i 0<ws.length:=⟨hw,by omega,hjm⟩
  z_go;rintro t hgl htl;rw [hjl] at hgl;z_go;exact q js t y2 hp ⋯ ⋯ hd2 ⋯ ⋯
 .have g2:Dk y2/\0<y2.length/\y2.length<=100000:=⟨hd2,by omega,by omega⟩
  z_go;rintro z3 y3 hz30 hz31 hd3 hy3;have cb:=bU [98,97] ω (ψ (z3 % 3));have lb:[98,97].length=2:=rfl;z_go;rw [tj,hjn];generalize dO [98,97] ω (ψ (z3 % 3))=t0 at cb ⊢
  refine⟨λk ρ=>∃(t:Δ) (ys:Λ) (v4 v5 v6:Option PV),glL ws js k<=t.length/\t.length<=2+64*k/\Dk ys/\ys.length+k=y3.length/\ρ=[ψ (.own (ys.map .int)),ψ (.dat (.lst (ws.map .str))),ψ (.dat (.lst (js.map nD))),ψ (.dat (.str t)),v4,v5,v6],⟨t0,y3,_,_,_,by show (0:Int)<=_;omega,by omega,hd3,rfl,rfl⟩,?_,?_⟩
  .rintro k ρ _ hk rfl ⟨t,ys,v4,v5,v6,hgl,htl,hdy,hyl,rfl⟩;have hjk:=hjm k hk;have hwk:=hw.at hjk;have aj:atI (js.map nD) (k:Int)=ψ (.int ((js.getD k 0:Nat):Int)):=jR hk;have aw:atI (ws.map D.str) ((js.getD k 0:Nat):Int)=ψ (.str (pw ws (js.getD k 0))):=dW hjk rfl;have g5:Dk ys/\0<ys.length/\ys.length<=100000:=⟨hdy,by omega,by omega⟩
   z_go;rintro x y5 hx0 hx1 hd5 hy5;z_go
   refine⟨λρ=>∃(o:Nat),(o:Int)<=(if k=0 then 0 else (eG (pw ws (js.getD (k - 1) 0)) (pw ws (js.getD k 0)):Int))/\o<=(pw ws (js.getD k 0)).length/\ρ=[ψ (.own (y5.map .int)),ψ (.dat (.lst (ws.map .str))),ψ (.dat (.lst (js.map nD))),ψ (.dat (.str t)),ψ (.dat (.int (k:Int))),ψ (.dat (.int x)),ψ (.dat (.int (o:Int)))],?_,?_⟩
   .have zero:(0:Int)<=(if k=0 then 0 else (eG (pw ws (js.getD (k - 1) 0)) (pw ws (js.getD k 0)):Int)):=by split <;> omega
    z_go
    refine eB (λc=>?_) (λc=>?_)
    .z_go
     refine eB (λc2=>?_) (λc2=>?_)
     .have hjp:=hjm (k - 1) ⋯;have hwp:=hw.at hjp;have ap:atI (js.map nD) ((k:Int) - 1)=ψ (.int ((js.getD (k - 1) 0:Nat):Int)):=by rw [show (k:Int) - 1=((k - 1:Nat):Int) by omega];exact jR ⋯
      have awp:atI (ws.map D.str) ((js.getD (k - 1) 0:Nat):Int)=ψ (.str (pw ws (js.getD (k - 1) 0))):=dW hjp rfl;have hlap:=AB hwp.1 hwk.1;z_go;refine⟨_,ap,?_⟩;z_go;refine⟨_,awp,?_⟩;z_go;refine⟨_,aj,?_⟩;z_go;refine⟨_,aw,?_⟩;z_go;exact⟨_,by rw [if_neg ⋯];exact Nk _,by omega,rfl⟩
     .exact⟨0,zero,NJ _,rfl⟩
    .exact⟨0,zero,NJ _,rfl⟩
   .rintro ρ ⟨o,ho,hol,rfl⟩;z_go
    refine⟨λρ=>∃(u:Δ),t.length<=u.length/\u.length<=t.length+3/\ρ=[ψ (.own (y5.map .int)),ψ (.dat (.lst (ws.map .str))),ψ (.dat (.lst (js.map nD))),ψ (.dat (.str u)),ψ (.dat (.int (k:Int))),ψ (.dat (.int x)),ψ (.dat (.int (o:Int)))],?_,?_⟩
    .have cq:=bU [113,97,98] ω (ψ (x / 3 % 4));have lq:[113,97,98].length=3:=rfl;z_go
     refine eB (λc=>?_) (λc=>?_)
     .z_go
      refine eB (λc2=>?_) (λc2=>?_)
      .z_go
       refine⟨_,?_,?_,rfl⟩
       .rw [kx];omega
       .rw [kx];omega
      .exact⟨t,f_ _,by omega,rfl⟩
     .exact⟨t,f_ _,by omega,rfl⟩
    .rintro ρ ⟨u,hu1,hu2,rfl⟩;have co:dO (pw ws (js.getD k 0)) (ψ (o:Int)) ω=(pw ws (js.getD k 0)).drop o:=jx _ _;have cl:((pw ws (js.getD k 0)).drop o).length=(pw ws (js.getD k 0)).length - o:=MQ;z_go;refine⟨_,aj,?_⟩;z_go;refine⟨_,aw,?_⟩;z_go;rw [co];refine⟨by omega,?_⟩;z_go
     refine⟨_,y5,_,_,_,?_,?_,hd5,by omega,rfl⟩
     .show glL ws js k+_ - (if k=0 then 0 else _)<=_;rw [kx,cl];omega
     .rw [kx,cl];omega
  .rintro ρ ⟨t,ys,v4,v5,v6,hgl,htl,hdy,hyl,rfl⟩;have g6:Dk ys/\0<ys.length/\ys.length<=100000:=⟨hdy,by omega,by omega⟩
   z_go;rintro z7 y7 hz70 hz71 hd7 hy7;have cz:=bU [97,98] ω (ψ (z7 % 3));have lz:[97,98].length=2:=rfl;z_go;rw [hjl] at hgl;exact q js _ y7 hp (by rw [kx];omega) (by rw [kx];omega) hd7 ⋯ ⋯
noncomputable def kH(K:b_)(mg:Θ)(TC:TxC K):=((aQ (oU (oV .int (aC 0)) (yY (oV .bool (aC 0))))):LS K [] _ _)
def sH:PTS:=psO kH
def sI:PRl fh sH 1 1:=λ_ Q h=>rZ h λz _ h=>f8 h λh=>FX rfl <| by
 k_in;z_go;exact h
noncomputable def pG(K:b_)(mg:Θ)(TC:TxC K):=((au (aB (dq (aa (ah (dq ac)) ac)) (cm 1 rfl)) (au (cM (iA (aa (cv 0) ac)) (bq 2 rfl) (au (aB (dq ac) (cm 3 rfl)) (au (cM (bM (cH 1)) (bq 4 rfl) (cM (iA (aa (cv 0) ac)) (bq 5 rfl) (dr (fJ (ak (rN (neg:=η)) (aC 5) (aC 4))) (dS (l4 (i:=3) (ak aN (aC 4) (ah (dq (aa (cv 5) ac)))))) bh))) (aB (cH 3) (cm 1 rfl))))) (aQ (cH 1)))):LS K [] _ _)
def xL:PTS:=psO pG
def xM:PRl kr xL 6 1:=λ_ Q h=>rZ h λm _ h=>f8 h λh=>FX rfl <| by
 k_in;obtain⟨n,rfl,hn,q⟩:=h;z_go;rw [tj]
 refine⟨λk ρ=>∃(L:Γ) (w:PV) (v2 v3 v4 v5:Option PV),(∀o,o∈L ↔ xV n k o)/\L.length<=n^k/\(w=.own (L.map λo=>.lst (o.map nD))\/w=.dat (.lst (L.map λo=>.lst (o.map nD))))/\ρ=[ψ (.dat (.int (n:Int))),ψ w,v2,v3,v4,v5],⟨[[]],_,_,_,_,_,(λo=>⟨λho=>(by rw [u_.mp ho];exact⟨rfl,nodup_nil,λx hx=>(nomatch hx)⟩),λho=>(by rw [MJ.mp ho.len];exact u_.mpr rfl)⟩),f_ _,.inl rfl,rfl⟩,?_,?_⟩
 .rintro k ρ _ hk rfl ⟨L,w,v2,v3,v4,v5,hL,hl,hw,rfl⟩
  have hp:n^k*n<=3125:=by
   have h1:n^(k+1)<=5^(k+1):=QG hn _;have h2:5^(k+1)<=5^5:=Qh (by decide) ⋯;rw [Nat.pow_succ] at h1;exact Mn h1 h2
  rcases hw with rfl|rfl <;> (
   z_go;have hLm:(L.map λo=>D.lst (o.map nD)).length=L.length:=cy _
   refine⟨λi ρ=>∃(S:Γ) (v4 v5:Option PV),((∀o∈S,xV n (k+1) o)/\∀o∈L.take i,∀j,j<n->j∉o->o++[j]∈S)/\S.length<=i*n/\ρ=[ψ (.dat (.int (n:Int))),ψ (.dat (.lst (L.map λo=>.lst (o.map nD)))),ψ (.dat (.int (k:Int))),ψ (.own (S.map λo=>.lst (o.map nD))),v4,v5],⟨[],_,_,⟨λo ho=>(nomatch ho),λo ho=>(nomatch ho)⟩,NJ _,rfl⟩,?_,?_⟩
   .rintro i ρ d hi ed ⟨S,v4,v5,⟨hS,hc⟩,hs,rfl⟩;rw [hLm] at hi;obtain⟨o,ho,et,rfl⟩:∃o,o∈L/\L.take (i+1)=L.take i++[o]/\d=.lst (o.map nD):=⟨L[i],MB hi,by rw [NU,cx hi];rfl,by rw [ed];unfold itD;rw [e_,h_,cx hi];rfl⟩
    have hO:=(hL o).mp ho;clear ed
    have hin:i*n+n<=3125:=by
     have:(i+1)*n<=n^k*n:=Oh n (Mn hi hl);rw [Qa] at this;omega
    z_go;rw [tj]
    refine⟨λj ρ=>∃(S:Γ) (v5:Option PV),((∀o∈S,xV n (k+1) o)/\(∀o∈L.take i,∀j,j<n->j∉o->o++[j]∈S)/\∀x,x<j->x∉o->o++[x]∈S)/\S.length<=i*n+j/\ρ=[ψ (.dat (.int (n:Int))),ψ (.dat (.lst (L.map λo=>.lst (o.map nD)))),ψ (.dat (.int (k:Int))),ψ (.own (S.map λo=>.lst (o.map nD))),ψ (.dat (.lst (o.map nD))),v5],⟨S,_,⟨hS,hc,λx hx=>absurd hx (NC _)⟩,hs,rfl⟩,?_,?_⟩
    .rintro j ρ _ hj rfl ⟨S,v5,⟨hS,hc,hd⟩,hs,rfl⟩;have hSm:(S.map λo=>D.lst (o.map nD)).length=S.length:=cy _;z_go;refine⟨⟨rfl,N9.mpr λx hx=>by obtain⟨y,_,rfl⟩:=Mp.mp hx;rfl⟩,?_⟩;rw [zu]
     refine wX (λc=>?_) (λc=>?_)
     .have c:j∉o:=λz=>by rw [decide_eq_true z] at c;cases c
      have ol:(o.map nD).length+[D.int (j:Int)].length<=1000000:=by rw [cy,hO.len];show k+1<=_;omega
      z_go
      exact⟨S++[o++[j]],_,⟨λy hy=>by
       rcases Mv.mp hy with z|z
       .exact hS y z
       .rw [u_.mp z];exact hO.add hj c,λy hy x hx hn=>Mf _ (hc y hy x hx hn),λx hx hn=>by
       by_cases e:x=j
       .subst e;exact r_ _ (u_.mpr rfl)
       .exact Mf _ (hd x ⋯ hn)⟩,by rw [kx];show S.length+1<=_;omega,by rw [D_,so,P2,D_];rfl⟩
     .have c:j∈o:=of_decide_eq_true (by rw [if_pos rfl] at c;cases h:decide (j∈o) with|true=>rfl|false=>rw [h] at c;cases c);z_go;exact⟨S,_,⟨hS,hc,λx hx hn=>hd x (by have:x≠j:=λe=>hn (by rw [e];exact c);omega) hn⟩,by omega,rfl⟩
    .rintro ρ ⟨S,v5,⟨hS,hc,hd⟩,hs,rfl⟩
     exact⟨S,_,_,⟨hS,λy hy x hx hn=>by
      rw [et] at hy
      rcases Mv.mp hy with z|z
      .exact hc y z x hx hn
      .rw [u_.mp z] at hn ⊢;exact hd x hx hn⟩,by rw [Qa];exact hs,rfl⟩
   .rintro ρ ⟨S,v4,v5,⟨hS,hc⟩,hs,rfl⟩;rw [hLm] at hs hc;rw [M5] at hc;z_go
    exact⟨S,_,_,_,_,_,(λo=>⟨hS o,λh=>by
     obtain⟨y,x,rfl,hy,hx,hn⟩:=h.last;exact hc y ((hL y).mpr hy) x hx hn⟩),by rw [Nat.pow_succ];exact Mn hs (Oh n hl),.inr rfl,rfl⟩
   )
 .rintro ρ ⟨L,w,v2,v3,v4,v5,hL,hl,hw,rfl⟩
  rcases hw with rfl|rfl <;> (
   z_go;refine q L hL (Mn hl ?_);exact Mn (QG hn n) (Qh (by decide) hn)
   )
noncomputable def jT(K:b_)(mg:Θ)(TC:TxC K):=((au (aB (Cj 0) (cm 3 rfl)) (au (cM (iA (aa (ah (aK aT (aa (aC 2) ac))) ac)) (bq 4 rfl) (au (aB (ak aW (aC 2) (ah (ak bO (ah (ak aN (aC 4) (bi 1))) (ah (aK aT (aa (aC 2) ac)))))) (cm 5 rfl)) (aB (ak jD (ah (ak aN (aC 3) (ah (aK aT (aa (ah (ak aW (aC 0) (ah (ak aW (aC 2) (aC 4))))) ac))))) (ah (ak aW (ah (ak aW (aC 1) (ah (ak aW (aC 2) (aC 4))))) (aC 5)))) (cm 3 rfl)))) (aQ (cH 3)))):LS K [] _ _)
def qB:PTS:=psO jT
def qC:PRl ee qB 6 3:=λ_ Q h=>AR h λds _ h=>AR h λes _ h=>AQ h λd _ h=>f8 h λh=>FX rfl <| by
 k_in;obtain⟨ws,rfl,rfl,l,rfl,⟨hn,hw,hl⟩,q⟩:=h;obtain⟨l0,ln,nd,lx⟩:=CB hl;have hlm:(l.map nD).length=l.length:=cy _;z_go;rw [tj,hlm]
 refine⟨λk ρ=>∃v4 v5:Option PV,ρ=[ψ (.dat (.lst (ws.map .str))),ψ (.dat (.lst (mP ws))),ψ (.dat (.tup (l.map nD))),ψ (.dat (.int (wgt ws (l.take k)))),v4,v5],⟨_,_,rfl⟩,?_,?_⟩
 .rintro k ρ _ hk rfl ⟨v4,v5,rfl⟩;have hx:=lx _ (MB hk);have e0:l.getD k 0=l[k]:=by rw [e_,cx hk];rfl
  have en:=uv hl hk;rw [e0] at en;have hf:=(xC ws).lt _ hx;have hm:(k+1) % l.length<l.length:=mod_lt _ l0;have aj:atI (l.map nD) (k:Int)=ψ (.int ((l[k]:Nat):Int)):=by rw [<- e0];exact jR hk
  have an:atI (l.map nD) (((k+1) % l.length:Nat):Int)=ψ (.int ((fA ws l[k]:Nat):Int)):=by rw [<- en];exact jR hm
  have em:((k:Int)+1) % (l.length:Int)=(((k+1) % l.length:Nat):Int):=by rw [natCast_emod];rfl
  have wb:=hw _ (dY hx)
  have wS:wgt ws (l.take (k+1))=wgt ws (l.take k)+((pw ws l[k]).length:Int) - hW ws l[k]:=by
   rw [NU,cx hk];unfold wgt;rw [D_,Qx];show _+(_ - _+(0:Int))=_;omega
  z_go;refine⟨_,by rw [hlm,em];exact an,?_⟩;z_go;refine⟨_,aj,?_⟩;z_go;refine⟨_,dW hx rfl,?_⟩;z_go;refine⟨_,aj,?_⟩;z_go;refine⟨_,wp hx,?_⟩;z_go;refine⟨_,uu hf,?_⟩;z_go;exact⟨_,_,by rw [wS];rfl⟩
 .rintro ρ ⟨v4,v5,rfl⟩;rw [M5];z_go;exact q
noncomputable def kI(K:b_)(mg:Θ)(TC:TxC K):=((aQ (aY (ix:=[ω,ψ 0,ψ 1]) rfl (iA (aa (ah (aK aT (aa (aC 1) ac))) ac)) (λfs hc=>(bq 0 (gH hc (by decide)))) bW (ak aW (ah (ak aW (aC 1) (ah (ak aW (aC 2) (aC 0))))) (ah (ak aW (aC 2) (ah (ak bO (ah (ak aN (aC 0) (bi 1))) (ah (aK aT (aa (aC 2) ac)))))))))):LS K [] _ _)
def sJ:PTS:=psO kI
def sK:PRl fi sJ 2 2:=λ_ Q h=>AR h λes _ h=>AQ h λd _ h=>f8 h λh=>FX rfl <| by
 k_in;obtain⟨ws,rfl,l,rfl,⟨hn,hl⟩,q⟩:=h;obtain⟨l0,ln,nd,lx⟩:=CB hl;have hlm:(l.map nD).length=l.length:=cy _;z_go;rw [tj,hlm]
 refine cmR (λk=>.int (hW ws (l.getD k 0):Int)) (λk hk v K1 k1=>?_) (λv=>?_)
 .have hx:=lx _ (MB hk);have e0:l.getD k 0=l[k]:=by rw [e_,cx hk];rfl
  have en:=uv hl hk;rw [e0] at en k1;have hf:=(xC ws).lt _ hx;have hm:(k+1) % l.length<l.length:=mod_lt _ l0;have aj:atI (l.map nD) (k:Int)=ψ (.int ((l[k]:Nat):Int)):=by rw [<- e0];exact jR hk
  have an:atI (l.map nD) (((k+1) % l.length:Nat):Int)=ψ (.int ((fA ws l[k]:Nat):Int)):=by rw [<- en];exact jR hm
  have em:((k:Int)+1) % (l.length:Int)=(((k+1) % l.length:Nat):Int):=by rw [natCast_emod];rfl
  z_go;refine⟨_,aj,?_⟩;z_go;refine⟨_,wp hx,?_⟩;z_go;refine⟨_,by rw [hlm,em];exact an,?_⟩;z_go;refine⟨_,uu hf,?_⟩;exact k1 _
 .have e:(g_ l.length).map (λk=>D.int (hW ws (l.getD k 0):Int))=(joi ws l).map .int:=by
   unfold joi;rw [Ms];refine ext_getElem (by rw [cy,cy,x_]) λk a b=>?_;rw [cy] at b;rw [ON,ON,P8,e_,cx b];rfl
  rw [e];exact q
noncomputable def kJ(K:b_)(mg:Θ)(TC:TxC K):=((au (aB (aY (ix:=[ω,ψ 0,ψ 1]) rfl (iA (aa (bi 4) ac)) (λfs hc=>(bq 0 (gH hc (by decide)))) bW (bv (c:=dM) (i:=1) (aa (cv 2) ac))) (cm 2 rfl)) (au (fZ (dr (fJ (ak Ew (ah (aK aT (aa (aC 1) ac))) (bi 5))) (cM (bM (aD (c:=kr) (aa (ah (aK aT (aa (aC 1) ac))) ac))) (bq 3 rfl) (dS (l4 (i:=2) (aD (c:=eV) (aa (cv 1) (aa (cv 3) ac)))))) bh)) (aQ (cH 2)))):LS K [0] _ _)
def sL:PTS:=psO kJ
def sM:RRl hZ sL 4 2:=λ_ _ Q h=>FU h λds h=>AR h λes _ h=>f8 h λh=>FX rfl <| by
 k_in;obtain⟨zs,rfl,ws,rfl,⟨hw,hz,h0,h1⟩,q⟩:=h;have hw40:=hw.1;have hlm:(ws.map D.str).length=ws.length:=cy _;z_go
 refine⟨λk ys τ=>∃(v:Option PV) (Ts:Γ) (zs':Λ),τ=[v,ψ (.own (zs'.map .int)),ψ (.dat (.lst (ws.map .str)))]/\ys=Ts.map .str/\Ts.length=k/\(∀t∈Ts,AE ws<=(t.length:Int))/\Dk zs'/\zs.length<=zs'.length+k*(2*ws.length+3)/\zs'.length<=zs.length,⟨ω,[],zs,rfl,rfl,rfl,(λ_ h=>nomatch h),hz,by omega,f_ _⟩,?_,?_⟩
 .rintro k ys τ d hk ed ⟨v,Ts,zs',rfl,rfl,hTl,hT,hz',hl1,hl2⟩;have hk4:k<4:=hk;have hk3:k*(2*ws.length+3)<=3*(2*ws.length+3):=Oh _ ⋯;have gh:xE ws/\Dk zs'/\2*ws.length+3<=zs'.length/\zs'.length<=10000:=⟨hw,hz',by omega,by omega⟩
  z_go;rintro js t ys' hp hgl htl hd hy1 hy2;have hT2:=wt hw hp;refine⟨_,Ts++[t],ys',rfl,by rw [D_];rfl,by rw [kx,hTl];rfl,λu hu=>?_,hd,by rw [Qa];omega,by omega⟩
  rcases Mv.mp hu with h|h
  .exact hT u h
  .rw [u_.mp h];omega
 .rintro ys τ ⟨v,Ts,zs',rfl,rfl,hTl,hT,hz',hl1,hl2⟩;have hTl:Ts.length=4:=hTl;z_go
  refine⟨λρ=>∃(Us:Γ) (v3:Option PV),(∀t∈Us,AE ws<=(t.length:Int))/\ρ=[ψ (.own (zs'.map .int)),ψ (.dat (.lst (ws.map .str))),ψ (.own (Us.map .str)),v3],?_,?_⟩
  .z_go
   refine eB (λc=>?_) (λc=>?_)
   .have hn5:ws.length<=5:=by omega
    z_go;intro L hL hl;rw [hlm] at hL;have Lm:(L.map λo=>D.lst (o.map nD)).length=L.length:=cy _;z_go
    refine⟨λk ρ=>∃(Us:Γ) (v3:Option PV),(∀t∈Us,AE ws<=(t.length:Int))/\Us.length=4+k/\ρ=[ψ (.own (zs'.map .int)),ψ (.dat (.lst (ws.map .str))),ψ (.own (Us.map .str)),v3],⟨Ts,_,hT,by omega,rfl⟩,?_,?_⟩
    .rintro k ρ d hk ed ⟨Us,v3,hU,hUl,rfl⟩;rw [Lm] at hk;obtain⟨o,ho,rfl⟩:∃o,o∈L/\d=.lst (o.map nD):=⟨L[k],MB hk,by rw [ed];unfold itD;rw [e_,h_,cx hk];rfl⟩
     have hO:=(hL o).mp ho;clear ed;have hUm:(Us.map D.str).length<=4000:=by rw [cy];omega
     have gg:xE ws/\o.length<=40/\∀i,i<o.length->o.getD i 0<ws.length:=⟨hw,by rw [hO.len];omega,λi hi=>hO.lt _ (by rw [e_,cx hi];exact MB _)⟩
     have hT2:=wt hw hO.perm;rw [<- hO.len] at hT2;z_go;rintro t ht htl;z_go;refine⟨Us++[t],_,λu hu=>?_,by rw [kx,hUl];rfl,by rw [D_];rfl⟩
     rcases Mv.mp hu with h|h
     .exact hU u h
     .rw [u_.mp h];rw [hO.len] at hT2 ht;omega
    .rintro ρ ⟨Us,v3,hU,hUl,rfl⟩;exact⟨Us,_,hU,rfl⟩
   .exact⟨Ts,_,hT,rfl⟩
  .rintro ρ ⟨Us,v3,hU,rfl⟩;z_go;exact q Us zs' hU hz'
noncomputable def nh(K:b_)(mg:Θ)(TC:TxC K):=((au (aB (le_str (l:=[])) (cm 1 rfl)) (au (cM (iA (aa (bi 3) ac)) (bq 2 rfl) (aB (ak aN (aC 1) (ah (aD (c:=cA) (aa (ah (ak aN (ah (bv (c:=aO) (i:=0) ac)) (ah (ak lV (bi 10) (bi 9))))) (aa (ah (le_str (l:=[97,98,99]))) ac))))) (cm 1 rfl))) (au (aB (dq ac) (cm 3 rfl)) (au (aB (ak bO (ah (bv (c:=aO) (i:=0) ac)) (bi 21)) (cm 4 rfl)) (au (cM (iA (aa (ah (ak aN (bi 7) (ah (ak bO (ah (bv (c:=aO) (i:=0) ac)) (bi 6))))) ac)) (bq 2 rfl) (au (aB (ak bO (ah (ak aN (aC 4) (ah (ak iF (bi 2) (aC 2))))) (bi 21)) (cm 5 rfl)) (dS (zo (i:=3) (ak bO (ah (bv (c:=aO) (i:=0) ac)) (ah (ak aN (ah (aK aT (aa (aC 3) ac))) (bi 1)))) (bG (aC 1) (bg (cH 5)) (bg (ak aN (aC 5) (bi 6)))))))) (aQ (cH 3))))))):LS K [0] _ _)
def uV:PTS:=psO nh
def uW:RRl jo uV 6 1:=λ_ _ Q h=>FU h λds h=>f8 h λh=>FX rfl <| by
 k_in;obtain⟨zs,rfl,⟨hz,h0,h1⟩,q⟩:=h;z_go
 refine⟨λk ρ=>∃(t:Δ) (y:Λ) (v2 v3 v4 v5:Option PV),(Lts t/\t.length=9*k)/\Dk y/\y.length+k=zs.length/\ρ=[ψ (.own (y.map .int)),ψ (.dat (.str t)),v2,v3,v4,v5],⟨[],zs,_,_,_,_,⟨λc hc=>(nomatch hc),rfl⟩,hz,rfl,rfl⟩,?_,?_⟩
 .rintro k ρ _ hk rfl ⟨t,y,v2,v3,v4,v5,⟨tL,tl⟩,hy,hyl,rfl⟩;have hk:k<3:=hk;have g:Dk y/\0<y.length/\y.length<=100000:=⟨hy,by omega,by omega⟩
  z_go;rintro z y1 hz0 hz1 hd1 hy1;z_go;have hz9:1000000<=z+10^Nl 9:=by show 1000000<=z+1000000000;omega
  have g3:0<=z+10^Nl 9/\0<[97,98,99].length/\[97,98,99].length<=26:=⟨by omega,by decide,by decide⟩
  refine⟨g3,λw hw hc _ h9=>?_⟩;have wl:=h9 (by decide) hz9;z_go;exact⟨t++w,y1,_,_,_,_,⟨tL.app (ir hc (j4.mp (by decide))),by rw [kx];omega⟩,hd1,by omega,rfl⟩
 .rintro ρ ⟨t,y,v2,v3,v4,v5,⟨tL,tl⟩,hy,hyl,rfl⟩;z_go;rintro z y1 hz0 hz1 hd1 hy1;have tl:t.length=27:=tl;have hyl:y.length+3=zs.length:=hyl;have g:Dk y1/\0<y1.length/\y1.length<=100000:=⟨hd1,by omega,by omega⟩
  z_go;rintro z2 y2 hz20 hz21 hd2 hy2;z_go;obtain⟨b,hb,hb2⟩:∃b:Nat,z % 21=(b:Int)/\b<21:=⟨(z % 21).toNat,by omega,by omega⟩
  obtain⟨N,hN,hN2⟩:∃N:Nat,(7+z2 % 6).toNat=N/\N<=12:=⟨_,rfl,by omega⟩
  rw [hN,hb]
  refine⟨λk ρ=>∃(ps:Γ) (y:Λ) (v2 v5:Option PV),(Pcs 60 ps/\ps.length=k)/\Dk y/\y.length+k=y2.length/\ρ=[ψ (.own (y.map .int)),ψ (.dat (.str t)),v2,ψ (.own (ps.map .str)),ψ (.dat (.int (b:Int))),v5],⟨[],y2,_,_,⟨λw hw=>(nomatch hw),rfl⟩,hd2,rfl,rfl⟩,?_,?_⟩
  .rintro k ρ _ hk rfl ⟨ps,y3,v2,v5,⟨hps,hpl⟩,hd3,hy3,rfl⟩;have g:Dk y3/\0<y3.length/\y3.length<=100000:=⟨hd3,by omega,by omega⟩
   have pm:(ps.map D.str).length=ps.length:=cy _;z_go;rintro z4 y4 hz40 hz41 hd4 hy4;z_go;obtain⟨a,ha,ha2⟩:∃a:Nat,((b:Int)+2*(k:Int)) % 21=(a:Int)/\a<21:=⟨(((b:Int)+2*(k:Int)) % 21).toNat,by omega,by omega⟩
   have hmod:0<=z4 % (((ps.map D.str).length:Nat)+1)/\z4 % (((ps.map D.str).length:Nat)+1)<2^60:=by
    have h1:=NO z4 (show (((ps.map D.str).length:Nat):Int)+1≠0 by omega);have h2:=Nb z4 (show (0:Int)<((ps.map D.str).length:Nat)+1 by omega);omega
   have hw:Pc 60 (dO t (ψ (a:Int)) (ψ ((a:Int)+6))):=by
    rw [show (6:Int)=((6:Nat):Int) from rfl,CG];have l6:((t.drop a).take 6).length=6:=by rw [MG,MQ];omega
    exact⟨by rw [l6];decide,by rw [l6];decide,λc hc=>tL c (mem_of_mem_drop (mem_of_mem_take hc))⟩
   rw [ha];refine⟨⟨hmod,by omega⟩,?_⟩;have ei:=CF D.str ps (z4 % (((ps.map D.str).length:Nat)+1)) (dO t (ψ (a:Int)) (ψ ((a:Int)+6)));rw [ei]
   exact⟨_,y4,_,_,⟨λw h=>by
    rcases B_.mp ((sr _ _ _).mem_iff.mp h) with e|h
    .rw [e];exact hw
    .exact hps w h,by rw [(sr _ _ _).length_eq,Mm,hpl]⟩,hd4,by omega,rfl⟩
  .rintro ρ ⟨ps,y3,v2,v5,⟨hps,hpl⟩,hd3,hy3,rfl⟩;z_go;exact q ps y3 ⋯ hps hd3 ⋯ ⋯
noncomputable def DG(K:b_)(mg:Θ)(TC:TxC K):=((au (aB (aD (c:=ji) (aa (cv 0) (aa (bi 300) ac))) (cm 1 rfl)) (au (aB (bv (c:=hJ) (i:=1) (aa (bi 6) ac)) (cm 2 rfl)) (au (fZ (dr (fJ (ak fc (ah (ak bO (ah (bv (c:=aO) (i:=1) ac)) (bi 9))) (bi 0))) (aB (dq ac) (cm 2 rfl)) bh)) (au (fZ (dr (fJ (ak fc (ah (ak bO (ah (bv (c:=aO) (i:=1) ac)) (bi 6))) (bi 0))) (aB (bv (c:=jo) (i:=1) ac) (cm 2 rfl)) bh)) (au (aB (aD (c:=jk) (aa (cv 2) ac)) (cm 3 rfl)) (au (aB (aY (ix:=[ω,ψ 3]) rfl (bM (cH 3)) (λfs hc=>(bq 0 (gH hc (by decide)))) bW (aY (ix:=[ω,ψ 0]) rfl (bM (cH 1)) (λfs hc=>(bq 0 (gH hc (by decide)))) bW (aD (c:=dF) (aa (cv 1) (aa (cv 0) ac))))) (cm 4 rfl)) (au (aB (zd (c0:="Family") (c:=cw) (aa (cv 2) ac)) (cm 5 rfl)) (au (aB (aD (c:=gq) (aa (cv 5) ac)) (cm 6 rfl)) (au (dr (wZ (iE (vB (oV .tuple (aC 6)))) (fJ (ak md (ah (aY (ix:=[ω]) rfl (bM (cH 6)) (λfs hc=>(bq 0 (gH hc (by decide)))) (iE (vB (aD (c:=fh) (aa (cv 0) ac)))) (cH 0))) (ah (dq ac))))) (aQ (nL (i:=ξ))) bh) (au (dr (fJ (ak md (ah (aK BR (aa (aC 6) ac))) (ah (p6 ξ (aa (ah (aK aT (aa (aC 3) ac))) ac))))) (aQ (nL (i:=ξ))) bh) (au (aB (aD (c:=eT) (aa (cv 5) ac)) (cm 7 rfl)) (au (aB (dq ac) (cm 8 rfl)) (au (cM (bM (cH 7)) (bq 9 rfl) (dS (Is (i:=8) (aK tV (aa (ah (aD (c:=hC) (aa (cv 5) (aa (cv 9) ac)))) ac))))) (au (dr (fJ (ak md (ah (aK tV (aa (aC 6) ac))) (aC 8))) (aQ (nL (i:=ξ))) bh) (au (aB (aK zQ (aa (ah (aY (ix:=[ω,ψ 3,ψ 4]) rfl (bM (cH 7)) (λfs hc=>(bq 0 (gH hc (by decide)))) bW (aD (c:=ee) (aa (cv 1) (aa (cv 2) (aa (cv 0) ac)))))) ac)) (cm 10 rfl)) (au (aB (aK zQ (aa (ah (aY (ix:=[ω,ψ 4]) rfl (bM (cH 7)) (λfs hc=>(bq 0 (gH hc (by decide)))) bW (aK tU (aa (ah (aD (c:=fi) (aa (cv 1) (aa (cv 0) ac)))) ac)))) ac)) (cm 11 rfl)) (au (aB (aK aT (aa (ah (aD (c:=eV) (aa (cv 3) (aa (cv 6) ac)))) ac)) (cm 12 rfl)) (au (cM (bM (bv (c:=hZ) (i:=1) (aa (cv 3) ac))) (bq 13 rfl) (dr (wZ (fJ (ak lW (aC 10) (ah (aK aT (aa (aC 13) ac))))) (fJ (ak lW (aC 12) (ah (ak aN (ah (aK aT (aa (aC 13) ac))) (aC 11)))))) (aQ (nL (i:=ξ))) bh)) (aQ (ak fc (ah (aD (c:=gq) (aa (ah (zd (c0:="Family") (c:=cw) (aa (ah (aK cE (aa (aC 2) ac))) ac))) ac))) (aC 6))))))))))))))))))))):LS K [] _ _)
def AJ:PTS:=psO DG
def FH(ns:Λ)(h63:ns.length<=63)(Q:PV->Prop)(q:Q (.dat (.bl η))):HQ AJ DD [.scr ns] Q:=by
 show AJ _ [ψ (.dat (.scr ns)),ω,ω,ω,ω,ω,ω,ω,ω,ω,ω,ω,ω,ω];have g0:ns.length<=64/\(0:Int)<=300/\(300:Int)<=2000:=⟨by omega,by decide,by decide⟩
 z_go;rintro z1 hz1 hl1;have hl1:z1.length=300:=hl1;have g1:Dk z1/\4+(6:Int)<=(z1.length:Int)/\z1.length<=10000/\(1:Int)<=6/\(6:Int)<=40:=⟨hz1,by omega,by omega,by decide,by decide⟩
 z_go;rintro p0 z2 hp0 hp6 hps0 hz2 hl2 hl2';have g2:Dk z2/\0<z2.length/\z2.length<=100000:=⟨hz2,by omega,by omega⟩
 z_go
 refine⟨λρ=>∃(ps:Γ) (z3:Λ) (f2:PV),(f2=.own (ps.map .str)\/f2=.dat (.lst (ps.map .str)))/\(ps.length<=6/\Pcs 60 ps)/\Dk z3/\289<=z3.length/\z3.length<=300/\ρ=[ψ (.dat (.scr ns)),ψ (.own (z3.map .int)),ψ f2,ω,ω,ω,ω,ω,ω,ω,ω,ω,ω,ω],?_,?_⟩
 .z_go;rintro y1 z3 hy10 hy11 hz3 hl3;z_go
  refine eB (λc=>?_) (λc=>?_)
  .exact⟨by decide,[],z3,_,.inl rfl,⟨by decide,λw hw=>(nomatch hw)⟩,hz3,by omega,by omega,rfl⟩
  .exact⟨p0,z3,_,.inr rfl,⟨by omega,hps0⟩,hz3,by omega,by omega,rfl⟩
 rintro ρ ⟨p1,z3,f2,hf,⟨hp1,hps1⟩,hz3,hl3,hl3',rfl⟩;have g3:Dk z3/\0<z3.length/\z3.length<=100000:=⟨hz3,by omega,by omega⟩
 z_go
 refine⟨λρ=>∃(ps:Γ) (z5:Λ) (f2:PV),(f2=.own (ps.map .str)\/f2=.dat (.lst (ps.map .str)))/\(ps.length<=12/\Pcs 60 ps)/\Dk z5/\268<=z5.length/\z5.length<=300/\ρ=[ψ (.dat (.scr ns)),ψ (.own (z5.map .int)),ψ f2,ω,ω,ω,ω,ω,ω,ω,ω,ω,ω,ω],?_,?_⟩
 .z_go;rintro y1 z4 hy10 hy11 hz4 hl4;have g4:Dk z4/\20<=z4.length/\z4.length<=10000:=⟨hz4,by omega,by omega⟩
  z_go
  refine eB (λc=>?_) (λc=>?_)
  .z_go;rintro ps z5 hpl hps hz5 hl5 hl5';exact⟨ps,z5,_,.inr rfl,⟨hpl,hps⟩,hz5,by omega,by omega,rfl⟩
  .exact⟨p1,z4,_,hf,⟨by omega,hps1⟩,hz4,by omega,by omega,rfl⟩
 rintro ρ ⟨ps,z5,f2,hf2,⟨hpl,hps⟩,hz5,hl5,hl5',rfl⟩;refine FG (P:=λf2=>lX _ _ _ (_::_::ψ f2::_)) hf2 (λx=>x) ?_;clear hf2 hf f2;have hk:ps.length<=40/\∀w∈ps,w.length<=60/\Lts w:=⟨by omega,λw hw=>⟨(hps w hw).2.1,(hps w hw).2.2⟩⟩
 have hwn:=o0 ps;have hws:∀w∈am ps,0<w.length/\w.length<=10000:=λw hw=>⟨(fL hps w hw).1,by have:=(fL hps w hw).2.1;omega⟩
 have hw40:(am ps).length<=40:=by omega
 have hwm:((am ps).map D.str).length=(am ps).length:=cy _;z_go
 refine cm1 (e:=D.str) (xs:=am ps) (λw=>Jq (am ps) w) (λw hw v K1 k1=>?_) (λv=>?_)
 .have w1:=hws w hw;z_go
  refine cm1 (e:=D.str) (xs:=am ps) (λu=>.int (eG w u:Int)) (λu hu v K1 k1=>?_) (λv=>?_)
  .have u1:=hws u hu;z_go;exact k1 _
  .exact k1 _
 z_go;have hlL:((am ps).map λw=>Jq (am ps) w)=mP (am ps):=rfl;rw [hlL];have hlm:(mP (am ps)).length=(am ps).length:=cy _;have hWs:xE (am ps):=⟨hw40,λw hw=>⟨(fL hps w hw).1,(fL hps w hw).2.1⟩⟩
 have w60:∀w∈am ps,0<w.length/\w.length<=60:=hWs.2;have gB:(am ps).length<=40/\∀w∈am ps,0<w.length/\w.length<=10000:=⟨hw40,hws⟩
 have hop:=wq (am ps);have hol:=hop.length_eq;rw [x_] at hol;have hwa:=FC (am ps);have hle:=IZ λw hw=>(hws w hw).1
 have Ll:(rgW (am ps)).length<=40:=by
  unfold rgW rgs;rw [cy];exact Mn (NM _ _) (by rw [x_];exact hw40)
 have hlt:∀j∈((rgW (am ps)).map (opn (am ps))).flatten,j<(am ps).length:=λj h=>L_.mp (hop.mem_iff.mp h);generalize hO:((rgW (am ps)).map (opn (am ps))).flatten=O at hop hol hle hlt;have hOm:(O.map nD).length=O.length:=cy _;z_go
 refine cf1 (xs:=O) (e:=nD) (λ_:Nat=>ξ) (λx:Nat=>nD x) (λx hx v K1 K2 k1 k2=>?_) (λv=>?_)
 .have e1:nD x=.int (x:Int):=rfl;rw [e1];z_go;exact k2 _ rfl
 rw [show O.filter (λ_=>ξ)=[] from filter_eq_nil_iff.mpr λ_ _ z=>by cases z];rw [o8];have hzp:(O.map λk=>((k:Nat):Int)).Perm (Ia (am ps).length):=hop.map _;have hzl:(O.map λk=>((k:Nat):Int)).length<64:=by rw [cy];omega
 z_go;intro ns' h1 h2
 have e1:xU (D.lst (ns'.map D.int)) (D.lst (sX 0 (((am ps).map D.str).length:Int).toNat)):=by
  rw [hwm,tj,rH];exact xU.of (Sh.lstI _) (Sh.lstI _)
 have e2:deq (D.lst (ns'.map D.int)) (D.lst (sX 0 (((am ps).map D.str).length:Int).toNat))=true:=by
  rw [hwm,tj,rH,vM];exact decide_eq_true (List.Perm.eq_of_pairwise (λx y _ _ a b=>by omega) h2 (ub _) (h1.trans hzp))
 z_go;rw [e2,<- o8 O];clear e1 e2 h1 h2 hzp hzl ns';z_go;have Lm:((rgW (am ps)).map λl=>D.tup (l.map nD)).length=(rgW (am ps)).length:=cy _;generalize hLL:rgW (am ps)=L at *;have hL:∀l∈L,l∈rgW (am ps):=λl h=>by rw [hLL];exact h
 have bl:∀j,j<=L.length->(((L.take j).map (opn (am ps))).flatten).length<=40:=λj hj=>by
  have e:=congrArg (λM=>((M.map (opn (am ps))).flatten).length) (NN j L);simp only [D_,O9,kx,hO] at e;omega
 refine⟨λk ρ=>∃v9:Option PV,ρ=[ψ (.dat (.scr ns)),ψ (.own (z5.map .int)),ψ (.dat (.lst (ps.map .str))),ψ (.dat (.lst ((am ps).map .str))),ψ (.own (mP (am ps))),ψ (.dat (.obj "Family" nQ (nR ps))),ψ (.dat (.tup (O.map nD))),ψ (.dat (.tup (L.map λl=>D.tup (l.map nD)))),ψ (.own ((((L.take k).map (opn (am ps))).flatten).map nD)),v9,ω,ω,ω,ω],⟨_,rfl⟩,?_,?_⟩
 .rintro k ρ _ hk rfl ⟨v9,rfl⟩;rw [Lm] at hk;have eI:itD (L.map λl=>D.tup (l.map nD)) k=D.tup (L[k].map nD):=gP (by rw [h_,cx hk];rfl);have ek:L.take (k+1)=L.take k++[L[k]]:=by rw [NU,cx hk];rfl
  have e3:((L.take (k+1)).map (opn (am ps))).flatten=((L.take k).map (opn (am ps))).flatten++opn (am ps) L[k]:=by rw [ek,D_,O9,so,P2,MM,flatten_nil,Mr]
  have b1:=bl (k+1) hk;rw [e3,kx] at b1;have l1:((((L.take k).map (opn (am ps))).flatten).map nD).length<=40:=by rw [cy];omega
  have l2:((opn (am ps) L[k]).map nD).length<=40:=by rw [cy];omega
  have g2:(am ps).length<=40/\(∀w∈am ps,0<w.length/\w.length<=10000)/\L[k]∈rgW (am ps):=⟨hw40,hws,hL _ (MB hk)⟩
  rw [eI];z_go;rw [e3,D_];exact⟨_,rfl⟩
 rintro ρ ⟨v9,rfl⟩;rw [Lm,M5,hO];have eqO:=xU.of (Sh.lstI (O.map λk=>((k:Nat):Int))) (Sh.lstI (O.map λk=>((k:Nat):Int)));have dqO:=vH (Sh.lstI (O.map λk=>((k:Nat):Int)));rw [<- o8 O] at eqO dqO;z_go;rw [dqO];z_go
 refine B0 (xs:=L) (e:=λl=>D.tup (l.map nD)) (λτ=>∃(v:Option PV) (p:PV),τ=[v,ψ (.dat (.lst ((am ps).map .str))),ψ p]/\(p=.own (mP (am ps))\/p=.dat (.lst (mP (am ps))))) (λl=>.int (wgt (am ps) l)) ?_ ?_ ?_
 .exact⟨ω,_,rfl,.inl rfl⟩
 .rintro l hl τ ⟨v,p,rfl,hp⟩ K1 k1;have gw:(am ps).length<=40/\(∀w∈am ps,0<w.length/\w.length<=60)/\l∈rgW (am ps):=⟨hw40,w60,hL l hl⟩
  rcases hp with rfl|rfl <;> (
   z_go;exact k1 _ ⟨_,_,rfl,.inr rfl⟩)
 rintro τ ⟨v,p,rfl,hp⟩;rw [mj (λl=>wgt (am ps) l)];z_go
 refine B0 (xs:=L) (e:=λl=>D.tup (l.map nD)) (λτ=>∃(v:Option PV) (p:PV),τ=[v,ψ p]/\(p=.own (mP (am ps))\/p=.dat (.lst (mP (am ps))))) (λl=>.int (mnI (joi (am ps) l))) ?_ ?_ ?_
 .exact⟨ω,_,rfl,hp⟩
 .rintro l hl τ ⟨v,p,rfl,hp⟩ K1 k1;have gj:(am ps).length<=40/\l∈rgW (am ps):=⟨hw40,hL l hl⟩
  have j0:0<(joi (am ps) l).length:=by rw [Az];exact (CB (hL l hl)).1
  rcases hp with rfl|rfl <;> (
   z_go;intro m h1 h2;rw [DB h1 h2];exact k1 _ ⟨_,_,rfl,.inr rfl⟩)
 rintro τ ⟨v',p',rfl,hp'⟩;rw [mj (λl=>mnI (joi (am ps) l))];have hOi:∀i,i<O.length->O.getD i 0<(am ps).length:=λi hi=>hlt _ (by rw [e_,cx hi];exact MB _);have gg:xE (am ps)/\O.length<=40/\∀i,i<O.length->O.getD i 0<(am ps).length:=⟨hWs,by omega,hOi⟩
 have hgl:=uA hWs hOi O.length (f_ _);rw [M5] at hgl;have gt:xE (am ps)/\Dk z5/\8*(am ps).length+12<=z5.length/\z5.length<=10000:=⟨hWs,hz5,by omega,by omega⟩
 z_go;rintro t ht htl;rw [<- hgl] at ht;z_go;rintro Ts z6 hT hz6;generalize (L.map λl=>wgt (am ps) l).sum=W at hwa ⊢;generalize (L.map λl=>mnI (joi (am ps) l)).sum=C at hle ⊢;have Tm:(Ts.map D.str).length=Ts.length:=cy _;z_go
 refine⟨λk ρ=>∃v13:Option PV,ρ=[ψ (.dat (.scr ns)),ψ (.own (z6.map .int)),ψ (.dat (.lst (ps.map .str))),ψ (.dat (.lst ((am ps).map .str))),ψ p',ψ (.dat (.obj "Family" nQ (nR ps))),ψ (.dat (.tup (O.map nD))),ψ (.dat (.tup (L.map λl=>D.tup (l.map nD)))),ψ (.own (O.map nD)),v9,ψ (.dat (.int W)),ψ (.dat (.int C)),ψ (.dat (.int (t.length:Int))),v13],⟨_,rfl⟩,?_,?_⟩
 .rintro k ρ d hk ed ⟨v13,rfl⟩;rw [Tm] at hk;obtain⟨u,hu,rfl⟩:∃u,u∈Ts/\d=.str u:=⟨Ts[k],MB hk,by rw [ed];unfold itD;rw [e_,h_,cx hk];rfl⟩
  clear ed;have hTu:=hT u hu;z_go;exact⟨_,rfl⟩
 rintro ρ ⟨v13,rfl⟩;have eqT:=xU.of (Sh.tupI (O.map λk=>((k:Nat):Int))) (Sh.tupI (O.map λk=>((k:Nat):Int)));have dqT:=vH (Sh.tupI (O.map λk=>((k:Nat):Int)));rw [<- o8 O] at eqT dqT;z_go;rw [hLL,hO];exact⟨eqT,by rw [dqT];exact q⟩
def Jb:PRl DE AJ DD 1:=λ_ Q h=>match h with|⟨ns,e,h63,q⟩=>e ▸ ⟨rfl,FH ns h63 Q q⟩
local macro_rules | `(tactic| walk_at "l")=>`(tactic| (intros;rename_i h;split at h <;> first | rfl | exact h.elim))
local macro_rules | `(tactic| walk_at "b0")=>`(tactic| exact fun _ _ _ _ _ _ us hl=>match us,hl with | [],_=>rfl)
local macro_rules | `(tactic| k_mem)=>`(tactic| exact fun _ _ _ _ _ _ us hl=>match us,hl with | [_],_=>rfl)
local macro_rules | `(tactic| k_ne)=>`(tactic| exact fun _ _ _ _ _ _ us hl=>match us,hl with | [_,_],_=>rfl)
local macro_rules | `(tactic| walk_at "b3")=>`(tactic| exact fun _ _ _ _ _ _ us hl=>match us,hl with | [_,_,_],_=>rfl)
local macro_rules | `(tactic| walk_at "b4")=>`(tactic| exact fun _ _ _ _ _ _ us hl=>match us,hl with | [_,_,_,_],_=>rfl)
local macro_rules | `(tactic| walk_at "b5")=>`(tactic| exact fun _ _ _ _ _ _ us hl=>match us,hl with | [_,_,_,_,_],_=>rfl)
local macro_rules | `(tactic| walk_at "b6")=>`(tactic| exact fun _ _ _ _ _ _ us hl=>match us,hl with | [_,_,_,_,_,_],_=>rfl)
local macro_rules | `(tactic| walk_at "b7")=>`(tactic| exact fun _ _ _ _ _ _ us hl=>match us,hl with | [_,_,_,_,_,_,_],_=>rfl)
section
variable (P:v_) (w:World) (K:b_) (mg:Θ) (base:Heap)
abbrev nk:=Cal P w K mg base 1 "is_row" ["thing"] (spP K fO)
abbrev kK:=Cal P w K mg base 1 "is_number" ["thing"] (spP K gZ)
abbrev jp:=Cal P w K mg base 2 "is_whole" ["thing","least","most"] (spP K dE)
abbrev fE:=Cal P w K mg base 1 "first_place" ["text","piece"] (spP K dI)
abbrev kL:=Cal P w K mg base 3 "is_square" ["thing"] (spP K g9)
abbrev iP:=Cal P w K mg base 1 "way_to_free" ["rows","gives","takes","leaders","start"] (spP K fq)
abbrev gG:=Cal P w K mg base 2 "pair_one_more" ["rows","gives","takes","leaders","start"] (spM K cX)
abbrev ie:=Cal P w K mg base 4 "best_pairing" ["rows"] (spP K eQ)
abbrev pH:=Cal P w K mg base 3 "is_ring" ["thing","many"] (spP K kq)
abbrev iQ:=Jj P w K mg base 1 (bZ K "Family") "many" ["self"] (spP K bV)
abbrev jU:=Cal P w K mg base 4 "check_ring" ["family","ring"] (spP K gp)
abbrev iR:=Cal P w K mg base 1 "joins_round" ["ring"] (spP K dL)
abbrev kM:=Cal P w K mg base 1 "ring_from" ["followers","first"] (spP K fg)
abbrev jq:=Cal P w K mg base 5 "rings_of" ["family"] (spP K eT)
abbrev nq:=Cal P w K mg base 5 "opened" ["family","ring"] (spP K hC)
abbrev nr:=Cal P w K mg base 6 "by_rings" ["family"] (spP K gq)
abbrev DH:=Cal P w K mg base 1 "lap" ["one","other"] (spP K sj)
abbrev nt:=Cal P w K mg base 2 "all_laps" ["words"] (spP K gu)
abbrev xN:=G5 P w K mg base 1 "is_text" ["thing","least","most"] [.int 0,.int 4000] (spP K fP)
abbrev ig:=Cal P w K mg base 2 "check_pieces" ["things"] (spP K dy)
abbrev dX:=Cal P w K mg base 2 "stands_within" ["piece","other"] (spP K bR)
abbrev pI:=Cal P w K mg base 3 "is_kept" ["pieces","at"] (spP K fR)
abbrev nu:=Cal P w K mg base 3 "left_row" ["pieces","kept","at"] (spP K eU)
abbrev nv:=Cal P w K mg base 1 "_law_deck" ["_law_cells","_law_many_here"] (spP K ji)
abbrev dG:=Cal P w K mg base 1 "_law_next" ["_law_deck_here"] (spR K aO)
abbrev ny:=Cal P w K mg base 1 "_law_fits" ["_law_one","_law_other","_law_k"] (spP K jj)
abbrev iu:=Cal P w K mg base 2 "_law_lap" ["_law_one","_law_other"] (spP K dF)
abbrev nC:=Cal P w K mg base 1 "_law_kept" ["_law_pieces"] (spP K jk)
abbrev fF:=Cal P w K mg base 1 "_law_spelled" ["_law_number","_law_letters"] (spP K cA)
abbrev kN:=Cal P w K mg base 2 "_law_drawn" ["_law_deck_here","_law_most"] (spR K hJ)
abbrev gx:=Cal P w K mg base 3 "_law_glue" ["_law_words","_law_order_here"] (spP K eV)
abbrev kO:=Cal P w K mg base 2 "_law_order" ["_law_deck_here","_law_many_here"] (spR K hX)
abbrev iS:=Cal P w K mg base 4 "_law_holding" ["_law_deck_here","_law_words"] (spR K dM)
abbrev kP:=Cal P w K mg base 1 "_law_whole" ["_law_found"] (spP K fh)
abbrev pJ:=Cal P w K mg base 1 "_law_all" ["_law_many_here"] (spP K kr)
abbrev jV:=Cal P w K mg base 1 "_law_weight" ["_law_words","_law_laps","_law_ring"] (spP K ee)
abbrev kQ:=Cal P w K mg base 1 "_law_joins" ["_law_laps","_law_ring"] (spP K fi)
abbrev kR:=Cal P w K mg base 5 "_law_texts" ["_law_deck_here","_law_words"] (spR K hZ)
abbrev nE:=Cal P w K mg base 2 "_law_many" ["_law_deck_here"] (spR K jo)
abbrev oh:=G7 P w K mg base 4 (bZ K "Family") "Family" ["self","pieces"] (spR K cw)
abbrev Jc:=Cal P w K mg base 7 "law" ["_law_script"] (spP K DE)
end
section
variable (P:v_) (w:World) {K:b_}{mg:Θ} (base:Heap)
def AK(D:aZ K mg "is_row" qt)(T:Txt mg)(TC:TxC K):nk P w K mg base:=D.oP2 An (by k_mem) AG rfl rfl λ_ _ _ _ _ _ _ hr hu=>⟨_,(aq (aP (ao (Ka K rfl) rfl T.b_isinstance Ny (paC (pv 0) (paC (oK (paC (gJ (v:=.ty "list") rfl T.b_list OJ rfl) (paC (gJ (v:=.ty "tuple") rfl T.b_tuple MT rfl) ae))) ae))))),(ss K mg TC)⟩
def sN(D:aZ K mg "is_number" i7)(T:Txt mg)(TC:TxC K):kK P w K mg base:=D.oP2 sd (by k_mem) sv rfl rfl λ_ _ _ _ _ _ _ hr hu=>⟨_,(aq (aP (oF (ao (xa K rfl) rfl T.b_isinstance Ny (paC (pv 0) (paC (gJ (v:=.ty "int") rfl T.b_int boot_int rfl) ae))) (oE (x6 (ao (xa K rfl) rfl T.b_isinstance Ny (paC (pv 0) (paC (gJ (v:=.ty "bool") rfl T.b_bool boot_bool rfl) ae)))))))),(kB K mg TC)⟩
def xO(D:vv K mg "is_text" fN [.int 0,.int 4000])(T:Txt mg)(TC:TxC K):G5 P w K mg base 1 "is_text" ["thing","least","most"] [.int 0,.int 4000] (spP K fP):=by
 refine D.ok xx (λdT kV doc pm an cdv ct items us n hi hn hl=>?_) (λvs H Q E h=>?_) (λf cdv A outer s H vs Q E hr h=>?_)
 .obtain⟨i0,i1,rfl⟩:=Ix hi;have hn':n=0\/n=1\/n=2:=by (have:n<=2:=hn);omega
  rcases hn' with rfl|rfl|rfl
  .have hl2:us.length=1:=by (simp at hl;omega)
   obtain⟨_,rfl⟩:=KE hl2;exact⟨_,rfl,rfl⟩
  .have hl2:us.length=2:=by (simp at hl;omega)
   obtain⟨_,_,rfl⟩:=Ix hl2;exact⟨_,rfl,rfl⟩
  .have hl2:us.length=3:=by (simp at hl;omega)
   obtain⟨_,_,_,rfl⟩:=KF hl2;exact⟨_,rfl,rfl⟩
 .exact Jm (λds Q h=>(ku ds Q h).1) h
 .have hu:=hr.units;exact⟨_,(af (df (PW.pt (wv (iC (dB (ao (xa K rfl) rfl T.b_isinstance Ny (paC (pv 0) (paC (gJ (v:=.ty "str") rfl T.b_str boot_str rfl) ae))))) (oA (iC (A3 FP FP (pv 1) (ao (bS K rfl) rfl T.b_len o_ (paC (pv 0) ae)) (pv 2)))))) (aq (aP nH)) bc) (aq (aP (ao (BI K rfl rfl) rfl T.b_all boot_all (paC (bP (wi:=(iG K (aS 0))) (g:=(bE 0)) (tts:=iU) (te:=(ve Jl Jl (tC (V.str (S [97]))) (aS 0) (tC (V.str (S [122]))))) ["sign"] [ω] rfl (bL K rfl (pv 0)) (λ_ _ _ _=>⟨(aA (i:=0) (by show E_ (["sign"]:List Str);decide +kernel) rfl ∅),bu,(vf FP FP (di (l:=[97]) (by decide +kernel)) (pv 0) (di (l:=[122]) (by decide +kernel)))⟩) (by kernel_rfl)) ae))))),fnP (K:=K) (c:=fP) (ps:=pA) (N:=["thing","least","most"]) (au (dr (wZ (iE (vB (oV .str (fH (i:=0))))) (iE (fJ (pZ w4 w4 (fH (i:=1)) (ah (aK aT (aa (fH (i:=0)) ac))) (fH (i:=2)))))) (aQ (nL (i:=ξ))) bh) (aQ (aK vE (aa (ah (aY (ix:=[ω]) rfl (bM (jC (i:=0))) (λfs hc=>(d3 (i:=0) (gH hc (by decide)))) bW (pZ w4 w4 (ah (le_str (l:=[97]))) (fH (i:=0)) (ah (le_str (l:=[122])))))) ac)))) (λds Q h=>Mn (Pj (ku ds Q h).1) (by decide)) (λds Q h=>(ku ds Q h).2) h⟩
def uX(D:aZ K mg "is_whole" kc)(T:Txt mg)(TC:TxC K)(C'1:kK P w K mg base):jp P w K mg base:=D.oP2 uj (by walk_at "b3") uC rfl rfl λ_ _ _ _ _ _ _ hr hu=>⟨_,(aq (aP (oF (ay C'1 (hr.m rfl) (paC (pv 0) ae)) (oE (vf FP FP (pv 1) (pv 0) (pv 2)))))),(mQ K mg TC)⟩
def oi(D:aZ K mg "first_place" gb)(T:Txt mg)(TC:TxC K):fE P w K mg base:=D.oP2 nU (by k_ne) nY rfl rfl λ_ _ _ _ _ _ _ hr hu=>⟨_,(aq (aP (e8 K rfl QA PySem.F.slot_str_find PySem.F.type_str_find BK (pv 0) (paC (pv 1) ae)))),(iI K mg TC)⟩
def sO(D:aZ K mg "is_square" i8)(T:Txt mg)(TC:TxC K)(C'0:nk P w K mg base)(C'3:jp P w K mg base):kL P w K mg base:=D.oP2 se (by k_mem) sy rfl rfl λ_ _ _ _ _ _ _ hr hu=>⟨_,(af (df (PW.pt (wv (iC (dB (ay C'0 (hr.m rfl) (paC (pv 0) ae)))) (oA (aM ze (ao (bS K rfl) rfl T.b_len o_ (paC (pv 0) ae)) (ll rfl T.g_MOST_ROWS) (aX _))))) (aq (aP nH)) bc) (af (df (iC (dB (ao (BI K rfl rfl) rfl T.b_all boot_all (paC (bP (wi:=(iG K (aS 0))) (g:=(bE 0)) (tts:=iU) (te:=(DO (dA (spP K fO) [] E0 (aL (aS 0) dz)) (tOp (xi K ξ) (tCB (kW K) (aL (aS 0) dz)) (tCB (kW K) (aL (aS 1) dz))))) ["row","thing"] [ω,ψ 0] rfl (bL K rfl (pv 0)) (λ_ _ _ _=>⟨(aA (i:=0) (by show E_ (["row","thing"]:List Str);decide +kernel) rfl ∅),bu,(oF (ay C'0 (hr.m rfl) (paC (pv 0) ae)) (oE (gK (jI K rfl hu) (ao (bS K rfl) rfl T.b_len o_ (paC (pv 0) ae)) (ao (bS K rfl) rfl T.b_len o_ (paC (pv 1) ae)) (aX _))))⟩) (by kernel_rfl)) ae)))) (aq (aP nH)) bc) (aq (aP (ao (BI K rfl rfl) rfl T.b_all boot_all (paC (vI (wi:=(iG K (aS 0))) (g:=(bE 0)) (tts:=iU) (wi2:=(iG K (aS 0))) (g2:=(bE 1)) (tts2:=iU) (te:=(dA (spP K dE) [] E0 (aL (aS 1) (aL (tC (V.int 0)) (aL (tC (V.int 1000000)) dz))))) ["row","item"] [ω,ω] rfl (bL K rfl (pv 0)) (λ_ _ _ _=>⟨(aA (i:=0) (by show E_ (["row","item"]:List Str);decide +kernel) rfl ∅),bu,(bL K rfl (pv 0)),(aA (i:=1) (by show E_ (["row","item"]:List Str);decide +kernel) rfl ∅),bu,(ay C'3 (hr.m rfl) (paC (pv 1) (paC ar (paC (ll rfl T.g_MOST_NUMBER) ae))))⟩) (by kernel_rfl)) ae)))))),(kC K mg TC)⟩
def oj(D:aZ K mg "way_to_free" gc)(T:Txt mg)(TC:TxC K):iP P w K mg base:=D.oP20 bb (by walk_at "b5") n0 rfl rfl λ_ _ _ _ _ _ _ hr hu=>⟨_,(af (aF (i:=5) bb.nd rfl ∅ vt) (af (aF (i:=6) bb.nd rfl ∅ vt) (af (Fa (i:=7) (j:=8) (k:=9) rfl bb.nd rfl rfl rfl (by decide) rfl rfl rfl (paC (pv 4) (paC ar (paC (wA oG ar) ae))) (by rfl)) (af (jr z_ (aM FS (pv 7) ar (aX _)) (af (cJ z_ rfl (p9 K rfl rfl T.b_enumerate (paC (aV (c4 K rfl) (pv 0) (pv 7) (λ_ _=>rfl)) ae)) (oZ K rfl (n:=2) rfl (cQ (aA (i:=10) bb.nd rfl ∅) (cQ (aA (i:=11) bb.nd rfl ∅) jX))) (af (aF (i:=12) bb.nd rfl ∅ (aH p8 (aH (bj K rfl) (aH (bj K rfl) (pv 8) (aV (c4 K rfl) (pv 1) (pv 7) (λ_ _=>rfl))) (aV (c4 K rfl) (pv 2) (pv 10) (λ_ _=>rfl))) (pv 11))) (aq (df (PW.pt (oB (aM (wj hu) (pv 10) (pv 5) (by with_unfolding_all rfl)) (jW (PW.pt (wv (aM (wj hu) (pv 10) (pv 6) (by with_unfolding_all rfl)) (oA (aM J7 (pv 12) (aV (c4 K rfl) (iq hu (pv 6) (pv 10) (λ_ _=>rfl)) ar (λ_ _=>rfl)) (aX _)))))))) (aq (wm (hu1 hu) (pv 6) (pv 10) (oK (paC (pv 12) (paC (pv 9) ae))))) bc)))) (af (CK (ao (E8 K rfl rfl hu) rfl T.b_min Qi (paC (IJ (bP (wi:=(iDk (aS 6))) (g:=(bE 0)) (tts:=iU) (te:=(Gy (aL (tOp (vC K) (tOp Af (aS 1) (aS 0)) (tC (V.int 0))) (aL (aS 0) dz)))) ["j","near"] [ω,ψ 6] rfl (IK (pv 6)) (λ_ _ _ _=>⟨(aA (i:=0) (by show E_ (["j","near"]:List Str);decide +kernel) rfl ∅),bu,(oK (paC (aV (c4 K rfl) (iq hu (pv 1) (pv 0) (λ_ _=>rfl)) ar (λ_ _=>rfl)) (paC (pv 0) ae)))⟩) (by kernel_rfl))) ae)) (oZ K rfl (n:=2) rfl (cQ (aA (i:=8) bb.nd rfl ∅) (cQ (aA (i:=9) bb.nd rfl ∅) jX)))) (af (wm (hu1 hu) (pv 5) (pv 9) (Bx (pv 6) (pv 9) ⟨rfl,rfl,rfl,rfl⟩)) (aq (aF (i:=7) bb.nd rfl ∅ (aV (c4 K rfl) (pv 3) (pv 9) (λ_ _=>rfl)))))))) (aq (aP (pv 5))))))),(iJ K mg TC)⟩
def lc(D:aZ K mg "pair_one_more" eN)(T:Txt mg)(TC:TxC K)(C'6:iP P w K mg base):gG P w K mg base:=D.oM2 bB (by walk_at "b5") k6 rfl rfl λ_ _ _ _ _ _ _ hr hu=>⟨_,(af (aF (i:=5) bB.nd rfl ∅ (ay C'6 (hr.m rfl) (paC (pv 0) (paC (pv 1) (paC (pv 2) (paC (pv 3) (paC (pv 4) ae))))))) (af (aF (i:=6) bB.nd rfl ∅ (aV (c4 K rfl) (aJ (Fh rfl) rfl T.b_list OJ (paC (pv 5) ae)) (wA oG ar) (λ_ _=>rfl))) (af (aF (i:=7) bB.nd rfl ∅ (aV (c4 K rfl) (iq hu (pv 5) (pv 6) (λ_ _=>rfl)) ar (λ_ _=>rfl))) (af (tu (pv 1) (pv 4) (mn K rfl) (pv 7) CL jt) (af (IL (cJ z_ rfl (IK (pv 5)) (aA (i:=8) bB.nd rfl ∅) (aq (df (aM FS (aV (c4 K rfl) (pv 3) (pv 8) (λ_ _=>rfl)) ar (aX _)) (af (tu (pv 2) (pv 8) (mn K rfl) (aH p8 (pv 7) (aV (c4 K rfl) (iq hu (pv 5) (pv 8) (λ_ _=>rfl)) ar (λ_ _=>rfl))) Gp jt) (aq (tu (pv 1) (aV (c4 K rfl) (pv 3) (pv 8) (λ_ _=>rfl)) (mn K rfl) (aH p8 (pv 7) (aV (c4 K rfl) (iq hu (pv 5) (pv 8) (λ_ _=>rfl)) ar (λ_ _=>rfl))) CL jt))) bc)))) (aq (jr z_ (aM FS (pv 6) ar (aX _)) (af (aF (i:=9) bB.nd rfl ∅ (aV (c4 K rfl) (iq hu (pv 5) (pv 6) (λ_ _=>rfl)) ar (λ_ _=>rfl))) (af (zO (A0 (aM FS (pv 9) ar (aX _)) (aV (c4 K rfl) (pv 3) (pv 9) (λ_ _=>rfl)) (pv 4)) (CJ (pv 3) (pv 6) jt)) (aq (aF (i:=6) bB.nd rfl ∅ (pv 9)))))))))))),(gE K mg TC)⟩
def nF(D:aZ K mg "best_pairing" fm)(T:Txt mg)(TC:TxC K)(C'5:kL P w K mg base)(C'7:gG P w K mg base):ie P w K mg base:=D.oP2 bY (by k_mem) mS rfl rfl λ_ _ _ _ _ _ _ hr hu=>⟨_,(af (df (iC (dB (ay C'5 (hr.m rfl) (paC (pv 0) ae)))) (aq lh) bc) (af (gO (wi:=(iG K (aS 0))) (g:=(bE 0)) (tts:=iU) (te:=(tCB (Fc K) (aL (aS 0) dz))) (i:=1) ["row"] [ω] bY.nd rfl (Qu rfl) rfl (bL K rfl (pv 0)) (λ_ _ _ _=>⟨(aA (i:=0) (by show E_ (["row"]:List Str);decide +kernel) rfl ∅),bu,(ao (IF K rfl rfl) rfl T.b_max boot_max (paC (pv 0) ae))⟩) (by kernel_rfl)) (af (gO (wi:=(iG K (aS 0))) (g:=(bE 0)) (tts:=iU) (te:=(tC (V.int 0))) (i:=2) ["row"] [ω] bY.nd rfl (Qu rfl) rfl (bL K rfl (pv 0)) (λ_ _ _ _=>⟨(aA (i:=0) (by show E_ (["row"]:List Str);decide +kernel) rfl ∅),bu,ar⟩) (by kernel_rfl)) (af (aF (i:=3) bY.nd rfl ∅ (bP (wi:=(iG K (aS 0))) (g:=(bE 0)) (tts:=iU) (te:=(tUn HN (tC (V.int 1)))) ["row"] [ω] rfl (bL K rfl (pv 0)) (λ_ _ _ _=>⟨(aA (i:=0) (by show E_ (["row"]:List Str);decide +kernel) rfl ∅),bu,(wA oG ar)⟩) (by kernel_rfl))) (af (cJ z_ rfl (bC rfl T.b_range (paC (ao (bS K rfl) rfl T.b_len o_ (paC (pv 0) ae)) ae)) (aA (i:=4) bY.nd rfl ∅) (aq (dP (ay C'7 (hr.m rfl) (paC (pv 0) (paC (pv 1) (paC (pv 2) (paC (pv 3) (paC (pv 4) ae))))))))) (af (aF (i:=5) bY.nd rfl ∅ (aJ (du K rfl) rfl T.b_tuple MT (paC (bP (wi:=(wz (aL (tCB (kW K) (aL (aS 0) dz)) dz))) (g:=(bE 0)) (tts:=iU) (te:=(tBM K "list" (E3 K) (aS 1) (aL (aS 0) dz))) ["i","leaders"] [ω,ψ 3] rfl (bC rfl T.b_range (paC (ao (bS K rfl) rfl T.b_len o_ (paC (pv 0) ae)) ae)) (λ_ _ _ _=>⟨(aA (i:=0) (by show E_ (["i","leaders"]:List Str);decide +kernel) rfl ∅),bu,(e8 K rfl J_ Qj Qk (zM K rfl) (pv 1) (paC (pv 0) ae))⟩) (by kernel_rfl)) ae))) (aq (aP (oK (paC (pv 5) (paC (aJ (du K rfl) rfl T.b_tuple MT (paC (pv 1) ae)) (paC (aJ (du K rfl) rfl T.b_tuple MT (paC (pv 2) ae)) ae)))))))))))),(h7 K mg TC)⟩
def xP(D:aZ K mg "is_ring" mF)(T:Txt mg)(TC:TxC K)(C'0:nk P w K mg base)(C'3:jp P w K mg base):pH P w K mg base:=D.oP2 xy (by k_ne) xG rfl rfl λ_ _ _ _ _ _ _ hr hu=>⟨_,(af (df (PW.pt (wv (iC (dB (ay C'0 (hr.m rfl) (paC (pv 0) ae)))) (oA (aM (jI K rfl hu) (ao (bS K rfl) rfl T.b_len o_ (paC (pv 0) ae)) ar (aX _))))) (aq (aP nH)) bc) (aq (aP (oF (ao (BI K rfl rfl) rfl T.b_all boot_all (paC (bP (wi:=(iG K (aS 0))) (g:=(bE 0)) (tts:=iU) (te:=(dA (spP K dE) [] E0 (aL (aS 0) (aL (tC (V.int 0)) (aL (tOp HK (aS 1) (tC (V.int 1))) dz))))) ["item","many"] [ω,ψ 1] rfl (bL K rfl (pv 0)) (λ_ _ _ _=>⟨(aA (i:=0) (by show E_ (["item","many"]:List Str);decide +kernel) rfl ∅),bu,(ay C'3 (hr.m rfl) (paC (pv 0) (paC ar (paC (aH p8 (pv 1) ar) ae))))⟩) (by kernel_rfl)) ae)) (oE (gK (jI K rfl hu) (Fl K rfl rfl rfl T.b_len rfl T.b_set (paC (pv 0) ae)) (ao (bS K rfl) rfl T.b_len o_ (paC (pv 0) ae)) (aX _))))))),(pD K mg TC)⟩
def qD(D:aZ K mg "check_ring" gU)(T:Txt mg)(TC:TxC K)(C'23:iQ P w K mg base)(C'9:pH P w K mg base):jU P w K mg base:=D.oP2 qv (by k_ne) qA rfl rfl λ_ _ _ _ _ _ _ hr hu=>⟨_,(aq (df (iC (dB (ay C'9 (hr.m rfl) (paC (pv 1) (paC (vA (pv 0) TC.clφ C'23 (hr.m rfl)) ae))))) (aq lh) bc)),(jS K mg TC)⟩
def om(D:aZ K mg "joins_round" gk)(T:Txt mg)(TC:TxC K):iR P w K mg base:=D.oP2 nV (by k_mem) n6 rfl rfl λ_ _ _ _ _ _ _ hr hu=>⟨_,(aq (aP (bP (wi:=(BE K (aL (aS 0) (aL (tOp (B5 K) (tSl (Hg K) (aS 0) (Bf (tC (V.int 1))) pP) (tSl (Hg K) (aS 0) pP (Bf (tC (V.int 1))))) dz)))) (g:=(FT K 2 (lA (bE 0) (lA (bE 1) FI)))) (tts:=iU) (te:=(Gy (aL (aS 0) (aL (aS 1) dz)))) ["i","j"] [ω,ω] rfl (EO K rfl rfl T.b_zip (paC (pv 0) (paC (aH (bj K rfl) (bF (p5 K rfl) (pv 0) (bK ar) cY) (bF (p5 K rfl) (pv 0) cY (bK ar))) ae))) (λ_ _ _ _=>⟨(oZ K rfl (n:=2) rfl (cQ (aA (i:=0) (by show E_ (["i","j"]:List Str);decide +kernel) rfl ∅) (cQ (aA (i:=1) (by show E_ (["i","j"]:List Str);decide +kernel) rfl ∅) jX))),bu,(oK (paC (pv 0) (paC (pv 1) ae)))⟩) (by kernel_rfl)))),(iK K mg TC)⟩
def sP(D:aZ K mg "ring_from" jb)(T:Txt mg)(TC:TxC K):kM P w K mg base:=D.oP2 kA (by k_ne) sB rfl rfl λ_ _ _ _ _ _ _ hr hu=>⟨_,(af (aF (i:=2) kA.nd rfl ∅ (dg (paC (pv 1) ae))) (af (jr z_ (aM (t7 K rfl hu) (aV (c4 K rfl) (pv 0) (aV (c4 K rfl) (pv 2) (wA oG ar) (λ_ _=>rfl)) (λ_ _=>rfl)) (pv 1) (aX _)) (aq (dP (e8 K rfl J_ Mz MA dh (pv 2) (paC (aV (c4 K rfl) (pv 0) (aV (c4 K rfl) (pv 2) (wA oG ar) (λ_ _=>rfl)) (λ_ _=>rfl)) ae))))) (aq (aP (aJ (du K rfl) rfl T.b_tuple MT (paC (pv 2) ae)))))),(kE K mg TC)⟩
def uY(D:aZ K mg "rings_of" kd)(T:Txt mg)(TC:TxC K)(C'23:iQ P w K mg base)(C'8:ie P w K mg base)(C'12:kM P w K mg base):jq P w K mg base:=D.oP2 jh (by k_mem) uE rfl rfl λ_ _ _ _ _ _ _ hr hu=>⟨_,(af (aF (i:=1) jh.nd rfl ∅ (aV (c4 K rfl) (ay C'8 (hr.m rfl) (paC (dQ K rfl (pv 0) rfl) ae)) ar (λ_ _=>rfl))) (af (gO (wi:=(wz (aL (A7 (bZ K "Family") "many" (spP K bV) [] E0 (aS 0) dz) dz))) (g:=(bE 0)) (tts:=iU) (te:=(dA (spP K fg) [] E0 (aL (aS 1) (aL (aS 0) dz)))) (i:=2) ["first","followers"] [ω,ψ 1] jh.nd rfl (Qu rfl) rfl (bC rfl T.b_range (paC (vA (pv 0) TC.clφ C'23 (hr.m rfl)) ae)) (λ_ _ _ _=>⟨(aA (i:=0) (by show E_ (["first","followers"]:List Str);decide +kernel) rfl ∅),bu,(ay C'12 (hr.m rfl) (paC (pv 1) (paC (pv 0) ae)))⟩) (by kernel_rfl)) (aq (aP (aJ (du K rfl) rfl T.b_tuple MT (paC (bP (wi:=(BD K (aL (aS 2) dz))) (g:=(FT K 2 (lA (bE 0) (lA (bE 1) FI)))) (tts:=(qN (tOp (xi K ξ) (aS 0) (tCB (Ak K) (aL (aS 1) dz))))) (te:=(aS 1)) ["first","ring"] [ω,ω] rfl (p9 K rfl rfl T.b_enumerate (paC (pv 2) ae)) (λ_ _ _ _=>⟨(oZ K rfl (n:=2) rfl (cQ (aA (i:=0) (by show E_ (["first","ring"]:List Str);decide +kernel) rfl ∅) (cQ (aA (i:=1) (by show E_ (["first","ring"]:List Str);decide +kernel) rfl ∅) jX))),(iV (aM (jI K rfl hu) (pv 0) (ao (Fi K rfl rfl) rfl T.b_min Qi (paC (pv 1) ae)) (aX _))),(pv 1)⟩) (by kernel_rfl)) ae)))))),(mT K mg TC)⟩
def AL(D:aZ K mg "opened" qu)(T:Txt mg)(TC:TxC K)(C'10:jU P w K mg base)(C'11:iR P w K mg base):nq P w K mg base:=D.oP2 mJ (by k_ne) AI rfl rfl λ_ _ _ _ _ _ _ hr hu=>⟨_,(af (dP (ay C'10 (hr.m rfl) (paC (pv 0) (paC (pv 1) ae)))) (af (gO (wi:=(iG K (dA (spP K dL) [] E0 (aL (aS 1) dz)))) (g:=(FT K 2 (lA (bE 0) (lA (bE 1) FI)))) (tts:=iU) (te:=(tOp (vC K) (tOp (vC K) (yi K (aS 2) "laps") (aS 0)) (aS 1))) (i:=2) ["i","j","family"] [ω,ω,ψ 0] mJ.nd rfl (Qu rfl) rfl (bL K rfl (ay C'11 (hr.m rfl) (paC (pv 1) ae))) (λ_ _ _ _=>⟨(oZ K rfl (n:=2) rfl (cQ (aA (i:=0) (by show E_ (["i","j","family"]:List Str);decide +kernel) rfl ∅) (cQ (aA (i:=1) (by show E_ (["i","j","family"]:List Str);decide +kernel) rfl ∅) jX))),bu,(aV (c4 K rfl) (aV (c4 K rfl) (dQ K rfl (pv 2) rfl) (pv 0) (λ_ _=>rfl)) (pv 1) (λ_ _=>rfl))⟩) (by kernel_rfl)) (af (aF (i:=3) mJ.nd rfl ∅ (aH (bj K rfl) (e8 K rfl J_ Qj Qk (zM K rfl) (pv 2) (paC (ao (vD K rfl rfl) rfl T.b_min Qi (paC (pv 2) ae)) ae)) ar)) (aq (aP (aJ (du K rfl) rfl T.b_tuple MT (paC (aH (bj K rfl) (bF (p5 K rfl) (pv 1) (bK (pv 3)) cY) (bF (p5 K rfl) (pv 1) cY (bK (pv 3)))) ae))))))),(sC K mg TC)⟩
def uZ(D:aZ K mg "by_rings" ke)(T:Txt mg)(TC:TxC K)(C'14:nq P w K mg base)(C'13:jq P w K mg base):nr P w K mg base:=D.oP2 uk (by k_mem) uG rfl rfl λ_ _ _ _ _ _ _ hr hu=>⟨_,(aq (aP (aJ (du K rfl) rfl T.b_tuple MT (paC (vI (wi:=(iG K (dA (spP K eT) [] E0 (aL (aS 0) dz)))) (g:=(bE 0)) (tts:=iU) (wi2:=(iG K (dA (spP K hC) [] E0 (aL (aS 2) (aL (aS 0) dz))))) (g2:=(bE 1)) (tts2:=iU) (te:=(aS 1)) ["ring","number","family"] [ω,ω,ψ 0] rfl (bL K rfl (ay C'13 (hr.m rfl) (paC (pv 0) ae))) (λ_ _ _ _=>⟨(aA (i:=0) (by show E_ (["ring","number","family"]:List Str);decide +kernel) rfl ∅),bu,(bL K rfl (ay C'14 (hr.m rfl) (paC (pv 2) (paC (pv 0) ae)))),(aA (i:=1) (by show E_ (["ring","number","family"]:List Str);decide +kernel) rfl ∅),bu,(pv 1)⟩) (by kernel_rfl)) ae)))),(mU K mg TC)⟩
def Jd(D:aZ K mg "lap" Fn)(T:Txt mg)(TC:TxC K):DH P w K mg base:=D.oP2 Dx (by k_ne) Ja rfl rfl λ_ _ _ _ _ _ _ hr hu=>⟨_,(af (cJ z_ rfl (yE rfl T.b_range (paC (aH p8 (ao (C4 rfl) rfl T.b_min Qi (paC (ao (bS K rfl) rfl T.b_len o_ (paC (pv 0) ae)) (paC (ao (bS K rfl) rfl T.b_len o_ (paC (pv 1) ae)) ae))) ar) (paC ar (paC (wA oG ar) ae)))) (aA (i:=2) Dx.nd rfl ∅) (aq (df (dB (e8 K rfl QA PySem.F.slot_str_endswith PySem.F.type_str_endswith EM (pv 0) (paC (bF (p5 K rfl) (pv 1) cY (bK (pv 2))) ae))) (aq (aP (pv 2))) bc))) (aq (aP ar))),(DF K mg TC)⟩
def u0(D:aZ K mg "all_laps" kf)(T:Txt mg)(TC:TxC K)(C'16:DH P w K mg base):nt P w K mg base:=D.oP2 ul (by k_mem) uI rfl rfl λ_ _ _ _ _ _ _ hr hu=>⟨_,(aq (aP (aJ (du K rfl) rfl T.b_tuple MT (paC (bP (wi:=(iG K (aS 0))) (g:=(bE 0)) (tts:=iU) (te:=(tCB (EL K) (aL (wO [ω,ψ 0] (iG K (aS 1)) (bE 0) iU (dA (spP K sj) [] E0 (aL (aS 1) (aL (aS 0) dz)))) dz))) ["one","words"] [ω,ψ 0] rfl (bL K rfl (pv 0)) (λ_ _ _ _=>⟨(aA (i:=0) (by show E_ (["one","words"]:List Str);decide +kernel) rfl ∅),bu,(aJ (du K rfl) rfl T.b_tuple MT (paC (bP (wi:=(iG K (aS 1))) (g:=(bE 0)) (tts:=iU) (te:=(dA (spP K sj) [] E0 (aL (aS 1) (aL (aS 0) dz)))) ["other","one"] [ω,ψ 0] rfl (bL K rfl (pv 1)) (λ_ _ _ _=>⟨(aA (i:=0) (by show E_ (["other","one"]:List Str);decide +kernel) rfl ∅),bu,(ay C'16 (hr.m rfl) (paC (pv 1) (paC (pv 0) ae)))⟩) (by kernel_rfl)) ae))⟩) (by kernel_rfl)) ae)))),(mW K mg TC)⟩
def nG(D:aZ K mg "check_pieces" fo)(T:Txt mg)(TC:TxC K)(C'2:xN P w K mg base):ig P w K mg base:=D.oP2 eP (by k_mem) mY rfl rfl λ_ _ _ _ _ _ _ hr hu=>⟨_,(af (df (aM ze (ao (bS K rfl) rfl T.b_len o_ (paC (pv 0) ae)) (ll rfl T.g_MOST_PIECES) (aX _)) (aq lh) bc) (aq (cJ z_ rfl (p9 K rfl rfl T.b_enumerate (paC (pv 0) ae)) (oZ K rfl (n:=2) rfl (cQ (aA (i:=1) eP.nd rfl ∅) (cQ (aA (i:=2) eP.nd rfl ∅) jX))) (aq (df (iC (dB (BU 2 C'2 (hr.m rfl) (by decide) (paC (pv 2) (paC ar (paC (ll rfl T.g_MOST_SIGNS) ae)))))) (aq lh) bc))))),(ic K mg TC)⟩
def lg(D:aZ K mg "stands_within" eO)(T:Txt mg)(TC:TxC K)(C'4:fE P w K mg base):dX P w K mg base:=D.oP2 kY (by k_ne) k8 rfl rfl λ_ _ _ _ _ _ _ hr hu=>⟨_,(aq (aP (gK FS (ay C'4 (hr.m rfl) (paC (pv 1) (paC (pv 0) ae))) ar (aX _)))),(gF K mg TC)⟩
def xQ(D:aZ K mg "is_kept" mG)(T:Txt mg)(TC:TxC K)(C'19:dX P w K mg base):pI P w K mg base:=D.oP2 ko (by k_ne) xI rfl rfl λ_ _ _ _ _ _ _ hr hu=>⟨_,(af (aF (i:=2) ko.nd rfl ∅ (aV (c4 K rfl) (pv 0) (pv 1) (λ_ _=>rfl))) (af (gO (wi:=(iG K (aS 0))) (g:=(bE 0)) (tts:=(qN (tOp Kl (tCB (kW K) (aL (aS 0) dz)) (tCB (kW K) (aL (aS 1) dz))))) (te:=(aS 0)) (i:=3) ["other","piece"] [ω,ψ 2] ko.nd rfl (Qu rfl) rfl (bL K rfl (pv 0)) (λ_ _ _ _=>⟨(aA (i:=0) (by show E_ (["other","piece"]:List Str);decide +kernel) rfl ∅),(iV (aM ze (ao (bS K rfl) rfl T.b_len o_ (paC (pv 0) ae)) (ao (bS K rfl) rfl T.b_len o_ (paC (pv 1) ae)) (aX _))),(pv 0)⟩) (by kernel_rfl)) (aq (aP (oF (gK (lp K rfl) (pv 2) (bF (p5 K rfl) (pv 0) cY (bK (pv 1))) (by with_unfolding_all rfl)) (oE (x6 (ao (Kh K rfl rfl) rfl T.b_any boot_any (paC (bP (wi:=(iG K (aS 3))) (g:=(bE 0)) (tts:=iU) (te:=(dA (spP K bR) [] E0 (aL (aS 1) (aL (aS 0) dz)))) ["other","piece"] [ω,ψ 2] rfl (bL K rfl (pv 3)) (λ_ _ _ _=>⟨(aA (i:=0) (by show E_ (["other","piece"]:List Str);decide +kernel) rfl ∅),bu,(ay C'19 (hr.m rfl) (paC (pv 1) (paC (pv 0) ae)))⟩) (by kernel_rfl)) ae))))))))),(pE K mg TC)⟩
def u4(D:aZ K mg "left_row" kg)(T:Txt mg)(TC:TxC K)(C'4:fE P w K mg base)(C'19:dX P w K mg base):nu P w K mg base:=D.oP2 mK (by walk_at "b3") uK rfl rfl λ_ _ _ _ _ _ _ hr hu=>⟨_,(af (aF (i:=3) mK.nd rfl ∅ (ao (vD K rfl rfl) rfl T.b_min Qi (paC (bP (wi:=(iG K (aS 1))) (g:=(bE 0)) (tts:=(tB (dA (spP K bR) [] E0 (aL (tOp (vC K) (aS 1) (aS 2)) (aL (tOp (vC K) (aS 1) (aS 0)) dz))))) (te:=(aS 0)) ["one","pieces","at"] [ω,ψ 0,ψ 2] rfl (bL K rfl (pv 1)) (λ_ _ _ _=>⟨(aA (i:=0) (by show E_ (["one","pieces","at"]:List Str);decide +kernel) rfl ∅),(iV (dB (ay C'19 (hr.m rfl) (paC (aV (c4 K rfl) (pv 1) (pv 2) (λ_ _=>rfl)) (paC (aV (c4 K rfl) (pv 1) (pv 0) (λ_ _=>rfl)) ae))))),(pv 0)⟩) (by kernel_rfl)) ae))) (aq (aP (oK (paC (pv 2) (paC (pv 3) (paC (ay C'4 (hr.m rfl) (paC (aV (c4 K rfl) (pv 0) (pv 3) (λ_ _=>rfl)) (paC (aV (c4 K rfl) (pv 0) (pv 2) (λ_ _=>rfl)) ae))) ae))))))),(mZ K mg TC)⟩
def oq(D:vz K mg (bZ K "Family") "Family" "Family.__init__" cp)(T:Txt mg)(TC:TxC K)(C'17:nt P w K mg base)(C'18:ig P w K mg base)(C'20:pI P w K mg base)(C'21:nu P w K mg base):G7 P w K mg base 4 (bZ K "Family") "Family" ["self","pieces"] (spR K cw):=by
 refine D.ok iH (λ_ _ _ _ _ _ us hl=>match us,hl with|[_,_],_=>rfl) (λvs H Q E h=>?_) (λf cdv A outer s H vs Q E hr h=>?_)
 .exact Lp (λp ds Q h=>(fB p ds Q h).1) h
 .have hu:=hr.units;exact⟨_,(af (dP (ay C'18 (hr.mono (by decide)) (paC (pv 1) ae))) (af (oJ (pv 0) (aJ (du K rfl) rfl T.b_tuple MT (paC (pv 1) ae)) rfl) (af (aF (i:=2) iH.nd rfl ∅ (aJ (zb K rfl rfl) rfl T.b_list OJ (paC (lP rfl T.b_range (paC (ao (bS K rfl) rfl T.b_len o_ (paC (dQ K rfl (pv 0) rfl) ae)) ae)) ae))) (af (oJ (pv 0) (aJ (du K rfl) rfl T.b_tuple MT (paC (bP (wi:=(iG K (aS 2))) (g:=(bE 0)) (tts:=(tB (dA (spP K fR) [] E0 (aL (yi K (aS 1) "pieces") (aL (aS 0) dz))))) (te:=(aS 0)) ["at","self"] [ω,ψ 0] rfl (bL K rfl (pv 2)) (λ_ _ _ _=>⟨(aA (i:=0) (by show E_ (["at","self"]:List Str);decide +kernel) rfl ∅),(iV (dB (ay C'20 (hr.mono (by decide)) (paC (dQ K rfl (pv 1) rfl) (paC (pv 0) ae))))),(pv 0)⟩) (by kernel_rfl)) ae)) rfl) (af (oJ (pv 0) (aJ (du K rfl) rfl T.b_tuple MT (paC (bP (wi:=(iG K (yi K (aS 0) "kept"))) (g:=(bE 0)) (tts:=iU) (te:=(tOp (vC K) (yi K (aS 1) "pieces") (aS 0))) ["at","self"] [ω,ψ 0] rfl (bL K rfl (dQ K rfl (pv 0) rfl)) (λ_ _ _ _=>⟨(aA (i:=0) (by show E_ (["at","self"]:List Str);decide +kernel) rfl ∅),bu,(aV (c4 K rfl) (dQ K rfl (pv 1) rfl) (pv 0) (λ_ _=>rfl))⟩) (by kernel_rfl)) ae)) rfl) (af (oJ (pv 0) (aJ (du K rfl) rfl T.b_tuple MT (paC (bP (wi:=(iG K (aS 2))) (g:=(bE 0)) (tts:=(qN (tOp (Ij K η) (aS 0) (yi K (aS 1) "kept")))) (te:=(dA (spP K eU) [] E0 (aL (yi K (aS 1) "pieces") (aL (yi K (aS 1) "kept") (aL (aS 0) dz))))) ["at","self"] [ω,ψ 0] rfl (bL K rfl (pv 2)) (λ_ _ _ _=>⟨(aA (i:=0) (by show E_ (["at","self"]:List Str);decide +kernel) rfl ∅),(iV (aM (lp K rfl) (pv 0) (dQ K rfl (pv 1) rfl) (by with_unfolding_all rfl))),(ay C'21 (hr.mono (by decide)) (paC (dQ K rfl (pv 1) rfl) (paC (dQ K rfl (pv 1) rfl) (paC (pv 0) ae))))⟩) (by kernel_rfl)) ae)) rfl) (af (oJ (pv 0) (ay C'17 (hr.mono (by decide)) (paC (dQ K rfl (pv 0) rfl) ae)) rfl) (aq (oJ (pv 0) (ao (Hz K rfl rfl) rfl T.b_sum boot_sum (paC (bP (wi:=(iG K (yi K (aS 0) "words"))) (g:=(bE 0)) (tts:=iU) (te:=(tCB (kW K) (aL (aS 0) dz))) ["word"] [ω] rfl (bL K rfl (dQ K rfl (pv 0) rfl)) (λ_ _ _ _=>⟨(aA (i:=0) (by show E_ (["word"]:List Str);decide +kernel) rfl ∅),bu,(ao (bS K rfl) rfl T.b_len o_ (paC (pv 0) ae))⟩) (by kernel_rfl)) ae)) rfl))))))))),fnR (K:=K) (c:=cw) (ps:=iL) (N:=["self","pieces","indexes"]) (au (dS (aD (c:=dy) (aa (ah (jC (i:=1))) ac))) (au (j3 (c0:="Family") (ns0:=[]) (i:=0) TC.clφ TC.nφ_pieces (by decide +kernel) (aK cE (aa (fH (i:=1)) ac))) (au (aB (p6 ξ (aa (ah (aK aT (aa (ah (gD (ns0:=["pieces"]) TC.clφ TC.nφ_pieces (i:=0) (by decide +kernel) (fH (i:=0)))) ac))) ac)) (y0 (i:=2) rfl)) (au (j3 (c0:="Family") (ns0:=["pieces"]) (i:=0) TC.clφ TC.nφ_kept (by decide +kernel) (aK cE (aa (ah (aY (ix:=[ω,ψ 0]) rfl (bM (jC (i:=2))) (λfs hc=>(d3 (i:=0) (gH hc (by decide)))) (vB (aD (c:=fR) (aa (ah (gD (ns0:=["pieces"]) TC.clφ TC.nφ_pieces (i:=0) (by decide +kernel) (fH (i:=1)))) (aa (ah (jC (i:=0))) ac)))) (jC (i:=0)))) ac))) (au (j3 (c0:="Family") (ns0:=["pieces","kept"]) (i:=0) TC.clφ TC.nφ_words (by decide +kernel) (aK cE (aa (ah (aY (ix:=[ω,ψ 0]) rfl (bM (gD (ns0:=["pieces","kept"]) TC.clφ TC.nφ_kept (i:=1) (by decide +kernel) (fH (i:=0)))) (λfs hc=>(d3 (i:=0) (gH hc (by decide)))) bW (ak aW (ah (gD (ns0:=["pieces","kept"]) TC.clφ TC.nφ_pieces (i:=0) (by decide +kernel) (fH (i:=1)))) (fH (i:=0))))) ac))) (au (j3 (c0:="Family") (ns0:=["pieces","kept","words"]) (i:=0) TC.clφ TC.nφ_left (by decide +kernel) (aK cE (aa (ah (aY (ix:=[ω,ψ 0]) rfl (bM (jC (i:=2))) (λfs hc=>(d3 (i:=0) (gH hc (by decide)))) (fJ (ak (rN (neg:=η)) (fH (i:=0)) (ah (gD (ns0:=["pieces","kept","words"]) TC.clφ TC.nφ_kept (i:=1) (by decide +kernel) (fH (i:=1)))))) (aD (c:=eU) (aa (ah (gD (ns0:=["pieces","kept","words"]) TC.clφ TC.nφ_pieces (i:=0) (by decide +kernel) (fH (i:=1)))) (aa (ah (gD (ns0:=["pieces","kept","words"]) TC.clφ TC.nφ_kept (i:=1) (by decide +kernel) (fH (i:=1)))) (aa (ah (jC (i:=0))) ac)))))) ac))) (au (j3 (c0:="Family") (ns0:=["pieces","kept","words","left"]) (i:=0) TC.clφ TC.nφ_laps (by decide +kernel) (aD (c:=gu) (aa (ah (gD (ns0:=["pieces","kept","words","left"]) TC.clφ TC.nφ_words (i:=2) (by decide +kernel) (fH (i:=0)))) ac))) (j3 (c0:="Family") (ns0:=["pieces","kept","words","left","laps"]) (i:=0) TC.clφ TC.nφ_total (by decide +kernel) (aK EK (aa (ah (aY (ix:=[ω]) rfl (bM (gD (ns0:=["pieces","kept","words","left","laps"]) TC.clφ TC.nφ_words (i:=2) (by decide +kernel) (fH (i:=0)))) (λfs hc=>(d3 (i:=0) (gH hc (by decide)))) bW (aK aT (aa (fH (i:=0)) ac)))) ac)))))))))) (λp ds Q h=>Mn (Pj (fB p ds Q h).1) (by decide)) (λp ds Q _ h=>(fB p ds Q h).2) h⟩
def ot(D:vy K (bZ K "Family") "many" "Family.many" cr)(T:Txt mg)(TC:TxC K):Jj P w K mg base 1 (bZ K "Family") "many" ["self"] (spP K bV):=by
 refine D.ok nW (λ_ _ _ _ _ _ us hl=>match us,hl with|[_],_=>rfl) (λvs H Q E h=>?_) (λf cdv A outer s H vs Q E hr h=>?_)
 .exact Jm (λds Q h=>(fC ds Q h).1) h
 .have hu:=hr.units;exact⟨_,(aq (aP (ao (bS K rfl) rfl T.b_len o_ (paC (dQ K rfl (pv 0) rfl) ae)))),fnP (K:=K) (c:=bV) (ps:=iM) (N:=["self"]) (aQ (aK aT (aa (ah (gD (ns0:=["pieces","kept","words","left","laps","total"]) TC.clφ TC.nφ_words (i:=2) (by decide +kernel) (fH (i:=0)))) ac))) (λds Q h=>Mn (Pj (fC ds Q h).1) (by decide)) (λds Q h=>(fC ds Q h).2) h⟩
def u5(D:aZ K mg "_law_deck" kh)(T:Txt mg)(TC:TxC K):nv P w K mg base:=D.oP2 c6 (by k_ne) uM rfl rfl λ_ _ _ _ _ _ _ hr hu=>⟨_,(af (aF (i:=2) c6.nd rfl ∅ (aH (bj K rfl) (aJ (za K rfl) rfl T.b_list OJ (paC (pv 0) ae)) (aH nM (dg (paC ar ae)) (aJ ER rfl T.b_int boot_int (paC (gK (jI K rfl hu) (ao (bS K rfl) rfl T.b_len o_ (paC (pv 0) ae)) ar (aX _)) ae))))) (af (gO (wi:=(iG K (aS 2))) (g:=(bE 0)) (tts:=iU) (te:=(tOp Ev (aS 0) (tCB EQ (aL (tOp Ln (aS 0) (tOp HM (tC (V.int 10)) (tC (V.int 18)))) dz)))) (i:=3) ["_law_cell"] [ω] c6.nd rfl (Qu rfl) rfl (bL K rfl (pv 2)) (λ_ _ _ _=>⟨(aA (i:=0) (by show E_ (["_law_cell"]:List Str);decide +kernel) rfl ∅),bu,(aH nM (pv 0) (aJ ER rfl T.b_int boot_int (paC (gK FS (pv 0) (aH tX ar ar) (aX _)) ae)))⟩) (by kernel_rfl)) (af (aF (i:=4) c6.nd rfl ∅ (dg ae)) (af (cJ z_ rfl (bC rfl T.b_range (paC (pv 1) ae)) (aA (i:=5) c6.nd rfl ∅) (af (aF (i:=6) c6.nd rfl ∅ (aH c8 (pv 5) (ao (bS K rfl) rfl T.b_len o_ (paC (pv 2) ae)))) (af (aF (i:=7) c6.nd rfl ∅ (aH (bj K rfl) (aH nM (aH c8 (aH (bj K rfl) (aH (bj K rfl) (aV (c4 K rfl) (pv 2) (pv 6) (λ_ _=>rfl)) (aH nM (aH nM (pv 5) (pv 5)) ar)) (aH nM ar (pv 5))) ar) (aV (c4 K rfl) (dg (paC ar (paC ar (paC ar (paC ar ae))))) (aH c8 (pv 5) ar) (λ_ _=>rfl))) ar)) (af (dP (e8 K rfl J_ Mz MA dh (pv 4) (paC (aV (c4 K rfl) (dg (paC (aH c8 (aH nM (pv 7) (pv 7)) ar) (paC (aH c8 (aV (c4 K rfl) (pv 3) (pv 6) (λ_ _=>rfl)) (aH tX ar ar)) ae))) (aJ ER rfl T.b_int boot_int (paC (gK (t7 K rfl hu) (aV (c4 K rfl) (pv 3) (pv 6) (λ_ _=>rfl)) ar (aX _)) ae)) (λ_ _=>rfl)) ae))) (aq (zO (aH E4 (aV (c4 K rfl) (pv 3) (pv 6) (λ_ _=>rfl)) (aH tX ar ar)) (CJ (pv 3) (pv 6) jt))))))) (aq (aP (tW K rfl rfl (pv 4) rfl T.b_list rfl T.b_reversed))))))),(m5 K mg TC)⟩
def u6(D:aZ K mg "_law_next" ki)(T:Txt mg)(TC:TxC K):dG P w K mg base:=D.oR2 um (by k_mem) uO rfl rfl λ_ _ _ _ _ _ _ hr hu=>⟨_,(aq (aP (GF J_ QI QJ GG (pv 0)))),(m7 K mg TC)⟩
def u7(D:aZ K mg "_law_fits" kj)(T:Txt mg)(TC:TxC K):ny P w K mg base:=D.oP2 mL (by walk_at "b3") uQ rfl rfl λ_ _ _ _ _ _ _ hr hu=>⟨_,(af (cJ z_ rfl (bC rfl T.b_range (paC (pv 2) ae)) (aA (i:=3) mL.nd rfl ∅) (aq (df (aM (t7 K rfl hu) (aV (c4 K rfl) (pv 0) (aH (bj K rfl) (aH p8 (ao (bS K rfl) rfl T.b_len o_ (paC (pv 0) ae)) (pv 2)) (pv 3)) (λ_ _=>rfl)) (aV (c4 K rfl) (pv 1) (pv 3) (λ_ _=>rfl)) (aX _)) (aq (aP nH)) bc))) (aq (aP nH))),(m8 K mg TC)⟩
def xR(D:aZ K mg "_law_lap" mH)(T:Txt mg)(TC:TxC K)(C'26:ny P w K mg base):iu P w K mg base:=D.oP2 pq (by k_ne) xK rfl rfl λ_ _ _ _ _ _ _ hr hu=>⟨_,(af (cJ z_ rfl (tJ rfl T.b_reversed rfl T.b_range (paC (ao (C4 rfl) rfl T.b_min Qi (paC (ao (bS K rfl) rfl T.b_len o_ (paC (pv 0) ae)) (paC (ao (bS K rfl) rfl T.b_len o_ (paC (pv 1) ae)) ae))) ae)) (aA (i:=2) pq.nd rfl ∅) (aq (df (dB (ay C'26 (hr.m rfl) (paC (pv 0) (paC (pv 1) (paC (pv 2) ae))))) (aq (aP (pv 2))) bc))) (aq (aP ar))),(pF K mg TC)⟩
def u8(D:aZ K mg "_law_kept" kl)(T:Txt mg)(TC:TxC K):nC P w K mg base:=D.oP2 gn (by k_mem) uS rfl rfl λ_ _ _ _ _ _ _ hr hu=>⟨_,(af (aF (i:=1) gn.nd rfl ∅ (dg ae)) (af (cJ z_ rfl (bC rfl T.b_range (paC (ao (bS K rfl) rfl T.b_len o_ (paC (pv 0) ae)) ae)) (aA (i:=2) gn.nd rfl ∅) (af (gO (wi:=(iG K (aS 0))) (g:=(bE 0)) (tts:=(Js (qN (tOp Kl (tCB (kW K) (aL (aS 0) dz)) (tCB (kW K) (aL (tOp (vC K) (aS 1) (aS 2)) dz)))) (qN (tOp (Ij K ξ) (tOp (vC K) (aS 1) (aS 2)) (aS 0))))) (te:=(aS 0)) (i:=3) ["_law_other","_law_pieces","_law_k"] [ω,ψ 0,ψ 2] gn.nd rfl (Qu rfl) rfl (bL K rfl (pv 0)) (λ_ _ _ _=>⟨(aA (i:=0) (by show E_ (["_law_other","_law_pieces","_law_k"]:List Str);decide +kernel) rfl ∅),(iV (PW.pt (oB (aM ze (ao (bS K rfl) rfl T.b_len o_ (paC (pv 0) ae)) (ao (bS K rfl) rfl T.b_len o_ (paC (aV (c4 K rfl) (pv 1) (pv 2) (λ_ _=>rfl)) ae)) (aX _)) (jW (aM (Kv K rfl) (aV (c4 K rfl) (pv 1) (pv 2) (λ_ _=>rfl)) (pv 0) (by with_unfolding_all rfl)))))),(pv 0)⟩) (by kernel_rfl)) (aq (df (PW.pt (oB (aM (jI K rfl hu) (pv 3) (dg ae) (aX _)) (jW (aM (lp K rfl) (aV (c4 K rfl) (pv 0) (pv 2) (λ_ _=>rfl)) (bF (p5 K rfl) (pv 0) cY (bK (pv 2))) (by with_unfolding_all rfl))))) (aq (dP (e8 K rfl J_ Mz MA dh (pv 1) (paC (aV (c4 K rfl) (pv 0) (pv 2) (λ_ _=>rfl)) ae)))) bc)))) (aq (aP (pv 1))))),(m9 K mg TC)⟩
def ou(D:aZ K mg "_law_spelled" gl)(T:Txt mg)(TC:TxC K):fF P w K mg base:=D.oP2 dH (by k_ne) n9 rfl rfl λ_ _ _ _ _ _ _ hr hu=>⟨_,(af (aF (i:=2) dH.nd rfl ∅ (di (l:=[]) (by decide +kernel))) (af (jr z_ (PW.pt (oB (aM ze (pv 0) ar (aX _)) (jW (aM J7 (ao (bS K rfl) rfl T.b_len o_ (paC (pv 2) ae)) ar (aX _))))) (af (aF (i:=2) dH.nd rfl ∅ (aH (bj K rfl) (pv 2) (aV (c4 K rfl) (pv 1) (aH c8 (pv 0) (ao (bS K rfl) rfl T.b_len o_ (paC (pv 1) ae))) (λ_ _=>rfl)))) (aq (aF (i:=0) dH.nd rfl ∅ (aH jH (pv 0) (ao (bS K rfl) rfl T.b_len o_ (paC (pv 1) ae))))))) (aq (aP (pv 2))))),(iN K mg TC)⟩
def sQ(D:aZ K mg "_law_drawn" jc)(T:Txt mg)(TC:TxC K)(C'25:dG P w K mg base)(C'29:fF P w K mg base):kN P w K mg base:=D.oR2 bo (by k_ne) sE rfl rfl λ_ _ _ _ _ _ _ hr hu=>⟨_,(af (aF (i:=2) bo.nd rfl ∅ (aV (c4 K rfl) (dg (paC (di (l:=[97,98]) (by decide +kernel)) (paC (di (l:=[97,98]) (by decide +kernel)) (paC (di (l:=[97,98,99]) (by decide +kernel)) (paC (di (l:=[120,121,122,97,98]) (by decide +kernel)) ae))))) (aH c8 (ay C'25 (hr.m rfl) (paC (pv 0) ae)) ar) (λ_ _=>rfl))) (af (aF (i:=3) bo.nd rfl ∅ (ay C'29 (hr.m rfl) (paC (aH (bj K rfl) (ay C'25 (hr.m rfl) (paC (pv 0) ae)) (aH tX ar ar)) (paC (pv 2) ae)))) (af (aF (i:=3) bo.nd rfl ∅ (aH (bj K rfl) (pv 3) (ay C'29 (hr.m rfl) (paC (aH (bj K rfl) (ay C'25 (hr.m rfl) (paC (pv 0) ae)) (aH tX ar ar)) (paC (pv 2) ae))))) (af (aF (i:=4) bo.nd rfl ∅ (dg ae)) (af (cJ z_ rfl (bC rfl T.b_range (paC (aH (bj K rfl) ar (aH c8 (ay C'25 (hr.m rfl) (paC (pv 0) ae)) (pv 1))) ae)) (aA (i:=5) bo.nd rfl ∅) (af (aF (i:=6) bo.nd rfl ∅ (ay C'25 (hr.m rfl) (paC (pv 0) ae))) (af (aF (i:=7) bo.nd rfl ∅ (aH c8 (pv 6) ar)) (af (aF (i:=8) bo.nd rfl ∅ (bF (p5 K rfl) (pv 3) (bK (pv 7)) (bK (aH (bj K rfl) (aH (bj K rfl) (pv 7) ar) (aH c8 (aH jH (pv 6) ar) ar))))) (af (fT (df (aM (jI K rfl hu) (aH c8 (aH jH (pv 6) ar) ar) ar (aX _)) (aq (aF (i:=8) bo.nd rfl ∅ (ay C'29 (hr.m rfl) (paC (aH (bj K rfl) (aH c8 (aH jH (pv 6) ar) (aH tX ar ar)) ar) (paC (pv 2) ae))))) bc)) (af (fT (df (aM (jI K rfl hu) (aH c8 (aH jH (pv 6) ar) ar) ar (aX _)) (aq (aF (i:=8) bo.nd rfl ∅ (bF (p5 K rfl) (aH nM (bF (p5 K rfl) (pv 3) (bK (pv 7)) (bK (aH (bj K rfl) (aH (bj K rfl) (pv 7) ar) (aH c8 (aH jH (pv 6) ar) ar)))) ar) cY (bK (aH (bj K rfl) ar (aH c8 (aH jH (pv 6) ar) ar)))))) bc)) (af (fT (df (aM (jI K rfl hu) (aH c8 (aH jH (pv 6) ar) ar) ar (aX _)) (aq (aF (i:=8) bo.nd rfl ∅ (bF (p5 K rfl) (aH nM (bF (p5 K rfl) (pv 3) (bK (pv 7)) (bK (aH (bj K rfl) (pv 7) ar))) ar) cY (bK ar)))) bc)) (aq (dP (e8 K rfl J_ Mz MA dh (pv 4) (paC (bF (p5 K rfl) (aH (bj K rfl) (pv 8) (di (l:=[97]) (by decide +kernel))) cY (bK (ao (Hv rfl) rfl T.b_max boot_max (paC ar (paC (ao (bS K rfl) rfl T.b_len o_ (paC (pv 8) ae)) ae))))) ae))))))))))) (aq (aP (pv 4)))))))),(kF K mg TC)⟩
def u9(D:aZ K mg "_law_glue" km)(T:Txt mg)(TC:TxC K)(C'27:iu P w K mg base):gx P w K mg base:=D.oP2 dC (by k_ne) uU rfl rfl λ_ _ _ _ _ _ _ hr hu=>⟨_,(af (aF (i:=2) dC.nd rfl ∅ (di (l:=[]) (by decide +kernel))) (af (cJ z_ rfl (bC rfl T.b_range (paC (ao (bS K rfl) rfl T.b_len o_ (paC (pv 1) ae)) ae)) (aA (i:=3) dC.nd rfl ∅) (af (aF (i:=4) dC.nd rfl ∅ ar) (af (fT (df (aM ze (pv 3) ar (aX _)) (aq (aF (i:=4) dC.nd rfl ∅ (ay C'27 (hr.m rfl) (paC (aV (c4 K rfl) (pv 0) (aV (c4 K rfl) (pv 1) (aH p8 (pv 3) ar) (λ_ _=>rfl)) (λ_ _=>rfl)) (paC (aV (c4 K rfl) (pv 0) (aV (c4 K rfl) (pv 1) (pv 3) (λ_ _=>rfl)) (λ_ _=>rfl)) ae))))) bc)) (aq (aF (i:=2) dC.nd rfl ∅ (aH (bj K rfl) (pv 2) (bF (p5 K rfl) (aV (c4 K rfl) (pv 0) (aV (c4 K rfl) (pv 1) (pv 3) (λ_ _=>rfl)) (λ_ _=>rfl)) (bK (pv 4)) cY))))))) (aq (aP (pv 2))))),(ng K mg TC)⟩
def sR(D:aZ K mg "_law_order" jd)(T:Txt mg)(TC:TxC K)(C'25:dG P w K mg base):kO P w K mg base:=D.oR2 gX (by k_ne) sG rfl rfl λ_ _ _ _ _ _ _ hr hu=>⟨_,(af (aF (i:=2) gX.nd rfl ∅ (aJ (zb K rfl rfl) rfl T.b_list OJ (paC (lP rfl T.b_range (paC (pv 1) ae)) ae))) (af (aF (i:=3) gX.nd rfl ∅ (dg ae)) (af (jr z_ (aM (t7 K rfl hu) (pv 2) (dg ae) (aX _)) (aq (dP (e8 K rfl J_ Mz MA dh (pv 3) (paC (e8 K rfl J_ QI QJ Bg (pv 2) (paC (aH c8 (ay C'25 (hr.m rfl) (paC (pv 0) ae)) (ao (bS K rfl) rfl T.b_len o_ (paC (pv 2) ae))) ae)) ae))))) (aq (aP (pv 3)))))),(kG K mg TC)⟩
def oz(D:aZ K mg "_law_holding" gm)(T:Txt mg)(TC:TxC K)(C'31:gx P w K mg base)(C'27:iu P w K mg base)(C'25:dG P w K mg base)(C'32:kO P w K mg base):iS P w K mg base:=D.oR2 bw (by k_ne) og rfl rfl λ_ _ _ _ _ _ _ hr hu=>⟨_,(af (aF (i:=2) bw.nd rfl ∅ (ay C'32 (hr.m rfl) (paC (pv 0) (paC (ao (bS K rfl) rfl T.b_len o_ (paC (pv 1) ae)) ae)))) (af (df (aM (jI K rfl hu) (aH c8 (ay C'25 (hr.m rfl) (paC (pv 0) ae)) ar) ar (aX _)) (aq (aP (ay C'31 (hr.m rfl) (paC (pv 1) (paC (pv 2) ae))))) bc) (af (aF (i:=3) bw.nd rfl ∅ (bF (p5 K rfl) (di (l:=[98,97]) (by decide +kernel)) cY (bK (aH c8 (ay C'25 (hr.m rfl) (paC (pv 0) ae)) ar)))) (af (cJ z_ rfl (bC rfl T.b_range (paC (ao (bS K rfl) rfl T.b_len o_ (paC (pv 2) ae)) ae)) (aA (i:=4) bw.nd rfl ∅) (af (aF (i:=5) bw.nd rfl ∅ (ay C'25 (hr.m rfl) (paC (pv 0) ae))) (af (aF (i:=6) bw.nd rfl ∅ ar) (af (fT (df (PW.pt (oB (aM ze (pv 4) ar (aX _)) (jW (aM ze (aH c8 (pv 5) ar) ar (aX _))))) (aq (aF (i:=6) bw.nd rfl ∅ (ay C'27 (hr.m rfl) (paC (aV (c4 K rfl) (pv 1) (aV (c4 K rfl) (pv 2) (aH p8 (pv 4) ar) (λ_ _=>rfl)) (λ_ _=>rfl)) (paC (aV (c4 K rfl) (pv 1) (aV (c4 K rfl) (pv 2) (pv 4) (λ_ _=>rfl)) (λ_ _=>rfl)) ae))))) bc)) (af (fT (df (PW.pt (oB (aM (jI K rfl hu) (pv 6) ar (aX _)) (jW (aM ze (pv 4) ar (aX _))))) (aq (aF (i:=3) bw.nd rfl ∅ (aH (bj K rfl) (pv 3) (bF (p5 K rfl) (di (l:=[113,97,98]) (by decide +kernel)) cY (bK (aH c8 (aH jH (pv 5) ar) ar)))))) bc)) (aq (aF (i:=3) bw.nd rfl ∅ (aH (bj K rfl) (pv 3) (bF (p5 K rfl) (aV (c4 K rfl) (pv 1) (aV (c4 K rfl) (pv 2) (pv 4) (λ_ _=>rfl)) (λ_ _=>rfl)) (bK (pv 6)) cY))))))))) (aq (aP (aH (bj K rfl) (pv 3) (bF (p5 K rfl) (di (l:=[97,98]) (by decide +kernel)) cY (bK (aH c8 (ay C'25 (hr.m rfl) (paC (pv 0) ae)) ar)))))))))),(iO K mg TC)⟩
def sS(D:aZ K mg "_law_whole" je)(T:Txt mg)(TC:TxC K):kP P w K mg base:=D.oP2 sf (by k_mem) sI rfl rfl λ_ _ _ _ _ _ _ hr hu=>⟨_,(aq (aP (oF (ao (xa K rfl) rfl T.b_isinstance Ny (paC (pv 0) (paC (gJ (v:=.ty "int") rfl T.b_int boot_int rfl) ae))) (oE (x6 (ao (xa K rfl) rfl T.b_isinstance Ny (paC (pv 0) (paC (gJ (v:=.ty "bool") rfl T.b_bool boot_bool rfl) ae)))))))),(kH K mg TC)⟩
def xS(D:aZ K mg "_law_all" mI)(T:Txt mg)(TC:TxC K):pJ P w K mg base:=D.oP2 dD (by k_mem) xM rfl rfl λ_ _ _ _ _ _ _ hr hu=>⟨_,(af (aF (i:=1) dD.nd rfl ∅ (dg (paC (dg ae) ae))) (af (cJ z_ rfl (bC rfl T.b_range (paC (pv 0) ae)) (aA (i:=2) dD.nd rfl ∅) (af (aF (i:=3) dD.nd rfl ∅ (dg ae)) (af (cJ z_ rfl (bL K rfl (pv 1)) (aA (i:=4) dD.nd rfl ∅) (aq (cJ z_ rfl (bC rfl T.b_range (paC (pv 0) ae)) (aA (i:=5) dD.nd rfl ∅) (aq (df (aM (lp K rfl) (pv 5) (pv 4) (by with_unfolding_all rfl)) (aq (dP (e8 K rfl J_ Mz MA dh (pv 3) (paC (aH (bj K rfl) (pv 4) (dg (paC (pv 5) ae))) ae)))) bc))))) (aq (aF (i:=1) dD.nd rfl ∅ (pv 3)))))) (aq (aP (pv 1))))),(pG K mg TC)⟩
def qE(D:aZ K mg "_law_weight" gW)(T:Txt mg)(TC:TxC K):jV P w K mg base:=D.oP2 dw (by walk_at "b3") qC rfl rfl λ_ _ _ _ _ _ _ hr hu=>⟨_,(af (aF (i:=3) dw.nd rfl ∅ ar) (af (cJ z_ rfl (bC rfl T.b_range (paC (ao (bS K rfl) rfl T.b_len o_ (paC (pv 2) ae)) ae)) (aA (i:=4) dw.nd rfl ∅) (af (aF (i:=5) dw.nd rfl ∅ (aV (c4 K rfl) (pv 2) (aH c8 (aH (bj K rfl) (pv 4) ar) (ao (bS K rfl) rfl T.b_len o_ (paC (pv 2) ae))) (λ_ _=>rfl))) (aq (aF (i:=3) dw.nd rfl ∅ (aH p8 (aH (bj K rfl) (pv 3) (ao (bS K rfl) rfl T.b_len o_ (paC (aV (c4 K rfl) (pv 0) (aV (c4 K rfl) (pv 2) (pv 4) (λ_ _=>rfl)) (λ_ _=>rfl)) ae))) (aV (c4 K rfl) (aV (c4 K rfl) (pv 1) (aV (c4 K rfl) (pv 2) (pv 4) (λ_ _=>rfl)) (λ_ _=>rfl)) (pv 5) (λ_ _=>rfl))))))) (aq (aP (pv 3))))),(jT K mg TC)⟩
def sU(D:aZ K mg "_law_joins" jf)(T:Txt mg)(TC:TxC K):kQ P w K mg base:=D.oP2 sg (by k_ne) sK rfl rfl λ_ _ _ _ _ _ _ hr hu=>⟨_,(aq (aP (bP (wi:=(wz (aL (tCB (kW K) (aL (aS 1) dz)) dz))) (g:=(bE 0)) (tts:=iU) (te:=(tOp (vC K) (tOp (vC K) (aS 1) (tOp (vC K) (aS 2) (aS 0))) (tOp (vC K) (aS 2) (tOp HL (tOp (B5 K) (aS 0) (tC (V.int 1))) (tCB (kW K) (aL (aS 2) dz)))))) ["_law_k","_law_laps","_law_ring"] [ω,ψ 0,ψ 1] rfl (bC rfl T.b_range (paC (ao (bS K rfl) rfl T.b_len o_ (paC (pv 1) ae)) ae)) (λ_ _ _ _=>⟨(aA (i:=0) (by show E_ (["_law_k","_law_laps","_law_ring"]:List Str);decide +kernel) rfl ∅),bu,(aV (c4 K rfl) (aV (c4 K rfl) (pv 1) (aV (c4 K rfl) (pv 2) (pv 0) (λ_ _=>rfl)) (λ_ _=>rfl)) (aV (c4 K rfl) (pv 2) (aH c8 (aH (bj K rfl) (pv 0) ar) (ao (bS K rfl) rfl T.b_len o_ (paC (pv 2) ae))) (λ_ _=>rfl)) (λ_ _=>rfl))⟩) (by kernel_rfl)))),(kI K mg TC)⟩
def sV(D:aZ K mg "_law_texts" jg)(T:Txt mg)(TC:TxC K)(C'35:pJ P w K mg base)(C'31:gx P w K mg base)(C'33:iS P w K mg base):kR P w K mg base:=D.oR2 gY (by k_ne) sM rfl rfl λ_ _ _ _ _ _ _ hr hu=>⟨_,(af (gO (wi:=(wz (aL (tC (V.int 4)) dz))) (g:=(bE 0)) (tts:=iU) (te:=(dA (spR K dM) [] E0 (aL (aS 1) (aL (aS 2) dz)))) (i:=2) ["_law_k","_law_deck_here","_law_words"] [ω,ψ 0,ψ 1] gY.nd rfl (Qu rfl) rfl (bC rfl T.b_range (paC ar ae)) (λ_ _ _ _=>⟨(aA (i:=0) (by show E_ (["_law_k","_law_deck_here","_law_words"]:List Str);decide +kernel) rfl ∅),bu,(ay C'33 (hr.m rfl) (paC (pv 1) (paC (pv 2) ae)))⟩) (by kernel_rfl)) (af (fT (df (aM J7 (ao (bS K rfl) rfl T.b_len o_ (paC (pv 1) ae)) ar (aX _)) (aq (cJ z_ rfl (bL K rfl (ay C'35 (hr.m rfl) (paC (ao (bS K rfl) rfl T.b_len o_ (paC (pv 1) ae)) ae))) (aA (i:=3) gY.nd rfl ∅) (aq (dP (e8 K rfl J_ Mz MA dh (pv 2) (paC (ay C'31 (hr.m rfl) (paC (pv 1) (paC (pv 3) ae))) ae)))))) bc)) (aq (aP (pv 2))))),(kJ K mg TC)⟩
def vc(D:aZ K mg "_law_many" kn)(T:Txt mg)(TC:TxC K)(C'25:dG P w K mg base)(C'29:fF P w K mg base):nE P w K mg base:=D.oR2 cG (by k_mem) uW rfl rfl λ_ _ _ _ _ _ _ hr hu=>⟨_,(af (aF (i:=1) cG.nd rfl ∅ (di (l:=[]) (by decide +kernel))) (af (cJ z_ rfl (bC rfl T.b_range (paC ar ae)) (aA (i:=2) cG.nd rfl ∅) (aq (aF (i:=1) cG.nd rfl ∅ (aH (bj K rfl) (pv 1) (ay C'29 (hr.m rfl) (paC (aH (bj K rfl) (ay C'25 (hr.m rfl) (paC (pv 0) ae)) (aH tX ar ar)) (paC (di (l:=[97,98,99]) (by decide +kernel)) ae))))))) (af (aF (i:=3) cG.nd rfl ∅ (dg ae)) (af (aF (i:=4) cG.nd rfl ∅ (aH c8 (ay C'25 (hr.m rfl) (paC (pv 0) ae)) ar)) (af (cJ z_ rfl (bC rfl T.b_range (paC (aH (bj K rfl) ar (aH c8 (ay C'25 (hr.m rfl) (paC (pv 0) ae)) ar)) ae)) (aA (i:=2) cG.nd rfl ∅) (af (aF (i:=5) cG.nd rfl ∅ (aH c8 (aH (bj K rfl) (pv 4) (aH nM ar (pv 2))) ar)) (aq (dP (e8 K rfl J_ PySem.F.slot_list_insert PySem.F.type_list_insert zl (pv 3) (paC (aH c8 (ay C'25 (hr.m rfl) (paC (pv 0) ae)) (aH (bj K rfl) (ao (bS K rfl) rfl T.b_len o_ (paC (pv 3) ae)) ar)) (paC (bF (p5 K rfl) (pv 1) (bK (pv 5)) (bK (aH (bj K rfl) (pv 5) ar))) ae))))))) (aq (aP (pv 3)))))))),(nh K mg TC)⟩
def Je(D:aZ K mg "law" Cn)(T:Txt mg)(TC:TxC K)(C'22:oh P w K mg base)(C'24:nv P w K mg base)(C'30:kN P w K mg base)(C'31:gx P w K mg base)(C'37:kQ P w K mg base)(C'28:nC P w K mg base)(C'27:iu P w K mg base)(C'39:nE P w K mg base)(C'25:dG P w K mg base)(C'38:kR P w K mg base)(C'36:jV P w K mg base)(C'34:kP P w K mg base)(C'15:nr P w K mg base)(C'14:nq P w K mg base)(C'13:jq P w K mg base):Jc P w K mg base:=D.oP2 dZ (by k_mem) Jb rfl rfl λ_ _ _ _ _ _ _ hr hu=>⟨_,(af (aF (i:=1) dZ.nd rfl ∅ (ay C'24 (hr.m rfl) (paC (pv 0) (paC ar ae)))) (af (aF (i:=2) dZ.nd rfl ∅ (ay C'30 (hr.m rfl) (paC (pv 1) (paC ar ae)))) (af (fT (df (aM (jI K rfl hu) (aH c8 (ay C'25 (hr.m rfl) (paC (pv 1) ae)) ar) ar (aX _)) (aq (aF (i:=2) dZ.nd rfl ∅ (dg ae))) bc)) (af (fT (df (aM (jI K rfl hu) (aH c8 (ay C'25 (hr.m rfl) (paC (pv 1) ae)) ar) ar (aX _)) (aq (aF (i:=2) dZ.nd rfl ∅ (ay C'39 (hr.m rfl) (paC (pv 1) ae)))) bc)) (af (aF (i:=3) dZ.nd rfl ∅ (ay C'28 (hr.m rfl) (paC (pv 2) ae))) (af (aF (i:=4) dZ.nd rfl ∅ (bP (wi:=(iG K (aS 3))) (g:=(bE 0)) (tts:=iU) (te:=(wO [ω,ψ 0] (iG K (aS 1)) (bE 0) iU (dA (spP K dF) [] E0 (aL (aS 1) (aL (aS 0) dz))))) ["_law_one","_law_words"] [ω,ψ 3] rfl (bL K rfl (pv 3)) (λ_ _ _ _=>⟨(aA (i:=0) (by show E_ (["_law_one","_law_words"]:List Str);decide +kernel) rfl ∅),bu,(bP (wi:=(iG K (aS 1))) (g:=(bE 0)) (tts:=iU) (te:=(dA (spP K dF) [] E0 (aL (aS 1) (aL (aS 0) dz)))) ["_law_other","_law_one"] [ω,ψ 0] rfl (bL K rfl (pv 1)) (λ_ _ _ _=>⟨(aA (i:=0) (by show E_ (["_law_other","_law_one"]:List Str);decide +kernel) rfl ∅),bu,(ay C'27 (hr.m rfl) (paC (pv 1) (paC (pv 0) ae)))⟩) (by kernel_rfl))⟩) (by kernel_rfl))) (af (aF (i:=5) dZ.nd rfl ∅ (vK C'22 (hr.m rfl) (paC (pv 2) ae))) (af (aF (i:=6) dZ.nd rfl ∅ (ay C'15 (hr.m rfl) (paC (pv 5) ae))) (af (df (PW.pt (wv (iC (dB (ao (xa K rfl) rfl T.b_isinstance Ny (paC (pv 6) (paC (gJ (v:=.ty "tuple") rfl T.b_tuple MT rfl) ae))))) (oA (aM (t7 K rfl hu) (bP (wi:=(iG K (aS 6))) (g:=(bE 0)) (tts:=(Jt (tB (dA (spP K fh) [] E0 (aL (aS 0) dz))))) (te:=(aS 0)) ["_law_one"] [ω] rfl (bL K rfl (pv 6)) (λ_ _ _ _=>⟨(aA (i:=0) (by show E_ (["_law_one"]:List Str);decide +kernel) rfl ∅),(iV (iC (dB (ay C'34 (hr.m rfl) (paC (pv 0) ae))))),(pv 0)⟩) (by kernel_rfl)) (dg ae) (aX _))))) (aq (aP nH)) bc) (af (df (aM (t7 K rfl hu) (ao (EX K rfl) rfl T.b_sorted boot_sorted (paC (pv 6) ae)) (aJ (zb K rfl rfl) rfl T.b_list OJ (paC (lP rfl T.b_range (paC (ao (bS K rfl) rfl T.b_len o_ (paC (pv 3) ae)) ae)) ae)) (aX _)) (aq (aP nH)) bc) (af (aF (i:=7) dZ.nd rfl ∅ (ay C'13 (hr.m rfl) (paC (pv 5) ae))) (af (aF (i:=8) dZ.nd rfl ∅ (dg ae)) (af (cJ z_ rfl (bL K rfl (pv 7)) (aA (i:=9) dZ.nd rfl ∅) (aq (dP (e8 K rfl J_ PySem.F.slot_list_extend PySem.F.type_list_extend yq (pv 8) (paC (aJ (za K rfl) rfl T.b_list OJ (paC (ay C'14 (hr.m rfl) (paC (pv 5) (paC (pv 9) ae))) ae)) ae))))) (af (df (aM (t7 K rfl hu) (aJ (za K rfl) rfl T.b_list OJ (paC (pv 6) ae)) (pv 8) (aX _)) (aq (aP nH)) bc) (af (aF (i:=10) dZ.nd rfl ∅ (ao (Dl K rfl rfl) rfl T.b_sum boot_sum (paC (bP (wi:=(iG K (aS 7))) (g:=(bE 0)) (tts:=iU) (te:=(dA (spP K ee) [] E0 (aL (aS 1) (aL (aS 2) (aL (aS 0) dz))))) ["_law_ring","_law_words","_law_laps"] [ω,ψ 3,ψ 4] rfl (bL K rfl (pv 7)) (λ_ _ _ _=>⟨(aA (i:=0) (by show E_ (["_law_ring","_law_words","_law_laps"]:List Str);decide +kernel) rfl ∅),bu,(ay C'36 (hr.m rfl) (paC (pv 1) (paC (pv 2) (paC (pv 0) ae))))⟩) (by kernel_rfl)) ae))) (af (aF (i:=11) dZ.nd rfl ∅ (ao (Dl K rfl rfl) rfl T.b_sum boot_sum (paC (bP (wi:=(iG K (aS 7))) (g:=(bE 0)) (tts:=iU) (te:=(tCB (EI K) (aL (dA (spP K fi) [] E0 (aL (aS 1) (aL (aS 0) dz))) dz))) ["_law_ring","_law_laps"] [ω,ψ 4] rfl (bL K rfl (pv 7)) (λ_ _ _ _=>⟨(aA (i:=0) (by show E_ (["_law_ring","_law_laps"]:List Str);decide +kernel) rfl ∅),bu,(ao (vD K rfl rfl) rfl T.b_min Qi (paC (ay C'37 (hr.m rfl) (paC (pv 1) (paC (pv 0) ae))) ae))⟩) (by kernel_rfl)) ae))) (af (aF (i:=12) dZ.nd rfl ∅ (ao (bS K rfl) rfl T.b_len o_ (paC (ay C'31 (hr.m rfl) (paC (pv 3) (paC (pv 6) ae))) ae))) (af (cJ z_ rfl (bL K rfl (ay C'38 (hr.m rfl) (paC (pv 1) (paC (pv 3) ae)))) (aA (i:=13) dZ.nd rfl ∅) (aq (df (PW.pt (wv (aM ze (pv 10) (ao (bS K rfl) rfl T.b_len o_ (paC (pv 13) ae)) (aX _)) (oA (aM ze (pv 12) (aH (bj K rfl) (ao (bS K rfl) rfl T.b_len o_ (paC (pv 13) ae)) (pv 11)) (aX _))))) (aq (aP nH)) bc))) (aq (aP (gK (jI K rfl hu) (ay C'15 (hr.m rfl) (paC (vK C'22 (hr.m rfl) (paC (aJ (du K rfl) rfl T.b_tuple MT (paC (pv 2) ae)) ae)) ae)) (pv 6) (aX _)))))))))))))))))))))),(DG K mg TC)⟩
end
variable {w:World}{K:b_}{h:Heap}{mg:Θ}
def Jf{l:QD}{fa:Addr}(X:K.In h)(G:h.Ns mainGlobals mg)(hfa:mg "law"=ψ (.ref fa)){Cφ:Addr}(aCφ:Eo K mainGlobals "Family"=ψ (ψ (.ref Cφ)))(pgφ:Og K Cφ Str.empty=η)(hdφ:OR K Cφ=η)(poφ:P0 K Cφ=η)(saφ:s_ K (.ref Cφ) "__setattr__"=ψ (ψ (.builtin "object.__setattr__")))(mkφ:QC K Cφ=η)(kcφ:Mb K (.ref Cφ)=η)(nφ_pieces:s_ K (.ref Cφ) "pieces"=ψ ω)(nφ_kept:s_ K (.ref Cφ) "kept"=ψ ω)(nφ_words:s_ K (.ref Cφ) "words"=ψ ω)(nφ_left:s_ K (.ref Cφ) "left"=ψ ω)(nφ_laps:s_ K (.ref Cφ) "laps"=ψ ω)(nφ_total:s_ K (.ref Cφ) "total"=ψ ω)(d1:fS K "is_row" qt)(d2:fS K "is_number" i7){f3:Addr}{oc3 kV3 dc3 pm3 cd3 ct3:Value}{od3 an3 dd3:Option Addr}{sl3 st3:Array (Option Value)}{dT3:Addr}{n3:Nat}{u3_0 u3_1:Tok}(a3:Eo K mainGlobals "is_text"=ψ (ψ (.ref f3)))(l3:K.lookup f3=ψ ⟨oc3,od3,.func (Me "is_text" "is_text" (b9 fN) (aU fN) (ai fN) (.ref dT3) kV3 dc3 pm3 an3 cd3 ct3),sl3⟩)(c3:MH K cd3 "is_text"=η)(k3:Mb K (.ref f3)=η)(t3:K.lookup dT3=ψ ⟨.type "tuple",dd3,.seq [.int 0 u3_0,.int 4000 u3_1].toArray n3,st3⟩)(d4:fS K "first_place" gb)(d5:fS K "way_to_free" gc)(d6:fS K "joins_round" gk)(d7:fS K "ring_from" jb)(d8:fS K "lap" Fn){f9:Addr}{oc9 kV9 dc9 pm9 cd9 ct9:Value}{od9 an9:Option Addr}{sl9:Array (Option Value)}(a9:s_ K (.ref Cφ) "many"=ψ (ψ (.ref f9)))(i9:Pw K (.ref f9)=η)(l9:K.lookup f9=ψ ⟨oc9,od9,.func (Me "many" "Family.many" (b9 cr) (aU cr) (ai cr) .none kV9 dc9 pm9 an9 cd9 ct9),sl9⟩)(c9:MH K cd9 "Family.many"=η)(k9:Mb K (.ref f9)=η)(d10:fS K "_law_deck" kh)(d11:fS K "_law_next" ki)(d12:fS K "_law_fits" kj)(d13:fS K "_law_kept" kl)(d14:fS K "_law_spelled" gl)(d15:fS K "_law_whole" je)(d16:fS K "_law_all" mI)(d17:fS K "_law_weight" gW)(d18:fS K "_law_joins" jf)(d19:fS K "is_whole" kc)(d20:fS K "pair_one_more" eN)(d21:fS K "all_laps" kf)(d22:fS K "check_pieces" fo)(d23:fS K "stands_within" eO)(d24:fS K "_law_lap" mH)(d25:fS K "_law_drawn" jc)(d26:fS K "_law_order" jd)(d27:fS K "_law_many" kn)(d28:fS K "is_square" i8)(d29:fS K "is_ring" mF)(d30:fS K "is_kept" mG)(d31:fS K "left_row" kg)(d32:fS K "_law_glue" km)(d33:fS K "best_pairing" fm)(d34:fS K "check_ring" gU){f35:Addr}{oc35 kV35 dc35 pm35 cd35 ct35:Value}{od35 an35:Option Addr}{sl35:Array (Option Value)}(a35:s_ K (.ref Cφ) "__init__"=ψ (ψ (.ref f35)))(i35:Pw K (.ref f35)=η)(l35:K.lookup f35=ψ ⟨oc35,od35,.func (Me "__init__" "Family.__init__" (b9 cp) (aU cp) (ai cp) .none kV35 dc35 pm35 an35 cd35 ct35),sl35⟩)(c35:MH K cd35 "Family.__init__"=η)(k35:Mb K (.ref f35)=η)(d36:fS K "_law_holding" gm)(d37:fS K "rings_of" kd)(d38:fS K "opened" qu)(d39:fS K "_law_texts" jg)(d40:fS K "by_rings" ke)(d41:fS K "law" Cn)(z1:Eo K mainGlobals "all"=ψ ω)(z2:Eo K mainGlobals "any"=ψ ω)(z3:Eo K mainGlobals "bool"=ψ ω)(z4:Eo K mainGlobals "enumerate"=ψ ω)(z5:Eo K mainGlobals "int"=ψ ω)(z6:Eo K mainGlobals "isinstance"=ψ ω)(z7:Eo K mainGlobals "len"=ψ ω)(z8:Eo K mainGlobals "list"=ψ ω)(z9:Eo K mainGlobals "max"=ψ ω)(z10:Eo K mainGlobals "min"=ψ ω)(z11:Eo K mainGlobals "range"=ψ ω)(z12:Eo K mainGlobals "reversed"=ψ ω)(z13:Eo K mainGlobals "set"=ψ ω)(z14:Eo K mainGlobals "sorted"=ψ ω)(z15:Eo K mainGlobals "str"=ψ ω)(z16:Eo K mainGlobals "sum"=ψ ω)(z17:Eo K mainGlobals "tuple"=ψ ω)(z18:Eo K mainGlobals "zip"=ψ ω){ty1:Tok}(y1:Eo K mainGlobals "MOST_NUMBER"=ψ (ψ (.int 1000000 ty1))){ty2:Tok}(y2:Eo K mainGlobals "MOST_PIECES"=ψ (ψ (.int 40 ty2))){ty3:Tok}(y3:Eo K mainGlobals "MOST_ROWS"=ψ (ψ (.int 40 ty3))){ty4:Tok}(y4:Eo K mainGlobals "MOST_SIGNS"=ψ (ψ (.int 60 ty4))):
  ∃fd:MY,(∀(s:d_) (v:Value),Qo s fd ⟨[v],[]⟩ [("_law_script",v)])/\∀base:Heap,K.In base->base.Ns mainGlobals mg->pM l.prog w K mg base CX0 7 fa fd ["_law_script"] (wN K):=by
 have eCφ:=BA aCφ;have TC:TxC K:=⟨by rw [eCφ];exact⟨pgφ,hdφ,poφ,saφ⟩,by show s_ K (.ref (bZ K "Family")) "pieces"=ψ ω;rw [eCφ];exact nφ_pieces,by show s_ K (.ref (bZ K "Family")) "kept"=ψ ω;rw [eCφ];exact nφ_kept,by show s_ K (.ref (bZ K "Family")) "words"=ψ ω;rw [eCφ];exact nφ_words,by show s_ K (.ref (bZ K "Family")) "left"=ψ ω;rw [eCφ];exact nφ_left,by show s_ K (.ref (bZ K "Family")) "laps"=ψ ω;rw [eCφ];exact nφ_laps,by show s_ K (.ref (bZ K "Family")) "total"=ψ ω;rw [eCφ];exact nφ_total⟩
 have D'0:=bn d1 X G;have D'1:=bn d2 X G;have D'2:vv K mg "is_text" fN [.int 0,.int 4000]:=⟨⟨f3,dT3,oc3,od3,an3,dd3,kV3,dc3,pm3,cd3,ct3,sl3,st3,[.int 0 u3_0,.int 4000 u3_1],n3,l3,c3,k3,NV X G a3,t3,(.cons ⟨_,rfl⟩ (.cons ⟨_,rfl⟩ .nil))⟩⟩
 have D'4:=bn d4 X G;have D'6:=bn d5 X G;have D'11:=bn d6 X G;have D'12:=bn d7 X G;have D'16:=bn d8 X G;have D'23:vy K (bZ K "Family") "many" "Family.many" cr:=by rw [eCφ];exact⟨⟨f9,_,yv (st:=cr) l9 c9 k9,⟨a9,i9,k9⟩⟩⟩
 have D'24:=bn d10 X G;have D'25:=bn d11 X G;have D'26:=bn d12 X G;have D'28:=bn d13 X G;have D'29:=bn d14 X G;have D'34:=bn d15 X G;have D'35:=bn d16 X G;have D'36:=bn d17 X G;have D'37:=bn d18 X G;have D'3:=bn d19 X G;have D'7:=bn d20 X G;have D'17:=bn d21 X G;have D'18:=bn d22 X G;have D'19:=bn d23 X G
 have D'27:=bn d24 X G;have D'30:=bn d25 X G;have D'32:=bn d26 X G;have D'39:=bn d27 X G;have D'5:=bn d28 X G;have D'9:=bn d29 X G;have D'20:=bn d30 X G;have D'21:=bn d31 X G;have D'31:=bn d32 X G;have D'8:=bn d33 X G;have D'10:=bn d34 X G;have D'22:vz K mg (bZ K "Family") "Family" "Family.__init__" cp:=by rw [eCφ];exact⟨⟨f35,_,yv (st:=cp) l35 c35 k35,⟨mkφ,a35,i35,kcφ⟩,NV X G aCφ⟩⟩
 have D'33:=bn d36 X G;have D'13:=bn d37 X G;have D'14:=bn d38 X G;have D'38:=bn d39 X G;have D'15:=bn d40 X G;have D'40:=bn d41 X G;have T:Txt mg:=⟨F_ X G z1,F_ X G z2,F_ X G z3,F_ X G z4,F_ X G z5,F_ X G z6,F_ X G z7,F_ X G z8,F_ X G z9,F_ X G z10,F_ X G z11,F_ X G z12,F_ X G z13,F_ X G z14,F_ X G z15,F_ X G z16,F_ X G z17,F_ X G z18,⟨_,NV X G y1⟩,⟨_,NV X G y2⟩,⟨_,NV X G y3⟩,⟨_,NV X G y4⟩⟩
 refine GW (st:=Cn) hfa D'40 (λ_ _ _ _ _ _ s v=>.of_eq rfl) λbase=>?_;have C'0:=AK l.prog w base D'0 T TC;have C'1:=sN l.prog w base D'1 T TC;have C'2:=xO l.prog w base D'2 T TC;have C'4:=oi l.prog w base D'4 T TC;have C'6:=oj l.prog w base D'6 T TC;have C'11:=om l.prog w base D'11 T TC;have C'12:=sP l.prog w base D'12 T TC
 have C'16:=Jd l.prog w base D'16 T TC;have C'23:=ot l.prog w base D'23 T TC;have C'24:=u5 l.prog w base D'24 T TC;have C'25:=u6 l.prog w base D'25 T TC;have C'26:=u7 l.prog w base D'26 T TC;have C'28:=u8 l.prog w base D'28 T TC;have C'29:=ou l.prog w base D'29 T TC;have C'34:=sS l.prog w base D'34 T TC
 have C'35:=xS l.prog w base D'35 T TC;have C'36:=qE l.prog w base D'36 T TC;have C'37:=sU l.prog w base D'37 T TC;have C'3:=uX l.prog w base D'3 T TC C'1;have C'7:=lc l.prog w base D'7 T TC C'6;have C'17:=u0 l.prog w base D'17 T TC C'16;have C'18:=nG l.prog w base D'18 T TC C'2
 have C'19:=lg l.prog w base D'19 T TC C'4;have C'27:=xR l.prog w base D'27 T TC C'26;have C'30:=sQ l.prog w base D'30 T TC C'25 C'29;have C'32:=sR l.prog w base D'32 T TC C'25;have C'39:=vc l.prog w base D'39 T TC C'25 C'29;have C'5:=sO l.prog w base D'5 T TC C'0 C'3
 have C'9:=xP l.prog w base D'9 T TC C'0 C'3;have C'20:=xQ l.prog w base D'20 T TC C'19;have C'21:=u4 l.prog w base D'21 T TC C'4 C'19;have C'31:=u9 l.prog w base D'31 T TC C'27;have C'8:=nF l.prog w base D'8 T TC C'5 C'7;have C'10:=qD l.prog w base D'10 T TC C'23 C'9
 have C'22:=oq l.prog w base D'22 T TC C'17 C'18 C'20 C'21;have C'33:=oz l.prog w base D'33 T TC C'31 C'27 C'25 C'32;have C'13:=uY l.prog w base D'13 T TC C'23 C'8 C'12;have C'14:=AL l.prog w base D'14 T TC C'10 C'11;have C'38:=sV l.prog w base D'38 T TC C'35 C'31 C'33
 have C'15:=uZ l.prog w base D'15 T TC C'14 C'13;exact (Je l.prog w base D'40 T TC C'22 C'24 C'30 C'31 C'37 C'28 C'27 C'39 C'25 C'38 C'36 C'34 C'15 C'14 C'13).imp λ_ _ _ _ h=>EG h
end K32

open PySem PySem.W PyProof.Rows
local macro_rules | `(tactic| k_go) => `(tactic| (refine' L2.Il ?a ?l ?c ?k; (case a => k_is); (case l => k_is); (case c => k_is); (case k => k_is)))
local macro_rules | `(tactic| walk_at "xi") => `(tactic| (refine' L2.KB ?a ?l ?g ?h ?s ?c ?k; (case a => k_is); (case l => k_is); (case g => k_is); (case h => k_is); (case s => k_is); (case c => k_is); (case k => k_is)))
local macro_rules | `(tactic| walk_at "xj") => `(tactic| (refine' L2.KC ?i ?t ?l ?c ?k ?n; (case i => k_is); (case t => k_is); (case l => k_is); (case c => k_is); (case k => k_is); (case n => k_is)))
set_option maxRecDepth 100000 in
set_option maxHeartbeats 0 in
theorem PySem.Challenge.cw_shortglue_k32_whole_by_rings_holds : PySem.Challenge.rw_shortglue_k32_whole_by_rings.Holds := by
  refine topHd ?_
  k_fill
  refine L2.GX (l := PySem.Challenge.rw_shortglue_k32_whole_by_rings) (k := 7) (x := "_law_script") rfl rfl ⟨rfl, by decide, by decide⟩ (fun w h Y => PySem.W.kIn_of Y) ?F
  case F =>
    intro w mg fa h KX G hmg
    refine' K32.Jf KX G hmg ?aCφ ?pgφ ?hdφ ?poφ ?saφ ?mkφ ?kcφ ?nφ_pieces ?nφ_kept ?nφ_words ?nφ_left ?nφ_laps ?nφ_total ?d1 ?d2 ?a3 ?l3 ?c3 ?k3 ?t3 ?d4 ?d5 ?d6 ?d7 ?d8 ?a9 ?i9 ?l9 ?c9 ?k9 ?d10 ?d11 ?d12 ?d13 ?d14 ?d15 ?d16 ?d17 ?d18 ?d19 ?d20 ?d21 ?d22 ?d23 ?d24 ?d25 ?d26 ?d27 ?d28 ?d29 ?d30 ?d31 ?d32 ?d33 ?d34 ?a35 ?i35 ?l35 ?c35 ?k35 ?d36 ?d37 ?d38 ?d39 ?d40 ?d41 ?z1 ?z2 ?z3 ?z4 ?z5 ?z6 ?z7 ?z8 ?z9 ?z10 ?z11 ?z12 ?z13 ?z14 ?z15 ?z16 ?z17 ?z18 ?y1 ?y2 ?y3 ?y4
    (case aCφ => k_is)
    (case pgφ => k_is)
    (case hdφ => k_is)
    (case poφ => k_is)
    (case saφ => k_is)
    (case mkφ => k_is)
    (case kcφ => k_is)
    (case nφ_pieces => k_is)
    (case nφ_kept => k_is)
    (case nφ_words => k_is)
    (case nφ_left => k_is)
    (case nφ_laps => k_is)
    (case nφ_total => k_is)
    (case d1 => k_go)
    (case d2 => k_go)
    (case a3 => k_is)
    (case l3 => k_is)
    (case c3 => k_is)
    (case k3 => k_is)
    (case t3 => k_is)
    (case d4 => k_go)
    (case d5 => k_go)
    (case d6 => k_go)
    (case d7 => k_go)
    (case d8 => k_go)
    (case a9 => k_is)
    (case i9 => k_is)
    (case l9 => k_is)
    (case c9 => k_is)
    (case k9 => k_is)
    (case d10 => k_go)
    (case d11 => k_go)
    (case d12 => k_go)
    (case d13 => k_go)
    (case d14 => k_go)
    (case d15 => k_go)
    (case d16 => k_go)
    (case d17 => k_go)
    (case d18 => k_go)
    (case d19 => k_go)
    (case d20 => k_go)
    (case d21 => k_go)
    (case d22 => k_go)
    (case d23 => k_go)
    (case d24 => k_go)
    (case d25 => k_go)
    (case d26 => k_go)
    (case d27 => k_go)
    (case d28 => k_go)
    (case d29 => k_go)
    (case d30 => k_go)
    (case d31 => k_go)
    (case d32 => k_go)
    (case d33 => k_go)
    (case d34 => k_go)
    (case a35 => k_is)
    (case i35 => k_is)
    (case l35 => k_is)
    (case c35 => k_is)
    (case k35 => k_is)
    (case d36 => k_go)
    (case d37 => k_go)
    (case d38 => k_go)
    (case d39 => k_go)
    (case d40 => k_go)
    (case d41 => k_go)
    (case z1 => k_is)
    (case z2 => k_is)
    (case z3 => k_is)
    (case z4 => k_is)
    (case z5 => k_is)
    (case z6 => k_is)
    (case z7 => k_is)
    (case z8 => k_is)
    (case z9 => k_is)
    (case z10 => k_is)
    (case z11 => k_is)
    (case z12 => k_is)
    (case z13 => k_is)
    (case z14 => k_is)
    (case z15 => k_is)
    (case z16 => k_is)
    (case z17 => k_is)
    (case z18 => k_is)
    (case y1 => k_is)
    (case y2 => k_is)
    (case y3 => k_is)
    (case y4 => k_is)
