import PyProof.Rows.All
import Wide.All
import OpenK.AllK
import Wide.FinOn
import Lean
import PyProof.EqAt
import PyProof.EqKinds
import PyProof.TupleCall
import KE.KSortTup
import PyProof.FString
import PyProof.StrBlock
import KE.KRevSl
import PyProof.StrLawsReplace
import PyProof.StrCalls6
import PyProof.MinMaxWalk
import PyProof.WalkInts
import PyProof.NeKinds
import KE.KEqDict
import PyProof.Rows.SumAny
import KE.KMinKey
import PyProof.Rows.CallKwBuiltin
import KE.KIntText
import PySem.Challenge.RW_shortglue_k57_whole_more_often
set_option Elab.async false
set_option linter.all false
set_option maxRecDepth 100000
set_option bootstrap.genMatcherCode false
set_option compiler.extract_closed false
open List (all_cons all_eq_true all_map any_cons any_eq_false any_map append_assoc append_eq_nil_iff append_nil append_of_mem append_toArray concat_eq_append cons_append cons_lt_cons_iff contains_iff_mem countP_cons count_append count_cons count_replicate drop_drop drop_eq_getElem_cons drop_eq_nil_of_le drop_left drop_one drop_suffix drop_take drop_zero eq_nil_iff_forall_not_mem eq_nil_or_concat eq_of_mem_replicate eraseIdxIfInBounds_toArray eraseIdx_eq_take_drop_succ ext_getElem ext_getElem? extract_eq_take_drop extract_toArray filterMap_append filterMap_cons filterMap_eq_map filterMap_map filter_append filter_congr filter_cons filter_cons_of_neg filter_cons_of_pos filter_eq_nil_iff find?_cons find?_eq_none find?_eq_some_iff_append flatMap_append flatMap_cons flatMap_nil flatten_cons flatten_nil foldl_cons forIn_cons forIn_nil getD_eq_getElem?_getD getElem?_append_left getElem?_append_right getElem?_cons_succ getElem?_eq_getElem getElem?_eq_none getElem?_inj getElem?_map getElem?_range getElem?_replicate getElem?_set getElem?_set_ne getElem?_set_self getElem?_take getElem?_take_of_lt getElem?_zip_eq_some getElem_cons_drop getElem_inj getElem_map getElem_mem getElem_of_mem getElem_range getElem_tail getElem_zip isEmpty_iff length_append length_cons length_drop length_eq_zero_iff length_eraseIdx length_erase_of_mem length_filter_le length_flatten length_map length_nil length_pos_iff length_pos_of_mem length_range length_replicate length_set length_singleton length_tail length_take length_zip lookup_append lookup_cons map_append map_congr_left map_cons map_drop map_eq_nil_iff map_id map_map map_nil map_replicate map_snd_zip map_take mem_append mem_append_left mem_append_right mem_cons mem_cons_of_mem mem_cons_self mem_erase_of_ne mem_filter mem_filterMap mem_flatMap mem_flatten mem_iff_getElem mem_iff_getElem? mem_map mem_map_of_mem mem_of_getElem? mem_of_mem_drop mem_of_mem_take mem_or_eq_of_mem_set mem_range mem_range'_1 mem_replicate mem_singleton mergeSort_perm nil_append nil_prefix nil_suffix nodup_append nodup_cons nodup_nil nodup_range not_mem_nil of_mem_zip pairwise_append pairwise_cons pairwise_iff_getElem pairwise_lt_range pairwise_map pairwise_mergeSort pairwise_replicate perm_append_comm perm_append_singleton perm_ext_iff_of_nodup perm_iff_count prefix_append prefix_refl range_add range_succ range_succ_eq_map replicate_succ replicate_zero reverse_cons reverse_reverse set_cons_succ set_cons_zero set_eq_take_append_cons_drop set_getElem_self size_toArray suffix_iff_eq_drop sum_append sum_cons sum_nil sum_replicate_nat tail_cons take_add take_add_one take_append_drop take_left take_length take_nil take_of_length_le take_prefix take_range take_sublist take_succ take_succ_cons take_take take_zero zipIdx_cons zipIdx_nil zip_cons_cons)
open Nat (add_assoc add_mul_div_right add_mul_mod_self_right add_sub_cancel and_one_is_mod div_add_mod div_eq_of_lt eq_zero_or_pos le_add_right le_antisymm le_mul_of_pos_right le_of_ble_eq_true le_of_eq le_of_lt le_of_not_lt le_of_succ_le le_succ log2_lt lt_log2_self lt_of_le_of_lt lt_of_lt_of_le lt_or_ge lt_succ_of_lt lt_succ_self lt_trans lt_trichotomy max_le min_eq_left min_eq_right min_le_right min_self mod_eq_of_lt mod_lt mul_add mul_assoc mul_le_mul mul_le_mul_right mul_pos mul_right_comm mul_succ mul_zero ne_of_gt ne_of_lt not_lt not_lt_zero not_succ_le_self one_pos pow_le_pow_right pow_pos pow_succ sub_self succ_le_succ succ_mul succ_pos testBit_eq_decide_div_mod_eq testBit_lt_two_pow testBit_two_pow_add_gt testBit_two_pow_mul_add testBit_two_pow_sub_one zero_le zero_mod)
open Int (ediv_nonneg ediv_one emod_lt_of_pos emod_nonneg fdiv_eq_ediv_of_nonneg fmod_eq_emod_of_nonneg le_ediv_of_mul_le mul_le_mul_of_nonneg_left natAbs_natCast natCast_add natCast_ediv natCast_emod natCast_mul natCast_nonneg natCast_pow natCast_zero neg_neg ofNat_le toNat_natCast toNat_of_nonneg zero_mul)
open Bool (and_eq_false_imp and_eq_true and_eq_true_iff beq_eq_decide_eq false_eq_true not_eq_true or_eq_true)
local macro_rules | `(tactic| walk_at "o")=>`(tactic| first | exact Or.inl rfl | exact Or.inr rfl | exact Or.inr (Or.inl rfl) | exact Or.inr (Or.inr rfl))
set_option maxHeartbeats 4000000
noncomputable section
open And renaming intro→r_
open Array renaming length_toList→we,mk→MJ,perm_iff_toList_perm→Oa,toList→Ot
open Bool renaming and_false→N7,eq_iff_iff→NN,false_ne_true→l_
open Classical renaming choose_spec→OG
open False renaming elim→Mb
open ForInStep renaming yield→LV
open Int renaming add_zero→O6,emod_lt_of_pos→OW,emod_nonneg→OV,le_trans→O_,zero_add→O7
open List renaming Nodup→so,all_eq_true→MU,append_nil→Eo,cons_lt_cons_iff→Mh,contains_iff_mem→M1,countP_cons→OQ,drop_eq_nil_of_le→MR,drop_suffix→OR,ext_getElem?→Nz,filterMap_cons→Nn,filterMap_map→NF,getD_eq_getElem?_getD→cn,getElem?_append_left→L_,getElem?_append_right→LP,getElem?_cons_succ→Nh,getElem?_eq_getElem→cx,getElem?_eq_none→u_,getElem?_eq_some_iff→i_,getElem?_map→h_,getElem?_range→H_,getElem?_set_ne→o_,getElem?_set_self→s_,getElem?_take→Oo,getElem_mem→FX,getElem_of_mem→ME,length_eq_zero_iff→LW,length_filter_le→M3,length_pos_iff→OX,length_pos_of_mem→NB,length_set→LK,length→NJ,lookup_cons→L6,lookup→MT,map_congr_left→MD,map_eq_nil_iff→MW,mem_append_left→Mr,mem_append_right→tf,mem_append→Ml,mem_cons_of_mem→m_,mem_cons→C_,mem_filterMap→Mw,mem_filter→D_,mem_flatMap→OU,mem_iff_getElem?→MG,mem_map_of_mem→ON,mem_map→Lv,mem_of_getElem?→y_,mem_of_mem_take→NR,mem_range'_1→NV,mem_replicate→M_,mem_singleton→LR,nil_suffix→N_,nodup_cons→ND,nodup_range→Oi,pairwise_append→OF,pairwise_cons→M9,pairwise_iff_getElem→MV,pairwise_lt_range→Oh,pairwise_map→NA,range'→Nk,range→c_,replicate→q_,take_append_drop→Lz,take_of_length_le→LN,take_prefix→NL,take_succ→O4
open List.Pairwise renaming nil→Nw
open List.Perm renaming refl→OP
open Nat renaming ble→OY,eq_zero_or_pos→OS,le_add_right→NW,le_of_ble_eq_true→Oj,le_of_eq→N3,le_of_succ_le→NH,le_refl→e_,le_total→O8,le_trans→p_,lt_irrefl→E_,lt_of_lt_of_le→u1,lt_or_ge→Ly,lt_succ_of_lt→MM,lt_succ_self→Ov,min_eq_left→Nj,min_eq_right→OA,mul_comm→MY,mul_le_mul_right→M0,mul_le_mul→Oc,mul_one→OT,ne_of_gt→N1,ne_of_lt→F_,not_lt_zero→Mg,pow_le_pow_right→Mi,sub_zero→MZ,testBit_lt_two_pow→Ob,testBit_two_pow_mul_add→Nm,zero_add→M2,zero_le→K_
open Nat.succ renaming inj→O9
open Ne renaming symm→Na
open Option renaming isSome_iff_exists→Mx,map_eq_some_iff→LZ
open Option.some renaming inj→pf
open Prod renaming fst→G_,snd→Mt
open Prod.mk renaming injEq→Ol
open PyProof renaming noPylong_small→Ou
open PyProof.Rows renaming AllBare→Of,IntsAre→Nb,boot_isinstance→MK,boot_list→Os,boot_tuple→Mc,callWith_type1→LA,listUpdate_at→On,slot_tuple_getitem→J_
open PySem renaming Around→A_,BindsTo→Ow,Builtin→Od,DictEntry→OZ,FuncData→L1,IsPair→Ng,IsPart→Oz,NameKind→L3,OsState→MP,Params→NZ,Program→tj,PyData→NE,Shared→d_,Within→O5,boot_len→gV,call_meets→N6,codeAny_mono→Ox,concat_meets→Oy,mem_of_lookup→MA,noFill_tuple_add→Oq,pushCells_keeps→NP,sizeLine_eq→L5,wpAny_Call_Name_kw→Nf,wpAny_assign_Name→Og,wpAny_bind→cy,wpAny_callSpecial?_slot→LB,wpAny_call_entry→LY,wpAny_execs_nil→NM,wpAny_field→LF,wpAny_holding→Lu,wpAny_mono→Lr,wpAny_newList→Om,wpAny_newObj_type→L4,wpAny_of_eq→OM,wpAny_onRaise→NI,wpAny_passesOwn→Ms,wpAny_pure→g_,wpAny_pyIter_list→MS,wpAny_rule→N9,wpAny_seqItems→Mo,wpAny_setField_rec→Mp,wpAny_standAt→Me,wpAny_truthy_bool→Ls,wpAny_typeOf→NT,wpAny_updateSeq_pair→NK
open PySem.AutoSeq1 renaming wpAny_loadPart'→Mz
open PySem.Builtin renaming bitAnd→MB
open PySem.Builtin.List renaming listExtendWith→NX,listTooLong→L7
open PySem.Builtin.Range renaming rangeFitsLong→NU,rangeSize→LX,small→M5
open PySem.Builtin.Slice renaming sliceAdjust→M4,sliceApplied→N4,slicePlaces→Mq
open PySem.Builtin.SmallTypes renaming nextOf→w_,ownedTupleHandOut→M6,ownedTupleIsFree→LQ
open PySem.Builtin.Str renaming occurrences→Nl,strSliceIndices→Md,subAt→Nx
open PySem.Builtin.Tuple renaming tupleExact→My,tupleItemsOf→N5
open PySem.Calls renaming Name_function_global→N0
open PySem.F renaming args_tuple_add_2→M7,entry_tuple_add→Ni,plainAttrs_list→LD,plainAttrs_str→LJ,slot_list_append→L8,slot_list_iadd→OC,slot_str_find→MN,slot_str_join→OH,slot_tuple_add→Nv,type_list_append→L9,type_str_find→MO,type_str_join→OI
open PySem.Heap renaming ExtBut→OL,SameBut→Np,get?_push_ne→Mu,get?_push_of_some→f_,get?_push_size→k_,lt_size→pj,size_push→Lw,size_update→MF
open PySem.NameKind renaming cell→ML,free→M8
open PySem.Obj renaming mapSeq→I_
open PySem.PassesOwn renaming never→z_
open PySem.PyData renaming eqvAll→NG,eqv→N8,int→OB
open PySem.SeqAt renaming shaped→MI
open PySem.Str renaming ofString→MX,ofString→Nd
open PySem.StrLaws renaming occBody→NQ
open PySem.Value renaming bool→Mv,float→OJ,int→NC,none→L0,ref→n_,str→NY,type→Mj
open PySem.W renaming Frag→b_,OpenLaw→OE,boot_heap→C0,cellsFrom_some→MH,codeIn→Lx,emptyDict→LL,findIn→j_,fnOf→B_,hasDictIn→MQ,instObj→Ma,isFn→Nq,keepIn→x_,kia_one→LH,kitAny→Ny,kitOne→Mn,kitx_dict→Nu,kitx_list→Nt,lookIn→N2,makesIn→NO,methodObj→Oe,mg_none_of→v_,mg_of→Mf,nsIn→t_,plainGet_of→NS,plainGet→MC,plainOver→Nr,takerIn→OD,typeIn→OK
open PySem.W.KasT renaming kasWp_bind→Nc
open Sum renaming inl→O0,inr→O3
open True renaming intro→Mm
namespace L2
open PySem PySem.W
noncomputable def gc(tb:String->Option Od)(p:tj)(w:World)(n₀:Nat)(ann:Option Value):Nat->SharedT->Thread->Option SharedT
 | 0,_,_=>none
 | n+1,s,t=>match through t with
  | true=>some s
  | false=>match stepOk n₀ ann t with
   | false=>none
   | true=>match stepT (denote tb) p w s t with
    | some (s',t')=>gc tb p w n₀ ann n s' t'
    | none=>none
variable {w:World}
theorem mH{tb:String->Option Od}{p:tj}{n₀:Nat}{ann:Option Value}:∀{n:Nat}{s s':SharedT}{t:Thread},gc tb p w n₀ ann n s t=some s'->topRun tb p w n₀ ann n s.abs t=some s'.abs
 | 0,_,_,_,h=>by cases h
 | n+1,s,s',t,h=>by
  unfold gc at h;unfold topRun
  cases he:through t with
  | true=>rw [he] at h;cases h;rfl
  | false =>
   rw [he] at h
   cases hk:stepOk n₀ ann t with
   | false=>rw [hk] at h;cases h
   | true =>
    rw [hk] at h
    cases hs:stepT (denote tb) p w s t with
    | none=>rw [hs] at h;cases h
    | some r=>obtain⟨s₂,t₂⟩:=r;rw [hs] at h;rw [stepT_spec hs];exact mH h
noncomputable def wt:List Obj->Nat->BT->BT
 | [],_,t=>t
 | o::r,i,t=>wt r (i+1) (t.ins i o)
noncomputable def DN(P:NZ):BT:=wt (C0 P).objs.toList 0 .nil
theorem Bc:∀P,absHeap (DN P) (C0 P).objs.size (C0 P).life=C0 P:=λP=>by kernel_rfl
variable {q:tj}{loose:List Str}{α:Type}
theorem Kg{p:tj}{Xt:d_->Bool}{Yf:d_->α}{Ya:World->α}{N:Nat}{g0:Bool}{m₀:Nat}{ann:Option Value}(e:opening p=plainProg p.main.scope.names)(hN:OY 600 N=true)(f:∀s,fenceModules? p s=some s)(size:∀w:World,((C0 w.params).isNs mainGlobals && (MJ []:Array GenState).size == 0,(C0 w.params).objs.size,(C0 w.params).nsMap mainGlobals "__annotations__")=(true,m₀,ann))(run:∀(w:World) (os:MP),(gc treeTable p w m₀ ann N ⟨DN w.params,m₀,(C0 w.params).life,MJ [],boot_drawn,boot_toks,os⟩ (topStub p)).map (λsT=>((staticsOk (importedModules p.main.body) (C0 w.params) sT.abs.heap && namesBound p sT.abs.heap && gensDone sT.abs && laidKept (C0 w.params) sT.abs.heap),openSeen q loose (importedModules p.main.body) Xt g0 sT.abs,Yf sT.abs))=some (true,openGood q loose,Ya w)):LeftO p q loose Xt Yf Ya N g0:=λw=>by
 obtain⟨⟨h,gs,d,k,os⟩,e,e'⟩:=LZ.mp (boot_open e hN f w);obtain⟨rfl,rfl,rfl,rfl⟩:h=C0 w.params/\gs=MJ []/\d=boot_drawn/\k=boot_toks:=by simpa using e'
 obtain⟨z1,z2,z3⟩:_/\_/\_:=by simpa only [Ol] using size w
 obtain⟨sT,r,l⟩:=LZ.mp (run w os);obtain⟨l1,l2,l3⟩:_/\_/\_:=by simpa only [Ol] using l
 have r:=mH r
 rw [show SharedT.abs ⟨DN w.params,m₀,(C0 w.params).life,MJ [],boot_drawn,boot_toks,os⟩=⟨C0 w.params,MJ [],boot_drawn,boot_toks,os⟩ by
  unfold SharedT.abs;dsimp only;rw [<- z2,Bc]] at r
 have t:topFrom treeTable p w N ⟨C0 w.params,MJ [],boot_drawn,boot_toks,os⟩=some sT.abs:=by
  unfold topFrom;dsimp only;rw [z1,z2,z3,r];show (match staticsOk (importedModules p.main.body) (C0 w.params) sT.abs.heap && namesBound p sT.abs.heap && gensDone sT.abs && laidKept (C0 w.params) sT.abs.heap with|true=>_|false=>_)=_;rw [l1]
 unfold openEnds;rw [e];show (topFrom treeTable p w N _).map _=_;rw [t];exact congrArg some (Prod.ext l2 l3)
end L2
namespace L2
open PySem PySem.W
variable {α β:Type}
noncomputable def fs(x:α×β):α:=Prod.rec (λa _=>a) x
noncomputable def sn(x:α×β):β:=Prod.rec (λ_ b=>b) x
noncomputable def fg(x:α×β):α:=Prod.rec (λa _=>a) x
noncomputable def sg(x:α×β):β:=Prod.rec (λ_ b=>b) x
variable {q:tj}{loose:List Str}{env:Env}
theorem DO{p:tj}{Xt:d_->Bool}{Yf:d_->α}{Ya:World->α}{N:Nat}{g0:Bool}{m₀:Nat}{ann:Option Value}{l rest:List Stmt}{c:Code}{qp pa pb p1:Pos}{n0 nb n1 n2:Nat}{SA S1:World->MP->SharedT}(e:opening p=plainProg p.main.scope.names)(hN:OY 600 N=true)(f:∀s,fenceModules? p s=some s)(size:∀w:World,((C0 w.params).isNs mainGlobals && (MJ []:Array GenState).size == 0,(C0 w.params).objs.size,(C0 w.params).nsMap mainGlobals "__annotations__")=(true,m₀,ann))(pre:∀(w:World) (os:MP),topGo treeTable p w m₀ ann n0 ⟨C0 w.params,MJ [],boot_drawn,boot_toks,os⟩ (topStub p)=some ((SA w os).abs,⟨denote treeTable (.body (l++rest) env),c,pa,[topFrame qp]⟩))(blk:∀(w:World) (os:MP),segRun treeTable p w m₀ ann 1 nb (SA w os).abs (blockOf (l++rest) env c pa [topFrame qp])=some (.next,(SA w os).abs,c,pb))(one:∀(w:World) (os:MP),segRunT treeTable p w m₀ ann 1 n1 (SA w os) (piecesOf l env c pb [topFrame qp])=some (.next,S1 w os,c,p1))(hn:N=n0+(nb+(n1+n2)))(run1:∀(w:World) (os:MP),(gc treeTable p w m₀ ann n2 (S1 w os) (restOf rest env c p1 [topFrame qp])).map (λsT=>fs (openSeen q loose (importedModules p.main.body) Xt g0 sT.abs))=some (fg (openGood q loose)))(run2:∀(w:World) (os:MP),(gc treeTable p w m₀ ann n2 (S1 w os) (restOf rest env c p1 [topFrame qp])).map (λsT=>sn (openSeen q loose (importedModules p.main.body) Xt g0 sT.abs))=some (sg (openGood q loose)))(run:∀(w:World) (os:MP),(gc treeTable p w m₀ ann n2 (S1 w os) (restOf rest env c p1 [topFrame qp])).map (λsT=>((staticsOk (importedModules p.main.body) (C0 w.params) sT.abs.heap && namesBound p sT.abs.heap && gensDone sT.abs && laidKept (C0 w.params) sT.abs.heap),Yf sT.abs))=some (true,Ya w)):LeftO p q loose Xt Yf Ya N g0:=λw=>by
 obtain⟨⟨h,gs,d,k,os⟩,e,e'⟩:=LZ.mp (boot_open e hN f w);obtain⟨rfl,rfl,rfl,rfl⟩:h=C0 w.params/\gs=MJ []/\d=boot_drawn/\k=boot_toks:=by simpa using e'
 obtain⟨z1,z2,z3⟩:_/\_/\_:=by simpa only [Ol] using size w
 obtain⟨sT,r,l⟩:=LZ.mp (run w os);obtain⟨s1,r1,l0⟩:=LZ.mp (run1 w os);obtain rfl:=pf (r.symm.trans r1);obtain⟨s2,r2,l2⟩:=LZ.mp (run2 w os);obtain rfl:=pf (r.symm.trans r2);obtain⟨l1,l3⟩:_/\_:=by simpa only [Ol] using l
 have r:=go_top (pre w os) (piece_block (blk w os) (piece_app (segRun_of (one w os)) (mH r)));rw [<- hn] at r
 have t:topFrom treeTable p w N ⟨C0 w.params,MJ [],boot_drawn,boot_toks,os⟩=some sT.abs:=by
  unfold topFrom;dsimp only;rw [z1,z2,z3,r];show (match staticsOk (importedModules p.main.body) (C0 w.params) sT.abs.heap && namesBound p sT.abs.heap && gensDone sT.abs && laidKept (C0 w.params) sT.abs.heap with|true=>_|false=>_)=_;rw [l1]
 unfold openEnds;rw [e];show (topFrom treeTable p w N _).map _=_;rw [t];exact congrArg some (Prod.ext (Prod.ext l0 l2) l3)
noncomputable def zhE(P:NZ)(x:Str)(t:Nat)(v:Value):OZ:=⟨PyData.keyHash P x,.str x t,v⟩
noncomputable def zhT(xs:List Value):Obj:=⟨.type "tuple",none,.seq xs.toArray 0,#[]⟩
noncomputable def zhF(xs:List Value):Obj:=⟨.none,none,.fields xs.toArray,#[]⟩
noncomputable def zhD(es:List OZ)(n:Nat):Obj:=⟨.type "dict",none,.dict es.toArray n,#[]⟩
noncomputable def zhG(c:Str)(xs:List Value):Obj:=⟨.type c.toString,none,.fields xs.toArray,#[]⟩
noncomputable def FF(xs:List Obj):List (Nat×Obj)->List Obj
 | []=>xs
 | p::r=>FF (xs.set p.1 p.2) r
noncomputable def zhM(p:tj)(i j:Nat):Stmt:=match p.main.body.getD i (.Pass ⟨0,0,0,0⟩) with
 | .ClassDef _ _ _ body _ _ _ _ _ _ _=>body.getD j (.Pass ⟨0,0,0,0⟩)
 | s=>s
noncomputable def zhN(k:Value)(s:Stmt)(x q:Str)(g:Addr)(m c:Value):Obj:=match s with
 | .FunctionDef _ a b _ _ _ sc _ _ _=>⟨k,none,.func { name:=x,qualname:=q,params:=a,body:=.stmts b,scope:=sc,globals:=g,closure:=[],defaults:=.none,kwdefaults:=.none,pyModule:=m,code:=c },#[]⟩
 | _=>default
noncomputable def zhK(x q:Str)(t l n f e:Nat)(b:Bool)(j k r:Value)(u:Nat):Obj:=⟨.type "code",none,.fields #[.str x t,.str q (t+1),.str "/claim/cut.py" (t+2),.int l 0,.int n 0,.int 0 0,.int 0 0,.int f 0,.ref e,.bool b,.int 181 0,.ref (e+1),.none,j,k,r,.int u 0,.int l 0,.str "/claim/cut.py" (u+1)],#[]⟩
noncomputable def zhQ:Value:=.str "shortglue.errors" 187
noncomputable def zhU(P:NZ)(x:Str)(a t l n:Nat)(es:List OZ)(f:List Value):List Obj:=[zhT [.ref 24],zhG "builtin_function_or_method" [.builtin "type.__prepare__",.type "type"],zhD (zhE P "__module__" (t+7) zhQ::zhE P "__qualname__" (t+9) (.str x (t+8))::zhE P "__firstlineno__" (t+11) (.int l (t+10))::es) n,zhT [],zhF f,zhK x x (t+2) l 0 0 (a+3) false .none .none .none (t+5),⟨.type "frame",none,.plain,#[some (.ref (a+5)),some (.ref 3),some (.ref (a+2)),none,some zhQ,none,some (.ref 0)]⟩,zhT []]
noncomputable def zhV(P:NZ)(x:Str)(a t l c:Nat)(es:List OZ):List Obj:=[zhD (zhE P "__module__" (t+7) zhQ::zhE P "__firstlineno__" (t+11) (.int l (t+10))::es) 2,⟨.type "type",none,.cls { name:=x,bases:=[.ref 24],mro:=[.ref c,.ref 24,.type "ValueError",.type "Exception",.type "BaseException",.type "object"],ns:=c - 1,qualname:=x,hasDict:=true,slotNames:=[],subclasses:=[],abstract:=false,collection:=none,hasDel:=false },#[some (.ref a),none,some (.str x t),some (.str x (t+8)),some (.builtin "ValueError.__new__"),some (.bool true)]⟩,zhG "super" [.ref c,.ref c,.ref c],zhG "builtin_function_or_method" [.builtin "object.__init_subclass__",.ref c]]
noncomputable def zhX(P:NZ)(x:Str)(a t l:Nat):List Obj:=zhU P x a t l 4 [zhE P "__static_attributes__" (t+12) (.ref (a+7))] []++zhV P x a t l (a+9) [zhE P "__static_attributes__" (t+12) (.ref (a+7)),zhE P "__doc__" (t+13) .none]
noncomputable def zhY(P:NZ)(p:tj)(x q f:Str)(i a t l:Nat):List Obj:=zhU P x a t l 5 [zhE P "__init__" (t+19) (.ref (a+13)),zhE P "__static_attributes__" (t+21) (.ref (a+14))] [.int (l+2:Nat) 0,.int 4 0,.ref (a+12)]++[zhF [],zhT [.str "self" (t+15),.str f (t+16)],zhT [],zhN .none (zhM p i 0) "__init__" q 0 .none .none,zhK "__init__" q (t+12) (l+2) 2 3 (a+7) true (.ref (a+9)) (.ref (a+10)) (.ref (a+11)) (t+17),zhN (.type "function") (zhM p i 0) "__init__" q 3 zhQ (.ref (a+12)),zhT [.str f (t+20)]]++zhV P x a t l (a+16) [zhE P "__init__" (t+19) (.ref (a+13)),zhE P "__static_attributes__" (t+21) (.ref (a+14)),zhE P "__doc__" (t+22) .none]
end L2
section
open PySem PySem.W PyProof.Rows L2
noncomputable def zzA(P:NZ):BT:=wt ((C0 P).objs.toList++[zhT [],
  zhF [],
  ⟨(.type "code"),none,(.fields #[(.str "<module>" 182),(.str "<module>" 183),(.str "/claim/cut.py" 184),(.int (1) 0),(.int (0) 0),(.int (0) 0),(.int (0) 0),(.int (0) 0),(.ref 11),(.bool false),(.int (181) 0),(.ref 12),.none,.none,.none,.none,(.int (185) 0),(.int (1) 0),(.str "/claim/cut.py" 186)]),#[]⟩,
  ⟨(.type "frame"),none,.plain,#[(some (.ref 13)),(some (.ref 3)),(some (.ref 3)),none,(some (.str "__main__" 164)),none,(some (.ref 0))]⟩]) 0 .nil
noncomputable def zz1(P:NZ):BT:=wt (FF (C0 P).objs.toList [(3,zhD [zhE P "__name__" 165 (.str "shortglue.signs" 424),zhE P "__doc__" 166 .none,zhE P "__package__" 167 .none,zhE P "__loader__" 168 (.builtin "__main__.__loader__#opaque"),zhE P "__spec__" 169 .none,zhE P "__annotations__" 170 (.ref 6),zhE P "__builtins__" 171 (.ref 4),zhE P "__file__" 173 (.str "/claim/cut.py" 172),zhE P "__cached__" 174 .none,zhE P "GlueError" 206 (.ref 24),zhE P "TooMany" 231 (.ref 44),zhE P "NoPiece" 256 (.ref 63),zhE P "NoOrder" 272 (.ref 75),zhE P "NotHeld" 297 (.ref 94),zhE P "TooGreat" 322 (.ref 113),zhE P "NotApart" 347 (.ref 132),zhE P "NoCounts" 372 (.ref 151),zhE P "is_row" 381 (.ref 160),zhE P "is_number" 388 (.ref 167),zhE P "are_numbers" 394 (.ref 172),zhE P "are_prices" 400 (.ref 177),zhE P "is_price_paper" 406 (.ref 182),zhE P "lap" 417 (.ref 189),zhE P "all_laps" 423 (.ref 194),zhE P "MOST_TEXT" 427 (.int (4000) 426)] 25)]++[zhT [],
  zhF [(.int (2) 0),(.int (0) 0),(.ref 20),(.int (4) 0),(.int (0) 0),(.ref 33),(.int (8) 0),(.int (0) 0),(.ref 52),(.int (12) 0),(.int (0) 0),(.ref 71),(.int (14) 0),(.int (0) 0),(.ref 83),(.int (18) 0),(.int (0) 0),(.ref 102),(.int (22) 0),(.int (0) 0),(.ref 121),(.int (26) 0),(.int (0) 0),(.ref 140),(.int (31) 0),(.int (0) 0),(.ref 159),(.int (33) 0),(.int (0) 0),(.ref 166),(.int (35) 0),(.int (0) 0),(.ref 171),(.int (37) 0),(.int (0) 0),(.ref 176),(.int (39) 0),(.int (0) 0),(.ref 181),(.int (42) 0),(.int (0) 0),(.ref 188),(.int (47) 0),(.int (0) 0),(.ref 193)],
  ⟨(.type "code"),none,(.fields #[(.str "<module>" 182),(.str "<module>" 183),(.str "/claim/cut.py" 184),(.int (1) 0),(.int (0) 0),(.int (0) 0),(.int (0) 0),(.int (0) 0),(.ref 11),(.bool false),(.int (181) 0),(.ref 12),.none,.none,.none,.none,(.int (185) 0),(.int (1) 0),(.str "/claim/cut.py" 186)]),#[]⟩,
  ⟨(.type "frame"),none,.plain,#[(some (.ref 13)),(some (.ref 3)),(some (.ref 3)),none,(some (.str "__main__" 164)),none,(some (.ref 0))]⟩,
  zhT [(.type "ValueError")],
  zhG "builtin_function_or_method" [(.builtin "type.__prepare__"),(.type "type")],
  zhD [zhE P "__module__" 196 (.str "shortglue.errors" 187),zhE P "__qualname__" 198 (.str "GlueError" 197),zhE P "__firstlineno__" 200 (.int (2) 199),zhE P "__static_attributes__" 201 (.ref 22)] 4,
  zhT [],
  zhF [],
  ⟨(.type "code"),none,(.fields #[(.str "GlueError" 191),(.str "GlueError" 192),(.str "/claim/cut.py" 193),(.int (2) 0),(.int (0) 0),(.int (0) 0),(.int (0) 0),(.int (0) 0),(.ref 18),(.bool false),(.int (181) 0),(.ref 19),.none,.none,.none,.none,(.int (194) 0),(.int (2) 0),(.str "/claim/cut.py" 195)]),#[]⟩,
  ⟨(.type "frame"),none,.plain,#[(some (.ref 20)),(some (.ref 3)),(some (.ref 17)),none,(some (.str "shortglue.errors" 187)),none,(some (.ref 0))]⟩,
  zhT [],
  zhD [zhE P "__module__" 196 (.str "shortglue.errors" 187),zhE P "__firstlineno__" 200 (.int (2) 199),zhE P "__static_attributes__" 201 (.ref 22),zhE P "__weakref__" 203 (.ref 25),zhE P "__doc__" 204 .none] 3,
  ⟨(.type "type"),none,(.cls { name:="GlueError",bases:=[(.type "ValueError")],mro:=[(.ref 24),(.type "ValueError"),(.type "Exception"),(.type "BaseException"),(.type "object")],ns:=23,qualname:="GlueError",hasDict:=true,slotNames:=[],subclasses:=[(.ref 44),(.ref 63),(.ref 75),(.ref 94),(.ref 113),(.ref 132),(.ref 151)],abstract:=false,collection:=none,hasDel:=false }),#[(some (.ref 15)),none,(some (.str "GlueError" 189)),(some (.str "GlueError" 197)),(some (.builtin "ValueError.__new__")),(some (.bool true))]⟩,
  ⟨(.type "getset_descriptor"),none,(.fields #[(.str "__weakref__" 202),(.ref 24),(.builtin "ExceptionGroup.__weakref__"),.none]),#[]⟩,
  zhG "super" [(.ref 24),(.ref 24),(.ref 24)],
  zhG "builtin_function_or_method" [(.builtin "object.__init_subclass__"),(.ref 24)]]++zhY P PySem.Challenge.pw_shortglue_k57_whole_more_often "TooMany" "TooMany.__init__" "most" 2 28 207 4++zhY P PySem.Challenge.pw_shortglue_k57_whole_more_often "NoPiece" "NoPiece.__init__" "at" 3 47 232 8++zhX P "NoOrder" 66 257 12++zhY P PySem.Challenge.pw_shortglue_k57_whole_more_often "NotHeld" "NotHeld.__init__" "at" 5 78 273 14++zhY P PySem.Challenge.pw_shortglue_k57_whole_more_often "TooGreat" "TooGreat.__init__" "most" 6 97 298 18++zhY P PySem.Challenge.pw_shortglue_k57_whole_more_often "NotApart" "NotApart.__init__" "at" 7 116 323 22++zhY P PySem.Challenge.pw_shortglue_k57_whole_more_often "NoCounts" "NoCounts.__init__" "at" 8 135 348 26++[zhT [],
  zhF [],
  zhT [(.str "thing" 378)],
  zhT [],
  zhN .none (zhM PySem.Challenge.pw_shortglue_k57_whole_more_often 10 0) "is_row" "is_row" 0 .none .none,
  ⟨(.type "code"),none,(.fields #[(.str "is_row" 375),(.str "is_row" 376),(.str "/claim/cut.py" 377),(.int (31) 0),(.int (1) 0),(.int (0) 0),(.int (0) 0),(.int (3) 0),(.ref 154),(.bool true),(.int (181) 0),(.ref 155),.none,(.ref 156),(.ref 157),(.ref 158),(.int (379) 0),(.int (31) 0),(.str "/claim/cut.py" 380)]),#[]⟩,
  zhN (.type "function") (zhM PySem.Challenge.pw_shortglue_k57_whole_more_often 10 0) "is_row" "is_row" 3 (.str "shortglue.kinds" 373) (.ref 159),
  zhT [],
  zhF [],
  zhT [(.str "thing" 385)],
  zhT [],
  zhN .none (zhM PySem.Challenge.pw_shortglue_k57_whole_more_often 11 0) "is_number" "is_number" 0 .none .none,
  ⟨(.type "code"),none,(.fields #[(.str "is_number" 382),(.str "is_number" 383),(.str "/claim/cut.py" 384),(.int (33) 0),(.int (1) 0),(.int (0) 0),(.int (0) 0),(.int (3) 0),(.ref 161),(.bool true),(.int (181) 0),(.ref 162),.none,(.ref 163),(.ref 164),(.ref 165),(.int (386) 0),(.int (33) 0),(.str "/claim/cut.py" 387)]),#[]⟩,
  zhN (.type "function") (zhM PySem.Challenge.pw_shortglue_k57_whole_more_often 11 0) "is_number" "is_number" 3 (.str "shortglue.kinds" 373) (.ref 166),
  zhT [],
  zhF [],
  zhN .none (zhM PySem.Challenge.pw_shortglue_k57_whole_more_often 12 0) "are_numbers" "are_numbers" 0 .none .none,
  ⟨(.type "code"),none,(.fields #[(.str "are_numbers" 389),(.str "are_numbers" 390),(.str "/claim/cut.py" 391),(.int (35) 0),(.int (2) 0),(.int (0) 0),(.int (0) 0),(.int (3) 0),(.ref 168),(.bool true),(.int (181) 0),(.ref 169),.none,.none,.none,(.ref 170),(.int (392) 0),(.int (35) 0),(.str "/claim/cut.py" 393)]),#[]⟩,
  zhN (.type "function") (zhM PySem.Challenge.pw_shortglue_k57_whole_more_often 12 0) "are_numbers" "are_numbers" 3 (.str "shortglue.kinds" 373) (.ref 171),
  zhT [],
  zhF [],
  zhN .none (zhM PySem.Challenge.pw_shortglue_k57_whole_more_often 13 0) "are_prices" "are_prices" 0 .none .none,
  ⟨(.type "code"),none,(.fields #[(.str "are_prices" 395),(.str "are_prices" 396),(.str "/claim/cut.py" 397),(.int (37) 0),(.int (2) 0),(.int (0) 0),(.int (0) 0),(.int (3) 0),(.ref 173),(.bool true),(.int (181) 0),(.ref 174),.none,.none,.none,(.ref 175),(.int (398) 0),(.int (37) 0),(.str "/claim/cut.py" 399)]),#[]⟩,
  zhN (.type "function") (zhM PySem.Challenge.pw_shortglue_k57_whole_more_often 13 0) "are_prices" "are_prices" 3 (.str "shortglue.kinds" 373) (.ref 176),
  zhT [],
  zhF [],
  zhN .none (zhM PySem.Challenge.pw_shortglue_k57_whole_more_often 14 0) "is_price_paper" "is_price_paper" 0 .none .none,
  ⟨(.type "code"),none,(.fields #[(.str "is_price_paper" 401),(.str "is_price_paper" 402),(.str "/claim/cut.py" 403),(.int (39) 0),(.int (2) 0),(.int (0) 0),(.int (0) 0),(.int (3) 0),(.ref 178),(.bool true),(.int (181) 0),(.ref 179),.none,.none,.none,(.ref 180),(.int (404) 0),(.int (39) 0),(.str "/claim/cut.py" 405)]),#[]⟩,
  zhN (.type "function") (zhM PySem.Challenge.pw_shortglue_k57_whole_more_often 14 0) "is_price_paper" "is_price_paper" 3 (.str "shortglue.kinds" 373) (.ref 181),
  zhT [],
  zhF [],
  zhT [(.str "one" 412),(.str "other" 413),(.str "k" 414)],
  zhT [],
  zhN .none (zhM PySem.Challenge.pw_shortglue_k57_whole_more_often 16 0) "lap" "lap" 0 .none .none,
  ⟨(.type "code"),none,(.fields #[(.str "lap" 409),(.str "lap" 410),(.str "/claim/cut.py" 411),(.int (42) 0),(.int (2) 0),(.int (0) 0),(.int (0) 0),(.int (3) 0),(.ref 183),(.bool true),(.int (181) 0),(.ref 184),.none,(.ref 185),(.ref 186),(.ref 187),(.int (415) 0),(.int (42) 0),(.str "/claim/cut.py" 416)]),#[]⟩,
  zhN (.type "function") (zhM PySem.Challenge.pw_shortglue_k57_whole_more_often 16 0) "lap" "lap" 3 (.str "shortglue.laps" 407) (.ref 188),
  zhT [],
  zhF [],
  zhN .none (zhM PySem.Challenge.pw_shortglue_k57_whole_more_often 17 0) "all_laps" "all_laps" 0 .none .none,
  ⟨(.type "code"),none,(.fields #[(.str "all_laps" 418),(.str "all_laps" 419),(.str "/claim/cut.py" 420),(.int (47) 0),(.int (1) 0),(.int (0) 0),(.int (0) 0),(.int (3) 0),(.ref 190),(.bool true),(.int (181) 0),(.ref 191),.none,.none,.none,(.ref 192),(.int (421) 0),(.int (47) 0),(.str "/claim/cut.py" 422)]),#[]⟩,
  zhN (.type "function") (zhM PySem.Challenge.pw_shortglue_k57_whole_more_often 17 0) "all_laps" "all_laps" 3 (.str "shortglue.laps" 407) (.ref 193)]) 0 .nil
noncomputable def zzV:Env:={ scope:=(PySem.Challenge.pw_shortglue_k57_whole_more_often).main.scope,locals:=mainNs,globals:=mainNs,cells:=[],code:=(.ref 13),frame:=some 14 }
abbrev zzC:Code:=.body ((behindTheImports PySem.Challenge.pw_shortglue_k57_whole_more_often).take 20++(behindTheImports PySem.Challenge.pw_shortglue_k57_whole_more_often).drop 20) zzV
abbrev FG(w:World)(os:MP):SharedT:=⟨zzA w.params,15,(C0 w.params).life,MJ [],boot_drawn,187,os⟩
abbrev IG(w:World)(os:MP):SharedT:=⟨zz1 w.params,195,(C0 w.params).life,MJ [],boot_drawn,428,os⟩
theorem FH:∀(w:World) (os:MP),topGo treeTable PySem.Challenge.pw_shortglue_k57_whole_more_often w 11 (some (.ref 6)) 12 ⟨C0 w.params,MJ [],boot_drawn,boot_toks,os⟩ (topStub PySem.Challenge.pw_shortglue_k57_whole_more_often)=some ((FG w os).abs,⟨denote treeTable zzC,zzC,⟨0,0,0,0⟩,[topFrame ⟨0,0,0,0⟩]⟩):=by intro w os;kernel_rfl
theorem FI:∀(w:World) (os:MP),segRun treeTable PySem.Challenge.pw_shortglue_k57_whole_more_often w 11 (some (.ref 6)) 1 1 (FG w os).abs (blockOf ((behindTheImports PySem.Challenge.pw_shortglue_k57_whole_more_often).take 20++(behindTheImports PySem.Challenge.pw_shortglue_k57_whole_more_often).drop 20) zzV zzC ⟨0,0,0,0⟩ [topFrame ⟨0,0,0,0⟩])=some (.next,(FG w os).abs,zzC,⟨0,0,0,0⟩):=by intro w os;kernel_rfl
theorem FJ:∀(w:World) (os:MP),segRunT treeTable PySem.Challenge.pw_shortglue_k57_whole_more_often w 11 (some (.ref 6)) 1 2108 (FG w os) (piecesOf ((behindTheImports PySem.Challenge.pw_shortglue_k57_whole_more_often).take 20) zzV zzC ⟨0,0,0,0⟩ [topFrame ⟨0,0,0,0⟩])=some (.next,IG w os,zzC,⟨50,0,50,9⟩):=by intro w os;kernel_rfl
end
section
open PySem PySem.W PyProof.Rows
noncomputable def qD:tj:=PySem.W.view PySem.Challenge.pw_shortglue_k57_whole_more_often [1,2,3,4,5,6,7,8,10,11,12,13,14,16,17,19,20,21,23,24,25,27,28,29,30,31,33,35,37,38,39,40,41,42,43,44,45,46,48,50,51,52,53,54,55,56,57,58,60,61,63,64,65,66,67,68,69,70,71,72,73,74,75,76,77,78,79,80,81,82]
theorem IU:∀(w:World) (os:MP),(L2.gc treeTable PySem.Challenge.pw_shortglue_k57_whole_more_often w 11 (some (.ref 6)) 2035 (IG w os) (restOf ((behindTheImports PySem.Challenge.pw_shortglue_k57_whole_more_often).drop 20) zzV zzC ⟨50,0,50,9⟩ [topFrame ⟨0,0,0,0⟩])).map (λsT=>L2.fs (openSeen qD [Nd "is_text"] (importedModules PySem.Challenge.pw_shortglue_k57_whole_more_often.main.body) (λs=>xlAt qD [] s && recOk (RowW.records (OpenRow.toRowW (OpenLaw.row PySem.Challenge.rw_shortglue_k57_whole_more_often))) s) true sT.abs))=some (L2.fg (openGood qD [Nd "is_text"])):=by intro w os;kernel_rfl
theorem IV:∀(w:World) (os:MP),(L2.gc treeTable PySem.Challenge.pw_shortglue_k57_whole_more_often w 11 (some (.ref 6)) 2035 (IG w os) (restOf ((behindTheImports PySem.Challenge.pw_shortglue_k57_whole_more_often).drop 20) zzV zzC ⟨50,0,50,9⟩ [topFrame ⟨0,0,0,0⟩])).map (λsT=>L2.sn (openSeen qD [Nd "is_text"] (importedModules PySem.Challenge.pw_shortglue_k57_whole_more_often.main.body) (λs=>xlAt qD [] s && recOk (RowW.records (OpenRow.toRowW (OpenLaw.row PySem.Challenge.rw_shortglue_k57_whole_more_often))) s) true sT.abs))=some (L2.sg (openGood qD [Nd "is_text"])):=by intro w os;kernel_rfl
theorem DP:OpenLaw.wellSaid PySem.Challenge.rw_shortglue_k57_whole_more_often=true:=by kernel_rfl
local macro_rules | `(tactic| o_law)=>`(tactic| refine holds_law DP fun said=>?_)
local macro_rules | `(tactic| o_head $H)=>`(tactic| (refine holds_open (q:=qD) (loose:=[PySem.Str.ofString "is_text"]) (Xt:=fun s=>xlAt qD [] s && recOk (RowW.records (OpenRow.toRowW (OpenLaw.row PySem.Challenge.rw_shortglue_k57_whole_more_often))) s) (XP:=XL qD []) (Yf:=Hook.obs $H) (Ya:=Hook.val $H) (YP:=Hook.says $H) (N:=4156) ?hl (Hook.of $H) (Hook.keeps $H) (fun s e=>xl_of s (and_eq_true_iff.mp e).1) XL.keeps (by rfl) (by rfl) (by rfl) (fun s e=>recFacts_of (and_eq_true_iff.mp e).2) (by rfl) (by first | assumption | decide +kernel) (by decide +kernel) ⟨rfl,rfl,rfl,rfl,rfl,by decide +kernel⟩ ?hw ?hc;(case hl=>(refine L2.DO (p:=PySem.Challenge.pw_shortglue_k57_whole_more_often) (m₀:=11) (ann:=some (.ref 6)) (SA:=FG) (S1:=IG) (n2:=2035) (by kernel_rfl) (by rfl) (fun s=>by kernel_rfl) (fun w=>by kernel_rfl) FH FI FJ (by rfl) IU IV ?_;intro w os;kernel_rfl))))
set_option maxRecDepth 100000 in
set_option maxHeartbeats 0 in
open_top topHd for PySem.Challenge.rw_shortglue_k57_whole_more_often
end
-- CHANGE: your row's module here,as the last of these rows
namespace L2
open PySem PySem.Spec PyProof.Rows
abbrev Key:=Sum Int Str
noncomputable def FK:Key->Value->Bool
 | .inl k,v=>Value.isInt k v
 | .inr x,v=>Value.isStrOf x v
noncomputable def KY(w:World):Key->Int
 | .inl k=>hashInt k
 | .inr x=>hashStr w x
theorem bU:∀{k:Key}{v:Value},FK k v=true->(∃i t,k=O0 i/\v=NC i t)\/(∃x t,k=O3 x/\v=NY x t)
 | .inl i,v,h=>by
  obtain⟨t,e⟩:=Value.isInt_shape (k:=i) (v:=v) h;exact .inl ⟨i,t,rfl,e⟩
 | .inr x,v,h=>by
  obtain⟨t,e⟩:=Value.isStrOf_shape (x:=x) (v:=v) h;exact .inr ⟨x,t,rfl,e⟩
def FL(a b:Int):decide ((O0 a:Key)=O0 b)=(a == b):=by
 by_cases e:a=b
 .subst e;simp
 .have h:¬ (O0 a:Key)=O0 b:=λq=>e (Sum.inl.inj q);rw [decide_eq_false h];exact (beq_eq_false_iff_ne.mpr e).symm
def FO(a b:Str):decide ((O3 a:Key)=O3 b)=decide (a=b):=by
 by_cases e:a=b
 .subst e;simp
 .have h:¬ (O3 a:Key)=O3 b:=λq=>e (Sum.inr.inj q);rw [decide_eq_false h,decide_eq_false e]
def FP(a:Int)(b:Str):decide ((O0 a:Key)=O3 b)=false:=decide_eq_false (λq=>nomatch q)
def FQ(a:Str)(b:Int):decide ((O3 a:Key)=O0 b)=false:=decide_eq_false (λq=>nomatch q)
noncomputable def qE(prog:tj)(w:World):PySem.KeyKind prog w Key where
 is:=FK
 hash:=KY w
 inj:=λv a b ha hb=>by
  rcases bU ha with ⟨i,t,rfl,rfl⟩|⟨x,t,rfl,rfl⟩
  .rcases bU hb with ⟨j,u,rfl,e⟩|⟨y,u,rfl,e⟩
   .injection e with e1 _;rw [e1]
   .exact nomatch e
  .rcases bU hb with ⟨j,u,rfl,e⟩|⟨y,u,rfl,e⟩
   .exact nomatch e
   .injection e with e1 _;rw [e1]
 byValue:=λk v h=>by
  rcases bU h with ⟨i,t,rfl,rfl⟩|⟨x,t,rfl,rfl⟩ <;> rfl
 pyHash:=λhv h=>by
  rcases bU hv with ⟨i,t,rfl,rfl⟩|⟨x,t,rfl,rfl⟩
  .exact wpAny_pyHash_int h
  .exact wpAny_pyHash_str h
 eqBool:=λhu hv h=>by
  rcases bU hu with ⟨i,t,rfl,rfl⟩|⟨x,t,rfl,rfl⟩
  .rcases bU hv with ⟨j,u,rfl,rfl⟩|⟨y,u,rfl,rfl⟩
   .rw [FL] at h;exact wpAny_eqBool_int h
   .rw [FP] at h;exact SeqAt.EqAt.int_str i t y u _ _ _ _ h
  .rcases bU hv with ⟨j,u,rfl,rfl⟩|⟨y,u,rfl,rfl⟩
   .rw [FQ] at h;exact SeqAt.EqAt.str_int x t j u _ _ _ _ h
   .rw [FO] at h;exact wpAny_eqBool_str h
 «strs»:=λk x t v h=>by
  rcases bU h with ⟨i,u,rfl,e⟩|⟨y,u,rfl,e⟩
  .exact nomatch e
  .injection e with e1 _;subst e1;cases v <;> rfl
inductive V where
 | non|bl (b:Bool)|int (i:Int)|str (x:Str)|byt (b:Array UInt8)|flt (b:UInt64)|ref (a:Addr)|ty (n:String)
 deriving DecidableEq
noncomputable def cZ:V->Value->Prop
 | .non,u=>u=L0
 | .bl b,u=>u=Mv b
 | .int i,u=>∃t,u=NC i t
 | .str x,u=>∃t,u=NY x t
 | .byt b,u=>∃t,u=Value.bytes b t
 | .flt b,u=>∃t,u=OJ b t
 | .ref a,u=>u=n_ a
 | .ty n,u=>u=Mj n
abbrev bP:List V->List Value->Prop:=Paired cZ
variable {xs:List V}{us:List Value}
def bP.length(r:bP xs us):xs.length=us.length:=Paired.length r
theorem bP.get:∀{xs:List V}{us:List Value}{i:Nat}{x:V},bP xs us->xs[i]?=some x->∃u,us[i]?=some u/\cZ x u
 | _,_,_,_,.nil,e=>by simp at e
 | _,_,0,_,.cons r _,e=>by simp at e;subst e;exact⟨_,rfl,r⟩
 | _,_,i+1,x,.cons _ t,e=>by
  obtain⟨u,h1,h2⟩:=bP.get (i:=i) (x:=x) t (by simpa using e);exact⟨u,by simpa using h1,h2⟩
variable {u:Value}
theorem bP.set{x:V}(r:cZ x u):∀{xs:List V}{us:List Value} (i:Nat),bP xs us->bP (xs.set i x) (us.set i u)
 | _,_,_,.nil=>.nil
 | _,_,0,.cons _ t=>.cons r t
 | _,_,i+1,.cons q t=>.cons q (bP.set r i t)
theorem bP.append:∀{xs ys:List V}{us ws:List Value},bP xs us->bP ys ws->bP (xs++ys) (us++ws)
 | _,_,_,_,.nil,s=>s
 | _,_,_,_,.cons r t,s=>.cons r (bP.append t s)
theorem bP.take:∀{xs:List V}{us:List Value} (n:Nat),bP xs us->bP (xs.take n) (us.take n)
 | _,_,0,_=>.nil
 | _,_,_+1,.nil=>.nil
 | _,_,n+1,.cons r t=>.cons r (bP.take n t)
theorem bP.drop:∀{xs:List V}{us:List Value} (n:Nat),bP xs us->bP (xs.drop n) (us.drop n)
 | _,_,0,r=>r
 | _,_,_+1,.nil=>.nil
 | _,_,n+1,.cons _ t=>bP.drop n t
noncomputable def A8:Option V->Option Value->Prop
 | some v,some u=>cZ v u
 | none,none=>True
 | _,_=>False
noncomputable def KV{κ:Type}:List (κ×V)->List (κ×Value)->Prop:=Paired λ(p:κ×V) (q:κ×Value)=>p.1=q.1/\cZ p.2 q.2
noncomputable def kV:Key->V
 | .inl i=>.int i
 | .inr x=>.str x
inductive HO where
 | lst (xs:List V)
 | tup (xs:List V)
 | dK (kvs:List (Key×V))|dT (kvs:List (List Key×V))
 | set (S:Int->Bool) (n:Nat)
 | ins (C dx:Addr) (fs:List (Str×V))
 | own (x:Addr)
 | xd (fs:List (Str×V))
 | met (f x:Addr)
 | rng (lo hi:Int)
 | frz (o:Obj) (u:HO)
 | tbl (ps:Array Value)
 | ext (φ:Heap->Prop)
abbrev Hp:=Addr->Option HO
noncomputable def upd(H:Hp)(a:Addr)(o:HO):Hp:=λb=>if b=a then some o else H b
variable {H:Hp}{o:HO}
def aY{a:Addr}:upd H a o a=some o:=by unfold upd;rw [if_pos rfl]
def aC{a b:Addr}(h:b≠a):upd H a o b=H b:=by unfold upd;rw [if_neg h]
def bc{a b:Addr}(h:H a=some o)(h':H b=none):a≠b:=by
 intro e;subst e;rw [h] at h';cases h'
noncomputable def ut(H:Hp)(h:Heap)(a:Addr)(q:Str):List Value->Prop
 | []=>True
 | .int _ _::.int _ _::.ref c::r=>H c=some (.own a)/\(∃(oc:Obj) (vs:Array Value) (t:Tok),h.get? c=some oc/\oc.data=.fields vs/\vs[1]?=some (.str q t))/\ut H h a q r
 | _=>False
variable {H':Hp}{h h':Heap}
theorem ut.stay{a:Addr}{q:Str}(k:∀b u,H b=some (.own a)->h.get? b=some u->h'.get? b=some u)(ho:∀b,H b=some (.own a)->H' b=some (.own a)):∀l:List Value,ut H h a q l->ut H' h' a q l
 | [],_=>trivial
 | .int _ _::.int _ _::.ref c::r,x=>by
  obtain⟨x1,⟨oc,vs,t,e1,e2,e3⟩,x2⟩:=x;exact⟨ho _ x1,⟨oc,vs,t,k _ _ x1 e1,e2,e3⟩,ut.stay k ho r x2⟩
noncomputable def Bd(H:Hp)(h:Heap)(a:Addr)(ps:Array Value):Prop:=∃(q:Str) (t:Tok) (more real:Array Value),ps=#[.str q t]++more/\h.get? a=some { cls:=.none,data:=.fields real }/\ut H h a q real.toList
section
variable (P:tj) (w:World)
noncomputable def cf(H:Hp)(h:Heap)(a:Addr):HO->Prop
 | .lst xs=>xs.length<=sizeLine/\∃(its:List Value) (n:Nat),bP xs its/\h.get? a=some { cls:=.type "list",data:=.seq its.toArray n }
 | .tup xs=>xs.length<=sizeLine/\∃its:List Value,bP xs its/\IsTup h a its.toArray
 | .dK kvs=>kvs.length<=sizeLine/\(a == sysModules)=false/\∃vs,KV kvs vs/\h.DictOf (qE P w) a vs
 | .dT kvs=>kvs.length<=sizeLine/\(a == sysModules)=false/\∃xs:List (List Key×Addr×Value),
   Paired (λ(p:List Key×V) (q:List Key×Addr×Value)=>p.1=q.1/\H q.2.1=some (.tup (p.1.map kV))/\cZ p.2 q.2.2) kvs xs /\
   ∃o es ep,h.get? a=some o/\o.ExactDict/\o.data=.dict es ep/\es.toList=xs.map (entryOfKey (tupleKind (qE P w)))/\(xs.map (·.1)).Nodup
 | .set S n=>h.SetOf (intKind P w) a S n
 | .ins C dx fs=>H dx=some (.own a)/\fs.length<=1000/\dx≠a/\h.get? a=some (Ma C dx) /\
   ∃mA,h.Ns1 dx mA/\(∀f,A8 (fs.lookup f) (mA f))/\O5 mA (fs.map (·.1))
 | .own _=>∃o,h.get? a=some o
 | .xd fs=>∃mA,h.Ns1 a mA/\∀f,A8 (fs.lookup f) (mA f)
 | .rng lo hi=>∃t u v,h.get? a=some { cls:=.type "range",data:=.fields #[.int lo t,.int hi u,.int 1 v] }
 | .frz o u=>h.get? a=some o/\cf H h a u
 | .tbl ps=>Bd H h a ps
 | .met f x=>h.get? a=some (Oe (.ref f) (.ref x))
 | .ext φ=>φ h/\(∃o,h.get? a=some o)/\∀h1 h2:Heap,φ h1->(∀o,h1.get? a=some o->h2.get? a=some o)->φ h2
noncomputable def HOk(H:Hp)(h:Heap):Prop:=∀a o,H a=some o->cf P w H h a o
end
section
variable {P:tj}{w:World}{a:Addr}
def cf.lt(x:cf P w H h a o):a<h.objs.size:=by
 cases o with
 | lst xs=>obtain⟨_,_,_,_,e⟩:=x;exact pj e
 | tup xs=>obtain⟨_,_,_,p⟩:=x;exact p.lt
 | dK kvs=>obtain⟨_,_,_,_,o,_,_,e,_⟩:=x;exact pj e
 | dT kvs=>obtain⟨_,_,_,_,o,_,_,e,_⟩:=x;exact pj e
 | set S n=>obtain⟨o,_,_,_,e,_⟩:=x;exact pj e
 | ins C dx fs=>obtain⟨_,_,_,e,_⟩:=x;exact pj e
 | own y=>obtain⟨_,e⟩:=x;exact pj e
 | xd fs=>obtain⟨_,⟨_,_,_,e,_⟩,_⟩:=x;exact pj e
 | rng lo hi=>obtain⟨_,_,_,e⟩:=x;exact pj e
 | frz ob u=>obtain⟨e,_⟩:=x;exact pj e
 | tbl ps=>obtain⟨_,_,_,_,_,e,_⟩:=x;exact pj e
 | met f y=>exact pj (show h.get? a=some _ from x)
 | ext φ=>obtain⟨_,⟨_,e⟩,_⟩:=x;exact pj e
variable {α β:Type}
theorem Paired.mapP{F G:α->β->Prop}:∀{l₁:List α}{l₂:List β},Paired F l₁ l₂->(∀a b,F a b->G a b)->Paired G l₁ l₂
 | _,_,.nil,_=>.nil
 | _,_,.cons r t,f=>.cons (f _ _ r) (Paired.mapP t f)
def cf.stay(x:cf P w H h a o)(k:∀b u,(b=a\/H b=some (.own a))->h.get? b=some u->h'.get? b=some u)(ho:∀b,H b=some (.own a)->H' b=some (.own a))(ht:∀b xs,H b=some (.tup xs)->H' b=some (.tup xs)):cf P w H' h' a o:=by
 induction o with
 | lst xs=>obtain⟨z,its,n,r,e⟩:=x;exact⟨z,its,n,r,k _ _ (.inl rfl) e⟩
 | tup xs=>obtain⟨z,its,r,ob,e,c⟩:=x;exact⟨z,its,r,ob,k _ _ (.inl rfl) e,c⟩
 | dK kvs=>obtain⟨z,y,vs,r,ob,es,ep,e,c⟩:=x;exact⟨z,y,vs,r,ob,es,ep,k _ _ (.inl rfl) e,c⟩
 | dT kvs =>
  obtain⟨z,y,xs,r,ob,es,ep,e,c⟩:=x;exact⟨z,y,xs,Paired.mapP r λp q z=>⟨z.1,ht _ _ z.2.1,z.2.2⟩,ob,es,ep,k _ _ (.inl rfl) e,c⟩
 | set S n=>obtain⟨ob,es,ep,t,e,c⟩:=x;exact⟨ob,es,ep,t,k _ _ (.inl rfl) e,c⟩
 | ins C dx fs =>
  obtain⟨d,z,ne,e,mA,⟨od,es,ep,e2,c⟩,r⟩:=x;exact⟨ho _ d,z,ne,k _ _ (.inl rfl) e,mA,⟨od,es,ep,k _ _ (.inr d) e2,c⟩,r⟩
 | own y=>obtain⟨ob,e⟩:=x;exact⟨ob,k _ _ (.inl rfl) e⟩
 | xd fs=>obtain⟨mA,⟨od,es,ep,e,c⟩,r⟩:=x;exact⟨mA,⟨od,es,ep,k _ _ (.inl rfl) e,c⟩,r⟩
 | rng lo hi=>obtain⟨t,u,v,e⟩:=x;exact⟨t,u,v,k _ _ (.inl rfl) e⟩
 | frz ob u ih=>obtain⟨e,q⟩:=x;exact⟨k _ _ (.inl rfl) e,ih q⟩
 | tbl ps =>
  obtain⟨q,t,more,real,e1,e,r⟩:=x;exact⟨q,t,more,real,e1,k a _ (.inl rfl) e,ut.stay (λb u z=>k b u (.inr z)) ho _ r⟩
 | met f y =>
  have e:h.get? a=some (Oe (.ref f) (.ref y)):=x;show h'.get? a=some (Oe (.ref f) (.ref y));exact k a _ (.inl rfl) e
 | ext φ=>obtain⟨p,⟨o,e⟩,st⟩:=x;exact⟨st _ _ p λo q=>k _ _ (.inl rfl) q,⟨o,k _ _ (.inl rfl) e⟩,st⟩
def HOk.lt(x:HOk P w H h)(e:H a=some o):a<h.objs.size:=(x a o e).lt
def HOk.fresh(x:HOk P w H h)(e:h.objs.size<=a):H a=none:=by
 cases q:H a with
 | none=>rfl
 | some u=>exact absurd (u1 (x.lt q) e) (E_ _)
def HOk.kept(x:HOk P w H h)(k:∀b u,h.get? b=some u->h'.get? b=some u):HOk P w H h':=λa o e =>
 (x a o e).stay (λb u _ q=>k b u q) (λ_ q=>q) λ_ _ q=>q
def HOk.laid(x:HOk P w H h)(k:∀b u,h.get? b=some u->h'.get? b=some u)(hp:h.objs.size<=a)(new:cf P w (upd H a o) h' a o):HOk P w (upd H a o) h':=λb u e=>by
 have hn:=x.fresh hp
 by_cases hb:b=a
 .subst hb;rw [aY] at e;cases e;exact new
 .rw [aC hb] at e;exact (x b u e).stay (λc v _ q=>k c v q) (λc q=>by rw [aC (bc q hn)];exact q) λc xs q=>by rw [aC (bc q hn)];exact q
end
noncomputable def Rd(H:Hp)(a:Addr)(u:HO):Prop:=H a=some u\/∃o,H a=some (.frz o u)
variable {w:World}
def Rd.ok{P:tj}{a:Addr}{u:HO}(r:Rd H a u)(x:HOk P w H h):cf P w H h a u:=by
 rcases r with r|⟨o,r⟩
 .exact x a u r
 .obtain⟨_,q⟩:=x a _ r;exact q
noncomputable def Mut:Option HO->Prop
 | some (.lst _)=>True
 | some (.dK _)=>True
 | some (.dT _)=>True
 | some (.set _ _)=>True
 | some (.ins _ _ _)=>True
 | some (.ext _)=>True
 | _=>False
section
variable {P:tj}{x e:Addr}{o':HO}
def HOk.write(ok:HOk P w H h)(mu:Mut (H x))(he:e=x\/H e=some (.own x))(k:∀b u,b≠e->h.get? b=some u->h'.get? b=some u)(heo:∃u,h'.get? e=some u)(new:cf P w (upd H x o') h' x o'):HOk P w (upd H x o') h':=λb u q=>by
 have nown:∀c y,H c=some (.own y)->c≠x:=λc y r z=>by subst z;rw [r] at mu;exact mu
 have ntup:∀c xs,H c=some (.tup xs)->c≠x:=λc xs r z=>by subst z;rw [r] at mu;exact mu
 by_cases hb:b=x
 .subst hb;rw [aY] at q;cases q;exact new
 .rw [aC hb] at q
  by_cases hbe:b=e
  .have q':H b=some (.own x):=by
    rcases he with z|z
    .exact absurd (hbe.trans z) hb
    .rw [hbe];exact z
   rw [q] at q';cases q';obtain⟨v,hv⟩:=heo;exact⟨v,by rw [hbe];exact hv⟩
  .refine (ok b u q).stay (λc v hc r=>k c v ?_ r) (λc r=>by rw [aC (nown c b r)];exact r) λc xs r=>by rw [aC (ntup c xs r)];exact r
   rcases hc with rfl|hc
   .exact hbe
   .rintro rfl
    rcases he with z|z
    .exact nown c b hc z
    .rw [hc] at z;cases z;exact hb rfl
end
structure Un (fs ex:List Addr) (H H':Hp) (h h':Heap):Prop where
 keep:∀b o,h.get? b=some o->H b=none->b∉fs->b∉ex->h'.get? b=some o
 slot:∀b o,h.get? b=some o->H b=none->b∈fs->b∉ex->∃sl,h'.get? b=some { o with slots:=sl }
 free:∀b o,h.get? b=some o->H b=none->b∉ex->H' b=none
 there:∀b o,h.get? b=some o->b∉ex->∃o',h'.get? b=some o'
 tups:∀b xs,H b=some (.tup xs)->H' b=some (.tup xs)
 frzs:∀b o u,H b=some (.frz o u)->H' b=some (.frz o u)
 tbls:∀b ps,H b=some (.tbl ps)->∃more,H' b=some (.tbl (ps++more))
section
variable {fs ex:List Addr}{H1:Hp}{h1:Heap}
def Un.any(u:Un fs ex H H1 h h1){b:Addr}{ob:Obj}(q:h.get? b=some ob)(n:H b=none)(hx:b∉ex):∃sl,h1.get? b=some { ob with slots:=sl }:=by
 by_cases hb:b∈fs
 .exact u.slot b ob q n hb hx
 .exact⟨ob.slots,u.keep b ob q n hb hx⟩
def Un.kept(k:∀b u,h.get? b=some u->h'.get? b=some u):Un fs ex H H h h' :=
 ⟨λb ob q _ _ _=>k b ob q,λb ob q _ _ _=>⟨ob.slots,k b ob q⟩,λ_ _ _ n _=>n,λb ob q _=>⟨ob,k b ob q⟩,λ_ _ q=>q,λ_ _ _ q=>q,λ_ ps q=>⟨#[],by rw [q];simp⟩⟩
def Un.refl:Un fs ex H H h h:=Un.kept λ_ _ q=>q
variable {a:Addr}
def Un.laid(k:∀b u,h.get? b=some u->h'.get? b=some u)(hp:h.objs.size<=a)(hn:H a=none):Un fs ex H (upd H a o) h h' where
 keep:=λb u q _ _ _=>k b u q
 slot:=λb u q _ _ _=>⟨u.slots,k b u q⟩
 free:=λb u q n _=>by rw [aC (F_ (u1 (pj q) hp))];exact n
 there:=λb u q _=>⟨u,k b u q⟩
 tups:=λb xs q=>by rw [aC (bc q hn)];exact q
 frzs:=λb u xs q=>by rw [aC (bc q hn)];exact q
 tbls:=λb ps q=>⟨#[],by rw [aC (bc q hn),q];simp⟩
variable {x e:Addr}
def Un.write(mu:Mut (H x))(he:e=x\/H e=some (.own x))(k:∀b u,b≠e->h.get? b=some u->h'.get? b=some u)(heo:∃u,h'.get? e=some u):Un fs ex H (upd H x o) h h':=by
 have hx:∀b,H b=none->b≠x:=λb n z=>by subst z;rw [n] at mu;exact mu
 have hb:∀b,H b=none->b≠e:=λb n z=>by
  subst z
  rcases he with r|r
  .exact hx b n r
  .rw [n] at r;cases r
 have hm:∀b u,H b=some u->¬ Mut (some u)->b≠x:=λb u q nm z=>by subst z;rw [q] at mu;exact nm mu
 refine⟨λb u q n _ _=>k b u (hb b n) q,λb u q n _ _=>⟨u.slots,k b u (hb b n) q⟩,λb u q n _=>by rw [aC (hx b n)];exact n,λb u q _=>?_,
  λb xs q=>by rw [aC (hm b _ q λz=>z)];exact q,λb u xs q=>by rw [aC (hm b _ q λz=>z)];exact q,λb ps q=>⟨#[],by rw [aC (hm b _ q λz=>z),q];simp⟩⟩
 by_cases hbe:b=e
 .subst hbe;exact heo
 .exact⟨u,k b u hbe q⟩
end
noncomputable def trk(h:Heap)(H:Hp):List Addr:=(c_ h.objs.size).filter λa=>(H a).isSome
noncomputable def FS(h:Heap)(H:Hp):Heap:=PySem.W.hideAll h (trk h H)
def yu(h:Heap)(H:Hp):(FS h H).objs.size=h.objs.size:=PySem.W.hideAll_size _ _
def Be{b:Addr}{o:Obj}(e:h.get? b=some o)(n:H b=none):(FS h H).get? b=some o :=
 PySem.W.hideAll_get _ e λhm=>by
  have q:(H b).isSome=true:=(D_.mp hm).2;rw [n] at q;simp at q
def DQ{b:Addr}{o:Obj}(e:(FS h H).get? b=some o):h.get? b=some o/\H b=none:=by
 have e':h.get? b=some o:=PySem.W.of_hideAll (trk h H) e;refine⟨e',?_⟩
 cases q:H b with
 | none=>rfl
 | some x =>
  have hm:b∈trk h H:=D_.mpr ⟨mem_range.mpr (pj e'),by simp [q]⟩;have z:(FS h H).get? b=none:=PySem.W.hideAll_none (trk h H) hm;rw [z] at e;cases e
noncomputable def sA(base:Heap)(H:Hp):Prop:=∀(P:Addr) (r:List Nat),base.life.registered=P::r->∃(t:Tok) (more:Array Value),H P=some (.tbl (#[.str ⟨r.toArray⟩ t]++more))
variable {base:Heap}
def sA.un{fs ex:List Addr}(x:sA base H)(u:Un fs ex H H' h h'):sA base H':=λP r e=>by
 obtain⟨t,more,q⟩:=x P r e;obtain⟨m2,q2⟩:=u.tbls P _ q;exact⟨t,more++m2,by rw [q2,Array.append_assoc]⟩
noncomputable def FT(h:Heap)(H:Hp):Heap:={ FS h H with life:={} }
structure Mod (K:b_) (mg:Str->Option Value) (base:Heap):Prop where
 kin:K.In base
 glob:base.Ns mainGlobals mg
 blt:∃mb,base.Ns builtinsNs mb/\∀x:Str,x≠"__name__"->mb x=bootBuiltins x
 nolimit:base.NoLimit
structure Cx where
 prog:tj
 w:World
 K:b_
 mg:Str->Option Value
 base:Heap
 A:A_
 N:List Str
 s₀:d_
 H₀:Hp
 env:Env
 outer:List Env
 stack:List Env
 ex:List Addr
 fn:Str->Bool
 calm:Bool
 pn:List (Addr×Obj)
 xe:Value->d_->Prop
noncomputable def frs(l:List Env):List Addr:=l.filterMap (·.frame)
abbrev Cx.fs(X:Cx):List Addr:=frs X.outer
noncomputable def Vis(sc:Scope)(x:Str):Prop:=sc.names.lookup x=some .local\/sc.names.lookup x=some .cell\/sc.names.lookup x=some .free
noncomputable def Loc(sc:Scope)(x:Str):Prop:=sc.names.lookup x=some .local\/sc.names.lookup x=some .cell
noncomputable def KZ(env:Env)(h:Heap)(m:Str->Option Value)(x:Str)(u:Value):Prop :=
 (env.kindOf x=some .local/\m x=some u)\/((env.kindOf x=some .cell\/env.kindOf x=some .free)/\∃c,env.cells.lookup x=some c/\h.IsCell c (some u))
structure Cx.Ok (X:Cx):Prop where
 mod:Mod X.K X.mg X.base
 kind:X.env.scope.kind=.function
 glob:X.env.globals=mainGlobals
 blt:X.env.builtins=builtinsNs
 above:X.s₀.heap.objs.size<=X.env.locals
 inj:∀x y c,X.env.cells.lookup x=some c->X.env.cells.lookup y=some c->x=y
 has:∀x,(X.env.kindOf x=some .cell\/X.env.kindOf x=some .free)->∃c,X.env.cells.lookup x=some c
 cab:∀x c,X.fn x=true->X.env.cells.lookup x=some c->X.s₀.heap.objs.size<=c
 hd:X.calm=true->X.A.handled=none
 frames:X.A.frames=some X.stack
 stk:X.stack=X.outer\/(X.stack=X.env::X.outer/\X.env.frame=some X.env.locals)
 exf:∀b∈X.ex,b≠X.env.locals/\∀x c,X.env.cells.lookup x=some c->c≠b
 bs:∀b o,X.base.get? b=some o->X.s₀.heap.get? b=some o/\X.H₀ b=none
 bsz:X.base.objs.size<=X.s₀.heap.objs.size
 noex:∀b o,X.base.get? b=some o->b∉X.ex
 exfs:∀b∈X.ex,b∉X.fs
 funs:X.s₀.heap.FunFrames X.base X.outer
 frf:∀b∈X.fs,X.H₀ b=none
 tb:sA X.base X.H₀
structure Inv (X:Cx) (pins:List (Addr×Obj)) (σ:List (Option V)) (H:Hp) (s:d_):Prop where
 ok:X.Ok
 os:s.os=X.s₀.os
 bare:Of s.gens
 base:Un X.fs X.ex X.H₀ H X.s₀.heap s.heap
 loc:∃m,s.heap.Ns X.env.locals m/\∀(i:Nat) (x:Str) (v:V),X.N[i]?=some x->σ[i]?=some (some v)->Vis X.env.scope x->∃u,cZ v u/\KZ X.env s.heap m x u
 cell:∀x c,X.env.cells.lookup x=some c->∃v,s.heap.IsCell c v
 free:H X.env.locals=none
 freeC:∀x c,X.env.cells.lookup x=some c->H c=none
 pin:∀p∈X.pn++pins,s.heap.get? p.1=some p.2/\H p.1=none/\p.1≠X.env.locals/\p.1∉X.fs/\∀v,p.2.data≠.cell v
 hok:HOk X.prog X.w H s.heap
 len:σ.length=X.N.length
variable {X:Cx}
def Cx.Ok.nofr(ok:X.Ok){b:Addr}{o:Obj}(e:X.base.get? b=some o):b∉X.fs:=λhb=>by
 have:=(ok.funs.mem hb).1;rw [e] at this;cases this
variable {pins:List (Addr×Obj)}{σ:List (Option V)}{s:d_}
def Inv.bs(I:Inv X pins σ H s):∀b o,X.base.get? b=some o->s.heap.get? b=some o/\H b=none:=λb o e =>
 ⟨I.base.keep b o (I.ok.bs b o e).1 (I.ok.bs b o e).2 (I.ok.nofr e) (I.ok.noex b o e),I.base.free b o (I.ok.bs b o e).1 (I.ok.bs b o e).2 (I.ok.noex b o e)⟩
def Inv.bk(I:Inv X pins σ H s):∀b o,X.base.get? b=some o->s.heap.get? b=some o:=λb o e=>(I.bs b o e).1
def Inv.mod(I:Inv X pins σ H s):Mod X.K X.mg X.base:=I.ok.mod
def Inv.kIn(I:Inv X pins σ H s):X.K.In s.heap:=I.ok.mod.kin.keeps I.bk
def Inv.lt(I:Inv X pins σ H s):X.env.locals<s.heap.objs.size:=let ⟨_,hn,_⟩:=I.loc;hn.lt
def Inv.sz(I:Inv X pins σ H s):X.s₀.heap.objs.size<=s.heap.objs.size:=p_ I.ok.above (le_of_lt I.lt)
def Inv.nofs(I:Inv X pins σ H s){a:Addr}(h:s.heap.objs.size<=a):a∉X.fs:=λhb=>by
 obtain⟨_,o,ho,_⟩:=I.ok.funs.mem hb;exact absurd (u1 (pj ho) (p_ I.sz h)) (E_ _)
def Inv.cne(I:Inv X pins σ H s):∀x c,X.env.cells.lookup x=some c->c≠X.env.locals:=λx c e z=>by
 obtain⟨v,o,ho,hd⟩:=I.cell x c e;obtain⟨m,⟨o',es,ep,ho',hd',_⟩,_⟩:=I.loc;rw [z,ho'] at ho;cases ho;rw [hd'] at hd;cases hd
def Inv.funs(I:Inv X pins σ H s):s.heap.FunFrames X.base X.outer:=by
 have all:∀(l:List Env),(∀b∈frs l,b∈X.fs)->X.s₀.heap.FunFrames X.base l->s.heap.FunFrames X.base l:=by
  intro l
  induction l with
  | nil=>intro _ _;trivial
  | cons env r ih =>
   intro hs hl;obtain⟨hk,⟨L,o,hf,hn,ho,hd⟩,hr⟩:=hl;have hL:L∈X.fs:=hs L (by unfold frs;rw [Nn,hf];exact mem_cons_self);obtain⟨sl,e⟩:=I.base.slot L o ho (I.ok.frf L hL) hL λz=>I.ok.exfs L z hL;exact⟨hk,⟨L,_,hf,hn,e,hd⟩,ih (λb hb=>hs b (by unfold frs;rw [Nn,hf];exact m_ _ hb)) hr⟩
 exact all X.outer (λ_ hb=>hb) I.ok.funs
def Inv.stack(I:Inv X pins σ H s):s.heap.FunFrames X.base X.stack:=by
 rcases I.ok.stk with e|⟨e,hf⟩
 .rw [e];exact I.funs
 .rw [e];obtain⟨m,hn,_⟩:=I.loc;refine .cons (by rw [I.ok.kind];decide) hf hn ?_ I.funs;exact Heap.get?_none_of_le (p_ I.ok.bsz I.ok.above)
def Inv.stkSub(I:Inv X pins σ H s):∀b∈frs X.stack,b∈X.env.locals::X.fs:=λb hb=>by
 rcases I.ok.stk with e|⟨e,hf⟩
 .rw [e] at hb;exact m_ _ hb
 .rw [e] at hb;unfold frs at hb;rw [Nn,hf] at hb;exact hb
def Inv.stkFree(I:Inv X pins σ H s):∀b∈frs X.stack,H b=none:=λb hb=>by
 rcases C_.mp (I.stkSub b hb) with e|hb
 .rw [e];exact I.free
 .obtain⟨_,o,ho,_⟩:=I.ok.funs.mem hb;exact I.base.free b o ho (I.ok.frf b hb) λz=>I.ok.exfs b z hb
variable {t':Nat}
def Inv.step{g':Array GenState}{d':Drawn}{ch:List Addr}(I:Inv X pins σ H s)(hch:∀b∈ch,(b∈X.ex\/X.s₀.heap.objs.size<=b)/\b≠X.env.locals/\(∀x c,X.env.cells.lookup x=some c->c≠b)/\∀p∈X.pn++pins,p.1≠b)(keep:∀b o,b≠X.env.locals->b∉X.fs->b∉ch->s.heap.get? b=some o->H b=none->h'.get? b=some o)(slot:∀b o,b≠X.env.locals->b∈X.fs->b∉ch->s.heap.get? b=some o->H b=none->∃sl,h'.get? b=some { o with slots:=sl })(free:∀b o,b∉ch->s.heap.get? b=some o->H b=none->H' b=none)(there:∀b o,b∉ch->s.heap.get? b=some o->∃o',h'.get? b=some o')(tups:∀b xs,H b=some (.tup xs)->H' b=some (.tup xs))(frzs:∀b o u,H b=some (.frz o u)->H' b=some (.frz o u))(tbls:∀b ps,H b=some (.tbl ps)->∃more,H' b=some (.tbl (ps++more)))(ns:∀m,s.heap.Ns X.env.locals m->h'.Ns X.env.locals m)(hok:HOk X.prog X.w H' h')(hg:Of g'):
  Inv X pins σ H' { s with heap:=h',gens:=g',drawn:=d',toks:=t' }:=by
 have neL:∀b o,X.s₀.heap.get? b=some o->b≠X.env.locals:=λb o e=>F_ (u1 (pj e) I.ok.above)
 have neC:∀b o,X.s₀.heap.get? b=some o->b∉X.ex->b∉ch:=λb o e hx hb=>by
  rcases (hch b hb).1 with z|z
  .exact hx z
  .exact absurd (u1 (pj e) z) (E_ _)
 have cellK:∀x c,X.env.cells.lookup x=some c->∀v,s.heap.IsCell c v->h'.IsCell c v:=λx c e v ⟨o,ho,hd⟩=>by
  have nch:c∉ch:=λz=>(hch c z).2.2.1 x c e rfl
  by_cases hc:c∈X.fs
  .obtain⟨sl,q⟩:=slot c o (I.cne x c e) hc nch ho (I.freeC x c e);exact⟨_,q,hd⟩
  .exact⟨o,keep c o (I.cne x c e) hc nch ho (I.freeC x c e),hd⟩
 refine⟨I.ok,I.os,hg,⟨λb o e n hb hx=>?_,λb o e n hb hx=>?_,λb o e n hx=>?_,λb o e hx=>?_,λb xs e=>tups b xs (I.base.tups b xs e),λb o xs e=>frzs b o xs (I.base.frzs b o xs e),λb ps e=>?_⟩,?_,λx c e=>?_,?_,λx c e=>?_,λp hp=>?_,hok,I.len⟩
 .exact keep b o (neL b o e) hb (neC b o e hx) (I.base.keep b o e n hb hx) (I.base.free b o e n hx)
 .obtain⟨sl,e1⟩:=I.base.slot b o e n hb hx;obtain⟨sl',e2⟩:=slot b _ (neL b o e) hb (neC b o e hx) e1 (I.base.free b o e n hx);exact⟨sl',e2⟩
 .obtain⟨o',e1⟩:=I.base.there b o e hx;exact free b o' (neC b o e hx) e1 (I.base.free b o e n hx)
 .obtain⟨o',e1⟩:=I.base.there b o e hx;exact there b o' (neC b o e hx) e1
 .obtain⟨m1,e1⟩:=I.base.tbls b ps e;obtain⟨m2,e2⟩:=tbls b _ e1;exact⟨m1++m2,by rw [e2,Array.append_assoc]⟩
 .obtain⟨m,hn,hl⟩:=I.loc;refine⟨m,ns m hn,λi x v e1 e2 e3=>?_⟩;obtain⟨u,r,l⟩:=hl i x v e1 e2 e3;refine⟨u,r,?_⟩
  rcases l with l|⟨k,c,e,z⟩
  .exact .inl l
  .exact .inr ⟨k,c,e,cellK x c e _ z⟩
 .obtain⟨v,z⟩:=I.cell x c e;exact⟨v,cellK x c e v z⟩
 .obtain⟨m,⟨o,_,_,ho,_⟩,_⟩:=I.loc;exact free _ o (λz=>(hch _ z).2.1 rfl) ho I.free
 .obtain⟨v,o,ho,hd⟩:=I.cell x c e;exact free c o (λz=>(hch c z).2.2.1 x c e rfl) ho (I.freeC x c e)
 .obtain⟨e,n,ne,nf,d⟩:=I.pin p hp;have nch:p.1∉ch:=λz=>(hch p.1 z).2.2.2 p hp rfl;exact⟨keep p.1 p.2 ne nf nch e n,free p.1 p.2 nch e n,ne,nf,d⟩
def Inv.un(I:Inv X pins σ H s)(u:Un X.fs [] H H' s.heap h')(hok:HOk X.prog X.w H' h'):Inv X pins σ H' { s with heap:=h',toks:=t' }:=by
 obtain⟨m,⟨o,es,ep,ho,r⟩,_⟩:=id I.loc;obtain⟨sl,hL⟩:=u.any ho I.free (by simp)
 exact I.step (g':=s.gens) (d':=s.drawn) (ch:=[]) (λ_ z=>nomatch z) (λb o _ hb _ e n=>u.keep b o e n hb (by simp)) (λb o _ hb _ e n=>u.slot b o e n hb (by simp)) (λb o _ e n=>u.free b o e n (by simp)) (λb o _ e=>u.there b o e (by simp)) u.tups u.frzs u.tbls (λm' hm=>by
  obtain⟨o',es',ep',ho',r'⟩:=hm;rw [ho] at ho';cases ho';exact⟨_,es',ep',hL,r'⟩) hok I.bare
def Inv.call{g':Array GenState}{d':Drawn}{ch:List Addr}(I:Inv X pins σ H s)(u:Un (frs X.stack) ch H H' s.heap h')(hok:HOk X.prog X.w H' h')(hg:Of g')(hch:∀b∈ch,(b∈X.ex\/X.s₀.heap.objs.size<=b)/\b≠X.env.locals/\(∀x c,X.env.cells.lookup x=some c->c≠b)/\∀p∈X.pn++pins,p.1≠b):
  Inv X pins σ H' { s with heap:=h',gens:=g',drawn:=d',toks:=t' }:=by
 obtain⟨m,⟨o,es,ep,ho,r⟩,_⟩:=id I.loc;obtain⟨sl,hL⟩:=u.any ho I.free λz=>(hch _ z).2.1 rfl
 exact I.step (ch:=ch) hch (λb o hL hb hc e n=>u.keep b o e n (λz=>(C_.mp (I.stkSub b z)).elim hL hb) hc) (λb o _ _ hc e n=>u.any e n hc) (λb o hc e n=>u.free b o e n hc) (λb o hc e=>u.there b o e hc) u.tups u.frzs u.tbls (λm' hm=>by
  obtain⟨o',es',ep',ho',r'⟩:=hm;rw [ho] at ho';cases ho';exact⟨_,es',ep',hL,r'⟩) hok hg
def Inv.turned{it:Addr}(I:Inv X pins σ H s)(k:∀b o,b≠it->s.heap.get? b=some o->h'.get? b=some o)(hn:H it=none)(hL:it≠X.env.locals)(h1:it∈X.ex\/X.s₀.heap.objs.size<=it)(h2:∀x c,X.env.cells.lookup x=some c->c≠it)(h3:∀p∈X.pn++pins,p.1≠it):Inv X pins σ H { s with heap:=h',toks:=t' }:=by
 have nit:∀b u,H b=some u->b≠it:=λb u e z=>by rw [z,hn] at e;cases e
 refine I.step (g':=s.gens) (d':=s.drawn) (ch:=[it]) (λb hb=>?_) (λb o _ _ hc e _=>k b o (λz=>hc (by simp [z])) e) (λb o _ _ hc e _=>⟨o.slots,k b o (λz=>hc (by simp [z])) e⟩) (λ_ _ _ _ n=>n)
  (λb o hc e=>⟨o,k b o (λz=>hc (by simp [z])) e⟩) (λ_ _ e=>e) (λ_ _ _ e=>e) (λb ps e=>⟨#[],by rw [e];simp⟩) (λm hm=>?_) (λb u e=>?_) I.bare
 .have e:b=it:=by simpa using hb
  subst e;exact⟨h1,hL,h2,h3⟩
 .obtain⟨o,es,ep,ho,r⟩:=hm;exact⟨o,es,ep,k _ o (Na hL) ho,r⟩
 .refine (I.hok b u e).stay (λc v hc q=>k c v ?_ q) (λ_ q=>q) λ_ _ q=>q
  rcases hc with z|z
  .rw [z];exact nit b u e
  .exact nit c _ z
def Inv.tok(I:Inv X pins σ H s)(t:Nat):Inv X pins σ H { s with toks:=t }:=I.un (h':=s.heap) (t':=t) Un.refl I.hok
def Inv.kept(I:Inv X pins σ H s)(k:∀b u,s.heap.get? b=some u->h'.get? b=some u):Inv X pins σ H { s with heap:=h',toks:=t' }:=I.un (Un.kept k) (I.hok.kept k)
def Inv.laid{a:Addr}(I:Inv X pins σ H s)(k:∀b u,s.heap.get? b=some u->h'.get? b=some u)(hp:s.heap.objs.size<=a)(new:cf X.prog X.w (upd H a o) h' a o):
  Inv X pins σ (upd H a o) { s with heap:=h',toks:=t' }:=I.un (Un.laid k hp (I.hok.fresh hp)) (I.hok.laid k hp new)
def Inv.write{x e:Addr}(I:Inv X pins σ H s)(mu:Mut (H x))(he:e=x\/H e=some (.own x))(k:∀b u,b≠e->s.heap.get? b=some u->h'.get? b=some u)(heo:∃u,h'.get? e=some u)(new:cf X.prog X.w (upd H x o) h' x o):Inv X pins σ (upd H x o) { s with heap:=h',toks:=t' }:=I.un (Un.write mu he k heo) (I.hok.write mu he k heo new)
def Inv.pins_of{pins':List (Addr×Obj)}(I:Inv X pins σ H s)(h:∀p∈pins',s.heap.get? p.1=some p.2/\H p.1=none/\p.1≠X.env.locals/\p.1∉X.fs/\∀v,p.2.data≠.cell v):Inv X pins' σ H s :=
 ⟨I.ok,I.os,I.bare,I.base,I.loc,I.cell,I.free,I.freeC,λp hp=>(Ml.mp hp).elim (λz=>I.pin p (Mr _ z)) (h p),I.hok,I.len⟩
variable {N:List Str}{i j:Nat}{x:Str}
def wu(hN:N.Nodup)(a:N[i]?=some x)(b:N[j]?=some x):i=j:=by
 obtain⟨h1,e1⟩:=i_.mp a;obtain⟨h2,e2⟩:=i_.mp b;exact (getElem_inj hN).mp (e1.trans e2.symm)
variable {M:Model}{A:A_}{E:Value->d_->Prop}{v:V}
theorem yv{Q:Unit->d_->Prop}(I:Inv X pins σ H s)(hN:X.N.Nodup)(hi:X.N[i]?=some x)(hx:Loc X.env.scope x)(r:cZ v u)(h:∀s',Inv X pins (σ.set i (some v)) H s'->(∃a,Np a s.heap s'.heap/\(a=X.env.locals\/X.env.cells.lookup x=some a))->Q () s')(hf:X.fn x=true\/X.env.scope.names.lookup x=some .local:=by first|exact .inl rfl|exact .inr rfl|assumption):wpAny M A (storeName X.env x u) Q E s:=by
 obtain⟨m,hn,hl⟩:=id I.loc;have hcls:(X.env.scope.kind == .class || (X.env.scope.kind == .module && X.env.locals != X.env.globals))=false:=by rw [I.ok.kind];rfl
 have hiσ:i<σ.length:=by rw [I.len];exact (i_.mp hi).1
 have cne:=I.cne
 have tracked:∀{a:Addr}{h':Heap},(∃o,s.heap.get? a=some o/\H a=none)->Np a s.heap h'->HOk X.prog X.w H h':=λ{a h'} ha hs b ob e=>by
  obtain⟨_,_,hfree⟩:=ha;refine (I.hok b ob e).stay (λc w' hc q=>(hs.2 c ?_).trans q) (λ_ q=>q) λ_ _ q=>q;rintro rfl
  rcases hc with rfl|hc
  .rw [hfree] at e;cases e
  .rw [hfree] at hc;cases hc
 rcases hx with hk|hk
 .refine wpAny_storeName_local hk hn (λh' hn' hs=>?_) hcls;obtain⟨oL,_,_,hoL,_⟩:=id hn
  refine h _ ⟨I.ok,I.os,I.bare,⟨λb o e n hb hx=>?_,λb o e n hb hx=>?_,I.base.free,λb o e hx=>?_,I.base.tups,I.base.frzs,I.base.tbls⟩,⟨_,hn',λj y v' e1 e2 e3=>?_⟩,λy c e=>?_,I.free,I.freeC,λp hp=>?_,tracked ⟨oL,hoL,I.free⟩ hs,by simpa using I.len⟩ ⟨_,hs,.inl rfl⟩
  .exact (hs.2 b (F_ (u1 (pj e) I.ok.above))).trans (I.base.keep b o e n hb hx)
  .obtain⟨sl,e1⟩:=I.base.slot b o e n hb hx;exact⟨sl,(hs.2 b (F_ (u1 (pj e) I.ok.above))).trans e1⟩
  .obtain⟨o',e1⟩:=I.base.there b o e hx;exact⟨o',(hs.2 b (F_ (u1 (pj e) I.ok.above))).trans e1⟩
  .by_cases hj:j=i
   .subst hj;rw [hi] at e1;cases e1;rw [s_ hiσ] at e2;cases e2;exact⟨u,r,.inl ⟨hk,by simp⟩⟩
   .rw [o_ (Na hj)] at e2;obtain⟨u',r',q⟩:=hl j y v' e1 e2 e3;refine⟨u',r',?_⟩
    rcases q with ⟨k,e⟩|⟨k,c,e,z⟩
    .refine .inl ⟨k,?_⟩;have:y≠x:=λe=>hj (wu hN e1 (e ▸ hi));simp [this,e]
    .exact .inr ⟨k,c,e,z.sameBut hs (cne y c e)⟩
  .obtain⟨w',z⟩:=I.cell y c e;exact⟨w',z.sameBut hs (cne y c e)⟩
  .obtain⟨e,n,ne,nf,d⟩:=I.pin p hp;exact⟨(hs.2 p.1 ne).trans e,n,ne,nf,d⟩
 .have hfn:X.fn x=true:=by
   rcases hf with z|z
   .exact z
   .rw [z] at hk;cases hk
  obtain⟨c,hc⟩:=I.ok.has x (.inl hk);obtain⟨w',z⟩:=I.cell x c hc;refine wpAny_storeName_cell I.ok.kind hk hc z (λh' hc' hs=>?_);obtain⟨oc,hoc,hocd⟩:=id z
  refine h { s with heap:=h' } ⟨I.ok,I.os,I.bare,⟨λb o e n hb hx=>?_,λb o e n hb hx=>?_,I.base.free,λb o e hx=>?_,I.base.tups,I.base.frzs,I.base.tbls⟩,⟨m,hn.sameBut hs (Na (cne x c hc)),λj y v' e1 e2 e3=>?_⟩,λy c' e=>?_,I.free,I.freeC,λp hp=>?_,tracked ⟨oc,hoc,I.freeC x c hc⟩ hs,by simpa using I.len⟩ ⟨c,hs,.inr hc⟩
  .exact (hs.2 b (F_ (u1 (pj e) (I.ok.cab x c hfn hc)))).trans (I.base.keep b o e n hb hx)
  .obtain⟨sl,e1⟩:=I.base.slot b o e n hb hx;exact⟨sl,(hs.2 b (F_ (u1 (pj e) (I.ok.cab x c hfn hc)))).trans e1⟩
  .obtain⟨o',e1⟩:=I.base.there b o e hx;exact⟨o',(hs.2 b (F_ (u1 (pj e) (I.ok.cab x c hfn hc)))).trans e1⟩
  .by_cases hj:j=i
   .subst hj;rw [hi] at e1;cases e1;rw [s_ hiσ] at e2;cases e2;exact⟨u,r,.inr ⟨.inl hk,c,hc,hc'⟩⟩
   .rw [o_ (Na hj)] at e2;obtain⟨u',r',q⟩:=hl j y v' e1 e2 e3;refine⟨u',r',?_⟩
    rcases q with q|⟨k,c',e,z'⟩
    .exact .inl q
    .refine .inr ⟨k,c',e,z'.sameBut hs ?_⟩;rintro rfl;exact hj (wu hN e1 (I.ok.inj _ _ _ e hc ▸ hi))
  .by_cases hcc:c'=c
   .subst hcc;exact⟨_,hc'⟩
   .obtain⟨w2,z2⟩:=I.cell y c' e;exact⟨w2,z2.sameBut hs hcc⟩
  .obtain⟨e,n,ne,nf,d⟩:=I.pin p hp;refine⟨(hs.2 p.1 ?_).trans e,n,ne,nf,d⟩;intro q;rw [q,hoc] at e;have q':oc=p.2:=pf e;exact d w' (by rw [<- q'];exact hocd)
theorem jX{Q:Unit->d_->Prop}(I:Inv X pins σ H s)(hN:X.N.Nodup)(hi:X.N[i]?=some x)(hx:Loc X.env.scope x)(r:cZ v u)(h:∀s',Inv X pins (σ.set i (some v)) H s'->Q () s')(hf:X.fn x=true\/X.env.scope.names.lookup x=some .local:=by first|exact .inl rfl|exact .inr rfl|assumption):wpAny M A (storeName X.env x u) Q E s :=
 yv I hN hi hx r (λs' I' _=>h s' I') hf
def Inv.call'{s':d_}{ch:List Addr}(I:Inv X pins σ H s)(ho:s'.os=s.os)(u:Un (frs X.stack) ch H H' s.heap s'.heap)(hok:HOk X.prog X.w H' s'.heap)(hg:Of s'.gens)(hch:∀b∈ch,(b∈X.ex\/X.s₀.heap.objs.size<=b)/\b≠X.env.locals/\(∀x c,X.env.cells.lookup x=some c->c≠b)/\∀p∈X.pn++pins,p.1≠b):Inv X pins σ H' s':=by
 obtain⟨h',g',d',t',o'⟩:=s';have e:o'=s.os:=ho;subst e;exact I.call (g':=g') (t':=t') (d':=d') u hok hg hch
abbrev XK:=Value->Option Addr->Hp->Prop
abbrev St:=List (Option V)
abbrev VK:=V->Hp->Prop
abbrev TE:=St->Hp->VK->Prop
abbrev TT:=St->Hp->(Bool->Hp->Prop)->Prop
abbrev TA:=St->Hp->(List V->Hp->Prop)->Prop
structure Fy where
 nx:St->Hp->Prop
 rt:VK
 bk:St->Hp->Prop:=λ_ _=>False
 ct:St->Hp->Prop:=λ_ _=>False
abbrev TS:=Fy->St->Hp->Prop
noncomputable def EP(X:Cx)(pins:List (Addr×Obj))(σ:St)(Q:VK)(u:Value)(s':d_):Prop:=∃v H',Inv X pins σ H' s'/\cZ v u/\Q v H'
noncomputable def TP(X:Cx)(pins:List (Addr×Obj))(σ:St)(Q:Bool->Hp->Prop)(b:Bool)(s':d_):Prop:=∃H',Inv X pins σ H' s'/\Q b H'
noncomputable def AP(X:Cx)(pins:List (Addr×Obj))(σ:St)(Q:List V->Hp->Prop)(us:List Value)(s':d_):Prop:=∃vs H',Inv X pins σ H' s'/\bP vs us/\Q vs H'
noncomputable def SP(X:Cx)(pins:List (Addr×Obj))(D:Fy)(f:Flow)(s':d_):Prop :=
 match f with
 | .next=>∃σ' H',Inv X pins σ' H' s'/\D.nx σ' H'
 | .brk=>∃σ' H',Inv X pins σ' H' s'/\D.bk σ' H'
 | .cont=>∃σ' H',Inv X pins σ' H' s'/\D.ct σ' H'
 | .ret u=>∃v σ' H',Inv X pins σ' H' s'/\cZ v u/\D.rt v H'
noncomputable def PE(X:Cx)(e:Expr)(t:TE):Prop :=
 ∀(pins:List (Addr×Obj)) (s:d_) (σ:St) (H:Hp) (Q:VK),Inv X pins σ H s->t σ H Q->wpAny (model X.prog X.w) X.A (eval e X.env) (EP X pins σ Q) X.xe s
noncomputable def PT(X:Cx)(e:Expr)(t:TT):Prop :=
 ∀(pins:List (Addr×Obj)) (s:d_) (σ:St) (H:Hp) (Q:Bool->Hp->Prop),Inv X pins σ H s->t σ H Q->wpAny (model X.prog X.w) X.A (isTrue e X.env (eval e X.env)) (TP X pins σ Q) X.xe s
noncomputable def PW(X:Cx)(e:Expr)(t:TT):Prop :=
 ∀(whole:Sem Value) (pins:List (Addr×Obj)) (s:d_) (σ:St) (H:Hp) (Q:Bool->Hp->Prop),Inv X pins σ H s->t σ H Q->wpAny (model X.prog X.w) X.A (isTrue e X.env whole) (TP X pins σ Q) X.xe s
variable {e:Expr}
def PW.pt{t:TT}(h:PW X e t):PT X e t:=h _
noncomputable def PA(X:Cx)(es:List Expr)(t:TA):Prop :=
 ∀(pos:Pos) (pins:List (Addr×Obj)) (s:d_) (σ:St) (H:Hp) (Q:List V->Hp->Prop),Inv X pins σ H s->t σ H Q->wpAny (model X.prog X.w) X.A (spliced (backTo pos (starEach es X.env))) (AP X pins σ Q) X.xe s
noncomputable def PS(X:Cx)(st:Stmt)(t:TS):Prop :=
 ∀(pins:List (Addr×Obj)) (s:d_) (σ:St) (H:Hp) (D:Fy),Inv X pins σ H s->t D σ H->wpAny (model X.prog X.w) X.A (exec st X.env) (SP X pins D) X.xe s
noncomputable def PSs(X:Cx)(st:List Stmt)(t:TS):Prop :=
 ∀(pins:List (Addr×Obj)) (s:d_) (σ:St) (H:Hp) (D:Fy),Inv X pins σ H s->t D σ H->wpAny (model X.prog X.w) X.A (execs st X.env) (SP X pins D) X.xe s
variable {α:Type}
def thn{t:Sem α}{Q Q':α->d_->Prop}(h:wpAny M A t Q E s)(hQ:∀a s,Q a s->Q' a s):wpAny M A t Q' E s:=Lr h hQ λ_ _ x=>x
noncomputable def aF(i:Nat):TE:=λσ H Q=>∃v,σ[i]?=some (some v)/\Q v H
def tC(v:V):TE:=λ_ H Q=>Q v H
variable {pos:Pos}
def FU(hN:X.N[i]?=some x)(hv:Vis X.env.scope x)(hd:(x == ("__debug__":Str))=false:=by decide)(hcd:(x == ("__classdict__":Str))=false:=by decide):PE X (.Name x pos) (aF i):=by
 intro pins s σ H Q I h;obtain⟨v,e,h⟩:=h;obtain⟨m,hn,hl⟩:=I.loc;obtain⟨u,r,l⟩:=hl i x v hN e hv;have fin:EP X pins σ Q u s:=⟨v,H,I,r,h⟩
 rcases l with ⟨hk,hm⟩|⟨hk,c,hc,hcell⟩
 .exact wpAny_Name (wpAny_loadName_local I.ok.kind hk hn hm fin) hd
 .rcases hk with hk|hk
  .exact wpAny_Name (wpAny_loadName_cell I.ok.kind hk hc hcell fin) hd
  .exact wpAny_Name (wpAny_loadName_free I.ok.kind hk hc hcell fin hcd) hd
def aw{i j pos}:PE X (.Constant (.int i) j pos) (tC (.int i)):=λ_ _ _ H _ I h=>wpAny_Constant_int ⟨.int i,H,I.tok _,⟨_,rfl⟩,h⟩
def oW{b j pos}:PE X (.Constant (.bool b) j pos) (tC (.bl b)):=λ_ _ _ H _ I h=>Constant_bool ⟨.bl b,H,I,rfl,h⟩
def FW{j pos}:PE X (.Constant .none j pos) (tC .non):=λ_ _ _ H _ I h=>Constant_none ⟨.non,H,I,rfl,h⟩
def FY{x j pos}:PE X (.Constant (.str x) j pos) (tC (.str x)):=λ_ _ _ H _ I h=>Calls.Constant_str ⟨.str x,H,I.tok _,⟨_,rfl⟩,h⟩
noncomputable def Gl(X:Cx)(x:Str):Prop:=X.env.kindOf x=some .globalImplicit
variable {Q:Value->d_->Prop}
def uu{σ:St}(I:Inv X pins σ H s)(hg:Gl X x)(hm:X.mg x=some u)(h:Q u s)(hd:(x == ("__debug__":Str))=false:=by decide):wpAny (model X.prog X.w) X.A (eval (.Name x pos) X.env) Q E s :=
 N0 I.ok.kind hg (Calls.loadGlobal_global (by rw [I.ok.glob];exact I.mod.glob.keeps I.bk) hm h) hd
def lO{σ:St}(I:Inv X pins σ H s)(hg:Gl X x)(hm:X.mg x=none)(hv:bootBuiltins x=some u)(h:Q u s)(hn:x≠"__name__":=by decide)(hd:(x == ("__debug__":Str))=false:=by decide):wpAny (model X.prog X.w) X.A (eval (.Name x pos) X.env) Q E s:=by
 obtain⟨mb,h1,h2⟩:=I.mod.blt;exact N0 I.ok.kind hg (Calls.loadGlobal_builtin (by rw [I.ok.glob];exact I.mod.glob.keeps I.bk) hm (by rw [I.ok.blt];exact h1.keeps I.bk) ((h2 x hn).trans hv) h) hd
def DR(hg:Gl X x)(hm:X.mg x=some u)(r:cZ v u)(hd:(x == ("__debug__":Str))=false:=by decide):PE X (.Name x pos) (tC v) :=
 λ_ _ _ H _ I h=>uu I hg hm ⟨v,H,I,r,h⟩ hd
def jp(hg:Gl X x)(hm:X.mg x=none)(hv:bootBuiltins x=some u)(r:cZ v u)(hn:x≠"__name__":=by decide)(hd:(x == ("__debug__":Str))=false:=by decide):PE X (.Name x pos) (tC v) :=
 λ_ _ _ H _ I h=>lO I hg hm hv ⟨v,H,I,r,h⟩ hn hd
noncomputable def tB(t:TE):TT:=λσ H Q=>t σ H λx H1=>∃c,x=.bl c/\Q c H1
def FZ{t:TE}(h:PE X e t)(he:∀whole,isTrue e X.env whole=(do let v <- whole;standAt e.pos;holding [v] (truthy v)):=by intro _;rfl):PT X e (tB t):=by
 intro pins s σ H Q I hw;refine isTrue_plain (thn (h pins s σ H _ I hw) λv s1 ⟨x,H1,I1,r1,q1⟩=>?_) (he _);obtain⟨d,rfl,q⟩:=q1;cases r1;exact Ls ⟨H1,I1,q⟩
noncomputable def Kh(t u:TT):TT:=λσ H Q=>t σ H λc H1=>if c=true then u σ H1 Q else Q false H1
noncomputable def tOr(t u:TT):TT:=λσ H Q=>t σ H λc H1=>if c=true then Q true H1 else u σ H1 Q
noncomputable def IW(t:TT):TT:=λσ H Q=>t σ H λc H1=>Q (!c) H1
variable {a:Expr}{tA:TT}
def uv(ha:PT X a tA):PW X (.BoolOp .And [a] pos) tA:=by
 intro wh pins s σ H Q I h;refine isTrue_and (thn (ha pins s σ H Q I h) λc s1 e=>?_)
 cases c with
 | true=>exact isTrue_and_nil e
 | false=>exact e
def wv(ha:PT X a tA):PW X (.BoolOp .Or [a] pos) tA:=by
 intro wh pins s σ H Q I h;refine isTrue_or (thn (ha pins s σ H Q I h) λc s1 e=>?_)
 cases c with
 | false=>exact isTrue_or_nil e
 | true=>exact e
variable {b:Expr}{tB':TT}{rest:List Expr}
def yw(ha:PT X a tA)(hb:PW X (.BoolOp .And (b::rest) pos) tB'):PW X (.BoolOp .And (a::b::rest) pos) (Kh tA tB'):=by
 intro wh pins s σ H Q I h;refine isTrue_and (thn (ha pins s σ H _ I h) λc s1 ⟨H1,I1,q1⟩=>?_)
 cases c with
 | true=>exact hb wh pins s1 σ H1 Q I1 q1
 | false=>exact⟨H1,I1,q1⟩
def yx(ha:PT X a tA)(hb:PW X (.BoolOp .Or (b::rest) pos) tB'):PW X (.BoolOp .Or (a::b::rest) pos) (tOr tA tB'):=by
 intro wh pins s σ H Q I h;refine isTrue_or (thn (ha pins s σ H _ I h) λc s1 ⟨H1,I1,q1⟩=>?_)
 cases c with
 | true=>exact⟨H1,I1,q1⟩
 | false=>exact hb wh pins s1 σ H1 Q I1 q1
def eX(ha:PT X a tA):PT X (.UnaryOp .Not a pos) (IW tA):=by
 intro pins s σ H Q I h;exact isTrue_not (ha pins s σ H (λc H1=>Q (!c) H1) I h)
variable {ta tb:TE}
noncomputable def F4(ta tb:TE):TE:=λσ H Q=>ta σ H λx H1=>∃c,x=.bl c/\if c=true then tb σ H1 Q else Q (.bl false) H1
noncomputable def Ki(ta tb:TE):TE:=λσ H Q=>ta σ H λx H1=>∃c,x=.bl c/\if c=true then Q (.bl true) H1 else tb σ H1 Q
noncomputable def F8(ta:TE):TE:=λσ H Q=>ta σ H λx H1=>∃c,x=.bl c/\Q (.bl (!c)) H1
def ig{op}{t:TE}(h:PE X a t):PE X (.BoolOp op [a] pos) t:=λpins s σ H Q I hw=>BoolOp_one (h pins s σ H Q I hw)
def g6(ha:PE X a ta)(hb:PE X (.BoolOp .And (b::rest) pos) tb):PE X (.BoolOp .And (a::b::rest) pos) (F4 ta tb):=by
 intro pins s σ H Q I h;refine BoolOp_and (thn (ha pins s σ H _ I h) λv s1 ⟨x,H1,I1,r1,q1⟩=>?_);obtain⟨c,rfl,q1⟩:=q1;cases r1;refine Ls ?_
 cases c with
 | true=>exact hb pins s1 σ H1 Q I1 q1
 | false=>exact⟨.bl false,H1,I1,rfl,q1⟩
def IX(ha:PE X a ta)(hb:PE X (.BoolOp .Or (b::rest) pos) tb):PE X (.BoolOp .Or (a::b::rest) pos) (Ki ta tb):=by
 intro pins s σ H Q I h;refine BoolOp_or (thn (ha pins s σ H _ I h) λv s1 ⟨x,H1,I1,r1,q1⟩=>?_);obtain⟨c,rfl,q1⟩:=q1;cases r1;refine Ls ?_
 cases c with
 | false=>exact hb pins s1 σ H1 Q I1 q1
 | true=>exact⟨.bl true,H1,I1,rfl,q1⟩
def yz(ha:PE X a ta):PE X (.UnaryOp .Not a pos) (F8 ta):=by
 intro pins s σ H Q I h;refine UnaryOp_ (thn (ha pins s σ H _ I h) λv s1 ⟨x,H1,I1,r1,q1⟩=>?_);obtain⟨c,rfl,q1⟩:=q1;cases r1;exact not_of (Ls ⟨.bl (!c),H1,I1,rfl,q1⟩)
noncomputable def tIf(t:TT)(ta tb:TE):TE:=λσ H Q=>t σ H λc H1=>if c=true then ta σ H1 Q else tb σ H1 Q
def Bf{c:Expr}(hc:PT X c tA)(ha:PE X a ta)(hb:PE X b tb):PE X (.IfExp c a b pos) (tIf tA ta tb):=by
 intro pins s σ H Q I h;refine wpAny_IfExp (thn (hc pins s σ H _ I h) λd s1 ⟨H1,I1,q1⟩=>?_)
 cases d with
 | true=>exact ha pins s1 σ H1 Q I1 q1
 | false=>exact hb pins s1 σ H1 Q I1 q1
noncomputable def SqL(K:b_)(H:Hp)(a:Addr)(xs:List V):Prop :=
 Rd H a (.lst xs) \/
  ∃(o:Obj) (its:Array Value) (n:Nat),K.lookup a=some o/\o.cls=.type "list"/\o.dict=none/\o.data=.seq its n/\its.size<=sizeLine/\bP xs its.toList
noncomputable def SqT(K:b_)(H:Hp)(a:Addr)(xs:List V):Prop :=
 Rd H a (.tup xs) \/
  ∃(o:Obj) (its:Array Value) (n:Nat),K.lookup a=some o/\o.cls=.type "tuple"/\o.data=.seq its n/\its.size<=sizeLine/\bP xs its.toList
noncomputable def K0:Value->Option V
 | .none=>some .non
 | .bool b=>some (.bl b)
 | .int i _=>some (.int i)
 | .str x _=>some (.str x)
 | .bytes b _=>some (.byt b)
 | .float b _=>some (.flt b)
 | .ref a=>some (.ref a)
 | .type n=>some (.ty n)
 | _=>none
def cZ.abs{x:V}(r:cZ x u):K0 u=some x:=by
 cases x with
 | non=>cases r;rfl
 | bl _=>cases r;rfl
 | int _=>obtain⟨t,rfl⟩:=r;rfl
 | str _=>obtain⟨t,rfl⟩:=r;rfl
 | byt _=>obtain⟨t,rfl⟩:=r;rfl
 | flt _=>obtain⟨t,rfl⟩:=r;rfl
 | ref _=>cases r;rfl
 | ty _=>cases r;rfl
variable {y:V}
def cZ.inj{x:V}(r:cZ x u)(q:cZ y u):x=y:=pf (r.abs.symm.trans q.abs)
theorem bP.inj:∀{xs ys:List V}{us:List Value},bP xs us->bP ys us->xs=ys
 | _,_,_,.nil,.nil=>rfl
 | _,_,_,.cons r t,.cons r' t'=>by rw [r.inj r',bP.inj t t']
variable {a:Addr}{K:b_}
def SqL.of(h:H a=some (.lst xs)):SqL K H a xs:=.inl (.inl h)
def SqT.of(h:H a=some (.tup xs)):SqT K H a xs:=.inl (.inl h)
variable {σ:St}
def Inv.list(I:Inv X pins σ H s)(h:SqL X.K H a xs):∃its:List Value,bP xs its/\PlainL s.heap a its.toArray/\xs.length<=sizeLine:=by
 rcases h with h|⟨o,its,n,hk,hc,hd,hs,hz,r⟩
 .obtain⟨z,its,n,r,e⟩:=h.ok I.hok;exact⟨its,r,⟨_,n,e,rfl,rfl,rfl⟩,z⟩
 .refine⟨its.toList,r,⟨o,n,I.kIn a o hk,hc,hd,by simpa using hs⟩,?_⟩;have e:=r.length;simp only [we] at e;omega
def Inv.tuple(I:Inv X pins σ H s)(h:SqT X.K H a xs):∃its:List Value,bP xs its/\IsTup s.heap a its.toArray/\xs.length<=sizeLine:=by
 rcases h with h|⟨o,its,n,hk,hc,hs,hz,r⟩
 .obtain⟨z,its,r,p⟩:=h.ok I.hok;exact⟨its,r,p,z⟩
 .refine⟨its.toList,r,⟨o,I.kIn a o hk,hc,n,by simpa using hs⟩,?_⟩;have e:=r.length;simp only [we] at e;omega
variable {ys:List V}
def Inv.list_inj(I:Inv X pins σ H s)(h:SqL X.K H a xs)(h':SqL X.K H a ys):xs=ys:=by
 obtain⟨its,r,⟨o,n,e,_,_,d⟩,_⟩:=I.list h;obtain⟨its',r',⟨o',n',e',_,_,d'⟩,_⟩:=I.list h';rw [e] at e';cases e';rw [d] at d';injection d' with d1 _;have:its=its':=by simpa using congrArg Ot d1
 subst this;exact r.inj r'
def Inv.tuple_inj(I:Inv X pins σ H s)(h:SqT X.K H a xs)(h':SqT X.K H a ys):xs=ys:=by
 obtain⟨its,r,⟨o,e,_,n,d⟩,_⟩:=I.tuple h;obtain⟨its',r',⟨o',e',_,n',d'⟩,_⟩:=I.tuple h';rw [e] at e';cases e';rw [d] at d';injection d' with d1 _;have:its=its':=by simpa using congrArg Ot d1
 subst this;exact r.inj r'
abbrev Cx.wish(X:Cx)(E:Value->d_->Prop):Cx:={ X with xe:=E }
abbrev Cx.nox(X:Cx):Cx:=X.wish λ_ _=>False
def Cx.Ok.wish(ok:X.Ok)(E:Value->d_->Prop):(X.wish E).Ok :=
 ⟨ok.mod,ok.kind,ok.glob,ok.blt,ok.above,ok.inj,ok.has,ok.cab,ok.hd,ok.frames,ok.stk,ok.exf,ok.bs,ok.bsz,ok.noex,ok.exfs,ok.funs,ok.frf,ok.tb⟩
def Cx.Ok.unwish(ok:(X.wish E).Ok):X.Ok :=
 ⟨ok.mod,ok.kind,ok.glob,ok.blt,ok.above,ok.inj,ok.has,ok.cab,ok.hd,ok.frames,ok.stk,ok.exf,ok.bs,ok.bsz,ok.noex,ok.exfs,ok.funs,ok.frf,ok.tb⟩
def Inv.wish(I:Inv X pins σ H s)(E:Value->d_->Prop):Inv (X.wish E) pins σ H s:=⟨I.ok.wish E,I.os,I.bare,I.base,I.loc,I.cell,I.free,I.freeC,I.pin,I.hok,I.len⟩
def Inv.unwish(I:Inv (X.wish E) pins σ H s):Inv X pins σ H s:=⟨I.ok.unwish,I.os,I.bare,I.base,I.loc,I.cell,I.free,I.freeC,I.pin,I.hok,I.len⟩
def SP.unwish{D:Fy}{f:Flow}{s':d_}(h:SP (X.wish E) pins D f s'):SP X pins D f s':=by
 cases f with
 | next=>obtain⟨σ',H',I,q⟩:=h;exact⟨σ',H',I.unwish,q⟩
 | brk=>obtain⟨σ',H',I,q⟩:=h;exact⟨σ',H',I.unwish,q⟩
 | cont=>obtain⟨σ',H',I,q⟩:=h;exact⟨σ',H',I.unwish,q⟩
 | ret u=>obtain⟨v,σ',H',I,r,q⟩:=h;exact⟨v,σ',H',I.unwish,r,q⟩
def PSs.nox{st:List Stmt}{t:TS}(h:PSs X.nox st t):PSs X st t:=λpins s σ H D I hw =>
 Lr (h pins s σ H D (I.wish _) hw) (λ_ _ q=>q.unwish) λ_ _ z=>Mb z
def Ga:TS:=λD σ H=>D.nx σ H
variable {t u:TS}
noncomputable def Kj(t u:TS):TS:=λD σ H=>t { D with nx:=u D } σ H
def a9:PSs X [] Ga:=λ_ _ σ H _ I h=>NM ⟨σ,H,I,h⟩
variable {st:Stmt}{rest:List Stmt}
def ah(h1:PS X st t)(h2:PSs X rest u):PSs X (st::rest) (Kj t u):=by
 intro pins s σ H D I h;refine wpAny_execs_cons (thn (h1 pins s σ H { D with nx:=u D } I h) λf s1 q=>?_)
 cases f with
 | next =>
  obtain⟨σ',H',I',q⟩:=q;exact h2 pins s1 σ' H' D I' q
 | ret v=>exact q
 | brk=>exact q
 | cont=>exact q
def aj(h1:PS X st t):PSs X [st] t:=by
 intro pins s σ H D I h;refine wpAny_execs_cons (thn (h1 pins s σ H D I h) λf s1 q=>?_)
 cases f with
 | next=>exact NM q
 | ret v=>exact q
 | brk=>exact q
 | cont=>exact q
def Inv.quiet(I:Inv X pins σ H s):interactive X.env=false:=by simp [interactive,I.ok.kind]
variable {te:TE}
noncomputable def Gb(te:TE):TS:=λD σ H=>te σ H λ_ H1=>D.nx σ H1
def d7(he:PE X e te)(hs:swapsWith e none pos.line X.env=pure false:=by rfl):PS X (.Expr e pos) (Gb te):=by
 intro pins s σ H D I h;exact wpAny_Expr_any (thn (he pins s σ H _ I h) λv s1 ⟨x,H1,I1,r1,q1⟩=>⟨σ,H1,I1,q1⟩) I.quiet hs
def Kk(te:TE):TS:=λD σ H=>te σ H D.rt
def ay(he:PE X e te):PS X (.Return (some e) pos) (Kk te):=by
 intro pins s σ H D I h;exact wpAny_Return_some (thn (he pins s σ H _ I h) λv s1 ⟨x,H1,I1,r1,q1⟩=>⟨x,σ,H1,I1,r1,q1⟩)
noncomputable def Kl(c:TT)(t u:TS):TS:=λD σ H=>c σ H λb H1=>if b=true then t D σ H1 else u D σ H1
def cu{c:Expr}{a b:List Stmt}{tc:TT}(hc:PT X c tc)(ha:PSs X a t)(hb:PSs X b u):PS X (.If c a b pos) (Kl tc t u):=by
 intro pins s σ H D I h;refine wpAny_If (thn (hc pins s σ H _ I h) λd s1 ⟨H1,I1,q1⟩=>?_)
 cases d with
 | true=>exact ha pins s1 σ H1 D I1 q1
 | false=>exact hb pins s1 σ H1 D I1 q1
def CH:TS:=λ_ _ _=>False
def du:PS X st CH:=λ_ _ _ _ _ _ h=>h.elim
abbrev TG:=V->St->Hp->(St->Hp->Prop)->Prop
abbrev TGs:=List V->St->Hp->(St->Hp->Prop)->Prop
noncomputable def PG(X:Cx)(target:Expr)(t:TG):Prop :=
 ∀(pins:List (Addr×Obj)) (s:d_) (σ:St) (H:Hp) (v:V) (u:Value) (Q:St->Hp->Prop),Inv X pins σ H s->cZ v u->t v σ H Q ->
  wpAny (model X.prog X.w) X.A (assign target X.env u) (λ_ s'=>∃σ' H',Inv X pins σ' H' s'/\Q σ' H') X.xe s
noncomputable def PGs(X:Cx)(ts:List Expr)(t:TGs):Prop :=
 ∀(pins:List (Addr×Obj)) (s:d_) (σ:St) (H:Hp) (vs:List V) (us:List Value) (Q:St->Hp->Prop),Inv X pins σ H s->bP vs us->t vs σ H Q ->
  wpAny (model X.prog X.w) X.A (assignInOrder ((assignEach ts X.env).map (·.2)) us) (λ_ s'=>∃σ' H',Inv X pins σ' H' s'/\Q σ' H') X.xe s
abbrev IY:=V->V->V->Hp->(Hp->Prop)->Prop
noncomputable def Km(X:Cx)(t:IY):Prop :=
 ∀(pins:List (Addr×Obj)) (s:d_) (σ:St) (H:Hp) (o i v:V) (ov iv u:Value) (Q:Hp->Prop),Inv X pins σ H s->cZ o ov->cZ i iv->cZ v u->t o i v H Q ->
  wpAny (model X.prog X.w) X.A (setItem ov iv u) (λ_ s'=>∃H',Inv X pins σ H' s'/\Q H') X.xe s
abbrev TIp:=V->V->Hp->VK->Prop
noncomputable def PIp(X:Cx)(op:Operator)(t:TIp):Prop :=
 ∀(pins:List (Addr×Obj)) (s:d_) (σ:St) (H:Hp) (x y:V) (v u:Value) (Q:VK),Inv X pins σ H s->cZ x v->cZ y u->t x y H Q ->
  wpAny (model X.prog X.w) X.A (inplaceOp op v u) (EP X pins σ Q) X.xe s
noncomputable def aU(i:Nat):TG:=λv σ H Q=>Q (σ.set i (some v)) H
theorem aq(hN:X.N.Nodup)(hi:X.N[i]?=some x)(hx:Loc X.env.scope x)(hf:X.fn x=true\/X.env.scope.names.lookup x=some .local:=by first|exact .inl rfl|exact .inr rfl|assumption):PG X (.Name x pos) (aU i):=by
 intro pins s σ H v u Q I r h;exact Og (jX I hN hi hx r (λs' I'=>⟨_,H,I',h⟩) hf)
def yq:TGs:=λvs σ H Q=>vs=[]/\Q σ H
noncomputable def eV(t:TG)(u:TGs):TGs:=λvs σ H Q=>∃v r,vs=v::r/\t v σ H λσ' H'=>u r σ' H' Q
def cg:PGs X [] yq:=by
 intro pins s σ H vs us Q I r h;obtain⟨e,h⟩:=h;subst e;cases r;exact assignInOrder_nil ⟨σ,H,I,h⟩
variable {es:List Expr}
def aJ{t:TG}{u:TGs}(h1:PG X e t)(h2:PGs X es u)(hs:(assignEach (e::es) X.env).map (·.2)=assign e X.env::(assignEach es X.env).map (·.2):=by rfl):PGs X (e::es) (eV t u):=by
 intro pins s σ H vs us Q I r h;obtain⟨v,vr,e1,h⟩:=h;subst e1
 cases r with
 | cons r rr =>
  rw [hs];refine assignInOrder_cons (thn (h1 pins s σ H _ _ _ I r h) λ_ s1 ⟨σ1,H1,I1,q1⟩=>?_);exact h2 pins s1 σ1 H1 _ _ Q I1 rr q1
noncomputable def K3(K:b_)(n:Nat)(t:TGs):TG:=λv σ H Q=>∃a xs,v=.ref a/\SqT K H a xs/\xs.length=n/\t xs σ H Q
variable {k n:Nat}
def Gc{t:TGs}(hc:X.calm=true)(h:PGs X es t)(hn:(assignEach es X.env).length=n:=by rfl)(hst:(assignEach es X.env).findIdx? (·.1)=none:=by rfl):PG X (.Tuple es k pos) (K3 X.K n t):=by
 intro pins s σ H v u Q I r hw;obtain⟨a,xs,e1,hq,hl,hw⟩:=hw;subst e1;cases r;obtain⟨its,rv,ht,hz⟩:=I.tuple hq;refine assign_Tuple_tuple (I.ok.hd hc) ht (by simp [hn,<- hl,rv.length]) hst λh' hx=>?_;have I1:Inv X pins σ H { s with heap:=h' }:=I.kept (t':=s.toks) λb o e=>hx b o (F_ (pj e)) e;exact h pins _ σ H xs _ Q I1 (by simpa using rv) hw
noncomputable def Kn(to ti:TE)(t:IY):TG:=λv σ H Q=>to σ H λo H1=>ti σ H1 λi H2=>t o i v H2 λH3=>Q σ H3
def CI{o i:Expr}{to ti:TE}{t:IY}(ho:PE X o to)(hi:PE X i ti)(hs:Km X t)(ha:∀v,assign (.Subscript o i pos) X.env v=(do
   let ov <- holding [v] (eval o X.env)
   let iv <- holding [v,ov] (eval i X.env)
   standAt pos
   holding [v,ov,iv] (setItem ov iv v)
   release [v,ov,iv] []):=by intro _;rfl):PG X (.Subscript o i pos) (Kn to ti t):=by
 intro pins s σ H v u Q I r h;rw [ha];refine cy (Lu (thn (ho pins s σ H _ I h) λov s1 ⟨x,H1,I1,r1,q1⟩=>?_));refine cy (Lu (thn (hi pins s1 σ H1 _ I1 q1) λiv s2 ⟨y,H2,I2,r2,q2⟩=>?_));refine cy (Me (cy (Lu (thn (hs pins s2 σ H2 x y v ov iv u _ I2 r1 r2 r q2) λ_ s3 ⟨H3,I3,q3⟩=>?_))));exact wpAny_release ⟨σ,H3,I3,q3⟩
noncomputable def DS(te:TE)(g:TG):TS:=λD σ H=>te σ H λx H1=>g x σ H1 D.nx
variable {tg:Expr}{g:TG}
def sB(he:PE X e te)(hg:PG X tg g)(hs:swapsWithSole [tg] e pos.line X.env=pure false:=by rfl)(hw:swappedStores [tg] e X.env=pure none:=by rfl)(h1:(assignEach [tg] X.env).map (·.2)=[assign tg X.env]:=by rfl):PS X (.Assign [tg] e pos) (DS te g):=by
 intro pins s σ H D I h;refine wpAny_Assign_stores (thn (he pins s σ H _ I h) λv s1 ⟨x,H1,I1,r1,q1⟩=>?_) hs hw;rw [h1];exact thn (hg pins s1 σ H1 x v _ I1 r1 q1) λ_ s2 q=>q
theorem aL{pos':Pos}(hN:X.N.Nodup)(hi:X.N[i]?=some x)(hx:Loc X.env.scope x)(he:PE X e te)(hs:swapsWith e (some (.Name x pos')) pos.line X.env=pure false:=by rfl)(hf:X.fn x=true\/X.env.scope.names.lookup x=some .local:=by first|exact .inl rfl|exact .inr rfl|assumption):
  PS X (.Assign [.Name x pos'] e pos) (DS te (aU i)):=by
 intro pins s σ H D I h;refine wpAny_Assign_Name (thn (he pins s σ H _ I h) λv s1 ⟨y,H1,I1,r1,q1⟩=>?_) hs;exact jX I1 hN hi hx r1 (λs2 I2=>⟨_,H1,I2,q1⟩) hf
noncomputable def IH(i:Nat)(te:TE)(ti:TIp):TS:=λD σ H=>∃x,σ[i]?=some (some x)/\te σ H λy H1=>ti x y H1 λz H2=>D.nx (σ.set i (some z)) H2
theorem yA{op:Operator}{ti:TIp}{pos':Pos}(hN:X.N.Nodup)(hi:X.N[i]?=some x)(hx:Loc X.env.scope x)(he:PE X e te)(ho:PIp X op ti)(hf:X.fn x=true\/X.env.scope.names.lookup x=some .local:=by first|exact .inl rfl|exact .inr rfl|assumption):
  PS X (.AugAssign (.Name x pos') op e pos) (IH i te ti):=by
 intro pins s σ H D I h;obtain⟨v,e1,h⟩:=h;obtain⟨m,hn,hl⟩:=I.loc;have vis:Vis X.env.scope x:=by rcases hx with k|k;exact .inl k;exact .inr (.inl k)
 obtain⟨u,r,l⟩:=hl i x v hi e1 vis;refine wpAny_AugAssign_Name ?_
 have go:wpAny (model X.prog X.w) X.A (eval e X.env) (λw s₂=>wpAny (model X.prog X.w) X.A (inplaceOp op u w) (λr s₃=>wpAny (model X.prog X.w) X.A (storeName X.env x r) (λ_=>SP X pins D .next) X.xe s₃) X.xe s₂) X.xe s:=by
  refine thn (he pins s σ H _ I h) λw s1 ⟨y,H1,I1,r1,q1⟩=>?_;refine thn (ho pins s1 σ H1 v y u w _ I1 r r1 q1) λz s2 ⟨zv,H2,I2,r2,q2⟩=>?_;exact jX I2 hN hi hx r2 (λs3 I3=>⟨_,H2,I3,q2⟩) hf
 rcases l with ⟨hk,hm⟩|⟨hk,c,hc,hcell⟩
 .exact wpAny_loadName_local I.ok.kind hk hn hm go
 .rcases hk with hk|hk
  .exact wpAny_loadName_cell I.ok.kind hk hc hcell go
  .rcases hx with k|k
   .have:X.env.scope.names.lookup x=some .free:=hk;rw [k] at this;cases this
   .have:X.env.scope.names.lookup x=some .free:=hk;rw [k] at this;cases this
noncomputable def CJ(c:TT)(tb:TS):TS:=λD σ H=>∃W:Nat->St->Hp->Prop,(∃m,W m σ H)/\∀m σ H,W m σ H ->
 c σ H λb H1=>if b=true then ∃N:St->Hp->Prop,(∀σ' H',N σ' H'->∃m',m'<m/\W m' σ' H')/\tb { D with nx:=N,ct:=N,bk:=D.nx } σ H1 else D.nx σ H1
def qF{c:Expr}{body:List Stmt}{tc:TT}{tb:TS}(hp:PassesOwn (model X.prog X.w) X.A X.env X.xe)(hc:PT X c tc)(hb:PSs X body tb):PS X (.While c body [] pos) (CJ tc tb):=by
 intro pins s σ H D I h;obtain⟨W,⟨m0,w0⟩,turn⟩:=h;refine wpAny_While (codeAny_whileLoop (λn s'=>∃σ' H',Inv X pins σ' H' s'/\W n σ' H') ?_ m0 ⟨σ,H,I,w0⟩);rintro n s1 ⟨σ1,H1,I1,w1⟩;refine Ms hp (thn (hc pins s1 σ1 H1 _ I1 (turn n σ1 H1 w1)) λb s2 ⟨H2,I2,q2⟩=>?_)
 cases b with
 | true =>
  obtain⟨N,hN,q2⟩:=q2;rw [if_pos rfl];refine Ms hp (thn (hb pins s2 σ1 H2 _ I2 q2) λf s3 q3=>?_)
  cases f with
  | next =>
   obtain⟨σ3,H3,I3,n3⟩:=q3;obtain⟨m',hm,w3⟩:=hN σ3 H3 n3;exact⟨m',hm,σ3,H3,I3,w3⟩
  | cont =>
   obtain⟨σ3,H3,I3,n3⟩:=q3;obtain⟨m',hm,w3⟩:=hN σ3 H3 n3;exact⟨m',hm,σ3,H3,I3,w3⟩
  | brk=>exact q3
  | ret v=>exact q3
 | false =>
  rw [if_neg l_];exact NM ⟨σ1,H2,I2,q2⟩
structure It where
 go:Nat->Hp->Prop
 yld:Nat->Hp->V->Hp->Prop
 stop:Nat->Hp->Prop
noncomputable def uw(X:Cx)(pins:List (Addr×Obj))(H:Hp)(b:Addr):Prop :=
 H b=none/\b≠X.env.locals/\b∉X.fs/\(b∈X.ex\/X.s₀.heap.objs.size<=b)/\(∀x c,X.env.cells.lookup x=some c->c≠b)/\∀p∈X.pn++pins,p.1≠b
def Inv.fpOk{b:Addr}(I:Inv X pins σ H s)(hb:s.heap.objs.size<=b)(hn:H' b=none):uw X pins H' b:=by
 refine⟨hn,N1 (u1 I.lt hb),I.nofs hb,.inr (p_ I.sz hb),λx c e z=>?_,λp hp z=>?_⟩
 .obtain⟨v,q⟩:=I.cell x c e;exact absurd (u1 q.lt (by rw [z];exact hb)) (E_ _)
 .exact absurd (u1 (pj (I.pin p hp).1) (by rw [z];exact hb)) (E_ _)
structure DT (P:tj) (w:World) (K:b_) (tg:Expr) (J:It) (fp:List Addr) (it:Addr) (tn:Nat->Heap->Prop):Prop where
 mem:it∈fp
 obj:∀i h,tn i h->∀b∈fp,∃o,h.get? b=some o/\∀v,o.data≠.cell v
 keep:∀i h h',tn i h->(∀b∈fp,∀o,h.get? b=some o->h'.get? b=some o)->tn i h'
 item:∀(X:Cx),X.prog=P->X.w=w->X.K=K->X.calm=true->∀(i:Nat) (pins:List (Addr×Obj)) (s:d_) (σ:St) (H:Hp) (E:Value->d_->Prop),Inv X pins σ H s->(∀b∈fp,uw X pins H b)->tn i s.heap->J.go i H ->
  wpAny (model P w) X.A (pyNext (.ref it)) (λr s1=>∃u,r=some u /\
   wpAny (model P w) X.A (letOwnedTupleGo tg (.ref it) u) (λ_ s2=>∃x H',Inv X pins σ H' s2/\cZ x u/\J.yld i H x H'/\tn (i+1) s2.heap/\∀b∈fp,H' b=none) E s1) E s
 done:∀(X:Cx),X.prog=P->X.w=w->X.K=K->X.calm=true->∀(i:Nat) (pins:List (Addr×Obj)) (s:d_) (σ:St) (H:Hp) (E:Value->d_->Prop),Inv X pins σ H s->(∀b∈fp,uw X pins H b)->tn i s.heap->J.stop i H ->
  wpAny (model P w) X.A (pyNext (.ref it)) (λr s1=>r=none/\Inv X pins σ H s1) E s
 self:∀(A:A_) (i:Nat) (s:d_) (Q:Value->d_->Prop) (E:Value->d_->Prop),tn i s.heap->Q (.ref it) s->wpAny (model P w) A (pyIter (.ref it)) Q E s
abbrev TI:=St->Hp->(It->Hp->Prop)->Prop
noncomputable def PIE(X:Cx)(pins:List (Addr×Obj))(σ:St)(tg:Expr)(R:It->Hp->Prop)(itv:Value)(s2:d_):Prop :=
 ∃(it:Addr) (fp:List Addr) (tn:Nat->Heap->Prop) (J:It) (H':Hp),itv=.ref it/\Inv X pins σ H' s2/\DT X.prog X.w X.K tg J fp it tn/\tn 0 s2.heap/\(∀b∈fp,uw X pins H' b)/\R J H'
noncomputable def PI(X:Cx)(tg iter:Expr)(wi:TI):Prop :=
 ∀(pins:List (Addr×Obj)) (s:d_) (σ:St) (H:Hp) (R:It->Hp->Prop),Inv X pins σ H s->wi σ H R ->
  wpAny (model X.prog X.w) X.A (eval iter X.env) (λv s1=>wpAny (model X.prog X.w) X.A (pyIter v) (PIE X pins σ tg R) X.xe s1) X.xe s
def DU{it:Addr}{u:Value}{o:Obj}{n:String}{vs:Array Value}{Q:Unit->d_->Prop}(ho:s.heap.get? it=some o)(hc:o.cls=.type n)(hd:o.data=.fields vs)(hn:["enumerate","zip","dict_itemiterator","dict_reverseitemiterator","odict_iterator","itertools.zip_longest","itertools.pairwise"].contains n=false)(hQ:Q () s):wpAny M A (letOwnedTupleGo tg (.ref it) u) Q E s:=by
  unfold letOwnedTupleGo
  cases tg <;> first
    | exact g_ hQ
    | (cases u <;> first
        | exact g_ hQ
        | (refine cy (wpAny_load ho ?_)
           rw [hc,hd];show wpAny M A (if (["enumerate","zip","dict_itemiterator","dict_reverseitemiterator","odict_iterator","itertools.zip_longest","itertools.pairwise"].contains n && vs[0]? == some (rawInt _))=true then _ else _) Q E s;rw [if_neg (by intro h;rw [hn,Bool.false_and] at h;cases h)];exact g_ hQ))
noncomputable def Itl(K:b_)(a:Addr):It :=
 ⟨λi H=>∃xs x,SqL K H a xs/\xs[i]?=some x,λi H x H'=>H'=H/\∀xs,SqL K H a xs->xs[i]?=some x,λi H=>∃xs,SqL K H a xs/\xs.length<=i⟩
noncomputable def Itt(K:b_)(a:Addr):It :=
 ⟨λi H=>∃xs x,SqT K H a xs/\xs[i]?=some x,λi H x H'=>H'=H/\∀xs,SqT K H a xs->xs[i]?=some x,λi H=>∃xs,SqT K H a xs/\xs.length<=i⟩
noncomputable def Itr(lo:Int)(n:Nat):It:=⟨λi _=>i<n,λi H x H'=>H'=H/\x=.int (lo+i),λi _=>n<=i⟩
def yB{P:tj}(a it:Addr):DT P w K tg (Itl K a) [it] it (λi h=>h.IsListIter it a i) where
 mem:=by simp
 obj:=λi h st b hb=>by
  have e:b=it:=by simpa using hb
  subst e;obtain⟨o,e,c,d⟩:=st;exact⟨o,e,λv z=>by rw [d] at z;cases z⟩
 keep:=λi h h' st k=>st.at λo e=>k it (by simp) o e
 item:=by
  intro X hP hw hK hc i pins s σ H E I hf st hg;subst hP hw hK;obtain⟨xs,x,hq,hx⟩:=hg;obtain⟨its,rv,p,hz⟩:=I.list hq;obtain⟨u,hu,ru⟩:=rv.get hx;obtain⟨f0,f1,f2,f3,f4,f5⟩:=hf it (by simp);refine wpAny_pyNext_list_item st p.isList (x:=u) (by simpa using hu) λh' st' sb=>?_;have I1:Inv X pins σ H { s with heap:=h' }:=I.turned (t':=s.toks) (λb o hb e=>(sb.2 b hb).trans e) f0 f1 f3 f4 f5;obtain⟨o,e,c,d⟩:=id st'
  exact⟨u,rfl,DU (s:={ s with heap:=h' }) e c d (by decide) ⟨x,H,I1,ru,⟨rfl,λys hy=>by rw [I.list_inj hy hq];exact hx⟩,st',λb hb=>(hf b hb).1⟩⟩
 done:=by
  intro X hP hw hK hc i pins s σ H E I hf st hg;subst hP hw hK;obtain⟨xs,hq,hx⟩:=hg;obtain⟨its,rv,p,hz⟩:=I.list hq;obtain⟨f0,f1,f2,f3,f4,f5⟩:=hf it (by simp);have hl:=rv.length;exact wpAny_pyNext_list_end (I.ok.hd hc) st p.isList (by simp;omega) λh' eb=>⟨rfl,I.turned (t':=s.toks) (λb o hb e=>eb b o hb e) f0 f1 f3 f4 f5⟩
 self:=λ_ _ _ _ _ st h=>wpAny_pyIter_listiter st h
def xx{P:tj}(a it:Addr):DT P w K tg (Itt K a) [it] it (λi h=>h.IsTupleIter it a i) where
 mem:=by simp
 obj:=λi h st b hb=>by
  have e:b=it:=by simpa using hb
  subst e;obtain⟨o,e,c,d⟩:=st;exact⟨o,e,λv z=>by rw [d] at z;cases z⟩
 keep:=λi h h' st k=>st.at λo e=>k it (by simp) o e
 item:=by
  intro X hP hw hK hc i pins s σ H E I hf st hg;subst hP hw hK;obtain⟨xs,x,hq,hx⟩:=hg;obtain⟨its,rv,p,hz⟩:=I.tuple hq;obtain⟨u,hu,ru⟩:=rv.get hx;obtain⟨f0,f1,f2,f3,f4,f5⟩:=hf it (by simp);refine wpAny_pyNext_tuple_item st (show s.heap.IsTuple a its.toArray from p) (x:=u) (by simpa using hu) λh' st' sb=>?_;have I1:Inv X pins σ H { s with heap:=h' }:=I.turned (t':=s.toks) (λb o hb e=>(sb.2 b hb).trans e) f0 f1 f3 f4 f5
  obtain⟨o,e,c,d⟩:=id st';exact⟨u,rfl,DU (s:={ s with heap:=h' }) e c d (by decide) ⟨x,H,I1,ru,⟨rfl,λys hy=>by rw [I.tuple_inj hy hq];exact hx⟩,st',λb hb=>(hf b hb).1⟩⟩
 done:=by
  intro X hP hw hK hc i pins s σ H E I hf st hg;subst hP hw hK;obtain⟨xs,hq,hx⟩:=hg;obtain⟨its,rv,p,hz⟩:=I.tuple hq;obtain⟨f0,f1,f2,f3,f4,f5⟩:=hf it (by simp);have hl:=rv.length;exact wpAny_pyNext_tuple_end (I.ok.hd hc) st (show s.heap.IsTuple a its.toArray from p) (by simp;omega) λh' eb=>⟨rfl,I.turned (t':=s.toks) (λb o hb e=>eb b o hb e) f0 f1 f3 f4 f5⟩
 self:=λ_ _ _ _ _ st h=>wpAny_pyIter_tupleiter st h
def xy{P:tj}(it:Addr)(lo:Int)(n:Nat):DT P w K tg (Itr lo n) [it] it (λi h=>IsRangeIter h it (lo+(i:Nat)*1) ((n:Int) - (i:Nat)) 1) where
 mem:=by simp
 obj:=λi h st b hb=>by
  have e:b=it:=by simpa using hb
  subst e
  exact⟨_,st,λv z=>by
   have z':Data.fields _=Data.cell v:=z;cases z'⟩
 keep:=λi h h' st k=>k it (by simp) _ st
 item:=by
  intro X hP hw hK hc i pins s σ H E I hf st hg;subst hP hw hK;obtain⟨f0,f1,f2,f3,f4,f5⟩:=hf it (by simp);have W:=Walks.range (prog:=X.prog) (w:=X.w) (I.ok.hd hc) it lo 1 n;refine W.item i s _ _ hg st λv h' tk hv st' kk=>?_;obtain⟨t,rfl⟩:=hv;have I1:Inv X pins σ H { s with heap:=h',toks:=tk }:=I.turned (λb o hb e=>kk b o (by simpa using hb) e) f0 f1 f3 f4 f5;refine⟨_,rfl,DU (s:={ s with heap:=h',toks:=tk }) (n:="range_iterator") st' rfl rfl (by decide) ⟨.int (lo+i),H,I1,⟨t,?_⟩,⟨rfl,rfl⟩,st',λb hb=>(hf b hb).1⟩⟩
  rw [Int.mul_one]
 done:=by
  intro X hP hw hK hc i pins s σ H E I hf st hg;subst hP hw hK;obtain⟨f0,f1,f2,f3,f4,f5⟩:=hf it (by simp);exact wpAny_pyNext_range_end (I.ok.hd hc) st (by have:n<=i:=hg;omega) λh' eb=>⟨rfl,I.turned (t':=s.toks) (λb o hb e=>eb b o hb e) f0 f1 f3 f4 f5⟩
 self:=λ_ _ _ _ _ st h=>wpAny_pyIter_rangeiter st h
def Bg{R:It->Hp->Prop}{lo hi:Int}{t u v:Tok}{tk:Nat}(I:Inv X pins σ H s)(h1:-(2^62)<=lo)(h2:lo<2^62)(h3:-(2^62)<=hi)(h4:hi<2^62)(q:R (Itr lo (hi - lo).toNat) H):wpAny (model X.prog X.w) X.A (pyIter (.ref s.heap.objs.size)) (PIE X pins σ tg R) E { s with heap:=s.heap.push { cls:=.type "range",data:=.fields #[.int lo t,.int hi u,.int 1 v] },toks:=tk }:=by
 refine wpAny_pyIter_range (IsRange.new ..) (small_one h1 h2 h3 h4) ?_;have I1:Inv X pins σ H { s with heap:=s.heap.push { cls:=.type "range",data:=.fields #[.int lo t,.int hi u,.int 1 v] },toks:=tk }:=I.kept λb o e=>f_ _ e
 refine⟨(s.heap.push { cls:=.type "range",data:=.fields #[.int lo t,.int hi u,.int 1 v] }).objs.size,[(s.heap.push { cls:=.type "range",data:=.fields #[.int lo t,.int hi u,.int 1 v] }).objs.size],_,_,H,rfl,
  I1.kept (t':=tk) λb o e=>f_ _ e,xy _ lo (hi - lo).toNat,?_,λb hb=>?_,q⟩
 .have e1:lo+((0:Nat):Int)*1=lo:=by simp
  have e2:(((hi - lo).toNat:Nat):Int) - ((0:Nat):Int)=LX lo hi 1:=by rw [rangeSize_one];split <;> omega
  show IsRangeIter _ _ (lo+((0:Nat):Int)*1) ((((hi - lo).toNat:Nat):Int) - ((0:Nat):Int)) 1;rw [e1,e2];exact k_ _ rfl
 .have e:b=(s.heap.push { cls:=.type "range",data:=.fields #[.int lo t,.int hi u,.int 1 v] }).objs.size:=by simpa using hb
  subst e;exact I1.fpOk (e_ _) (I1.hok.fresh (e_ _))
noncomputable def oX(ta:TA):TI:=λσ H R=>ta σ H λvs H1=>∃j:Int,vs=[.int j]/\-(2^62)<=j/\j<2^62/\R (Itr 0 j.toNat) H1
def bY{a:Expr}{ta:TA}{p:Pos}(hg:Gl X "range")(hm:X.mg "range"=none)(ha:PA X [a] ta)(hs:starEach [a] X.env=[(false,eval a X.env)]:=by rfl):PI X tg (.Call (.Name "range" p) [a] [] pos) (oX ta):=by
 intro pins s σ H R I h;refine Call_ (lO I hg hm boot_range (LA (thn (ha pos pins s σ H _ I h) λus s1 ⟨vs,H1,I1,r1,q1⟩=>?_) hs rfl));obtain⟨j,e,q1,q2,q⟩:=q1;subst e
 cases r1 with
 | cons r rr =>
  cases rr;obtain⟨t,rfl⟩:=r;exact call_range_1 (Bg I1 (by omega) (by omega) q1 q2 (by simpa using q))
noncomputable def Ko(wi:TI)(g:TG)(tb:TS):TS:=λD σ H=>wi σ H λJ H1=>∃W:Nat->Nat->St->Hp->Prop,(∃m,W 0 m σ H1)/\∀i m σ H,W i m σ H ->
 (J.stop i H/\D.nx σ H)\/(J.go i H/\∃N:St->Hp->Prop,(∀σ' H',N σ' H'->∃m',m'<m/\W (i+1) m' σ' H')/\∀x H',J.yld i H x H'->g x σ H' λσ2 H2=>tb { D with nx:=N,ct:=N,bk:=D.nx } σ2 H2)
noncomputable def mI(fp:List Addr)(h:Heap):List (Addr×Obj):=fp.filterMap λb=>(h.get? b).map λo=>(b,o)
def cM{fp:List Addr}{b:Addr}{o:Obj}(hb:b∈fp)(e:h.get? b=some o):(b,o)∈mI fp h:=Mw.mpr ⟨b,hb,by rw [e];rfl⟩
def yC{fp:List Addr}{p:Addr×Obj}(hp:p∈mI fp h):p.1∈fp/\h.get? p.1=some p.2:=by
 obtain⟨b,hb,e⟩:=Mw.mp hp
 cases q:h.get? b with
 | none=>rw [q] at e;cases e
 | some o =>
  rw [q] at e;have e':(b,o)=p:=pf e;subst e';exact⟨hb,q⟩
def Inv.pinned{fp:List Addr}(I:Inv X pins σ H s)(hf:∀b∈fp,uw X pins H b)(ho:∀b∈fp,∃o,s.heap.get? b=some o/\∀v,o.data≠.cell v):Inv X (pins++mI fp s.heap) σ H s :=
 I.pins_of λp hp=>(Ml.mp hp).elim (λz=>I.pin p (tf _ z)) λz=>by
  obtain⟨hb,e⟩:=yC z;obtain⟨f0,f1,f2,_⟩:=hf p.1 hb;obtain⟨o,e',d⟩:=ho p.1 hb;rw [e] at e';cases e';exact⟨e,f0,f1,f2,d⟩
def Inv.unpinned{pl:List (Addr×Obj)}(I:Inv X (pins++pl) σ H s):Inv X pins σ H s:=I.pins_of λp hp=>I.pin p (tf _ (Mr _ hp))
def ef{iter:Expr}{body:List Stmt}{wi:TI}{tb:TS}(hp:PassesOwn (model X.prog X.w) X.A X.env X.xe)(hc:X.calm=true)(hi:PI X tg iter wi)(hg:PG X tg g)(hb:PSs X body tb)(hs:∀x,foldedSetIterable iter X.env x=pure x:=by intro _;rfl):PS X (.For tg iter body [] pos) (Ko wi g tb):=by
 intro pins s σ H D I h;refine wpAny_For (thn (hi pins s σ H _ I h) λv s1 h1=>thn h1 λitv s2 h2=>?_) hs;obtain⟨it,fp,tn,J,H2,e,I2,T,st2,f2,W,⟨m0,w0⟩,turn⟩:=h2;subst e
 -- what stays true of the iterator's objects through the loop
 have stat:∀{H':Hp},(∀b∈fp,H' b=none)->∀b∈fp,uw X pins H' b:=λhn b hb=>⟨hn b hb,(f2 b hb).2⟩
 refine codeAny_forLoop_any (λn s'=>∃i σ' H',Inv X pins σ' H' s'/\tn i s'.heap/\(∀b∈fp,H' b=none)/\W i n σ' H') ?_ m0 ⟨0,σ,H2,I2,st2,λb hb=>(f2 b hb).1,w0⟩;rintro n s3 ⟨i,σ3,H3,I3,st3,fr3,w3⟩
 rcases turn i n σ3 H3 w3 with ⟨stop,qn⟩|⟨go,N,hN,step⟩
 .refine Ms hp (thn (T.done X rfl rfl rfl hc i pins s3 σ3 H3 X.xe I3 (stat fr3) st3 stop) λr s4 ⟨hr,I4⟩=>?_);subst hr;exact NM ⟨σ3,H3,I4,qn⟩
 .refine Ms hp (thn (T.item X rfl rfl rfl hc i pins s3 σ3 H3 X.xe I3 (stat fr3) st3 go) λr s4 ⟨u,hr,h4⟩=>?_);subst hr;refine Ms hp (thn h4 λ_ s5 ⟨x,H5,I5,r5,y5,st5,fr5⟩=>?_);have I5':=I5.pinned (stat fr5) (T.obj _ _ st5);refine Ms hp (thn (hg _ s5 σ3 H5 x u _ I5' r5 (step x H5 y5)) λ_ s6 ⟨σ6,H6,I6,q6⟩=>?_);refine Ms hp (thn (hb _ s6 σ6 H6 _ I6 q6) λf s7 q7=>?_)
  have again:∀{σ7:St}{H7:Hp},Inv X (pins++mI fp s5.heap) σ7 H7 s7->N σ7 H7->∃m,m<n/\∃i σ' H',Inv X pins σ' H' s7/\tn i s7.heap/\(∀b∈fp,H' b=none)/\W i m σ' H':=λ{σ7 H7} I7 n7=>by
   obtain⟨m',hm,w7⟩:=hN σ7 H7 n7;refine⟨m',hm,i+1,σ7,H7,I7.unpinned,T.keep _ _ _ st5 λb hb o e=>(I7.pin (b,o) (tf _ (tf _ (cM hb e)))).1,λb hb=>?_,w7⟩;obtain⟨o,e,d⟩:=T.obj _ _ st5 b hb;exact (I7.pin (b,o) (tf _ (tf _ (cM hb e)))).2.1
  cases f with
  | next=>obtain⟨σ7,H7,I7,n7⟩:=q7;exact again I7 n7
  | cont=>obtain⟨σ7,H7,I7,n7⟩:=q7;exact again I7 n7
  | brk=>obtain⟨σ7,H7,I7,q7⟩:=q7;exact⟨σ7,H7,I7.unpinned,q7⟩
  | ret v=>obtain⟨x7,σ7,H7,I7,r7,q7⟩:=q7;exact⟨x7,σ7,H7,I7.unpinned,r7,q7⟩
abbrev R2:=V->V->Hp->VK->Prop
noncomputable def OpR(X:Cx)(f:Value->Value->Sem Value)(r:R2):Prop :=
 ∀(pins:List (Addr×Obj)) (s:d_) (σ:St) (H:Hp) (x y:V) (v u:Value) (Q:VK),Inv X pins σ H s->cZ x v->cZ y u->r x y H Q ->
  wpAny (model X.prog X.w) X.A (f v u) (EP X pins σ Q) X.xe s
noncomputable def UnR(X:Cx)(f:Value->Sem Value)(r:V->Hp->VK->Prop):Prop :=
 ∀(pins:List (Addr×Obj)) (s:d_) (σ:St) (H:Hp) (x:V) (v:Value) (Q:VK),Inv X pins σ H s->cZ x v->r x H Q ->
  wpAny (model X.prog X.w) X.A (f v) (EP X pins σ Q) X.xe s
noncomputable def bK(X:Cx)(f:Value)(r:List V->Hp->VK->Prop):Prop :=
 ∀(pins:List (Addr×Obj)) (s:d_) (σ:St) (H:Hp) (xs:List V) (us:List Value) (Q:VK),Inv X pins σ H s->bP xs us->r xs H Q ->
  wpAny (model X.prog X.w) X.A (call f us) (EP X pins σ Q) X.xe s
noncomputable def K4(X:Cx)(r:V->Hp->(Bool->Hp->Prop)->Prop):Prop :=
 ∀(pins:List (Addr×Obj)) (s:d_) (σ:St) (H:Hp) (x:V) (v:Value) (Q:Bool->Hp->Prop),Inv X pins σ H s->cZ x v->r x H Q ->
  wpAny (model X.prog X.w) X.A (truthy v) (TP X pins σ Q) X.xe s
noncomputable def tOp(r:R2)(ta tb:TE):TE:=λσ H Q=>ta σ H λx H1=>tb σ H1 λy H2=>r x y H2 Q
noncomputable def tUn(r:V->Hp->VK->Prop)(ta:TE):TE:=λσ H Q=>ta σ H λx H1=>r x H1 Q
noncomputable def rI(C:Int->Int->Prop)(g:Int->Int->V):R2:=λx y H Q=>∃i j,x=.int i/\y=.int j/\C i j/\Q (g i j) H
noncomputable def rI0(g:Int->Int->V):R2:=λx y H Q=>∃i j,x=.int i/\y=.int j/\Q (g i j) H
noncomputable def rU(g:Int->V):V->Hp->VK->Prop:=λx H Q=>∃i,x=.int i/\Q (g i) H
variable {a:Expr}
def IZ(ha:PE X a ta)(hb:PE X b tb){R:V->V->Hp->Prop}(I:Inv X pins σ H s)(h:ta σ H λx H1=>tb σ H1 λy H2=>R x y H2){f:Value->Value->Sem Value}(hf:∀v u s2 x y H2,Inv X pins σ H2 s2->cZ x v->cZ y u->R x y H2->wpAny (model X.prog X.w) X.A (f v u) Q X.xe s2):
  wpAny (model X.prog X.w) X.A (eval a X.env) (λv s₁=>wpAny (model X.prog X.w) X.A (eval b X.env) (λu s₂=>wpAny (model X.prog X.w) X.A (f v u) Q X.xe s₂) X.xe s₁) X.xe s:=by
 refine thn (ha pins s σ H _ I h) λv s1 ⟨x,H1,I1,r1,q1⟩=>?_;refine thn (hb pins s1 σ H1 _ I1 q1) λu s2 ⟨y,H2,I2,r2,q2⟩=>?_;exact hf v u s2 x y H2 I2 r1 r2 q2
variable {r:R2}
def bd{op:Operator}(ho:OpR X (binaryOp op) r)(ha:PE X a ta)(hb:PE X b tb):PE X (.BinOp a op b pos) (tOp r ta tb):=by
 intro pins s σ H Q I h;exact wpAny_BinOp (IZ ha hb I h λv u s2 x y H2 I2 rx ry q=>ho pins s2 σ H2 x y v u Q I2 rx ry q)
def DW{op:UnaryOp}{r:V->Hp->VK->Prop}(ho:UnR X (unaryOp op) r)(ha:PE X a ta):PE X (.UnaryOp op a pos) (tUn r ta):=by
 intro pins s σ H Q I h;exact UnaryOp_ (thn (ha pins s σ H _ I h) λv s1 ⟨x,H1,I1,r1,q1⟩=>ho pins s1 σ H1 x v Q I1 r1 q1)
def opI{f:Value->Value->Sem Value}{C:Int->Int->Prop}{g:Int->Int->Int}(rule:∀(i j:Int) (t u:Tok) (s:d_) (Q:Value->d_->Prop) (E:Value->d_->Prop),C i j->Q (.int (g i j) s.toks) { s with toks:=s.toks+1 }->wpAny (model X.prog X.w) X.A (f (.int i t) (.int j u)) Q E s):
  OpR X f (rI C λi j=>.int (g i j)):=by
 intro pins s σ H x y v u Q I rx ry h;obtain⟨i,j,rfl,rfl,hc,q⟩:=h;obtain⟨t,rfl⟩:=rx;obtain⟨t',rfl⟩:=ry;exact rule i j t t' s _ _ hc ⟨.int (g i j),H,I.tok _,⟨_,rfl⟩,q⟩
def II{f:Value->Value->Sem Value}{g:Int->Int->Int}(rule:∀(i j:Int) (t u:Tok) (s:d_) (Q:Value->d_->Prop) (E:Value->d_->Prop),Q (.int (g i j) s.toks) { s with toks:=s.toks+1 }->wpAny (model X.prog X.w) X.A (f (.int i t) (.int j u)) Q E s):
  OpR X f (rI0 λi j=>.int (g i j)):=by
 intro pins s σ H x y v u Q I rx ry h;obtain⟨i,j,rfl,rfl,q⟩:=h;obtain⟨t,rfl⟩:=rx;obtain⟨t',rfl⟩:=ry;exact rule i j t t' s _ _ ⟨.int (g i j),H,I.tok _,⟨_,rfl⟩,q⟩
def Fz{f:Value->Value->Sem Value}{g:Int->Int->Bool}(rule:∀(i j:Int) (t u:Tok) (s:d_) (Q:Value->d_->Prop) (E:Value->d_->Prop),Q (.bool (g i j)) s->wpAny (model X.prog X.w) X.A (f (.int i t) (.int j u)) Q E s):
  OpR X f (rI0 λi j=>.bl (g i j)):=by
 intro pins s σ H x y v u Q I rx ry h;obtain⟨i,j,rfl,rfl,q⟩:=h;obtain⟨t,rfl⟩:=rx;obtain⟨t',rfl⟩:=ry;exact rule i j t t' s _ _ ⟨.bl (g i j),H,I,rfl,q⟩
noncomputable def I0(i j:Int):Prop:=0<j/\j<1073741824
noncomputable def Kp(i j:Int):Prop:=0<=j/\j<=1000000/\i.natAbs<2^64
noncomputable def Bh(i j:Int):Prop:=(-(2^64)<i/\i<2^64)\/(-(2^64)<j/\j<2^64)
def Bh.ok{i j:Int}(h:Bh i j):IntMulOk i j:=by
 rcases h with ⟨h1,h2⟩|⟨h1,h2⟩
 .exact .of_left (intBits_le_64 h1 h2)
 .exact .of_right (intBits_le_64 h1 h2)
def xz(k:Nat):(0:Int)<=2^k:=by
 rw [two_pow_cast];exact natCast_nonneg _
def Gd:OpR X (binaryOp .Add) (rI0 λi j=>.int (i+j)):=II λ_ _ _ _ _ _ _ q=>add_int q
def Ge:OpR X (binaryOp .Sub) (rI0 λi j=>.int (i - j)):=II λ_ _ _ _ _ _ _ q=>sub_int q
def Gf:OpR X (binaryOp .Mult) (rI Bh λi j=>.int (i*j)):=opI λ_ _ _ _ _ _ _ hc q=>mul_int q hc.ok
def DX:OpR X (binaryOp .FloorDiv) (rI I0 λi j=>.int (i / j)):=opI λi j _ _ _ _ _ hc q=>by
 have h1:(0:Int)<j:=hc.1;have h2:j<1073741824:=hc.2;exact floordiv_int (by omega) (by rw [fdiv_eq_ediv_of_nonneg i (by omega)];exact q) (.inl (Ou (by omega)))
def Gg:OpR X (binaryOp .Mod) (rI (λ_ j=>0<j) λi j=>.int (i % j)):=opI λi j _ _ _ _ _ hc q=>by
 have h1:(0:Int)<j:=hc;exact mod_int' (by omega) (by rw [fmod_eq_emod_of_nonneg i (by omega)];exact q)
def Gh:OpR X (binaryOp .LShift) (rI Kp λi j=>.int (i*2^j.toNat)):=opI λ_ _ _ _ _ _ _ hc q=>lshift_int_small hc.1 hc.2.1 hc.2.2 q
def Gi:OpR X (binaryOp .RShift) (rI (λ_ j=>0<=j) λi j=>.int (i / 2^j.toNat)):=opI λi j _ _ _ _ _ hc q =>
 rshift_int hc (by rw [fdiv_eq_ediv_of_nonneg i (xz _)];exact q)
def Gj:OpR X (binaryOp .BitAnd) (rI0 λi j=>.int (MB i j)):=II λ_ _ _ _ _ _ _ q=>and_int q
def DY:OpR X (inplaceOp .Add) (rI0 λi j=>.int (i+j)):=II λ_ _ _ _ _ _ _ q=>iadd_int q
def unI{f:Value->Sem Value}{g:Int->Int}(rule:∀(i:Int) (t:Tok) (s:d_) (Q:Value->d_->Prop) (E:Value->d_->Prop),Q (.int (g i) s.toks) { s with toks:=s.toks+1 }->wpAny (model X.prog X.w) X.A (f (.int i t)) Q E s):
  UnR X f (rU λi=>.int (g i)):=by
 intro pins s σ H x v Q I rx h;obtain⟨i,rfl,q⟩:=h;obtain⟨t,rfl⟩:=rx;exact rule i t s _ _ ⟨.int (g i),H,I.tok _,⟨_,rfl⟩,q⟩
def yD:UnR X (unaryOp .USub) (rU λi=>.int (-i)):=unI λ_ _ _ _ _ q=>neg_int q
noncomputable def Kq:V->V->Bool
 | .non,.non=>true|.non,.int _=>true|.int _,.non=>true|.non,.bl _=>true|.bl _,.non=>true|.non,.str _=>true|.str _,.non=>true
 | .int _,.int _=>true|.bl _,.bl _=>true|.str _,.str _=>true|.byt _,.byt _=>true
 | .int _,.str _=>true|.str _,.int _=>true|.bl _,.str _=>true|.str _,.bl _=>true
 | _,_=>false
noncomputable def rEq:R2:=λx y H Q=>Kq x y=true/\Q (.bl (decide (x=y))) H
noncomputable def rNe:R2:=λx y H Q=>Kq x y=true/\Q (.bl (!decide (x=y))) H
def yE{i j:Int}:decide (V.int i=V.int j)=(i == j):=by
 rw [NN];simp
def CK{i j:Bool}:decide (V.bl i=V.bl j)=(i == j):=by
 rw [NN];simp
def yF{i j:Str}:decide (V.str i=V.str j)=(i == j):=by
 rw [NN];simp
def yG{i j:Array UInt8}:decide (V.byt i=V.byt j)=(i.toList == j.toList):=by
 rw [NN];cases i;cases j;simp
def bH{Q:VK}{k k':Bool}(I:Inv X pins σ H s)(q:Q (.bl k) H)(e:k=k'):EP X pins σ Q (.bool k') s:=by
 subst e;exact⟨.bl k,H,I,rfl,q⟩
def Ja:OpR X (compareOp .Eq) rEq:=by
 intro pins s σ H x y v u Q I rx ry h;obtain⟨hs,q⟩:=h
 cases x with
 | non =>
  cases rx
  cases y with
  | non=>cases ry;exact PySem.EqNone.eq_none_none (bH I q (by simp))
  | bl j=>cases ry;exact PySem.EqNone.eq_none_bool (bH I q (by simp))
  | int j=>obtain⟨t',rfl⟩:=ry;exact PySem.EqNone.eq_none_int (bH I q (by simp))
  | str j=>obtain⟨t',rfl⟩:=ry;exact PySem.EqNone.eq_none_str (bH I q (by simp))
  | _=>exact absurd (show false=true from hs) l_
 | bl i =>
  cases rx
  cases y with
  | non=>cases ry;exact PySem.EqNone.eq_bool_none (bH I q (by simp))
  | bl j=>cases ry;exact eq_bool (bH I q CK)
  | str j=>obtain⟨t',rfl⟩:=ry;exact PySem.EqMixed.eq_bool_str (bH I q (by simp))
  | _=>exact absurd (show false=true from hs) l_
 | int i =>
  obtain⟨t,rfl⟩:=rx
  cases y with
  | non=>cases ry;exact PySem.EqNone.eq_int_none (bH I q (by simp))
  | int j=>obtain⟨t',rfl⟩:=ry;exact eq_int (bH I q yE)
  | str j=>obtain⟨t',rfl⟩:=ry;exact PySem.EqMixed.eq_int_str (bH I q (by simp))
  | _=>exact absurd (show false=true from hs) l_
 | str i =>
  obtain⟨t,rfl⟩:=rx
  cases y with
  | non=>cases ry;exact PySem.EqNone.eq_str_none (bH I q (by simp))
  | bl j=>cases ry;exact PySem.EqMixed.eq_str_bool (bH I q (by simp))
  | int j=>obtain⟨t',rfl⟩:=ry;exact PySem.EqMixed.eq_str_int (bH I q (by simp))
  | str j=>obtain⟨t',rfl⟩:=ry;exact eq_str (bH I q yF)
  | _=>exact absurd (show false=true from hs) l_
 | byt i =>
  obtain⟨t,rfl⟩:=rx
  cases y with
  | byt j=>obtain⟨t',rfl⟩:=ry;exact PySem.W.eq_bytes (bH I q yG)
  | _=>exact absurd (show false=true from hs) l_
 | _=>cases y <;> exact absurd (show false=true from hs) l_
def Jb:OpR X (compareOp .NotEq) rNe:=by
 intro pins s σ H x y v u Q I rx ry h;obtain⟨hs,q⟩:=h
 cases x with
 | non =>
  cases rx
  cases y with
  | non=>cases ry;exact PySem.EqNone.ne_none_none (bH I q (by simp))
  | bl j=>cases ry;exact PySem.EqNone.ne_none_bool (bH I q (by simp))
  | int j=>obtain⟨t',rfl⟩:=ry;exact PySem.EqNone.ne_none_int (bH I q (by simp))
  | str j=>obtain⟨t',rfl⟩:=ry;exact PySem.EqNone.ne_none_str (bH I q (by simp))
  | _=>exact absurd (show false=true from hs) l_
 | bl i =>
  cases rx
  cases y with
  | non=>cases ry;exact PySem.EqNone.ne_bool_none (bH I q (by simp))
  | bl j=>cases ry;exact ne_bool (bH I q (congrArg not CK))
  | str j=>obtain⟨t',rfl⟩:=ry;exact PySem.EqMixed.ne_bool_str (bH I q (by simp))
  | _=>exact absurd (show false=true from hs) l_
 | int i =>
  obtain⟨t,rfl⟩:=rx
  cases y with
  | non=>cases ry;exact PySem.EqNone.ne_int_none (bH I q (by simp))
  | int j=>obtain⟨t',rfl⟩:=ry;exact ne_int (bH I q (congrArg not yE))
  | str j=>obtain⟨t',rfl⟩:=ry;exact PySem.EqMixed.ne_int_str (bH I q (by simp))
  | _=>exact absurd (show false=true from hs) l_
 | str i =>
  obtain⟨t,rfl⟩:=rx
  cases y with
  | non=>cases ry;exact PySem.EqNone.ne_str_none (bH I q (by simp))
  | bl j=>cases ry;exact PySem.EqMixed.ne_str_bool (bH I q (by simp))
  | int j=>obtain⟨t',rfl⟩:=ry;exact PySem.EqMixed.ne_str_int (bH I q (by simp))
  | str j=>obtain⟨t',rfl⟩:=ry;exact ne_str (bH I q (congrArg not yF))
  | _=>exact absurd (show false=true from hs) l_
 | byt i =>
  obtain⟨t,rfl⟩:=rx
  cases y with
  | byt j=>obtain⟨t',rfl⟩:=ry;exact PySem.W.ne_bytes (bH I q (congrArg not yG))
  | _=>exact absurd (show false=true from hs) l_
 | _=>cases y <;> exact absurd (show false=true from hs) l_
def Jc:OpR X (compareOp .Lt) (rI0 λi j=>.bl (decide (i<j))):=Fz λ_ _ _ _ _ _ _ q=>lt_int q
def Jd:OpR X (compareOp .LtE) (rI0 λi j=>.bl (decide (i<=j))):=Fz λ_ _ _ _ _ _ _ q=>le_int q
def Je:OpR X (compareOp .Gt) (rI0 λi j=>.bl (decide (j<i))):=Fz λ_ _ _ _ _ _ _ q=>gt_int q
def Jf:OpR X (compareOp .GtE) (rI0 λi j=>.bl (decide (j<=i))):=Fz λ_ _ _ _ _ _ _ q=>ge_int q
def yH:OpR X (compareOp .Lt) (λx y H Q=>∃i j,x=.str i/\y=.str j/\Q (.bl (decide (i.cps.toList<j.cps.toList))) H):=by
 intro pins s σ H x y v u Q I rx ry h;obtain⟨i,j,rfl,rfl,q⟩:=h;obtain⟨t,rfl⟩:=rx;obtain⟨t',rfl⟩:=ry;exact lt_str (bH I q rfl)
variable {r':R2}
def OpR.or{f:Value->Value->Sem Value}(h:OpR X f r)(h':OpR X f r'):OpR X f (λx y H Q=>r x y H Q\/r' x y H Q):=by
 intro pins s σ H x y v u Q I rx ry q
 rcases q with q|q
 .exact h pins s σ H x y v u Q I rx ry q
 .exact h' pins s σ H x y v u Q I rx ry q
variable {op:CmpOp}
def aS(b:Expr)(h:op≠.In:=by decide)(h2:op≠.NotIn:=by decide):behindInMarks op b=false:=by
 have e1:(op == CmpOp.In)=false:=by cases op <;> first|rfl|exact absurd rfl h
 have e2:(op == CmpOp.NotIn)=false:=by cases op <;> first|rfl|exact absurd rfl h2
 cases b <;> simp [behindInMarks,e1,e2]
def cv(ho:OpR X (compareOp op) r)(ha:PE X a ta)(hb:PE X b tb)(hm:behindInMarks op b=false):PE X (.Compare a [op] [b] pos) (tOp r ta tb):=by
 intro pins s σ H Q I h;exact wpAny_Compare1 (IZ ha hb I h λv u s2 x y H2 I2 rx ry q=>ho pins s2 σ H2 x y v u Q I2 rx ry q) hm
noncomputable def uz(t:TE):TT:=λσ H Q=>t σ H λx H'=>∃k,x=.bl k/\Q k H'
def aW(ho:OpR X (compareOp op) r)(ha:PE X a ta)(hb:PE X b tb)(hm:behindInMarks op b=false):PT X (.Compare a [op] [b] pos) (uz (tOp r ta tb)):=by
 intro pins s σ H Q I h
 refine wpAny_isTrue_Compare1 (thn (ha pins s σ H _ I h) λv s1 ⟨x,H1,I1,r1,q1⟩=>thn (hb pins s1 σ H1 _ I1 q1) λu s2 ⟨y,H2,I2,r2,q2⟩ =>
  thn (ho pins s2 σ H2 x y v u _ I2 r1 r2 q2) λc s3 ⟨z,H3,I3,r3,k,e,q3⟩=>?_) hm
 subst e;cases r3;exact Ls ⟨H3,I3,q3⟩
variable {tc:TE}
noncomputable def ww(r r':R2)(ta tb tc:TE):TE:=λσ H Q=>ta σ H λx H1=>tb σ H1 λy H2=>r x y H2 λz H3=>∃k,z=.bl k /\
 (if k=true then tc σ H3 λw' H4=>r' y w' H4 Q else Q (.bl false) H3)
variable {c:Expr}
def wx{op':CmpOp}(ho:OpR X (compareOp op) r)(ho':OpR X (compareOp op') r')(ha:PE X a ta)(hb:PE X b tb)(hc:PE X c tc)(hm:lastMarks [op,op'] [b,c]=false:=by with_unfolding_all rfl):PE X (.Compare a [op,op'] [b,c] pos) (ww r r' ta tb tc):=by
 intro pins s σ H Q I h
 refine Compare_chain (thn (ha pins s σ H _ I h) λv s1 ⟨x,H1,I1,r1,q1⟩=>chain_link (thn (hb pins s1 σ H1 _ I1 q1) λu s2 ⟨y,H2,I2,r2,q2⟩ =>
  thn (ho pins s2 σ H2 x y v u _ I2 r1 r2 q2) λd s3 ⟨z,H3,I3,r3,k,e,q3⟩=>?_)) hm
 subst e;cases r3;refine Ls ?_
 cases k with
 | false=>exact ite_ff ⟨.bl false,H3,I3,rfl,q3⟩
 | true=>exact ite_tt (chain_last (thn (hc pins s3 σ H3 _ I3 q3) λw' s4 ⟨z',H4,I4,r4,q4⟩=>ho' pins s4 σ H4 y z' u w' Q I4 r2 r4 q4))
def Bi{op':CmpOp}(ho:OpR X (compareOp op) r)(ho':OpR X (compareOp op') r')(ha:PE X a ta)(hb:PE X b tb)(hc:PE X c tc)(hm:lastMarks [op,op'] [b,c]=false:=by with_unfolding_all rfl):PT X (.Compare a [op,op'] [b,c] pos) (uz (ww r r' ta tb tc)):=by
 intro pins s σ H Q I h
 refine isTrue_chain (thn (ha pins s σ H _ I h) λv s1 ⟨x,H1,I1,r1,q1⟩=>test_link (thn (hb pins s1 σ H1 _ I1 q1) λu s2 ⟨y,H2,I2,r2,q2⟩ =>
  thn (ho pins s2 σ H2 x y v u _ I2 r1 r2 q2) λd s3 ⟨z,H3,I3,r3,k,e,q3⟩=>?_)) hm
 subst e;cases r3;refine Ls ?_
 cases k with
 | false =>
  obtain⟨k',e',q'⟩:=q3;cases e';exact ite_ff ⟨H3,I3,q'⟩
 | true =>
  refine ite_tt (test_last (thn (hc pins s3 σ H3 _ I3 q3) λw' s4 ⟨z',H4,I4,r4,q4⟩=>thn (ho' pins s4 σ H4 y z' u w' _ I4 r2 r4 q4) λd' s5 ⟨z2,H5,I5,r5,k2,e2,q5⟩=>?_));subst e2;cases r5;exact Ls ⟨H5,I5,q5⟩
noncomputable def IJ(K:b_)(x:V)(H:Hp)(k:Bool):Prop :=
 match x with
 | .non=>k=false
 | .bl b=>k=b
 | .int i=>k=(i != 0)
 | .str y=>y.length<=sizeLine/\k=((y.length:Int) != 0)
 | .byt y=>y.size<=sizeLine/\k=((y.size:Int) != 0)
 | .ref p=>(∃xs,SqL K H p xs/\k=!xs.isEmpty)\/(∃xs,SqT K H p xs/\k=!xs.isEmpty)\/∃kvs,H p=some (.dK kvs)/\k=!kvs.isEmpty
 | _=>False
def xA{κ:Type}{kvs:List (κ×V)}{vs:List (κ×Value)}(r:KV kvs vs):(!vs.isEmpty)=!kvs.isEmpty:=by
 cases r <;> rfl
variable {its:List Value}
def p6(r:bP xs its):(!its.toArray.isEmpty)=!xs.isEmpty:=by
 cases r <;> simp
def mJ:(sizeLine:Nat)<2^63:=by rw [L5];decide
def CL:K4 X (λx H Q=>∃k,IJ X.K x H k/\Q k H):=by
 intro pins s σ H x v Q I rx h;obtain⟨k,e,q⟩:=h;have hl:=mJ;have hs:sizeLine=16777216:=L5
 cases x with
 | non =>
  cases rx;have e':k=false:=e;subst e';exact truthy_none ⟨H,I,q⟩
 | bl b =>
  cases rx;have e':k=b:=e;subst e';exact Ls ⟨H,I,q⟩
 | int i =>
  obtain⟨t,rfl⟩:=rx;have e':k=(i != 0):=e;subst e';exact PySem.P.truthy_int ⟨H,I,q⟩
 | str y =>
  obtain⟨t,rfl⟩:=rx;obtain⟨hy,e'⟩:y.length<=sizeLine/\k=((y.length:Int) != 0):=e;subst e';exact PySem.P.truthy_str (by omega) ⟨H,I.tok _,q⟩
 | byt y =>
  obtain⟨t,rfl⟩:=rx;obtain⟨hy,e'⟩:y.size<=sizeLine/\k=((y.size:Int) != 0):=e;subst e';exact PySem.W.truthy_bytes (by omega) ⟨H,I.tok _,q⟩
 | ref p =>
  cases rx;have e':(∃xs,SqL X.K H p xs/\k=!xs.isEmpty)\/(∃xs,SqT X.K H p xs/\k=!xs.isEmpty)\/∃kvs,H p=some (.dK kvs)/\k=!kvs.isEmpty:=e
  rcases e' with ⟨xs,hx,e'⟩|⟨xs,hx,e'⟩|⟨kvs,hx,e'⟩
  .subst e';obtain⟨its,r,pl,hz⟩:=I.list hx;have hlen:=r.length;exact wpAny_truthy_list pl.isList (by simp only [size_toArray];omega) ⟨H,I.tok _,by rw [p6 r];exact q⟩
  .subst e';obtain⟨its,r,pl,hz⟩:=I.tuple hx;have hlen:=r.length;exact truthy_tuple pl (by simp only [size_toArray];omega) ⟨H,I.tok _,by rw [p6 r];exact q⟩
  .subst e';obtain⟨hz,hS,vs,r,m⟩:kvs.length<=sizeLine/\(p == sysModules)=false/\∃vs,KV kvs vs/\s.heap.DictOf (qE X.prog X.w) p vs:=I.hok p _ hx;have hlen:kvs.length=vs.length:=Paired.length r;exact wpAny_truthy_dict hS m (by omega) ⟨H,I.tok _,by rw [xA r];exact q⟩
 | _=>exact (show False from e).elim
def Bj(ha:PE X a ta)(he:∀whole,isTrue a X.env whole=(do let v <- whole;standAt a.pos;holding [v] (truthy v))):
  PT X a (λσ H Q=>ta σ H λx H'=>∃k,IJ X.K x H' k/\Q k H'):=by
 intro pins s σ H Q I h;exact isTrue_plain (thn (ha pins s σ H _ I h) λv s1 ⟨x,H1,I1,r1,q1⟩=>CL pins s1 σ H1 x v Q I1 r1 q1) (he _)
def xB:OpR X (binaryOp .Add) (λx y H Q=>∃i j,x=.str i/\y=.str j/\i.length+j.length<=sizeLine/\Q (.str (i++j)) H):=by
 intro pins s σ H x y v u Q I rx ry h;obtain⟨i,j,rfl,rfl,hz,q⟩:=h;obtain⟨t,rfl⟩:=rx;obtain⟨t',rfl⟩:=ry;exact add_str (λt' tk=>⟨.str (i++j),H,I.tok _,⟨_,rfl⟩,q⟩) hz
def ie{x:V}(r:bP [x] us):∃u,us=[u]/\cZ x u:=by
 cases r with
 | cons r1 r2=>cases r2;exact⟨_,rfl,r1⟩
def Bk{x:V}(r:bP [x,y] us):∃u w',us=[u,w']/\cZ x u/\cZ y w':=by
 cases r with
 | cons r1 r2 =>
  cases r2 with
  | cons r3 r4=>cases r4;exact⟨_,_,rfl,r1,r3⟩
def Bl:bK X (.builtin "abs") (λxs H Q=>∃i,xs=[.int i]/\Q (.int (if i<0 then -i else i)) H):=by
 intro pins s σ H xs us Q I r h;obtain⟨i,rfl,q⟩:=h;obtain⟨u,rfl,t,rfl⟩:=ie r;exact call_abs_int λu tk=>⟨.int (if i<0 then -i else i),H,I.tok _,⟨_,rfl⟩,q⟩
def yI(hc:X.calm=true):bK X (.builtin "max") (λxs H Q=>∃i j,xs=[.int i,.int j]/\Q (.int (if j > i then j else i)) H):=by
 intro pins s σ H xs us Q I r h;obtain⟨i,j,rfl,q⟩:=h;obtain⟨u,w',rfl,⟨t,rfl⟩,⟨t',rfl⟩⟩:=Bk r;refine max_two_ints (I.ok.hd hc) λh' tk k=>⟨_,H,I.kept k,?_,q⟩
 by_cases hj:j > i
 .rw [if_pos hj,if_pos hj];exact⟨_,rfl⟩
 .rw [if_neg hj,if_neg hj];exact⟨_,rfl⟩
def yJ(hc:X.calm=true):bK X (.builtin "min") (λxs H Q=>∃i j,xs=[.int i,.int j]/\Q (.int (if j<i then j else i)) H):=by
 intro pins s σ H xs us Q I r h;obtain⟨i,j,rfl,q⟩:=h;obtain⟨u,w',rfl,⟨t,rfl⟩,⟨t',rfl⟩⟩:=Bk r;refine min_two_ints (I.ok.hd hc) λh' tk k=>⟨_,H,I.kept k,?_,q⟩
 by_cases hj:j<i
 .rw [if_pos hj,if_pos hj];exact⟨_,rfl⟩
 .rw [if_neg hj,if_neg hj];exact⟨_,rfl⟩
structure DZ (h:Heap) (x dx C:Addr) (mA:Str->Option Value):Prop where
 obj:h.get? x=some (Ma C dx)
 ns:h.Ns1 dx mA
 ne:dx≠x
def yK{dx:Addr}{mA:Str->Option Value}(n:h.Ns1 dx mA):∃od,h.get? dx=some od/\∀name,N2 name od=some (mA name):=by
 obtain⟨o,es,ep,ho,hd,hk,_,hm⟩:=n;refine⟨o,ho,λname=>?_⟩;have e:=hm name;unfold nsFind findBy at e;rw [<- Array.find?_toList] at e;unfold N2;rw [hd];dsimp only
 split
 .rename_i y q;rw [q] at e;exact congrArg some e
 .rename_i q;rw [q] at e
  have a:es.toList.any (·.refKey)=false:=by
   rw [any_eq_false];intro y hy;obtain⟨z,t,hkey⟩:=hk y (Array.mem_toList_iff.mp hy);simp [DictEntry.refKey,hkey]
  have a':¬ es.toList.any (·.refKey)=true:=by rw [a];exact l_
  rw [if_neg a'];exact congrArg some e
variable {C:Addr}
def DZ.look{x dx:Addr}{mA:Str->Option Value}(I:DZ h x dx C mA):∃od,PySem.W.InstAt h x (Ma C dx) C (some od)/\∀name,N2 name od=some (mA name) :=
 let ⟨od,ho,hl⟩:=yK I.ns
 ⟨od,⟨I.obj,rfl,rfl,ho⟩,hl⟩
variable {prog:tj}{x dx:Addr}{mA:Str->Option Value}{name:Str}{v:Value}
def D0{expr:Bool}(X:K.In s.heap)(I:DZ s.heap x dx C mA)(hg:MC K C name=true)(hh:MQ K C=true)(ha:j_ K (.ref C) name=some none)(hv:mA name=some v)(hv':PySem.W.handedIn v=true)(h:Q v { s with toks:=s.toks+1 }):
  wpAny (model prog w) A (getAttr (.ref x) name expr) Q E s:=by
 obtain⟨od,J,hl⟩:=I.look;exact PySem.W.get_value X J (NS hg).1 (PySem.W.findObj_own hh ha rfl (by rw [hl,hv])) hv' h
variable {f:Addr}
def Bm{pl:Sem Bool}{Q:Value×List Value->d_->Prop}(X:K.In s.heap)(I:DZ s.heap x dx C mA)(hg:MC K C name=true)(hf:j_ K (.ref C) name=some (some (.ref f)))(ht:Nq K (.ref f)=true)(hv:mA name=none)(h:Q (.ref f,[.ref x]) s):
  wpAny (model prog w) A (getMethod (.ref x) name pl) Q E s:=by
 obtain⟨od,J,hl⟩:=I.look;exact PySem.W.method_fn X J (NS hg).1 (NS hg).2 hf (beq_iff_eq.mp ht) (by show (N2 name od).map (·.isSome)=some false;rw [hl,hv];rfl) h
def D1{ns:List Str}{Q:Unit->d_->Prop}(X:K.In s.heap)(I:DZ s.heap x dx C mA)(hs:j_ K (.ref C) "__setattr__"=some (some (.builtin "object.__setattr__")))(hp:Nr K C=true)(ht:OD K C name=some none)(hh:MQ K C=true)(hw:O5 mA ns)(hsz:ns.length<=sizeLine)(h:∀h',DZ h' x dx C (λy=>if y=name then some v else mA y)->Np dx s.heap h'->Q () { s with heap:=h',toks:=s.toks+2 }):
  wpAny (model prog w) A (setAttr (.ref x) name v) Q E s:=by
 obtain⟨od,J,hl⟩:=I.look;refine PySem.W.set_plain X J hs (PySem.W.osa_open (s:={ s with toks:=s.toks+1 }) (r:=none) X J hp ht λb=>?_);obtain⟨cd,hc,hd'⟩:=PySem.W.any_some hh;have hx:s.heap.get? x=some ⟨.ref C,some dx,.plain,#[]⟩:=I.obj;refine cy (g_ (cy (cy (wpAny_loadPart hx (cy (PySem.W.Looks.here (s:={ s with toks:=s.toks+1 }) (PySem.W.looks_clsIn X hc) ?_))))))
 rw [hd'];refine g_ (a:=some dx) (cy (g_ (cy ?_)));refine wpAny_nsSet1 (s:={ s with toks:=s.toks+1 }) I.ns λh' hn2 hs2=>?_;obtain⟨oD,esD,epD,hoD,hdD,hcD⟩:=hn2.count (PySem.Within.cons name v hw);refine cy (wpAny_lookBehind hoD (by rw [hdD];exact pastItsLine_dict (p_ hcD (by rw [length_cons];omega))) ?_);exact g_ (h _ ⟨(hs2.2 _ (Na I.ne)).trans I.obj,hn2,I.ne⟩ hs2)
def Bn{R:Result->d_->Prop}{vs:List Value}{kw:List (Str×Value)}(X:K.In s.heap)(hm:NO K C=true)(hi:j_ K (.ref C) "__init__"=some (some (.ref f)))(hf:OK K (.ref f)=some (.type "function"))(h:codeAny (model prog w) (A.under (.builtin "type.__call__" ⟨.ref C::vs,kw⟩)) (.call (.ref f) ⟨.ref (s.heap.objs.size+1)::vs,kw⟩) (PySem.W.InitBack (s.heap.objs.size+1) R)
   { s with heap:=(s.heap.push LL).push (Ma C s.heap.objs.size) }):
  codeAny (model prog w) A (.call (.ref C) ⟨vs,kw⟩) R s:=by
 obtain⟨hh,g,d,t,os⟩:=s;exact PySem.W.make_core (PySem.W.makes_of X hm) (PySem.W.looks_findIn X hi) (λself=>PySem.W.bind_fn X self hf) (.inl rfl) h
noncomputable def p7(f:Str)(v:V):List (Str×V)->List (Str×V)
 | []=>[(f,v)]
 | (g,x)::r=>if g=f then (g,v)::r else (g,x)::p7 f v r
theorem mK(f g:Str)(v:V):∀fs:List (Str×V),(p7 f v fs).lookup g=if g=f then some v else fs.lookup g
 | []=>by
  show MT g [(f,v)]=_
  by_cases h:g=f
  .have hb:(g == f)=true:=beq_iff_eq.mpr h;simp only [MT,hb,if_pos h]
  .have hb:(g == f)=false:=beq_eq_false_iff_ne.mpr h;simp only [MT,hb,if_neg h]
 | (k,x)::r=>by
  have ih:=mK f g v r;rw [show p7 f v ((k,x)::r)=(if k=f then (k,v)::r else (k,x)::p7 f v r) from rfl]
  by_cases hk:k=f
  .rw [if_pos hk]
   by_cases h:g=k
   .have hb:(g == k)=true:=beq_iff_eq.mpr h;simp only [MT,hb,if_pos (h.trans hk)]
   .have hb:(g == k)=false:=beq_eq_false_iff_ne.mpr h;simp only [MT,hb,if_neg (λe:g=f=>h (e.trans hk.symm))]
  .rw [if_neg hk]
   by_cases h:g=k
   .have hb:(g == k)=true:=beq_iff_eq.mpr h;simp only [MT,hb,if_neg (λe:g=f=>hk (h.symm.trans e))]
   .have hb:(g == k)=false:=beq_eq_false_iff_ne.mpr h;simp only [MT,hb];exact ih
theorem mL(f:Str)(v:V):∀fs:List (Str×V),f∈(p7 f v fs).map (·.1)/\∀g,g∈fs.map (·.1)->g∈(p7 f v fs).map (·.1)
 | []=>⟨by simp [p7],λg h=>by simp at h⟩
 | (k,x)::r=>by
  obtain⟨i1,i2⟩:=mL f v r;rw [show p7 f v ((k,x)::r)=(if k=f then (k,v)::r else (k,x)::p7 f v r) from rfl]
  by_cases hk:k=f
  .rw [if_pos hk];subst hk;exact⟨by simp,λg h=>by simpa using h⟩
  .rw [if_neg hk]
   refine⟨?_,λg h=>?_⟩
   .rw [map_cons];exact m_ _ i1
   .rw [map_cons] at h ⊢
    rcases C_.mp h with e|e
    .exact C_.mpr (.inl e)
    .exact m_ _ (i2 g e)
theorem mM(f:Str)(v:V):∀fs:List (Str×V),(p7 f v fs).length<=fs.length+1
 | []=>by simp [p7]
 | (k,x)::r=>by
  have ih:=mM f v r;rw [show p7 f v ((k,x)::r)=(if k=f then (k,v)::r else (k,x)::p7 f v r) from rfl]
  by_cases hk:k=f
  .rw [if_pos hk,length_cons,length_cons];omega
  .rw [if_neg hk,length_cons,length_cons];omega
def A8.some_of{v:V}{o:Option Value}(r:A8 (some v) o):∃u,o=some u/\cZ v u:=by
 cases o with
 | none=>exact (show False from r).elim
 | some u=>exact⟨u,rfl,r⟩
def A8.none_of{o:Option Value}(r:A8 none o):o=none:=by
 cases o with
 | none=>rfl
 | some u=>exact (show False from r).elim
def yL{v:V}{u:Value}(r:cZ v u):PySem.W.handedIn u=true:=by
 cases v with
 | non=>cases (show u=L0 from r);rfl
 | bl b=>cases (show u=Mv b from r);rfl
 | int i=>obtain⟨t,e⟩:=(show ∃t,u=NC i t from r);cases e;rfl
 | str x=>obtain⟨t,e⟩:=(show ∃t,u=NY x t from r);cases e;rfl
 | byt b=>obtain⟨t,e⟩:=(show ∃t,u=Value.bytes b t from r);cases e;rfl
 | flt b=>obtain⟨t,e⟩:=(show ∃t,u=OJ b t from r);cases e;rfl
 | ref a=>cases (show u=n_ a from r);rfl
 | ty n=>cases (show u=Mj n from r);rfl
section
variable {P:tj}{a:Addr}{fs:List (Str×V)}
def mN(hok:HOk P w H h)(e:H a=some (.ins C dx fs)):∃mA,DZ h a dx C mA/\(∀f,A8 (fs.lookup f) (mA f))/\O5 mA (fs.map (·.1))/\fs.length<=1000/\H dx=some (.own a):=by
 obtain⟨d,z,ne,ob,mA,n,r,q⟩:=(show cf P w H h a (.ins C dx fs) from hok a _ e)
 exact⟨mA,⟨ob,n,ne⟩,r,q,z,d⟩
end
structure Cls (K:b_) (C:Addr):Prop where
 pg:MC K C Str.empty=true
 hd:MQ K C=true
 po:Nr K C=true
 sa:j_ K (.ref C) "__setattr__"=some (some (.builtin "object.__setattr__"))
def Cls.get(c:Cls K C)(f:Str):MC K C f=true:=c.pg
noncomputable def c8(K:b_)(C:Addr)(f:Str):Prop:=j_ K (.ref C) f=some none
def c8.taker{f:Str}(n:c8 K C f):OD K C f=some none:=by
 unfold OD;rw [show j_ K (.ref C) f=some none from n];rfl
structure IK (K:b_) (C:Addr) (m:Str) (f:Addr):Prop where
 at_:j_ K (.ref C) m=some (some (.ref f))
 fn:Nq K (.ref f)=true
 kp:x_ K (.ref f)=true
section
variable {a:Addr}{fs:List (Str×V)}{f:Str}{v:V}
def xC{b:Bool}(I:Inv X pins σ H s)(e:H a=some (.ins C dx fs))(c:Cls X.K C)(n:c8 X.K C f)(l:fs.lookup f=some v)(h:∀u s',Inv X pins σ H s'->cZ v u->Q u s'):wpAny (model X.prog X.w) A (getAttr (.ref a) f b) Q E s:=by
 obtain⟨mA,O,r,_,_,_⟩:=mN I.hok e;obtain⟨u,hu,ru⟩:=A8.some_of (v:=v) (o:=mA f) (by rw [<- l];exact r f);exact D0 I.kIn O (c.get f) c.hd n hu (yL ru) (h u _ (I.tok _) ru)
def xD{m:Str}{g:Addr}{pl:Sem Bool}{Q:Value×List Value->d_->Prop}(I:Inv X pins σ H s)(e:H a=some (.ins C dx fs))(c:Cls X.K C)(k:IK X.K C m g)(l:fs.lookup m=none)(h:Q (.ref g,[.ref a]) s):wpAny (model X.prog X.w) A (getMethod (.ref a) m pl) Q E s:=by
 obtain⟨mA,O,r,_,_,_⟩:=mN I.hok e;have hn:mA m=none:=A8.none_of (by rw [<- l];exact r m);exact Bm I.kIn O (c.get m) k.at_ k.fn hn h
def xE{u:Value}{Q:Unit->d_->Prop}(I:Inv X pins σ H s)(e:H a=some (.ins C dx fs))(c:Cls X.K C)(n:c8 X.K C f)(hl:fs.length<1000)(ry:cZ y u)(h:∀s',Inv X pins σ (upd H a (.ins C dx (p7 f y fs))) s'->Q () s'):wpAny (model X.prog X.w) A (setAttr (.ref a) f u) Q E s:=by
 obtain⟨mA,O,r,wi,_,ho⟩:=mN I.hok e;have hz:(fs.map (·.1)).length<=sizeLine:=by rw [length_map,L5];omega
 refine D1 I.kIn O c.sa c.po n.taker c.hd wi hz λh' O' sb=>h _ ?_;have hd:∃o,h'.get? dx=some o:=let ⟨o,_,_,e',_⟩:=O'.ns;⟨o,e'⟩
 refine I.write (x:=a) (e:=dx) (by rw [e];exact Mm) (.inr ho) (λb q hb z=>(sb.2 b hb).trans z) hd ?_
 refine⟨by rw [aC O.ne];exact ho,?_,O.ne,O'.obj,_,O'.ns,λg=>?_,λg hg=>?_⟩
 .have:=mM f y fs;omega
 .show A8 ((p7 f y fs).lookup g) (if g=f then some u else mA g);rw [mK]
  by_cases q:g=f
  .rw [if_pos q,if_pos q];exact ry
  .rw [if_neg q,if_neg q];exact r g
 .by_cases q:g=f
  .rw [q];exact (mL f y fs).1
  .refine (mL f y fs).2 g (wi g λz=>hg ?_);show (if g=f then some u else mA g)=none;rw [if_neg q];exact z
def Inv.made(I:Inv X pins σ H s):Inv X pins σ (upd (upd H s.heap.objs.size (.own (s.heap.objs.size+1))) (s.heap.objs.size+1) (.ins C s.heap.objs.size []))
  { s with heap:=(s.heap.push LL).push (Ma C s.heap.objs.size) }:=by
 have e1:(s.heap.push LL).get? s.heap.objs.size=some LL:=k_ s.heap rfl
 have e2:((s.heap.push LL).push (Ma C s.heap.objs.size)).get? (s.heap.objs.size+1)=some (Ma C s.heap.objs.size):=by
  have:=k_ (s.heap.push LL) (o:=Ma C s.heap.objs.size) rfl
  rwa [Lw] at this
 have e3:(s.heap.push LL).Ns s.heap.objs.size (λ_=>none):=⟨LL,#[],_,e1,rfl,(λe he=>absurd he (by simp)),λ_=>rfl⟩
 have I1:=I.laid (a:=s.heap.objs.size) (o:=.own (s.heap.objs.size+1)) (h':=s.heap.push LL) (t':=s.toks) (λb u q=>f_ _ q) (e_ _) ⟨_,e1⟩;refine I1.laid (a:=s.heap.objs.size+1) (o:=.ins C s.heap.objs.size []) (t':=s.toks) (λb u q=>f_ _ q) (N3 (Lw _ _)) ?_;have ne:s.heap.objs.size≠s.heap.objs.size+1:=F_ (Ov _)
 refine⟨by rw [aC ne,aY],K_ _,ne,e2,λ_=>none,(Heap.Ns1.of_empty e3).at λo q=>f_ _ q,λ_=>Mm,λy hy=>absurd rfl hy⟩
variable {env:Env}
def D2(hb:attributeBase e f env (eval e env)=eval e env)(h:wpAny (model prog w) A (eval e env) (λo s₁=>wpAny (model prog w) A (getAttr o f true) Q E s₁) E s):wpAny (model prog w) A (eval (.Attribute e f pos) env) Q E s :=
 Attribute_any_ h (by rw [arm_eval_Attribute,hb])
end
noncomputable def p8(K:b_)(ta:TE)(f:Str):TE:=λσ H Q=>ta σ H λx H1=>∃a C dx fs v,x=.ref a/\H1 a=some (.ins C dx fs)/\Cls K C/\c8 K C f/\fs.lookup f=some v/\Q v H1
noncomputable def Kr(K:b_)(ta tv:TE)(f:Str):TS:=λD σ H=>tv σ H λy H1=>ta σ H1 λx H2=>∃a C dx fs,x=.ref a/\H2 a=some (.ins C dx fs)/\Cls K C/\c8 K C f/\fs.length<1000 /\
 D.nx σ (upd H2 a (.ins C dx (p7 f y fs)))
variable {f:Str}
def Gk(he:PE X e ta)(hb:attributeBase e f X.env (eval e X.env)=eval e X.env):PE X (.Attribute e f pos) (p8 X.K ta f):=by
 intro pins s σ H Q I h;refine D2 hb (thn (he pins s σ H _ I h) λu s1 ⟨x,H1,I1,rx,a,C,dx,fs,v,ex,ea,c,n,l,q⟩=>?_);subst ex;obtain rfl:u=n_ a:=rx;exact xC I1 ea c n l λu' s2 I2 ru=>⟨v,H1,I2,ru,q⟩
variable {o value:Expr}{pos':Pos}{tv:TE}
def iY(ha:PE X o ta)(hv:PE X value tv)(hs:swapsWith value (some (.Attribute o f pos')) pos.line X.env=pure false):PS X (.Assign [.Attribute o f pos'] value pos) (Kr X.K ta tv f):=by
 intro pins s σ H D I h;refine plainObj_wpAny_Assign_Attribute (thn (hv pins s σ H _ I h) λu s1 ⟨y,H1,I1,ry,q⟩=>thn (ha pins s1 σ H1 _ I1 q) λov s2 ⟨x,H2,I2,rx,a,C,dx,fs,ex,ea,c,n,l,q2⟩=>?_) hs;subst ex;obtain rfl:ov=n_ a:=rx;exact xE I2 ea c n l ry λs3 I3=>⟨σ,_,I3,q2⟩
inductive sw (K:b_) (H:Hp):V->Value->Prop where
 | non:sw K H .non (.type "NoneType")
 | bl (x:Bool):sw K H (.bl x) (.type "bool")
 | int (i:Int):sw K H (.int i) (.type "int")
 | str (x:Str):sw K H (.str x) (.type "str")
 | flt (x:UInt64):sw K H (.flt x) (.type "float")
 | lst {a:Addr}{xs:List V} (e:H a=some (.lst xs)):sw K H (.ref a) (.type "list")
 | frz {a:Addr}{o:Obj}{xs:List V} (e:H a=some (.frz o (.lst xs))):sw K H (.ref a) (.type "list")
 | tup {a:Addr}{xs:List V} (e:H a=some (.tup xs)):sw K H (.ref a) (.type "tuple")
 | dK {a:Addr}{kvs:List (Key×V)} (e:H a=some (.dK kvs)):sw K H (.ref a) (.type "dict")
 | dT {a:Addr}{kvs:List (List Key×V)} (e:H a=some (.dT kvs)):sw K H (.ref a) (.type "dict")
 | ins {a C dx:Addr}{fs:List (Str×V)} (e:H a=some (.ins C dx fs)) (cl:Cls K C) (ha:j_ K (.ref C) "__class__"=some (some (.builtin "object.__class__")))
   (hn:PySem.W.specialIn K (.builtin "object.__class__") "__get__"=some (some (.builtin "getset_descriptor.__get__"))) (htk:PySem.W.takesIn K (.builtin "object.__class__")=some true)
   (hm:PySem.W.mroIn K C (.type "object")=some true):sw K H (.ref a) (.ref C)
variable {c:Value}{b:Bool}
def yM{x:V}{u t:Value}(I:Inv X pins σ H s)(rx:cZ x u)(ty:sw X.K H x t)(e:Mn X.K t c=some b)(h:∀tk,Q (.bool b) { s with toks:=tk }):
  wpAny (model X.prog X.w) A (call (.builtin "isinstance") [u,c]) Q E s:=by
 cases ty with
 | non=>cases (show u=L0 from rx);exact LH PySem.W.kitx_none I.kIn Mm e (λz=>nomatch z) h
 | bl y=>cases (show u=Mv y from rx);exact LH PySem.W.kitx_bool I.kIn Mm e (λz=>nomatch z) h
 | int i=>obtain⟨t,q⟩:=(show ∃t,u=NC i t from rx);cases q;exact LH PySem.W.kitx_int I.kIn Mm e (λz=>nomatch z) h
 | str y=>obtain⟨t,q⟩:=(show ∃t,u=NY y t from rx);cases q;exact LH PySem.W.kitx_str I.kIn Mm e (λz=>nomatch z) h
 | flt y=>obtain⟨t,q⟩:=(show ∃t,u=OJ y t from rx);cases q;exact LH PySem.W.kitx_float I.kIn Mm e (λz=>nomatch z) h
 | @lst a xs ea =>
  cases (show u=n_ a from rx);obtain⟨_,_,n,_,h1⟩:=(show cf X.prog X.w H s.heap a (.lst xs) from I.hok a _ ea)
  exact LH Nt I.kIn ⟨_,h1,rfl⟩ e (λz=>nomatch z) h
 | @frz a ob xs ea =>
  cases (show u=n_ a from rx);obtain⟨_,_,_,n,_,h1⟩:=(show cf X.prog X.w H s.heap a (.frz ob (.lst xs)) from I.hok a _ ea)
  exact LH Nt I.kIn ⟨_,h1,rfl⟩ e (λz=>nomatch z) h
 | @tup a xs ea =>
  cases (show u=n_ a from rx);obtain⟨_,_,_,p⟩:=(show cf X.prog X.w H s.heap a (.tup xs) from I.hok a _ ea)
  obtain⟨o,h1,h2,_⟩:=p;exact LH PySem.W.kitx_tuple I.kIn ⟨o,h1,h2⟩ e (λz=>nomatch z) h
 | @dK a kvs ea =>
  cases (show u=n_ a from rx);obtain⟨_,_,vs,_,p⟩:=(show cf X.prog X.w H s.heap a (.dK kvs) from I.hok a _ ea)
  obtain⟨o,es,ep,h1,h2,_⟩:=p;exact LH Nu I.kIn ⟨o,h1,h2.1⟩ e (λz=>nomatch z) h
 | @dT a kvs ea =>
  cases (show u=n_ a from rx);obtain⟨_,_,xs,_,o,es,ep,h1,h2,_⟩:=(show cf X.prog X.w H s.heap a (.dT kvs) from I.hok a _ ea)
  exact LH Nu I.kIn ⟨o,h1,h2.1⟩ e (λz=>nomatch z) h
 | @ins a C dx fs ea cl ha hn htk hm =>
  cases (show u=n_ a from rx);obtain⟨mA,O,_⟩:=mN I.hok ea;obtain⟨od,J,_⟩:=O.look;exact LH (PySem.W.kitx_own (cl.get _) cl.hd ha hn htk hm) I.kIn J e (λz=>nomatch z) h
structure fJ (k:Nat) (A:A_):Prop where
 hd:A.handled=none
 dp:A.depth+3*k+5<recursionLimit
 un:A.units+16*k+200<cLine
def fJ.mono(r:fJ k A)(h:j<=k):fJ j A:=⟨r.hd,by have:=r.dp;omega,by have:=r.un;omega⟩
def fJ.deeper(r:fJ (k+1) A)(env:Env):fJ k (A.deeper env) :=
 ⟨r.hd,by have:=r.dp;show A.depth+1+3*k+5<_;omega,by have:=r.un;show A.units+3+16*k+200<_;omega⟩
def xF{kw:List (Str×Value)}:(A.under (.builtin "type.__call__" ⟨.ref C::us,kw⟩)).depth=A.depth+1:=by
 first|rfl|simp [Around.under,Code.weight,Code.isCreation,Code.isGuard,Code.isCaller,Code.frames,Code.isFrame,guardIds]
def xG{kw:List (Str×Value)}:(A.under (.builtin "type.__call__" ⟨.ref C::us,kw⟩)).units=A.units+1:=by
 first|rfl|simp [Around.under,Code.cUnits,Code.frames,Code.isFrame]
def fJ.make(r:fJ (k+1) A)(C:Addr)(us:List Value)(kw:List (Str×Value)):fJ k (A.under (.builtin "type.__call__" ⟨.ref C::us,kw⟩)) :=
 ⟨r.hd,by have:=r.dp;rw [xF];omega,by have:=r.un;rw [xG];omega⟩
def fJ.depth(r:fJ k A):A.depth<recursionLimit:=by have:=r.dp;omega
def fJ.units(r:fJ k A):A.units+64<cLine:=by have:=r.un;omega
def cP:TA:=λ_ H Q=>Q [] H
noncomputable def aG(ta:TE)(tr:TA):TA:=λσ H Q=>ta σ H λx H1=>tr σ H1 λxs H2=>Q (x::xs) H2
def ae:PA X [] cP:=λ_ _ _ _ H Q I h=>Calls.spliced_nil ⟨[],H,I,.nil,h⟩
variable {t:TA}
def D3(ha:PE X e te)(hr:PA X es t)(hs:starEach (e::es) X.env=(false,eval e X.env)::starEach es X.env:=by rfl):PA X (e::es) (aG te t):=by
 intro pos pins s σ H Q I h;rw [hs];show wpAny _ _ (spliced ((false,eval e X.env)::backTo pos (starEach es X.env))) _ _ s;refine Calls.spliced_cons (thn (ha pins s σ H _ I h) λu s1 ⟨x,H1,I1,r1,q1⟩=>?_);exact thn (hr pos pins s1 σ H1 _ I1 q1) λus s2 ⟨xs,H2,I2,r2,q2⟩=>⟨x::xs,H2,I2,.cons r1 r2,q2⟩
noncomputable def Bo(t:TA):TE:=λσ H Q=>t σ H λxs H1=>xs.length<=sizeLine/\∀p,H1 p=none->Q (.ref p) (upd H1 p (.tup xs))
noncomputable def Ks(t:TA):TE:=λσ H Q=>t σ H λxs H1=>xs.length<=sizeLine/\∀p,H1 p=none->Q (.ref p) (upd H1 p (.lst xs))
def iZ{x1}(h:PA X es t):PE X (.Tuple es x1 pos) (Bo t):=by
 intro pins s σ H Q I hq;refine wpAny_Tuple_spliced (thn (h pos pins s σ H _ I hq) λus s1 ⟨xs,H1,I1,r,z,q⟩=>⟨by rw [<- r.length];exact z,?_⟩);have hf:H1 s1.heap.objs.size=none:=I1.hok.fresh (e_ _);refine⟨.ref s1.heap.objs.size,upd H1 s1.heap.objs.size (.tup xs),I1.laid (t':=s1.toks) (λb u e=>f_ _ e) (e_ _) ?_,rfl,q _ hf⟩;exact⟨z,us,r,⟨_,k_ _ rfl,rfl,_,rfl⟩⟩
def eh(h:PA X es t):PE X (.List es pos) (Ks t):=by
 intro pins s σ H Q I hq;refine wpAny_List_spliced (thn (h pos pins s σ H _ I hq) λus s1 ⟨xs,H1,I1,r,z,q⟩=>⟨by rw [<- r.length];exact z,?_⟩);have hf:H1 s1.heap.objs.size=none:=I1.hok.fresh (e_ _);refine⟨.ref s1.heap.objs.size,upd H1 s1.heap.objs.size (.lst xs),I1.laid (t':=s1.toks) (λb u e=>f_ _ e) (e_ _) ?_,rfl,q _ hf⟩;exact⟨z,us,0,r,k_ _ rfl⟩
abbrev Sp:=List V->Hp->VK->XK->Prop
abbrev CXT:=List Env->Hp->d_->XK->Value->d_->Prop
structure D4 (P:tj) (w:World) (K:b_) (mg:Str->Option Value) (base:Heap) (A:A_) (outer:List Env) (s:d_) (H:Hp):Prop where
 frames:A.frames=some outer
 mod:Mod K mg base
 bs:∀b o,base.get? b=some o->s.heap.get? b=some o/\H b=none
 bsz:base.objs.size<=s.heap.objs.size
 funs:s.heap.FunFrames base outer
 frf:∀b∈frs outer,H b=none
 hok:HOk P w H s.heap
 bare:Of s.gens
 tb:sA base H
noncomputable def CE(outer:List Env)(P:tj)(w:World)(H:Hp)(s:d_)(Q:VK)(u:Value)(s':d_):Prop :=
 ∃v H',s'.os=s.os/\Of s'.gens/\Un (frs outer) [] H H' s.heap s'.heap/\HOk P w H' s'.heap/\cZ v u/\Q v H'
noncomputable def CR(CX:CXT)(outer:List Env)(P:tj)(w:World)(H:Hp)(s:d_)(Q:VK)(E:XK)(r:Result)(s':d_):Prop :=
 match r with
 | .ok (.ret u)=>CE outer P w H s Q u s'
 | .ok _=>False
 | .error e=>CX outer H s E e s'
structure qG (P:tj) (w:World) (K:b_) (mg:Str->Option Value) (base:Heap) (CX:CXT) (k:Nat) (f:Addr) (fd:L1) (ps:List Str) (sp:Sp):Prop where
 len:∀vs H Q E,sp vs H Q E->vs.length=ps.length
 run:∀(A:A_) (outer:List Env) (s:d_) (H:Hp) (args:Args) (us:List Value) (vs:List V) (Q:VK) (E:XK),fJ k A->D4 P w K mg base A outer s H->Ow s fd args (ps.zip us)->bP vs us->sp vs H Q E ->
  codeAny (model P w) A (.call (.ref f) args) (CR CX outer P w H s Q E) s
variable {mg:Str->Option Value}{fd:L1}
def qG.imp{P:tj}{CX:CXT}{f:Addr}{ps:List Str}{sp sp':Sp}(F:qG P w K mg base CX k f fd ps sp)(h:∀vs H Q E,sp' vs H Q E->sp vs H Q E):qG P w K mg base CX k f fd ps sp' :=
 ⟨λvs H Q E q=>F.len vs H Q E (h _ _ _ _ q),λA outer s H args us vs Q E hr he hb hv hs=>F.run A outer s H args us vs Q E hr he hb hv (h _ _ _ _ hs)⟩
def D4.make{P:tj}{outer:List Env}(e:D4 P w K mg base A outer s H)(C:Addr)(us:List Value)(kw:List (Str×Value)):
  D4 P w K mg base (A.under (.builtin "type.__call__" ⟨.ref C::us,kw⟩)) outer s H:=⟨by first|exact e.frames|(simpa [Around.under,Code.envs,Code.isFrame,pushEnvs] using e.frames),e.mod,e.bs,e.bsz,e.funs,e.frf,e.hok,e.bare,e.tb⟩
def Inv.env0(I:Inv X pins σ H s):D4 X.prog X.w X.K X.mg X.base X.A X.stack s H :=
 ⟨I.ok.frames,I.ok.mod,I.bs,p_ I.ok.bsz I.sz,I.stack,I.stkFree,I.hok,I.bare,I.ok.tb.un I.base⟩
variable {s':d_}
def Inv.after{Q:VK}{u:Value}(I:Inv X pins σ H s)(h:CE X.stack X.prog X.w H s Q u s'):EP X pins σ Q u s':=by
 obtain⟨v,H',os,bare,un,hok,r,q⟩:=h;obtain⟨hh,g,d,t,os'⟩:=s';obtain rfl:os'=s.os:=os;exact⟨v,H',I.call (h':=hh) (g':=g) (d':=d) (t':=t) (ch:=[]) un hok bare (λb z=>absurd z (by simp)),r,q⟩
noncomputable def df(sp:Sp)(dvs:List V)(E:XK)(t:TA):TE:=λσ H Q=>t σ H λvs H1=>sp (vs++dvs) H1 Q E
noncomputable def D5(C:Addr)(m:Str)(sp:Sp)(dvs:List V)(E:XK)(ta:TE)(t:TA):TE:=λσ H Q=>ta σ H λx H1=>∃a dx fs,x=.ref a/\H1 a=some (.ins C dx fs)/\fs.lookup m=none /\
 t σ H1 λvs H2=>sp (x::(vs++dvs)) H2 Q E
noncomputable def Bp(C:Addr)(sp:Sp)(dvs:List V)(E:XK)(t:TA):TE:=λσ H Q=>t σ H λvs H1=>∀x dx,H1 x=none->H1 dx=none->dx≠x ->
 sp (.ref x::(vs++dvs)) (upd (upd H1 dx (.own x)) x (.ins C dx [])) (λv H2=>v=.non/\Q (.ref x) H2) E
noncomputable def md(K:b_)(fd:L1)(ps:List Str)(ds:List Value):Prop :=
 ∀(s:d_) (us:List Value),K.In s.heap->(us++ds).length=ps.length->Ow s fd ⟨us,[]⟩ (ps.zip (us++ds))
def md.all{ps:List Str}(h:∀us:List Value,us.length=ps.length->bindArgs fd ⟨us,[]⟩=pure (ps.zip us)):md K fd ps []:=λs us _ hl=>by
 rw [Eo] at hl ⊢;exact .of_eq (h us hl)
noncomputable def p9(CX:CXT)(X:Cx)(E:XK):Prop:=∀(pins:List (Addr×Obj)) (σ:St) (H:Hp) (s:d_) (e:Value) (s':d_),Inv X pins σ H s->CX X.stack H s E e s'->X.xe e s'
section
variable {CX:CXT}{f:Addr}{ps:List Str}{sp:Sp}{dvs:List V}{ds:List Value}{E:XK}{vs:List V}
def CM{Q:VK}(F:qG X.prog X.w X.K X.mg X.base CX k f fd ps sp)(hr:fJ k X.A)(hb:md X.K fd ps ds)(hd:bP dvs ds)(hx:p9 CX X E)(I:Inv X pins σ H s)(r:bP vs us)(h:sp (vs++dvs) H Q E):wpAny (model X.prog X.w) X.A (call (.ref f) us) (EP X pins σ Q) X.xe s:=by
 have r2:bP (vs++dvs) (us++ds):=r.append hd;have hl:(us++ds).length=ps.length:=by rw [<- r2.length];exact F.len _ _ _ _ h
 refine wpAny_call (Ox (F.run X.A X.stack s H ⟨us,[]⟩ (us++ds) (vs++dvs) Q E hr I.env0 (hb s us I.kIn hl) r2 h) λr s' hq=>?_)
 cases r with
 | error e=>exact hx pins σ H s e s' I hq
 | ok fl =>
  cases fl with
  | ret u=>exact I.after hq
  | next=>exact Mb hq
  | brk=>exact Mb hq
  | cont=>exact Mb hq
variable {x:Str}{p:Pos}
def yN(F:qG X.prog X.w X.K X.mg X.base CX k f fd ps sp)(hr:fJ k X.A)(hg:Gl X x)(hm:X.mg x=some (.ref f))(hk:x_ X.K (.ref f)=true)(hb:md X.K fd ps ds)(hd:bP dvs ds)(hx:p9 CX X E)(ha:PA X (e::es) t)(hdb:(x == ("__debug__":Str))=false:=by decide)(he:starEach (e::es) X.env=(false,eval e X.env)::starEach es X.env:=by rfl)(hpl:(backTo pos (starEach es X.env)).any (·.1)=false:=by rfl):
  PE X (.Call (.Name x p) (e::es) [] pos) (df sp dvs E t):=by
 intro pins s σ H Q I h;refine Nf (uu I hg hm ?_ hdb);refine PySem.W.callWith_K (h₀:=X.base) I.ok.mod.kin hk (thn (ha pos pins s σ H _ I h) λus s1 ⟨vs,H1,I1,r,q⟩=>⟨I1.kIn,?_⟩) he hpl;exact CM F hr hb hd hx I1 r q
variable {m:Str}{apos:Pos}
def Bq{pl:Sem Bool}(he:PE X o ta)(c:Cls X.K C)(hm:IK X.K C m f)(F:qG X.prog X.w X.K X.mg X.base CX k f fd ps sp)(hr:fJ k X.A)(hb:md X.K fd ps ds)(hd:bP dvs ds)(hx:p9 CX X E)(ht:eval (.Call (.Attribute o m apos) [] [] pos) X.env=(do
   let ov <- eval o X.env
   standAt apos.atName
   let (f,first) <- holding [ov] (getMethod ov m pl)
   callWith pos f first (backTo pos (starEach [] X.env)) (backToKw pos (keywordEach [] X.env))):=by rfl):
  PE X (.Call (.Attribute o m apos) [] [] pos) (D5 C m sp dvs E ta cP):=by
 intro pins s σ H Q I h;refine PySem.W.methodCall_KW (pl:=pl) (thn (he pins s σ H _ I h) λu s1 ⟨x,H1,I1,rx,a,dx,fs,ex,ea,l,q⟩=>?_) ht;subst ex;obtain rfl:u=n_ a:=rx;refine xD I1 ea c hm l ?_;exact PySem.W.callWith_K0 (first:=[.ref a]) I1.kIn hm.kp (CM (us:=[.ref a]) (vs:=[.ref a]) F hr hb hd hx I1 (.cons rfl .nil) q)
structure Mk (K:b_) (C f:Addr):Prop where
 makes:NO K C=true
 init:j_ K (.ref C) "__init__"=some (some (.ref f))
 fn:Nq K (.ref f)=true
 kp:x_ K (.ref C)=true
def Br{Q:VK}(M:Mk X.K C f)(F:qG X.prog X.w X.K X.mg X.base CX k f fd ps sp)(hr:fJ (k+1) X.A)(hb:md X.K fd ps ds)(hd:bP dvs ds)(hx:p9 CX X E)(I:Inv X pins σ H s)(r:bP vs us)(h:∀x dx,H x=none->H dx=none->dx≠x->sp (.ref x::(vs++dvs)) (upd (upd H dx (.own x)) x (.ins C dx [])) (λv H2=>v=.non/\Q (.ref x) H2) E):
  wpAny (model X.prog X.w) X.A (call (.ref C) us) (EP X pins σ Q) X.xe s:=by
 have hq:=h (s.heap.objs.size+1) s.heap.objs.size (I.hok.fresh (le_succ _)) (I.hok.fresh (e_ _)) (F_ (Ov _));have I2:=Inv.made (C:=C) I;have r2:bP (V.ref (s.heap.objs.size+1)::(vs++dvs)) (n_ (s.heap.objs.size+1)::(us++ds)):=.cons rfl (r.append hd)
 have hl:(n_ (s.heap.objs.size+1)::us++ds).length=ps.length:=by
  have e:=r2.length;rw [F.len _ _ _ _ hq] at e;exact e.symm
 refine wpAny_call (Bn (f:=f) I.kIn M.makes M.init (beq_iff_eq.mp M.fn) (Ox (F.run _ X.stack _ _ ⟨n_ (s.heap.objs.size+1)::us,[]⟩ (n_ (s.heap.objs.size+1)::(us++ds)) _ _ E (hr.make C us [])
  (I2.env0.make C us []) (hb _ (n_ (s.heap.objs.size+1)::us) I2.kIn hl) r2 hq) λr s' hq'=>?_))
 cases r with
 | error e=>exact hx pins σ _ _ e s' I2 hq'
 | ok fl =>
  cases fl with
  | ret u =>
   obtain⟨v,H',I3,rv,ev,q3⟩:=I2.after hq';subst ev;exact⟨rv,⟨V.ref (s.heap.objs.size+1),H',I3,rfl,q3⟩⟩
  | next=>exact Mb hq'
  | brk=>exact Mb hq'
  | cont=>exact Mb hq'
def D6(M:Mk X.K C f)(F:qG X.prog X.w X.K X.mg X.base CX k f fd ps sp)(hr:fJ (k+1) X.A)(hg:Gl X x)(hm:X.mg x=some (.ref C))(hb:md X.K fd ps ds)(hd:bP dvs ds)(hx:p9 CX X E)(ha:PA X (e::es) t)(hdb:(x == ("__debug__":Str))=false:=by decide)(he:starEach (e::es) X.env=(false,eval e X.env)::starEach es X.env:=by rfl)(hpl:(backTo pos (starEach es X.env)).any (·.1)=false:=by rfl):
  PE X (.Call (.Name x p) (e::es) [] pos) (Bp C sp dvs E t):=by
 intro pins s σ H Q I h;refine Nf (uu I hg hm ?_ hdb);refine PySem.W.callWith_K (h₀:=X.base) I.ok.mod.kin M.kp (thn (ha pos pins s σ H _ I h) λus s1 ⟨vs,H1,I1,r,q⟩=>⟨I1.kIn,?_⟩) he hpl;exact Br M F hr hb hd hx I1 r q
end
structure au (N P:List Str) (sc:Scope):Prop where
 kind:sc.kind=.function
 co:sc.isCoroutine=false
 gen:sc.isGenerator=false
 nd:N.Nodup
 pre:N.take P.length=P
 par:∀x∈P,sc.names.lookup x=some .local\/sc.names.lookup x=some .cell
 nofree:∀y∈sc.names,y.2≠.free
theorem sC{kindOf:Str->Option L3}{x:Str}:∀{binds:List (Str×Value)}{m:Str->Option Value},(∀v,(x,v)∉binds)->bindL kindOf binds m x=m x
 | [],_,_=>rfl
 | (n,v)::r,m,h=>by
  unfold bindL;rw [sC λw hw=>h w (m_ _ hw)]
  split
  .have:x≠n:=by rintro rfl;exact h v mem_cons_self
   simp [this]
  .rfl
theorem sD{kindOf:Str->Option L3}{x:Str}:∀{binds:List (Str×Value)}{m:Str->Option Value},(∀v,(x,v)∉binds)->bindC kindOf binds m x=m x
 | [],_,_=>rfl
 | (n,v)::r,m,h=>by
  unfold bindC;rw [sD λw hw=>h w (m_ _ hw)]
  split
  .rfl
  .have:x≠n:=by rintro rfl;exact h v mem_cons_self
   simp [this]
theorem sE{kindOf:Str->Option L3}{x:Str}{v:Value}:∀{P:List Str}{vs:List Value}{i:Nat}{m:Str->Option Value},P.Nodup->P[i]?=some x->vs[i]?=some v->kindOf x=some .local ->
  bindL kindOf (P.zip vs) m x=some v
 | [],_,_,_,_,h,_,_=>by simp at h
 | _::_,[],_,_,_,_,h,_=>by simp at h
 | p::P,w::vs,0,m,nd,h1,h2,hk=>by
  simp at h1 h2;subst h1;subst h2;show bindL kindOf ((p,w)::P.zip vs) m p=_;unfold bindL;rw [sC λv hv=>(ND.mp nd).1 (of_mem_zip hv).1,if_pos hk];simp
 | p::P,w::vs,i+1,m,nd,h1,h2,hk=>by
  show bindL kindOf ((p,w)::P.zip vs) m x=_;unfold bindL;exact sE (i:=i) (ND.mp nd).2 (by simpa using h1) (by simpa using h2) hk
theorem sF{kindOf:Str->Option L3}{x:Str}{v:Value}:∀{P:List Str}{vs:List Value}{i:Nat}{m:Str->Option Value},P.Nodup->P[i]?=some x->vs[i]?=some v->kindOf x≠some .local ->
  bindC kindOf (P.zip vs) m x=some v
 | [],_,_,_,_,h,_,_=>by simp at h
 | _::_,[],_,_,_,_,h,_=>by simp at h
 | p::P,w::vs,0,m,nd,h1,h2,hk=>by
  simp at h1 h2;subst h1;subst h2;show bindC kindOf ((p,w)::P.zip vs) m p=_;unfold bindC;rw [sD λv hv=>(ND.mp nd).1 (of_mem_zip hv).1,if_neg hk];simp
 | p::P,w::vs,i+1,m,nd,h1,h2,hk=>by
  show bindC kindOf ((p,w)::P.zip vs) m x=_;unfold bindC;exact sF (i:=i) (ND.mp nd).2 (by simpa using h1) (by simpa using h2) hk
noncomputable def start(N:List Str)(vs:List V):St:=vs.map some++q_ (N.length - vs.length) none
noncomputable def wy(CX:CXT)(P:tj)(w:World)(K:b_)(mg:Str->Option Value)(base:Heap)(N:List Str)(qual:Str)(scope:Scope)(f:Addr)(cd:Value)(A:A_)(outer:List Env)(s:d_)(H:Hp)(E:XK):Cx where
 prog:=P
 w:=w
 K:=K
 mg:=mg
 base:=base
 A:=A.deeper (envOfC qual scope s.heap.objs.size f cd)
 N:=N
 s₀:=s
 H₀:=H
 env:=envOfC qual scope s.heap.objs.size f cd
 outer:=outer
 stack:=envOfC qual scope s.heap.objs.size f cd::outer
 ex:=[]
 calm:=true
 fn:=λ_=>true
 pn:=[]
 xe:=λe s'=>wpAny (model P w) (A.deeper (envOfC qual scope s.heap.objs.size f cd)) (leaving (envOfC qual scope s.heap.objs.size f cd) e) (λ_ s''=>CX outer H s E e s'') (λe' s''=>CX outer H s E e' s'') s'
def wz{sc:Scope}{x:Str}(h:sc.names.lookup x=some .cell):∃c,(cellsFrom n sc.names []).lookup x=some c:=by
 have q:=MH sc.names n [] (.inl h);exact Mx.mp q
variable {qual:Str}{scope:Scope}{vs:List V}
def yO{CX:CXT}{P:tj}{ps:List Str}{f:Addr}{cd:Value}{outer:List Env}{s1:d_}{E:XK}(S:au N ps scope)(hd:A.handled=none)(e0:D4 P w K mg base A outer s H)(hl:vs.length=ps.length)(r:bP vs us)(x:InCallC s s.heap.objs.size (bindL (envOfC qual scope s.heap.objs.size f cd).kindOf (ps.zip us) λ_=>none) (cellsFrom (s.heap.objs.size+1) scope.names []) (bindC (envOfC qual scope s.heap.objs.size f cd).kindOf (ps.zip us) λ_=>none) s1):
  Inv (wy CX P w K mg base N qual scope f cd A outer s H E) [] (start N vs) H s1:=by
 have hpl:ps.length<=N.length:=by have:=congrArg NJ S.pre;rw [length_take] at this;omega
 obtain⟨h1,tk,rfl,hk⟩:=x.done;have noA:∀b:Addr,b∉(wy CX P w K mg base N qual scope f cd A outer s H E).ex:=λb z=>absurd (show b∈([]:List Addr) from z) (by simp)
 refine⟨⟨e0.mod,S.kind,rfl,rfl,e_ _,λy z c h1 h2=>?_,λy hy=>?_,λy c _ h=>?_,λ_=>hd,Around.frames_deeper e0.frames,.inr ⟨rfl,rfl⟩,λb z=>absurd z (noA b),e0.bs,e0.bsz,λb _ _=>noA b,λb z=>absurd z (noA b),e0.funs,e0.frf,e0.tb⟩,
  rfl,e0.bare,Un.kept hk,⟨_,x.toInCall.ns,λi y v h1 h2 h3=>?_⟩,λy c h=>⟨_,x.cell y c h⟩,e0.hok.fresh (e_ _),λy c h=>?_,λp hp=>absurd (show p∈([]:List (Addr×Obj)) from hp) (by simp),e0.hok.kept hk,?_⟩
 .exact name_of_addr x.apart (MA h1) (MA h2)
 .have hy:scope.names.lookup y=some .cell\/scope.names.lookup y=some .free:=hy
  rcases hy with hy|hy
  .exact wz hy
  .exact absurd rfl (S.nofree _ (MA hy))
 .exact le_of_lt (x.above y c (MA h))
 .have hi:i<vs.length:=by
   unfold start at h2
   by_cases hi:i<vs.length
   .exact hi
   .rw [LP (by simpa using hi)] at h2;rw [getElem?_replicate] at h2;split at h2 <;> cases h2
  have ha:vs[i]?=some v:=by
   unfold start at h2;rw [L_ (by simpa using hi),h_] at h2
   cases e:vs[i]? with
   | none=>rw [e] at h2;cases h2
   | some a=>rw [e] at h2;cases h2;rfl
  obtain⟨u,hu,rv⟩:=r.get ha
  have hp:ps[i]?=some y:=by
   rw [<- S.pre,getElem?_take_of_lt (by omega)];exact h1
  have ndP:ps.Nodup:=by rw [<- S.pre];exact S.nd.sublist (take_sublist _ _)
  refine⟨u,rv,?_⟩
  rcases S.par y (y_ hp) with k|k
  .exact .inl ⟨k,sE ndP hp hu k⟩
  .obtain⟨c,e⟩:=wz (n:=s.heap.objs.size+1) k;refine .inr ⟨.inl k,c,e,?_⟩;have q:=x.cell y c e;rw [sF ndP hp hu (by show scope.names.lookup y≠_;rw [k];decide)] at q;exact q
 .exact e0.hok.fresh (le_of_lt (x.above y c (MA h)))
 .unfold start;show _=N.length;rw [length_append,length_map,length_replicate];omega
variable {pm ct oc:Value}{an od:Option Addr}
def Gm{CX:CXT}{P:tj}{f:Addr}{params:Arguments}{body:List Stmt}{dV kV doc cdv:Value}{osl:Array (Option Value)}{ps:List Str}{sp:Sp}(lk:K.lookup f=some ⟨oc,od,.func (B_ name qual params body scope dV kV doc pm an cdv ct),osl⟩)(hcd:Lx K cdv qual=true)(S:au N ps scope)(len:∀vs H Q E,sp vs H Q E->vs.length=ps.length)(hbody:∀(A:A_) (outer:List Env) (s:d_) (H:Hp) (vs:List V) (Q:VK) (E:XK),fJ k (A.deeper (envOfC qual scope s.heap.objs.size f cdv))->sp vs H Q E ->
   ∃t,PSs (wy CX P w K mg base N qual scope f cdv A outer s H E) body t/\t { nx:=λ_ H'=>Q .non H',rt:=Q } (start N vs) H):
  qG P w K mg base CX (k+1) f (B_ name qual params body scope dV kV doc pm an cdv ct) ps sp:=by
 refine⟨len,λA outer s H args us vs Q E hr e0 hb r hsp=>?_⟩;have hl:=len _ _ _ _ hsp;have KX:K.In s.heap:=e0.mod.kin.keeps λb o e=>(e0.bs b o e).1;have lim:s.heap.NoLimit:=e0.mod.nolimit.keeps λb o e=>(e0.bs b o e).1
 have hkind:∀y∈ps.zip us,scope.names.lookup y.1=some .local\/(scope.names.lookup y.1=some .cell/\((cellsFrom (s.heap.objs.size+1) scope.names []).lookup y.1).isSome=true):=λ⟨n,v⟩ hy=>by
  rcases S.par n (of_mem_zip hy).1 with q|q
  .exact .inl q
  .exact .inr ⟨q,MH _ _ _ (.inl q)⟩
 refine codeAny_call_function hr.depth (KX _ _ lk) rfl S.co S.gen rfl (PySem.W.codeRec_of KX hcd) (hb _ _ _ _ ?_);refine wpAny_newFunctionEnv_cells S.kind hkind λenv he s1 x=>?_;subst he;refine⟨lim.keeps x.toInCall.keep,codeAny_func ?_⟩;obtain⟨t,ht,hq⟩:=hbody A outer s H vs Q E (hr.deeper _) hsp;have I:Inv (wy CX P w K mg base N qual scope f cdv A outer s H E) [] (start N vs) H s1:=yO S hr.hd e0 hl r x
 refine Lr (ht [] s1 (start N vs) H _ I hq) (λfl s' hs=>?_) λe s' hs=>hs
 have fin:∀{σ':St}{H':Hp}{v:V}{u:Value},Inv (wy CX P w K mg base N qual scope f cdv A outer s H E) [] σ' H' s'->cZ v u->Q v H'->CE outer P w H s Q u s' :=
  λ{σ' H' v u} J rv q=>⟨v,H',J.os,J.bare,J.base,J.hok,rv,q⟩
 cases fl with
 | ret u =>
  obtain⟨v,σ',H',J,rv,q⟩:=hs;exact fin J rv q
 | next =>
  obtain⟨σ',H',J,q⟩:=hs;exact fin (v:=V.non) (u:=L0) J rfl q
 | brk =>
  obtain⟨_,_,_,q⟩:=hs;exact Mb q
 | cont =>
  obtain⟨_,_,_,q⟩:=hs;exact Mb q
section
variable {r:List V->Hp->VK->Prop}
noncomputable def tCB(r:List V->Hp->VK->Prop)(t:TA):TE:=λσ H Q=>t σ H λvs H1=>r vs H1 Q
variable {x:Str}{p:Pos}{id:String}
def Bs(hc:bK X (.builtin id) r)(hg:Gl X x)(hm:X.mg x=none)(hv:bootBuiltins x=some (.builtin id))(ha:PA X (e::es) t)(hn:x≠"__name__":=by decide)(hdb:(x == ("__debug__":Str))=false:=by decide)(he:starEach (e::es) X.env=(false,eval e X.env)::starEach es X.env:=by rfl)(hpl:(backTo pos (starEach es X.env)).any (·.1)=false:=by rfl):PE X (.Call (.Name x p) (e::es) [] pos) (tCB r t):=by
 intro pins s σ H Q I h;refine Nf (lO I hg hm hv ?_ hn hdb);exact PyProof.Rows.callWith_builtin1 (thn (ha pos pins s σ H _ I h) λus s1 ⟨vs,H1,I1,r1,q1⟩=>hc pins s1 σ H1 vs us Q I1 r1 q1) he hpl
variable {T:String}
def yP(hc:bK X (.type T) r)(hg:Gl X x)(hm:X.mg x=none)(hv:bootBuiltins x=some (.type T))(ha:PA X (e::es) t)(hn:x≠"__name__":=by decide)(hdb:(x == ("__debug__":Str))=false:=by decide)(he:starEach (e::es) X.env=(false,eval e X.env)::starEach es X.env:=by rfl)(hpl:(backTo pos (starEach es X.env)).any (·.1)=false:=by rfl):PE X (.Call (.Name x p) (e::es) [] pos) (tCB r t):=by
 intro pins s σ H Q I h;refine Nf (lO I hg hm hv ?_ hn hdb);exact LA (thn (ha pos pins s σ H _ I h) λus s1 ⟨vs,H1,I1,r1,q1⟩=>hc pins s1 σ H1 vs us Q I1 r1 q1) he hpl
end
end L2
namespace HT
open PySem PyProof.Rows
section
open PySem.SeqAt
open PySem.AutoSeq1 (wpAny_loadPart')
open PySem.MeetsSeq PySem.MeetsSeq2 PySem.MeetsSeq3
end
variable {prog:tj}{w:World}{A:A_}{E:Value->d_->Prop}{s:d_}{Q:Value->d_->Prop}
def cat_tup{t b:Addr}{vs ws:List Value}(ht:IsTup s.heap t vs.toArray)(hb:IsTup s.heap b ws.toArray)(hv:vs≠[])(h1:ws=[]->Q (.ref t) s)(h2:ws≠[]->Q (.ref s.heap.objs.size) { s with heap:=s.heap.push { cls:=.type "tuple",data:=.seq (vs++ws).toArray } })(hsz:vs.length+ws.length<=sizeLine):wpAny (model prog w) A (binaryOp .Add (.ref t) (.ref b)) Q E s:=by
 obtain⟨⟨cls,dd,data,sl⟩,ho,hc,n,hd⟩:=id ht;obtain⟨⟨cls2,dd2,data2,sl2⟩,ho2,hc2,n2,hd2⟩:=id hb;simp only at hc hd hc2 hd2;subst hc hd hc2 hd2;have e:vs.toArray++ws.toArray=(vs++ws).toArray:=by simp
 by_cases hw:ws=[]
 .exact Oy ⟨_,ho,rfl⟩ ⟨_,ho2,rfl⟩ Oq seq_tuple_add Nv Ni (M7 _ _)
   (tuple_addW1 t b vs.toArray ws.toArray n n2 dd dd2 sl sl2 (by simpa using hv) (by simp [hw])) ⟨ho,ho2,h1 hw⟩
 .refine Oy ⟨_,ho,rfl⟩ ⟨_,ho2,rfl⟩ Oq seq_tuple_add Nv Ni (M7 _ _)
   (tuple_addW2 t b vs.toArray ws.toArray n n2 dd dd2 sl sl2 (by simpa using hv) (by simpa using hw) (by rw [size_toArray,size_toArray];exact hsz)) ⟨ho,ho2,?_⟩
  rw [e];exact h2 hw
noncomputable def sIx(n d:Nat):Option Int->Nat
 | none=>d
 | some v=>if v<0 then (v+(n:Int)).toNat else min v.toNat n
def sIx_nat(n d k:Nat):sIx n d (some (k:Int))=min k n:=by
 show (if (k:Int)<0 then ((k:Int)+(n:Int)).toNat else min (k:Int).toNat n)=min k n;rw [if_neg (by omega),toNat_natCast]
def sIx_le(n d:Nat)(hd:d<=n)(o:Option Int):sIx n d o<=n:=by
 cases o with
 | none=>exact hd
 | some v =>
  show (if v<0 then (v+(n:Int)).toNat else min v.toNat n)<=n
  by_cases hv:v<0
  .rw [if_pos hv];omega
  .rw [if_neg hv];exact min_le_right _ _
def clip_eq(v:Int)(n d:Nat):(if v<0 then max (v+(n:Int)) 0 else min v (n:Int))=((sIx n d (some v):Nat):Int):=by
 show (if v<0 then max (v+(n:Int)) 0 else min v (n:Int))=(((if v<0 then (v+(n:Int)).toNat else min v.toNat n):Nat):Int)
 by_cases hv:v<0
 .simp only [if_pos hv];omega
 .simp only [if_neg hv];omega
def xH(lo hi:Option Int)(n:Nat):M4 lo hi 1 (n:Int)=(((sIx n 0 lo:Nat):Int),((sIx n n hi:Nat):Int)):=by
 have h1:¬ ((1:Int)<0):=by omega
 unfold M4;simp only [h1,if_false]
 refine Prod.ext ?_ ?_
 .cases lo with
  | none=>rfl
  | some v=>exact clip_eq v n 0
 .cases hi with
  | none=>rfl
  | some v=>exact clip_eq v n n
def xI(i j:Nat):Mq (i:Int) (j:Int) 1=j - i:=by
 unfold Mq;have h1:(1:Int) > 0:=by omega
 simp only [h1,if_true,ediv_one];split <;> omega
def qa{v:Value}{o:Option Int}{Q:Option Int->d_->Prop}(p:Oz v o)(h:Q o s):wpAny (model prog w) A (Builtin.Slice.slicePartIndex v) Q E s:=by
 cases p with
 | none=>exact slicePart_none h
 | int i t=>exact slicePart_int h
variable {lo hi:Option Int}{n:Nat}
def g9{sl:Addr}{vl vu:Value}{Q:Int×Int×Nat->d_->Prop}(hs:s.heap.IsSliceOf sl vl vu .none)(pl:Oz vl lo)(pu:Oz vu hi)(h:Q (((sIx n 0 lo:Nat):Int),1,sIx n n hi - sIx n 0 lo) s):wpAny (model prog w) A (N4 (.ref sl) (pure (n:Int))) Q E s:=by
 obtain⟨os,hos,hcs,hds⟩:=id hs;unfold N4 Builtin.Slice.sliceFields;refine cy (cy (LF hos hds (x:=vl) rfl (cy (LF hos hds (x:=vu) rfl (cy (LF hos hds (x:=.none) rfl (g_ ?_)))))));refine cy (slicePart_none ?_);show wpAny _ _ (if ((1:Int) == 0)=true then _ else _) _ _ s;rw [if_neg (by decide)];refine cy (qa pl (cy (qa pu (cy (g_ ?_)))))
 show wpAny _ _ (match M4 lo hi 1 (n:Int) with|(lo,hi)=>pure (lo,(1:Int),Mq lo hi 1)) _ _ s;rw [xH lo hi n];show wpAny _ _ (pure (((sIx n 0 lo:Nat):Int),(1:Int),Mq ((sIx n 0 lo:Nat):Int) ((sIx n n hi:Nat):Int) 1)) _ _ s;rw [xI];exact g_ h
def Bt(xs:Array Value)(i k:Nat):((c_ k).filterMap λ(m:Nat)=>xs[((i:Int)+(m:Int)*1).toNat]?).toArray=((xs.toList.drop i).take k).toArray:=by
 have e:(λ(m:Nat)=>xs[((i:Int)+(m:Int)*1).toNat]?)=λm=>xs[i+m]?:=by
  funext m;have:((i:Int)+(m:Int)*1).toNat=i+m:=by omega
  rw [this]
 rw [e];have:=pick_run xs i k;rw [NF] at this;have e2:((λx=>xs[x]?) ∘ λx=>i+x)=λm=>xs[i+m]?:=rfl;rw [e2] at this;rw [this]
def getItem_tuple_cut{t sl:Addr}{items:Array Value}{vl vu:Value}(ht:IsTup s.heap t items)(hs:s.heap.IsSliceOf sl vl vu .none)(pl:Oz vl lo)(pu:Oz vu hi)(hw:¬ (sIx items.size 0 lo=0/\sIx items.size items.size hi=items.size))(h:Q (.ref s.heap.objs.size) { s with heap:=s.heap.push { cls:=.type "tuple",data:=.seq ((items.toList.drop (sIx items.size 0 lo)).take (sIx items.size items.size hi - sIx items.size 0 lo)).toArray } })(hsz:items.size<=sizeLine):wpAny (model prog w) A (getItem (.ref t) (.ref sl)) Q E s:=by
 have htake:sizeOk (.seq ((items.toList.drop (sIx items.size 0 lo)).take (sIx items.size items.size hi - sIx items.size 0 lo)).toArray):=by
  show ((items.toList.drop (sIx items.size 0 lo)).take (sIx items.size items.size hi - sIx items.size 0 lo)).toArray.size<=sizeLine;rw [size_toArray,length_take,length_drop,we];omega
 have hj:sIx items.size items.size hi<=items.size:=sIx_le _ _ (e_ _) hi;obtain⟨os,hos,hcs,hds⟩:=id hs;have hTs:s.TypeIs (.ref sl) "slice":=⟨os,hos,hcs⟩
 unfold getItem
 try with_reducible refine Lu ?_
 first|refine cy (g_ ?_)|skip
 refine cy (wpAny_sequenceKey ht.typeIs (by decide) ?_)
 refine cy (LB (name:=MX "__getitem__") ht.typeIs J_
  (LY J_ ht.typeIs entry_tuple_getitem ?_ (args_tuple_getitem _ _)))
 show wpAny _ _ (N5 (.ref t) >>= _) _ _ s;refine cy (tupleItemsOf_ ht ?_);refine cy (NT hTs ?_);rw [if_pos (by decide)];refine cy (g9 hs pl pu ?_)
 have hno:¬ ((((sIx items.size 0 lo:Nat):Int) == 0 && (1:Int) == 1 && (sIx items.size items.size hi - sIx items.size 0 lo) == items.size)=true):=by
  intro q;rw [and_eq_true,and_eq_true] at q;have q1:((sIx items.size 0 lo:Nat):Int)=0:=eq_of_beq q.1.1;have q2:sIx items.size items.size hi - sIx items.size 0 lo=items.size:=eq_of_beq q.2;exact hw ⟨by omega,by omega⟩
 show wpAny _ _ (if (((sIx items.size 0 lo:Nat):Int) == 0 && (1:Int) == 1 && (sIx items.size items.size hi - sIx items.size 0 lo) == items.size)=true then _ else _) _ _ s;rw [if_neg hno,Bt]
 first
  | exact cy (m:=My _) (L4 (g_ ⟨_,rfl,g_ h⟩) htake)
  | exact cy (m:=My _) (L4 (cy (g_ (g_ ⟨_,rfl,g_ h⟩))) htake)
  | exact cy (cy (m:=My _) (L4 (g_ (g_ ⟨_,rfl,g_ h⟩)) htake))
  | exact cy (cy (m:=My _) (L4 (g_ ⟨_,rfl,g_ h⟩) htake))
end HT
namespace L2
open PySem PySem.Spec PyProof.Rows
abbrev TO:=St->Hp->(Option Int->Hp->Prop)->Prop
noncomputable def PO(X:Cx)(e:Option Expr)(t:TO):Prop :=
 ∀(pins:List (Addr×Obj)) (s:d_) (σ:St) (H:Hp) (Q:Option Int->Hp->Prop),Inv X pins σ H s->t σ H Q ->
  wpAny (model X.prog X.w) X.A (evalPart e X.env) (λu s'=>∃o H',Inv X pins σ H' s'/\Oz u o/\Q o H') X.xe s
def mO:TO:=λ_ H Q=>Q none H
noncomputable def uA(t:TE):TO:=λσ H Q=>t σ H λx H1=>∃i,x=.int i/\Q (some i) H1
variable {ns:List Int}
def dZ:∀{us:List Value},bP (ns.map V.int) us->Nb us ns:=by
 induction ns with
 | nil=>intro us r;rw [map_nil] at r;cases r;exact .nil
 | cons n ns ih =>
  intro us r;rw [map_cons] at r
  cases r with
  | cons r1 r2 =>
   obtain⟨t,e⟩:=r1;subst e;exact .cons n t (ih r2)
variable {X:Cx}
def bL:PO X none mO:=by
 intro pins s σ H Q I h;rw [evalPart_none];exact g_ ⟨none,H,I,.none,h⟩
variable {e:Expr}{te:TE}
def bt(h:PE X e te):PO X (some e) (uA te):=by
 intro pins s σ H Q I hw;rw [evalPart_some];refine thn (h pins s σ H _ I hw) λu s1 ⟨x,H1,I1,r1,q1⟩=>?_;obtain⟨i,rfl,q⟩:=q1;obtain⟨t,rfl⟩:=r1;exact⟨some i,H1,I1,.int i t,q⟩
variable {lo hi:Option Expr}
noncomputable def SlR(X:Cx)(r:V->Option Int->Option Int->Hp->VK->Prop):Prop :=
 ∀(pins:List (Addr×Obj)) (s:d_) (σ:St) (H:Hp) (x:V) (v vl vu:Value) (lo hi:Option Int) (sl:Addr) (Q:VK),Inv X pins σ H s->cZ x v->s.heap.IsSliceOf sl vl vu .none->Oz vl lo->Oz vu hi->r x lo hi H Q ->
  ∃T id,typeLookup (.type T) "__getitem__"=pure (some (.builtin id))/\s.TypeIs v T/\wpAny (model X.prog X.w) X.A (getItem v (.ref sl)) (EP X pins σ Q) X.xe s
def SlR.or{r r':V->Option Int->Option Int->Hp->VK->Prop}(h:SlR X r)(h':SlR X r'):SlR X (λx lo hi H Q=>r x lo hi H Q\/r' x lo hi H Q):=by
 intro pins s σ H x v vl vu lo hi sl Q I rx hs pl pu q
 rcases q with q|q
 .exact h pins s σ H x v vl vu lo hi sl Q I rx hs pl pu q
 .exact h' pins s σ H x v vl vu lo hi sl Q I rx hs pl pu q
variable {tl th:TO}
noncomputable def tSl(r:V->Option Int->Option Int->Hp->VK->Prop)(te:TE)(tl th:TO):TE:=λσ H Q=>te σ H λx H1=>tl σ H1 λl H2=>th σ H2 λu H3=>r x l u H3 Q
variable {pos p2:Pos}
def bg{r:V->Option Int->Option Int->Hp->VK->Prop}(hr:SlR X r)(he:PE X e te)(hl:PO X lo tl)(hu:PO X hi th):PE X (.Subscript e (.Slice lo hi none p2) pos) (tSl r te tl th):=by
 intro pins s σ H Q I h;refine Subscript_ (thn (he pins s σ H _ I h) λv s1 ⟨x,H1,I1,r1,q1⟩=>?_);refine wpAny_Slice (thn (hl pins s1 σ H1 _ I1 q1) λvl s2 ⟨l,H2,I2,pl,q2⟩=>thn (hu pins s2 σ H2 _ I2 q2) λvu s3 ⟨u,H3,I3,pu,q3⟩=>?_);rw [evalPart_none];refine g_ ?_;have I4:Inv X pins σ H3 { s3 with heap:=s3.heap.push { cls:=.type "slice",data:=.fields #[vl,vu,.none] } }:=I3.kept (t':=s3.toks) λb ob q=>f_ _ q
 obtain⟨T,id,hT,ht,hg⟩:=hr pins { s3 with heap:=s3.heap.push { cls:=.type "slice",data:=.fields #[vl,vu,.none] } } σ H3 x v vl vu l u s3.heap.objs.size Q I4 r1 (Heap.IsSliceOf.new ..) pl pu q3;show wpAny (model X.prog X.w) X.A (subscriptTail e (.Slice lo hi none p2) v (.ref s3.heap.objs.size)) (EP X pins σ Q) X.xe { s3 with heap:=s3.heap.push { cls:=.type "slice",data:=.fields #[vl,vu,.none] } };exact tail_any (ops:=[.ref s3.heap.objs.size,v]) ht hT hg (by with_unfolding_all rfl)
noncomputable def D7(xs:List V)(lo hi:Option Int):List V:=(xs.drop (HT.sIx xs.length 0 lo)).take (HT.sIx xs.length xs.length hi - HT.sIx xs.length 0 lo)
def mP(xs:List V)(lo hi:Option Int):(D7 xs lo hi).length<=xs.length:=by
 unfold D7;rw [length_take,length_drop];omega
noncomputable def Kt(K:b_):V->Option Int->Option Int->Hp->VK->Prop:=λx lo hi H Q=>∃a xs,x=.ref a/\SqT K H a xs /\
 ¬ (HT.sIx xs.length 0 lo=0/\HT.sIx xs.length xs.length hi=xs.length)/\∀p,H p=none->Q (.ref p) (upd H p (.tup (D7 xs lo hi)))
def Gn:SlR X (Kt X.K):=by
 intro pins s σ H x v vl vu lo hi sl Q I rx hs pl pu h;obtain⟨a,xs,rfl,hx,hw,q⟩:=h;cases rx;obtain⟨its,r,ht,hz⟩:=I.tuple hx;have hlen:its.toArray.size=xs.length:=by rw [size_toArray];exact r.length.symm
 refine⟨"tuple",_,J_.lookup,ht.typeIs,?_⟩;refine HT.getItem_tuple_cut ht hs pl pu (by rw [hlen];exact hw) ?_ (by rw [hlen];exact hz);rw [hlen];refine⟨.ref s.heap.objs.size,_,I.laid (t':=s.toks) (o:=.tup (D7 xs lo hi)) (λb ob q=>f_ _ q) (e_ _) ?_,rfl,q _ (I.hok.fresh (e_ _))⟩;exact⟨p_ (mP xs lo hi) hz,_,(r.drop (HT.sIx xs.length 0 lo)).take (HT.sIx xs.length xs.length hi - HT.sIx xs.length 0 lo),IsTup.new _ _⟩
noncomputable def Go(K:b_):R2:=λx y H Q=>∃a b xs ys,x=.ref a/\y=.ref b/\SqT K H a xs/\SqT K H b ys/\xs≠[]/\xs.length+ys.length<=sizeLine /\
 (ys=[]->Q (.ref a) H)/\(ys≠[]->∀p,H p=none->Q (.ref p) (upd H p (.tup (xs++ys))))
variable {xs:List V}{us:List Value}
def bP.nil_iff(r:bP xs us):us=[] ↔ xs=[]:=by
 cases r with
 | nil=>simp
 | cons _ _=>simp
def D8:OpR X (binaryOp .Add) (Go X.K):=by
 intro pins s σ H x y v u Q I rx ry h;obtain⟨a,b,xs,ys,rfl,rfl,ha,hb,hx,hz,q1,q2⟩:=h;cases rx;cases ry;obtain⟨its,r1,p1,_⟩:=I.tuple ha;obtain⟨its2,r2,p2,_⟩:=I.tuple hb;refine HT.cat_tup p1 p2 (λz=>hx (r1.nil_iff.mp z)) (λz=>⟨.ref a,H,I,rfl,q1 (r2.nil_iff.mp z)⟩) (λz=>?_) (by rw [<- r1.length,<- r2.length];exact hz);refine⟨.ref s.heap.objs.size,_,I.laid (t':=s.toks) (o:=.tup (xs++ys)) (λb ob q=>f_ _ q) (e_ _) ?_,rfl,q2 (λw=>z (r2.nil_iff.mpr w)) _ (I.hok.fresh (e_ _))⟩
 exact⟨by rw [length_append];exact hz,_,r1.append r2,IsTup.new _ _⟩
noncomputable def ixN(n:Nat)(i:Int):Option Nat:=if 0<=i then (if i<n then some i.toNat else none) else if -(n:Int)<=i then some (i+n).toNat else none
variable {α:Type}
noncomputable def atI(xs:List α)(i:Int):Option α:=(ixN xs.length i).bind λj=>xs[j]?
variable {n j:Nat}
def uB{i:Int}(h:ixN n i=some j):seqIndex? i n=some j/\j<n/\-(n:Int)<=i/\i<n:=by
 unfold ixN at h
 by_cases h0:0<=i
 .rw [if_pos h0] at h
  by_cases h1:i<n
  .rw [if_pos h1] at h;have e:i.toNat=j:=pf h;exact⟨by rw [seqIndex_of h0 h1,e],by omega,by omega,h1⟩
  .rw [if_neg h1] at h;cases h
 .rw [if_neg h0] at h
  by_cases h1:-(n:Int)<=i
  .rw [if_pos h1] at h;have e:(i+n).toNat=j:=pf h;exact⟨by rw [seqIndex_neg (by omega) h1,e],by omega,h1,by omega⟩
  .rw [if_neg h1] at h;cases h
def uC{xs:List α}{i:Int}{v:α}(h:atI xs i=some v):∃j,seqIndex? i xs.length=some j/\xs[j]?=some v/\j<xs.length/\-(xs.length:Int)<=i/\i<xs.length:=by
 unfold atI at h
 cases e:ixN xs.length i with
 | none=>rw [e] at h;cases h
 | some j =>
  rw [e] at h;obtain⟨h1,h2,h3,h4⟩:=uB e;exact⟨j,h1,h,h2,h3,h4⟩
def D9{xs:List α}{v:α}(h:xs[j]?=some v):atI xs (j:Int)=some v:=by
 have hj:j<xs.length:=(i_.mp h).1
 have e:ixN xs.length (j:Int)=some j:=by
  unfold ixN;rw [if_pos (by omega),if_pos (by omega)];simp
 unfold atI;rw [e];exact h
noncomputable def Ea(b:Expr):Prop:=∀o i,subscripted b false o i=operate [o,i] (getItem o i)
noncomputable def IxR(X:Cx)(r:R2):Prop :=
 ∀(value slice:Expr) (pins:List (Addr×Obj)) (s:d_) (σ:St) (H:Hp) (x y:V) (v u:Value) (Q:VK),Inv X pins σ H s->cZ x v->cZ y u->r x y H Q ->
  subscripted slice false v u=operate [v,u] (getItem v u)->wpAny (model X.prog X.w) X.A (subscriptTail value slice v u) (EP X pins σ Q) X.xe s
noncomputable def MtR(X:Cx)(id:String)(r:V->List V->Hp->VK->Prop):Prop :=
 ∀(pins:List (Addr×Obj)) (s:d_) (σ:St) (H:Hp) (x:V) (xs:List V) (v:Value) (us:List Value) (Q:VK),Inv X pins σ H s->cZ x v->bP xs us->r x xs H Q ->
  wpAny (model X.prog X.w) X.A (call (.builtin id) (v::us)) (EP X pins σ Q) X.xe s
section
variable {r r':R2}
def IxR.or(h:IxR X r)(h':IxR X r'):IxR X (λx y H Q=>r x y H Q\/r' x y H Q):=by
 intro value slice pins s σ H x y v u Q I rx ry q hs
 rcases q with q|q
 .exact h value slice pins s σ H x y v u Q I rx ry q hs
 .exact h' value slice pins s σ H x y v u Q I rx ry q hs
variable {a b:Expr}{ta tb:TE}
def bx(hr:IxR X r)(ha:PE X a ta)(hb:PE X b tb)(hs:Ea b):PE X (.Subscript a b pos) (tOp r ta tb):=by
 intro pins s σ H Q I h;exact Subscript_ (IZ ha hb I h λv u s2 x y H2 I2 rx ry q=>hr a b pins s2 σ H2 x y v u Q I2 rx ry q (hs _ _))
noncomputable def Ku(K:b_):R2:=λx y H Q=>∃p xs i v,x=.ref p/\y=.int i/\SqL K H p xs/\atI xs i=some v/\Q v H
noncomputable def Kv(K:b_):R2:=λx y H Q=>∃p xs i v,x=.ref p/\y=.int i/\SqT K H p xs/\atI xs i=some v/\Q v H
noncomputable def K5:R2:=λx y H Q=>∃z i c,x=.str z/\y=.int i/\z.length<=sizeLine/\atI z.cps.toList i=some c/\Q (.str ⟨#[c]⟩) H
def Eb:IxR X (Ku X.K):=by
 intro value slice pins s σ H x y v u Q I rx ry h hs;obtain⟨p,xs,i,z,rfl,rfl,hq,he,q⟩:=h;cases rx;obtain⟨t,rfl⟩:=ry;obtain⟨its,r,pl,hz⟩:=I.list hq;obtain⟨j,h1,h2,h3,h4,h5⟩:=uC he;obtain⟨w,ew,rw'⟩:=r.get h2;have hl:=r.length;have hn:=mJ;have fin:EP X pins σ Q w s:=⟨z,H,I,rw',q⟩
 by_cases h0:0<=i
 .have hj:i.toNat=j:=by
   rw [seqIndex_of h0 h5] at h1;exact pf h1
  exact item_listR pl.isList h0 (by omega) (by rw [hj];simpa using ew) fin hs
 .have hj:(i+(its.toArray.size:Int)).toNat=j:=by
   rw [seqIndex_neg (by omega) h4] at h1;rw [size_toArray,<- hl];exact pf h1
  exact subscriptTail_builtinR (x:=w) pl.isList.typeIs slot_list_getitem.lookup
   (wpAny_getItem_list_neg (Q:=λr s'=>r=w/\EP X pins σ Q r s') pl.isList (by omega) (by rw [size_toArray] <;> omega) (by omega) (by rw [hj];simpa using ew) ⟨rfl,fin⟩) hs
def Gp:IxR X (Kv X.K):=by
 intro value slice pins s σ H x y v u Q I rx ry h hs;obtain⟨p,xs,i,z,rfl,rfl,hq,he,q⟩:=h;cases rx;obtain⟨t,rfl⟩:=ry;obtain⟨its,r,pl,hz⟩:=I.tuple hq;obtain⟨j,h1,h2,h3,h4,h5⟩:=uC he;obtain⟨w,ew,rw'⟩:=r.get h2;have hl:=r.length;have hn:=mJ;have fin:EP X pins σ Q w s:=⟨z,H,I,rw',q⟩
 exact subscriptTail_builtinR (x:=w) pl.typeIs slot_tuple_getitem.lookup
  (getItem_tuple (j:=j) (Q:=λr s'=>r=w/\EP X pins σ Q r s') pl (by omega) (by omega) (by rw [size_toArray,<- hl];exact h1) (by simpa using ew) ⟨rfl,fin⟩) hs
def Gq:IxR X K5:=by
 intro value slice pins s σ H x y v u Q I rx ry h hs;obtain⟨z,i,c,rfl,rfl,hz,he,q⟩:=h;obtain⟨t,rfl⟩:=rx;obtain⟨t',rfl⟩:=ry;obtain⟨j,h1,h2,h3,h4,h5⟩:=uC he;have hl:z.cps.toList.length=z.length:=by simp [Str.length]
 rw [hl] at h1 h4 h5;have hn:=mJ
 exact tail_any (typeIs_str s z t) slot_str_getitem.lookup (getItem_str (c:=c) (by
  have e1:decide (i < -(2^63:Int))=false:=decide_eq_false (by omega);have e2:decide (i >= 2^63)=false:=decide_eq_false (by omega);rw [e1,e2,Bool.or_false]) (by rw [h1];simpa using h2) ⟨.str ⟨#[c]⟩,H,I.tok _,⟨_,rfl⟩,q⟩) hs
def xJ(its:List Value)(n j:Nat)(u:Value):I_ (·.setIfInBounds j u) { cls:=.type "list",data:=.seq its.toArray n }={ cls:=.type "list",data:=.seq (its.set j u).toArray n }:=by
 simp [I_]
variable {pins:List (Addr×Obj)}{σ:St}{H:Hp}{s:d_}
def Inv.lst{p:Addr}(I:Inv X pins σ H s)(h:H p=some (.lst xs)):
  ∃(its:List Value) (n:Nat),bP xs its/\s.heap.get? p=some { cls:=.type "list",data:=.seq its.toArray n }/\xs.length<=sizeLine:=by
 obtain⟨z,its,n,r,e⟩:=I.hok p _ h;exact⟨its,n,r,e,z⟩
variable {its:List Value}
def Inv.lstUpd{p:Addr}{ys:List V}{its':List Value}{n':Nat}{f:Obj->Obj}(I:Inv X pins σ H s)(h:H p=some (.lst xs))(ho:s.heap.get? p=some { cls:=.type "list",data:=.seq its.toArray n })(hf:f { cls:=.type "list",data:=.seq its.toArray n }={ cls:=.type "list",data:=.seq its'.toArray n' })(r:bP ys its')(hz:ys.length<=sizeLine)(t:Nat):
  Inv X pins σ (upd H p (.lst ys)) { s with heap:=s.heap.update p f,toks:=t }:=by
 have e:(s.heap.update p f).get? p=some { cls:=.type "list",data:=.seq its'.toArray n' }:=by
  rw [Heap.get?_update_self f ho (by rw [hf] <;> rfl),hf]
 refine I.write (x:=p) (e:=p) (by rw [h];trivial) (.inl rfl) (λb u hb q=>(Heap.get?_update_other _ _ (Na hb)).trans q) ⟨_,e⟩ ?_;exact⟨hz,its',n',r,e⟩
noncomputable def Gs:V->V->V->Hp->(Hp->Prop)->Prop:=λo i v H Q=>∃p xs k j,o=.ref p/\i=.int k/\H p=some (.lst xs)/\ixN xs.length k=some j/\Q (upd H p (.lst (xs.set j v)))
def wA:Km X Gs:=by
 intro pins s σ H o i v ov iv u Q I ro ri rv h;obtain⟨p,xs,k,j,rfl,rfl,hp,hj,q⟩:=h;cases ro;obtain⟨t,rfl⟩:=ri;obtain⟨its,n,r,ho,hz⟩:=I.lst hp;obtain⟨h1,h2,h3,h4⟩:=uB hj;have hl:=r.length;have hn:=mJ
 have I':Inv X pins σ (upd H p (.lst (xs.set j v))) { s with heap:=s.heap.update p (I_ (·.setIfInBounds j u)) } :=
  I.lstUpd hp ho (xJ its n j u) (r.set rv j) (by rw [LK];exact hz) s.toks
 by_cases h0:0<=k
 .have hk:k.toNat=j:=by
   rw [seqIndex_of h0 h4] at h1;exact pf h1
  exact PySem.W.ki_setAt ho h0 (by omega) (by rw [size_toArray,<- hl];exact h4) (by rw [hk];exact⟨_,I',q⟩)
 .have hk:(k+(its.toArray.size:Int)).toNat=j:=by
   rw [seqIndex_neg (by omega) h3] at h1;rw [size_toArray,<- hl];exact pf h1
  exact PySem.W.ki_setBack ho (by omega) (by rw [size_toArray,<- hl];exact h3) (by omega) (by rw [hk];exact⟨_,I',q⟩)
def sG(lo hi:Option Int)(n:Nat):(sliceBounds lo hi none n).1=((HT.sIx n 0 lo:Nat):Int)/\(sliceBounds lo hi none n).2.1=((HT.sIx n n hi:Nat):Int)/\(sliceBounds lo hi none n).2.2=1:=by
 refine⟨?_,?_,rfl⟩
 .cases lo with
  | none=>simp [sliceBounds,HT.sIx]
  | some i =>
   simp only [sliceBounds,HT.sIx,Option.getD_none,show (1:Int) > 0 by decide,if_true]
   by_cases h:i<0
   .simp only [h,if_true] <;> omega
   .simp only [h,if_false] <;> omega
 .cases hi with
  | none=>simp [sliceBounds,HT.sIx]
  | some i =>
   simp only [sliceBounds,HT.sIx,Option.getD_none,show (1:Int) > 0 by decide,if_true]
   by_cases h:i<0
   .simp only [h,if_true] <;> omega
   .simp only [h,if_false] <;> omega
def qH(its:List Value)(lo hi:Option Int):slicePick its.toArray lo hi none=((its.drop (HT.sIx its.length 0 lo)).take (HT.sIx its.length its.length hi - HT.sIx its.length 0 lo)).toArray:=by
 obtain⟨h1,h2,h3⟩:=sG lo hi its.toArray.size;unfold slicePick;rw [h1,h2,h3];simp only [sliceRange_one,pick_run,size_toArray] <;> rfl
noncomputable def Kw(K:b_):V->Option Int->Option Int->Hp->VK->Prop:=λx lo hi H Q=>∃a xs,x=.ref a/\SqL K H a xs/\∀p,H p=none->Q (.ref p) (upd H p (.lst (D7 xs lo hi)))
def Ec:SlR X (Kw X.K):=by
 intro pins s σ H x v vl vu lo hi sl Q I rx hs pl pu h;obtain⟨a,xs,rfl,hx,q⟩:=h;cases rx;obtain⟨its,r,ht,hz⟩:=I.list hx;have hlen:=r.length;refine⟨"list",_,slot_list_getitem.lookup,ht.isList.typeIs,?_⟩;refine wpAny_getItem_list_slice ht.isList hs pl pu .none (by simp) ?_ (by rw [size_toArray] <;> omega);rw [qH,<- hlen];refine⟨.ref s.heap.objs.size,_,I.laid (t':=s.toks) (o:=.lst (D7 xs lo hi)) (λb ob q=>f_ _ q) (e_ _) ?_,rfl,q _ (I.hok.fresh (e_ _))⟩
 exact⟨p_ (mP xs lo hi) hz,_,0,(r.drop (HT.sIx xs.length 0 lo)).take (HT.sIx xs.length xs.length hi - HT.sIx xs.length 0 lo),k_ _ rfl⟩
noncomputable def oY:V->Bool
 | .non=>true
 | .bl _=>true
 | .int _=>true
 | .str _=>true
 | _=>false
noncomputable def eqV:V->V->Bool
 | .non,.non=>true
 | .bl a,.bl b=>a == b
 | .bl a,.int b=>(if a then 1 else 0) == b
 | .int a,.bl b=>a == (if b then 1 else 0)
 | .int a,.int b=>a == b
 | .str a,.str b=>a == b
 | _,_=>false
variable {A:A_}{y:V}{u:Value}
def Gu{x:V}{v:Value}(ry:cZ y u)(rx:cZ x v)(fy:oY y=true)(fx:oY x=true):SeqAt.EqAt A s u v (eqV y x):=by
 cases y with
 | non =>
  cases ry
  cases x with
  | non=>cases rx;exact SeqAt.EqAt.same _
  | bl b=>cases rx;exact SeqAt.EqAt.none_bool b
  | int b=>obtain⟨t,rfl⟩:=rx;exact SeqAt.EqAt.none_int b t
  | str b=>obtain⟨t,rfl⟩:=rx;exact SeqAt.EqAt.none_str b t
  | _=>exact absurd (show false=true from fx) l_
 | bl a =>
  cases ry
  cases x with
  | non=>cases rx;exact SeqAt.EqAt.bool_none a
  | bl b=>cases rx;exact SeqAt.EqAt.bool_bool a b
  | int b=>obtain⟨t,rfl⟩:=rx;exact SeqAt.EqAt.bool_int a b t
  | str b=>obtain⟨t,rfl⟩:=rx;exact SeqAt.EqAt.bool_str a b t
  | _=>exact absurd (show false=true from fx) l_
 | int a =>
  obtain⟨t',rfl⟩:=ry
  cases x with
  | non=>cases rx;exact SeqAt.EqAt.int_none a t'
  | bl b=>cases rx;exact SeqAt.EqAt.int_bool a t' b
  | int b=>obtain⟨t,rfl⟩:=rx;exact SeqAt.EqAt.int_int a t' b t
  | str b=>obtain⟨t,rfl⟩:=rx;exact SeqAt.EqAt.int_str a t' b t
  | _=>exact absurd (show false=true from fx) l_
 | str a =>
  obtain⟨t',rfl⟩:=ry
  cases x with
  | non=>cases rx;exact SeqAt.EqAt.str_none a t'
  | bl b=>cases rx;exact SeqAt.EqAt.str_bool a t' b
  | int b=>obtain⟨t,rfl⟩:=rx;exact SeqAt.EqAt.str_int a t' b t
  | str b=>obtain⟨t,rfl⟩:=rx;exact SeqAt.EqAt.str_str a t' b t
  | _=>exact absurd (show false=true from fx) l_
 | _=>exact absurd (show false=true from fy) l_
noncomputable def eqU(x:V)(u:Value):Bool:=match u with
 | .none=>eqV .non x
 | .bool b=>eqV (.bl b) x
 | .int i _=>eqV (.int i) x
 | .str z _=>eqV (.str z) x
 | _=>false
def CN{x:V}(r:cZ y u)(f:oY y=true):eqU x u=eqV y x:=by
 cases y with
 | non=>cases r;rfl
 | bl b=>cases r;rfl
 | int i=>obtain⟨t,rfl⟩:=r;rfl
 | str z=>obtain⟨t,rfl⟩:=r;rfl
 | _=>exact absurd (show false=true from f) l_
theorem mQ{x:V}:∀{xs:List V}{us:List Value},bP xs us->xs.all oY=true->us.any (eqU x)=xs.any λy=>eqV y x
 | _,_,.nil,_=>rfl
 | y::xs,u::us,.cons r t,f=>by
  rw [all_cons,and_eq_true] at f;rw [any_cons,any_cons,CN r f.1,mQ t f.2]
theorem jY{x:V}{v:Value}(rx:cZ x v)(fx:oY x=true):∀{xs:List V}{us:List Value},bP xs us->xs.all oY=true->∀u∈us,SeqAt.EqAt A s u v (eqU x u)
 | _,_,.nil,_=>λu hu=>by cases hu
 | y::xs,u::us,.cons r t,f=>λu' hu=>by
  rw [all_cons,and_eq_true] at f
  rcases C_.mp hu with rfl|hu
  .rw [CN r f.1];exact Gu r rx f.1 fx
  .exact jY rx fx t f.2 u' hu
noncomputable def inV(x:V)(xs:List V):Bool:=xs.any λy=>eqV y x
noncomputable def rIn(K:b_)(neg:Bool):R2:=λx y H Q=>∃p xs,y=.ref p/\(SqL K H p xs\/SqT K H p xs)/\oY x=true/\xs.all oY=true/\Q (.bl (if neg then !inV x xs else inV x xs)) H
def yQ:OpR X (compareOp .In) (rIn X.K false):=by
 intro pins s σ H x y v u Q I rx ry h;obtain⟨p,xs,rfl,hq,fx,fs,q⟩:=h;cases ry
 rcases hq with hq|hq
 .obtain⟨its,r,pl,hz⟩:=I.list hq;refine SeqAt.in_listAt (eqU x) pl.isList (λw hw=>jY rx fx r fs w (by simpa using hw)) ⟨.bl _,H,I,rfl,?_⟩;rw [show its.toArray.any (eqU x)=its.any (eqU x) by simp,mQ r fs];exact q
 .obtain⟨its,r,pl,hz⟩:=I.tuple hq;refine SeqAt.in_tupleAt (eqU x) pl (λw hw=>jY rx fx r fs w (by simpa using hw)) ⟨.bl _,H,I,rfl,?_⟩;rw [show its.toArray.any (eqU x)=its.any (eqU x) by simp,mQ r fs];exact q
def sH:OpR X (compareOp .NotIn) (rIn X.K true):=by
 intro pins s σ H x y v u Q I rx ry h;obtain⟨p,xs,rfl,hq,fx,fs,q⟩:=h;cases ry
 rcases hq with hq|hq
 .obtain⟨its,r,pl,hz⟩:=I.list hq;refine SeqAt.notIn_listAt (eqU x) pl.isList (λw hw=>jY rx fx r fs w (by simpa using hw)) ⟨.bl _,H,I,rfl,?_⟩;rw [show its.toArray.any (eqU x)=its.any (eqU x) by simp,mQ r fs];exact q
 .obtain⟨its,r,pl,hz⟩:=I.tuple hq;refine SeqAt.notIn_tupleAt (eqU x) pl (λw hw=>jY rx fx r fs w (by simpa using hw)) ⟨.bl _,H,I,rfl,?_⟩;rw [show its.toArray.any (eqU x)=its.any (eqU x) by simp,mQ r fs];exact q
def lP:bK X (.builtin "len") (λxs H Q=>∃p ys,xs=[.ref p]/\(SqL X.K H p ys\/SqT X.K H p ys)/\Q (.int ys.length) H):=by
 intro pins s σ H xs us Q I r h;obtain⟨p,ys,rfl,hq,q⟩:=h;obtain⟨u,rfl,rx⟩:=ie r;cases rx;have hn:=mJ
 rcases hq with hq|hq
 .obtain⟨its,r',pl,hz⟩:=I.list hq;have hlen:=r'.length;exact Calls.call_len_list pl.isList (by simp only [size_toArray] <;> omega) ⟨.int ys.length,H,I.tok _,⟨s.toks+1,by rw [size_toArray,hlen]⟩,q⟩
 .obtain⟨its,r',pl,hz⟩:=I.tuple hq;have hlen:=r'.length;exact len_tuple pl (by simp only [size_toArray] <;> omega) ⟨.int ys.length,H,I.tok _,⟨s.toks+1,by rw [size_toArray,hlen]⟩,q⟩
def sI:bK X (.builtin "len") (λxs H Q=>∃z,xs=[.str z]/\z.length<=sizeLine/\Q (.int z.length) H):=by
 intro pins s σ H xs us Q I r h;obtain⟨z,rfl,hz,q⟩:=h;obtain⟨u,rfl,t,rfl⟩:=ie r;have hn:=mJ;exact len_str (by omega) ⟨.int z.length,H,I.tok _,⟨_,rfl⟩,q⟩
def bK.or{f:Value}{r r':List V->Hp->VK->Prop}(h:bK X f r)(h':bK X f r'):bK X f (λxs H Q=>r xs H Q\/r' xs H Q):=by
 intro pins s σ H xs us Q I rs q
 rcases q with q|q
 .exact h pins s σ H xs us Q I rs q
 .exact h' pins s σ H xs us Q I rs q
def sJ:bK X (.type "list") (λxs H Q=>∃p ys,xs=[.ref p]/\(SqL X.K H p ys\/SqT X.K H p ys)/\∀l,H l=none->Q (.ref l) (upd H l (.lst ys))):=by
 intro pins s σ H xs us Q I r h;obtain⟨p,ys,rfl,hq,q⟩:=h;obtain⟨u,rfl,rx⟩:=ie r;cases rx
 have fin:∀(its:List Value),bP ys its->ys.length<=sizeLine->∀(h':Heap) (c':Nat),(∀b o',s.heap.get? b=some o'->h'.get? b=some o') ->
   h'.get? s.heap.objs.size=some { cls:=.type "list",dict:=none,data:=.seq its.toArray c',slots:=#[] }->EP X pins σ Q (.ref s.heap.objs.size) { s with heap:=h' }:=λits r' hz h' c' kp e =>
  ⟨.ref s.heap.objs.size,_,I.laid (t':=s.toks) kp (e_ _) (show cf X.prog X.w _ h' _ (.lst ys) from ⟨hz,its,c',r',e⟩),rfl,q _ (I.hok.fresh (e_ _))⟩
 rcases hq with hq|hq
 .obtain⟨its,r',pl,hz⟩:=I.list hq;have hlen:=r'.length;obtain⟨o,ho,hc,n,hd⟩:=pl.isList;exact call_list_seq p (.inl rfl) ho hc hd (λh' c' kp e=>fin its r' hz h' c' kp e) (by simp only [size_toArray] <;> omega)
 .obtain⟨its,r',pl,hz⟩:=I.tuple hq;have hlen:=r'.length;obtain⟨o,ho,hc,n,hd⟩:=pl;exact call_list_seq p (.inr rfl) ho hc hd (λh' c' kp e=>fin its r' hz h' c' kp e) (by simp only [size_toArray] <;> omega)
def qI:bK X (.type "tuple") (λxs H Q=>∃p ys,xs=[.ref p]/\((SqL X.K H p ys/\∀l,H l=none->Q (.ref l) (upd H l (.tup ys)))\/(SqT X.K H p ys/\Q (.ref p) H))):=by
 intro pins s σ H xs us Q I r h;obtain⟨p,ys,rfl,h⟩:=h;obtain⟨u,rfl,rx⟩:=ie r;cases rx
 rcases h with ⟨hq,q⟩|⟨hq,q⟩
 .obtain⟨its,r',pl,hz⟩:=I.list hq;have hlen:=r'.length;refine call_tuple_list pl.isList (λh' kp=>?_) (by simp only [size_toArray] <;> omega);have I1:Inv X pins σ H { s with heap:=h' }:=I.kept (t':=s.toks) kp
  have I2:Inv X pins σ (upd H h'.objs.size (.tup ys)) { s with heap:=h'.push { cls:=.type "tuple",data:=.seq its.toArray } } :=
   I1.laid (t':=s.toks) (λb o e=>f_ _ e) (e_ _) (show cf X.prog X.w _ _ _ (.tup ys) from ⟨hz,its,r',IsTup.new _ _⟩)
  exact⟨.ref h'.objs.size,_,I2,rfl,q _ (I1.hok.fresh (e_ _))⟩
 .obtain⟨its,r',pl,hz⟩:=I.tuple hq;exact call_tuple_same pl ⟨.ref p,H,I,rfl,q⟩
noncomputable def tyV(K:b_)(T:String)(x:V)(H:Hp):Prop:=match x with
 | .str _=>T="str"
 | .int _=>T="int"
 | .ref p=>(T="list"/\∃xs,SqL K H p xs)\/(T="tuple"/\∃o,K.lookup p=some o/\o.cls=.type "tuple"/\o.dict=none) \/
   (T="dict"/\((∃kvs,H p=some (.dK kvs))\/∃kvs,H p=some (.dT kvs)))\/(T="set"/\∃S n,H p=some (.set S n))
 | _=>False
def CO{T:String}{x:V}{v:Value}(I:Inv X pins σ H s)(r:cZ x v)(ty:tyV X.K T x H):
  s.TypeIs v T/\∀a,v=.ref a->∃ob,s.heap.get? a=some ob/\ob.dict=none:=by
 cases x with
 | str z =>
  obtain⟨t,rfl⟩:=r;cases (show T="str" from ty);exact⟨typeIs_str s z t,λ_ e=>nomatch e⟩
 | int i =>
  obtain⟨t,rfl⟩:=r;cases (show T="int" from ty);exact⟨typeIs_int s i t,λ_ e=>nomatch e⟩
 | ref p =>
  cases r
  rcases ty with ⟨rfl,xs,hq⟩|⟨rfl,o,hk,hc,hd⟩|⟨rfl,hk⟩|⟨rfl,S,n,hk⟩
  .obtain⟨its,_,pl,_⟩:=I.list hq;refine⟨pl.isList.typeIs,λa e=>?_⟩;cases e;obtain⟨o,n,e,c,hd,_⟩:=pl;exact⟨o,e,hd⟩
  .refine⟨⟨o,I.kIn p o hk,hc⟩,λa e=>?_⟩;cases e;exact⟨o,I.kIn _ o hk,hd⟩
  .have z:∃o,s.heap.get? p=some o/\o.ExactDict:=by
    rcases hk with ⟨kvs,hk⟩|⟨kvs,hk⟩
    .obtain⟨_,_,_,_,o,_,_,e,ex,_⟩:=I.hok p _ hk;exact⟨o,e,ex⟩
    .obtain⟨_,_,_,_,o,_,_,e,ex,_⟩:=I.hok p _ hk;exact⟨o,e,ex⟩
   obtain⟨o,e,ex⟩:=z;refine⟨⟨o,e,ex.1⟩,λa e2=>?_⟩;cases e2;exact⟨o,e,ex.2.1⟩
  .obtain⟨o,_,_,_,e,ex,_⟩:=I.hok p _ hk;refine⟨⟨o,e,ex.1⟩,λa e2=>?_⟩;cases e2;exact⟨o,e,ex.2.1⟩
 | _=>exact Mb ty
noncomputable def IL(K:b_)(T:String)(r:V->List V->Hp->VK->Prop)(to:TE):TE:=λσ H Q=>to σ H λx H1=>tyV K T x H1/\r x [] H1 Q
noncomputable def tBM(K:b_)(T:String)(r:V->List V->Hp->VK->Prop)(to:TE)(t:TA):TE:=λσ H Q=>to σ H λx H1=>tyV K T x H1/\t σ H1 λxs H2=>r x xs H2 Q
variable {o:Expr}{to:TE}{name:Str}{apos cpos:Pos}{T id:String}{r:V->List V->Hp->VK->Prop}
def Gv(pa:PlainAttrs T)(slot:Slot T name id)(hty:typeOf (.builtin id)=pure (.type "method_descriptor"))(hm:MtR X id r)(ho:PE X o to)(hbase:attributeBase o name X.env (eval o X.env)=eval o X.env:=by rfl)(hline:(apos.endLine == cpos.line)=true:=by rfl):PE X (.Call (.Attribute o name apos) [] [] cpos) (IL X.K T r to):=by
 intro pins s σ H Q I h;refine wpAny_Call_method0_late hbase hline (thn (ho pins s σ H _ I h) λv s1 ⟨x,H1,I1,r1,ty,q1⟩=>?_);obtain⟨h1,h2⟩:=CO I1 r1 ty;exact⟨T,id,pa,slot,hty,h1,h2,Calls.callWith_builtin rfl (PySem.evalArgs_none (hm pins s1 σ H1 x [] v [] Q I1 r1 .nil q1))⟩
variable {es:List Expr}{t:TA}
def Jg(pa:PlainAttrs T)(slot:Slot T name id)(hty:typeOf (.builtin id)=pure (.type "method_descriptor"))(hm:MtR X id r)(ho:PE X o to)(ha:PA X (e::es) t)(hbase:attributeBase o name X.env (eval o X.env)=eval o X.env:=by rfl)(hfew:((backTo cpos (starEach (e::es) X.env)).all (λx=>!x.1) && (backToKw cpos (keywordEach [] X.env)).all (λx=>x.1.isSome)
   && decide ((e::es).length+([]:List Keyword).length+(if ([]:List Keyword).isEmpty then 0 else 1)<30))=true:=by rfl)(hline:(apos.endLine == cpos.line)=true:=by rfl)(hs:starEach (e::es) X.env=(false,eval e X.env)::starEach es X.env:=by rfl)(hplain:(backTo cpos (starEach es X.env)).any (·.1)=false:=by rfl):
  PE X (.Call (.Attribute o name apos) (e::es) [] cpos) (tBM X.K T r to t):=by
 intro pins s σ H Q I h;refine wpAny_Call_method_late hbase hfew hline rfl (thn (ho pins s σ H _ I h) λv s1 ⟨x,H1,I1,r1,ty,q1⟩=>?_);obtain⟨h1,h2⟩:=CO I1 r1 ty;refine⟨T,id,pa,slot,hty,h1,h2,?_⟩;have hA:=ha cpos pins s1 σ H1 _ I1 q1;rw [hs] at hA ⊢;refine Calls.callWith_builtin (by show (false || (backTo cpos (starEach es X.env)).any (·.1))=false;rw [hplain] <;> rfl) (Calls.evalArgs_plain ?_);exact thn hA λus s2 ⟨vs,H2,I2,r2,q2⟩=>hm pins s2 σ H2 x vs v us Q I2 r1 r2 q2
end
noncomputable def MtM(X:Cx)(id:String)(r:V->List V->Hp->VK->Prop):Prop :=
 ∀(pins:List (Addr×Obj)) (s:d_) (σ:St) (H:Hp) (x:V) (xs:List V) (v:Value) (us:List Value) (Q:VK),Inv X pins σ H s->cZ x v->bP xs us->r x xs H Q ->
  wpAny (model X.prog X.w) X.A (call (.builtin id) (v::us)) (EP X pins σ Q) X.xe s
theorem bP.one:∀{x:V}{us:List Value},bP [x] us->∃u,us=[u]/\cZ x u
 | _,_,.cons r .nil=>⟨_,rfl,r⟩
theorem bP.zero:∀{us:List Value},bP [] us->us=[]
 | _,.nil=>rfl
theorem bP.eraseIdx:∀{xs:List V}{us:List Value} (i:Nat),bP xs us->bP (xs.eraseIdx i) (us.eraseIdx i)
 | _,_,_,.nil=>.nil
 | _,_,0,.cons _ t=>t
 | _,_,i+1,.cons r t=>.cons r (bP.eraseIdx i t)
theorem bP.rep(h:bP xs us):∀k:Nat,bP (q_ k xs).flatten (q_ k us).flatten
 | 0=>.nil
 | k+1=>by
  rw [replicate_succ,replicate_succ,flatten_cons,flatten_cons];exact bP.append h (bP.rep h k)
theorem sK:∀(l:List α) (i:Nat),(l.eraseIdx i).length<=l.length
 | [],_=>e_ _
 | _::_,0=>le_succ _
 | _::r,i+1=>succ_le_succ (sK r i)
theorem sL(its:List Value):∀(k:Nat) (acc:List Value),
  List.foldl (λx1 x2=>x1++x2) acc.toArray (q_ k its.toArray)=(acc++(q_ k its).flatten).toArray
 | 0,acc=>by simp
 | k+1,acc=>by
  have e:acc.toArray++its.toArray=(acc++its).toArray:=by simp
  have e2:(acc++its)++(q_ k its).flatten=acc++(q_ (k+1) its).flatten:=by
   rw [replicate_succ,flatten_cons,append_assoc]
  rw [<- e2,<- sL its k (acc++its),<- e,replicate_succ,foldl_cons]
variable {pins:List (Addr×Obj)}{σ:St}{H:Hp}{s:d_}{l:Addr}{ys:List V}{its:List Value}{t':Nat}
def Inv.lset{its':List Value}{f:Array Value->Array Value}(I:Inv X pins σ H s)(hH:H l=some (.lst xs))(e:s.heap.get? l=some { cls:=.type "list",data:=.seq its.toArray n })(hf:f its.toArray=its'.toArray)(hv:bP ys its')(hz:ys.length<=sizeLine):
  Inv X pins σ (upd H l (.lst ys)) { s with heap:=s.heap.update l (I_ f),toks:=t' }:=by
 have q:=PySem.IsL.update e f;rw [hf] at q;refine I.write (x:=l) (e:=l) (by rw [hH];exact trivial) (.inl rfl) (λb' u hb hu=>(Heap.get?_update_other s.heap (I_ f) (Na hb)).trans hu) ⟨_,q⟩ ?_;exact⟨hz,its',_,hv,q⟩
def Inv.lnew(I:Inv X pins σ H s)(hv:bP ys its)(hz:ys.length<=sizeLine):
  Inv X pins σ (upd H s.heap.objs.size (.lst ys)) { s with heap:=s.heap.push { cls:=.type "list",data:=.seq its.toArray },toks:=t' } :=
 I.laid (λ_ _ q=>f_ _ q) (e_ _) ⟨hz,its,0,hv,k_ _ rfl⟩
def Inv.fresh(I:Inv X pins σ H s):H s.heap.objs.size=none:=I.hok.fresh (e_ _)
def Inv.lstM(I:Inv X pins σ H s)(hH:H l=some (.lst xs)):xs.length<=sizeLine/\∃(its:List Value) (n:Nat),bP xs its/\xs.length=its.length/\s.heap.get? l=some { cls:=.type "list",data:=.seq its.toArray n }:=by
 obtain⟨z,its,n,r,e⟩:=I.hok l _ hH;exact⟨z,its,n,r,r.length,e⟩
def qJ(h:n<=sizeLine):L7 n=false:=by
 unfold L7;exact decide_eq_false (by omega)
noncomputable def yR:V->List V->Hp->VK->Prop:=λx vs H Q=>∃l xs y,x=.ref l/\vs=[y]/\H l=some (.lst xs)/\xs.length<sizeLine/\Q .non (upd H l (.lst (xs++[y])))
def en:MtM X "list.append" yR:=by
 intro pins s σ H x vs v us Q I rx rv h;obtain⟨l,xs,y,rfl,rfl,hH,hz,q⟩:=h;cases rx;obtain⟨u,rfl,ru⟩:=rv.one;obtain⟨z,its,n,r,hl,e⟩:=I.lstM hH;refine N6 F.slot_list_append ⟨_,e,rfl⟩ F.entry_list_append (F.args_list_append_2 _ _) (PySem.list_append l its.toArray n u (by rw [size_toArray];omega)) ⟨e,?_⟩;refine⟨.non,_,I.lset (its':=its++[u]) hH e (by simp) (r.append (.cons ru .nil)) ?_,rfl,q⟩;rw [length_append,length_singleton]
 omega
noncomputable def yS:V->List V->Hp->VK->Prop:=λx vs H Q=>∃l b xs zs,x=.ref l/\vs=[.ref b]/\H l=some (.lst xs)/\H b=some (.lst zs)/\xs.length+zs.length<=sizeLine/\Q .non (upd H l (.lst (xs++zs)))
def yT:MtM X "list.extend" yS:=by
 intro pins s σ H x vs v us Q I rx rv h;obtain⟨l,b,xs,zs,rfl,rfl,hH,hB,hz,q⟩:=h;cases rx;obtain⟨u,rfl,ru⟩:=rv.one;cases ru;obtain⟨z,its,n,r,hl,e⟩:=I.lstM hH;obtain⟨z2,its2,n2,r2,hl2,e2⟩:=I.lstM hB;have hsz:its.toArray.size+its2.toArray.size<=sizeLine:=by rw [size_toArray,size_toArray];omega
 have hlong:¬ (!its.toArray.isEmpty && L7 (its.toArray.size+its2.toArray.size))=true:=by
  rw [qJ hsz,N7];exact l_
 refine N6 F.slot_list_extend ⟨_,e,rfl⟩ F.entry_list_extend (F.args_list_extend_2 _ _)
  (AutoSeq1.list_extend_list_list_0 l its.toArray n b its2.toArray n2 hlong (by rw [size_toArray];omega) (by omega)) ⟨e,e2,?_⟩
 refine⟨.non,_,I.lset (its':=its++its2) hH e (by simp) (r.append r2) ?_,rfl,q⟩;rw [length_append];omega
noncomputable def CP:V->List V->Hp->VK->Prop:=λx vs H Q=>∃l xs i k y,x=.ref l/\vs=[.int i]/\H l=some (.lst xs)/\-(2^63)<=i/\i<2^63/\seqIndex? i xs.length=some k/\xs[k]?=some y/\Q y (upd H l (.lst (xs.eraseIdx k)))
def Bu:MtM X "list.pop" CP:=by
 intro pins s σ H x vs v us Q I rx rv h;obtain⟨l,xs,i,k,y,rfl,rfl,hH,h1,h2,hk,hy,q⟩:=h;cases rx;obtain⟨u,rfl,ru⟩:=rv.one;obtain⟨t,rfl⟩:=ru;obtain⟨z,its,n,r,hl,e⟩:=I.lstM hH;obtain⟨w,hw,rw'⟩:=r.get hy
 refine N6 F.slot_list_pop ⟨_,e,rfl⟩ F.entry_list_pop (F.args_list_pop_2 _ _)
  (MeetsSeq.list_pop_at l its.toArray n i t k w (fitsIndex_both h1 h2) (by rw [size_toArray,<- hl];exact hk) (by rw [<- Array.getElem?_toList];exact hw) (by rw [size_toArray];omega)) ⟨e,?_⟩
 refine⟨y,_,I.lset (its':=its.eraseIdx k) hH e ?_ (r.eraseIdx k) ?_,rw',q⟩
 .show its.toArray.eraseIdxIfInBounds k=(its.eraseIdx k).toArray;rw [eraseIdxIfInBounds_toArray]
 .have:=sK xs k;omega
noncomputable def Kx:R2:=λx y H Q=>∃l k xs,x=.ref l/\y=.int k/\H l=some (.lst xs)/\-(2^63)<=k/\k<2^63/\xs.length*k.toNat<=sizeLine /\
 ∀p,H p=none->Q (.ref p) (upd H p (.lst (q_ k.toNat xs).flatten))
def Ed(xs:List α)(k:Nat):(q_ k xs).flatten.length=k*xs.length:=by
 induction k with
 | zero=>simp
 | succ k ih=>rw [replicate_succ,flatten_cons,length_append,ih,succ_mul,Nat.add_comm]
def Gw:OpR X (binaryOp .Mult) Kx:=by
 intro pins s σ H x y v u Q I rx ry h;obtain⟨l,k,xs,rfl,rfl,hH,h1,h2,hz,q⟩:=h;cases rx;obtain⟨t,rfl⟩:=ry;obtain⟨z,its,n,r,hl,e⟩:=I.lstM hH;have hlen:its.toArray.size*k.toNat<=sizeLine:=by rw [size_toArray,<- hl];exact hz
 have hcap:¬ its.toArray.size*k.toNat > (2^63 - 1) / 8:=by
  have:(sizeLine:Nat)<=(2^63 - 1) / 8:=by decide
  omega
 have hfit:¬ (!Builtin.List.listFitsIndex k)=true:=by
  rw [fitsIndex_both h1 h2];exact l_
 have hlong:¬ L7 (its.toArray.size*k.toNat)=true:=by
  rw [qJ hlen];exact l_
 have hnew:List.foldl (λx1 x2=>x1++x2) #[] (q_ (if its.toArray.isEmpty=true then 0 else k.toNat) its.toArray)=(q_ k.toNat its).flatten.toArray:=by
  have f0:∀m:Nat,List.foldl (λx1 x2=>x1++x2) #[] (q_ m its.toArray)=(q_ m its).flatten.toArray:=λm=>by
   have:=sL its m [];rw [nil_append] at this;exact this
  rw [f0]
  cases its with
  | nil=>simp
  | cons a r'=>rw [if_neg (by simp)]
 refine wpAny_binaryOp_repeat_ref (T:="list") (U:="int") (by decide) ⟨_,e,rfl⟩ (λs'=>typeIs_int s' k t) noFill_list_mul F.fills_int_mul F.slot_int_rmul repeat_list F.slot_int_index.lookup
  (N6 F.slot_int_rmul (typeIs_int s k t) F.entry_int_rmul (F.args_int_rmul_2 _ _) (int___rmul___int_list k t l its.toArray n)
   ⟨e,rfl,⟨_,e,rfl⟩,N6 F.slot_list_mul ⟨_,e,rfl⟩ F.entry_list_mul (F.args_list_mul_2 _ _) (AutoListH.list___mul___list_int_3 l its.toArray n k t hfit hcap hlong) ⟨e,?_⟩⟩)
 rw [hnew];exact⟨.ref _,_,I.lnew (t':=s.toks) (r.rep k.toNat) (by rw [Ed,MY];exact hz),rfl,q _ I.fresh⟩
end L2
namespace Att
open PySem PySem.W PySem.Calls PyProof.Rows
variable {h:Heap}
def mR{P:NZ}:∀(ns:List Int) (vs:List Value),WellAll P h vs (ns.map WData.int)->Nb vs ns:=by
 intro ns
 induction ns with
 | nil =>
  intro vs w;rw [map_nil] at w;cases w;exact .nil
 | cons n ns ih =>
  intro vs w;rw [map_cons] at w
  cases w with
  | cons a b =>
   cases a;exact .cons _ _ (ih _ b)
variable {n:Nat}
def yU{l:OpenLaw}(hn:l.most=some n){P:NZ}{args:List WData}{vals:List Value}(hpre:l.row.toRowW.claim.pre args=true)(hwl:WellAll P h vals args):
  ∃a vs ns,vals=[n_ a]/\args=[WData.list (ns.map WData.int)]/\h.get? a=some { cls:=.type "list",data:=.seq vs.toArray }/\Nb vs ns/\ns.length<=n:=by
 have hsh:WShape.hasAll [] args [.list .int]=true:=(pre_splitW hpre).1;have hc:l.pre.holds [] { args:=args }=true:=(pre_splitW hpre).2;obtain⟨d,r,rfl,h1,h2⟩:=hasAllW_cons hsh;obtain rfl:=hasAllW_nil h2;obtain⟨xs,rfl,h3⟩:=hasW_list h1;obtain⟨ns,rfl⟩:=items_int h3
 have hlen:ns.length<=n:=by
  unfold OpenLaw.pre at hc
  have h4:(WTm.not (.lt (.lit (.int (n:Int))) (.len (.arg 0)))).holds [] { args:=[.list (ns.map .int)] }=true:=by
   have h4:=(holds_andW hc).1;rw [hn] at h4;exact h4
  have h5:=condW_of h4 (w_not (w_lt w_lit (w_len_list (w_arg rfl))));rw [length_map] at h5;refine le_of_not_lt λq=>?_;have q':(n:Int)<((ns.length:Nat):Int):=by omega
  first
   | (rw [decide_eq_true q'] at h5;exact absurd h5 (by decide))
   | (simp at h5;omega)
 cases hwl with
 | cons w1 w2 =>
  cases w2
  cases w1 with
  | list ho hall=>exact⟨_,_,ns,rfl,rfl,ho,mR ns _ hall,hlen⟩
def yV(l:OpenLaw)(args:List WData):l.row.toRowW.claim.post args (.bool true) args=true :=
 postW_of (r:=l.row.toRowW) (X:=(true == true))
  (show WShape.has [] (.bool true) .bool=true by first|rfl|decide|simp [WShape.has,WShape.arms,WShape.armsAll])
  (show (WTm.eq .res (.lit (.bool true))).value [] { args:=args,res:=some (.bool true),after:=args }=some (.bool (true == true)) from w_eq_bool (w_res rfl) w_lit) rfl
variable {q:tj}{loose:List Str}
def attach_call{l:OpenLaw}{XP:(Str->Option Value)->Heap->Prop}{YP:World->Heap->Prop}{d:DefRec}(hn:l.most=some n)(hdf:d.params.defaults=[])(call:∀(w:World) (s₀ s₁:d_) (mg mb:Str->Option Value) (fa:Addr) (o:Obj) (pm cd doc:Value) (a:Addr) (vs:List Value) (ns:List Int),
   Ground q loose [] XP w s₀ mg mb s₁.heap->YP w s₁.heap ->
   s₁.heap.get? fa=some o->o.data=.func (docDef d.name d.params d.body d.scope pm cd doc)->s₁.heap.CodeRec cd d.name->mg d.name=some (.ref fa) ->
   s₁.heap.get? a=some { cls:=.type "list",data:=.seq vs.toArray }->Nb vs ns->ns.length<=n->s₁.gens=#[] ->
   codeAny (model l.prog w) callerA (.call (.ref fa) ⟨[.ref a],[]⟩) (λr s'=>r=.ok (.ret (.bool true))/\OldK s₁.heap s'.heap/\s'.os=s₁.os/\Of s'.gens) s₁):
  WalkO q loose XP YP l.row.toRowW d [] (λf vs=>PySem.call f vs):=by
 intro w s₀ s₁ mg mb G Y fa o pm cd doc dV kV ho hd hcd hD hmg hg args vals as hpre hlay hrd hwl hlo;obtain rfl:dV=.none:=Dflts.none hD hdf;obtain rfl:kV=.none:=Dflts.noKw hD;obtain⟨a,vs,ns,rfl,rfl,hobj,hints,hlen⟩:=yU hn hpre hwl;refine enter_call (Ox (call w s₀ s₁ mg mb fa o pm cd doc a vs ns G Y ho (fd_plain hd) hcd hmg hobj hints hlen hg) λr s' hq=>?_);obtain⟨rfl,h2,h3,h4⟩:=hq;exact⟨.inl ⟨.bool true,.bool true,[],rfl,λ_=>rfl,.bool true,yV l _,λ_=>⟨Nw,λ_ hm=>(nomatch hm)⟩⟩,h2,h3,h4⟩
end Att
namespace L2
open PySem PySem.Spec PyProof.Rows
theorem jZ:∀{vs:List Value}{ns:List Int},Nb vs ns->bP (ns.map V.int) vs
 | _,_,.nil=>.nil
 | _,_,.cons n t h=>.cons ⟨t,rfl⟩ (jZ h)
noncomputable def Jh(H:Hp):Prop:=∀b,H b=none\/∃o xs,H b=some (.frz o (.lst xs))
variable {w:World}{K:b_}{mg:Str->Option Value}{k:Nat}{fd:L1}{x:Str}{ns:List Int}
def Bv{P:tj}{mb:Str->Option Value}{CX:CXT}{fa a:Addr}{sp:Sp}{s₁:d_}{vs:List Value}(KX:K.In s₁.heap)(hns:s₁.heap.Ns mainGlobals mg)(hb:s₁.heap.Ns builtinsNs mb)(hbb:∀x:Str,x≠"__name__"->mb x=bootBuiltins x)(hlim:s₁.heap.NoLimit)(hg:s₁.gens=#[])(ha:s₁.heap.get? a=some { cls:=.type "list",data:=.seq vs.toArray })(hi:Nb vs ns)(hl:ns.length<=sizeLine)(hr:fJ k callerA)(F:∀base:Heap,K.In base->base.Ns mainGlobals mg->qG P w K mg base CX k fa fd [x] sp)(hbind:∀(s:d_) (u:Value),Ow s fd ⟨[u],[]⟩ [(x,u)])(hsp:∀H:Hp,Jh H->SqL K H a (ns.map V.int)->sp [.ref a] H (λv _=>v=.bl true) λ_ _ _=>False)(hCX:∀H e s',CX [] H s₁ (λ_ _ _=>False) e s'->False):
  codeAny (model P w) callerA (.call (.ref fa) ⟨[.ref a],[]⟩) (λr s'=>r=.ok (.ret (.bool true))/\OldK s₁.heap s'.heap/\s'.os=s₁.os/\Of s'.gens) s₁:=by
 have rv:=jZ hi;have lenV:=hi.length
 -- from an abstract heap in which nothing but the script may be tracked
 have core:∀H:Hp,Jh H->SqL K H a (ns.map V.int)->HOk P w H s₁.heap->(∀b,H b≠none->b=a)->(H a≠none->K.lookup a=none) ->
   codeAny (model P w) callerA (.call (.ref fa) ⟨[.ref a],[]⟩) (λr s'=>r=.ok (.ret (.bool true))/\OldK s₁.heap s'.heap/\s'.os=s₁.os/\Of s'.gens) s₁:=by
  intro H hO hS hok hA hK;have base_of:∀{b:Addr}{o:Obj},s₁.heap.get? b=some o->H b=none->(FT s₁.heap H).get? b=some o:=λe n=>Be e n
  have noA:∀{b:Addr}{o:Obj}{es:Array OZ}{ep:Nat},s₁.heap.get? b=some o->o.data=.dict es ep->H b=none:=λ{b o es ep} e d=>by
   cases q:H b with
   | none=>rfl
   | some u =>
    have e':b=a:=hA b (by rw [q];simp);subst e';rw [ha] at e;cases e;have d':Data.seq vs.toArray _=Data.dict es ep:=d;cases d'
  have nsK:∀{b:Addr}{m:Str->Option Value},s₁.heap.Ns b m->(FT s₁.heap H).Ns b m:=λ{b m} ⟨o,es,ep,e,d,r⟩=>⟨o,es,ep,base_of e (noA e d),d,r⟩
  have hKb:K.In (FT s₁.heap H):=λb o e=>base_of (KX b o e) (by
   cases q:H b with
   | none=>rfl
   | some u =>
    have e':b=a:=hA b (by rw [q];simp);subst e';rw [hK (by rw [q];simp)] at e;cases e)
  have hM:Mod K mg (FT s₁.heap H):=⟨hKb,nsK hns,⟨mb,nsK hb,hbb⟩,let ⟨mc,h1,h2⟩:=hlim;⟨mc,nsK h1,h2⟩⟩
  have e0:D4 P w K mg (FT s₁.heap H) callerA [] s₁ H:=⟨rfl,hM,λb o e=>DQ e,N3 (yu _ _),trivial,λb hb=>absurd (show b∈([]:List Addr) from hb) (by simp),hok,.of_eq hg,λ_ _ z=>nomatch (show ([]:List Addr)=_ from z)⟩
  refine Ox ((F _ hKb (nsK hns)).run callerA [] s₁ H ⟨[.ref a],[]⟩ [.ref a] [.ref a] _ _ hr e0 (hbind s₁ (.ref a)) (.cons rfl .nil) (hsp H hO hS)) λr s' h=>?_
  cases r with
  | error e=>exact (hCX H e s' h).elim
  | ok fl =>
   cases fl with
   | next=>exact Mb h
   | brk=>exact Mb h
   | cont=>exact Mb h
   | ret u =>
    obtain⟨v,H',os,bare,un,hok',r',q⟩:=h;have q':v=.bl true:=q;subst q';obtain rfl:u=Mv true:=r';refine⟨rfl,OldK.of_keep λb o e=>?_,os,bare⟩
    cases q:H b with
    | none=>exact un.keep b o e q (by intro z;exact absurd (show b∈([]:List Addr) from z) (by simp)) (by simp)
    | some u =>
     rcases hO b with z|⟨ob,xs,z⟩
     .rw [q] at z;cases z
     .have z2:=un.frzs b ob _ z;obtain⟨e1,_⟩:=hok b _ z;obtain⟨e2,_⟩:=hok' b _ z2;rw [e] at e1;cases e1;exact e2
 cases hk:K.lookup a with
 | some o =>
  -- the script is one of the module's own objects
  have e:=KX a o hk;rw [ha] at e;cases e;refine core (λ_=>none) (λ_=>.inl rfl) (.inr ⟨_,vs.toArray,_,hk,rfl,rfl,rfl,by rw [size_toArray,lenV];exact hl,by simpa using rv⟩) (λb u z=>by have z':(none:Option HO)=some u:=z;cases z') (λb z=>absurd rfl z) λz=>absurd rfl z
 | none =>
  refine core (λb=>if b=a then some (.frz { cls:=.type "list",data:=.seq vs.toArray } (.lst (ns.map V.int))) else none) (λb=>?_) (.inl (.inr ⟨{ cls:=.type "list",data:=.seq vs.toArray },if_pos rfl⟩)) (λb u z=>?_) (λb z=>?_) λ_=>hk
  .by_cases hb:b=a
   .exact .inr ⟨_,_,if_pos hb⟩
   .exact .inl (if_neg hb)
  .by_cases hb:b=a
   .have z':=(if_pos hb).symm.trans z;cases z';subst hb;exact⟨ha,by rw [length_map];exact hl,vs,_,rv,ha⟩
   .have z':=(if_neg hb).symm.trans z;cases z'
  .by_cases hb:b=a
   .exact hb
   .exact absurd (if_neg hb) z
variable {n:Nat}{q:tj}{loose:List Str}
def Ee{l:OE}{XP:(Str->Option Value)->Heap->Prop}{YP:World->Heap->Prop}{d:DefRec}{K:NZ->b_}{CX:World->CXT}{sp:World->Sp}(hn:l.most=some n)(hn2:n<=sizeLine)(hdf:d.params.defaults=[])(hr:fJ k callerA)(hY:∀(w:World) (h:Heap),YP w h->(K w.params).In h)(F:∀(w:World) (mg:Str->Option Value) (fa:Addr) (h:Heap),(K w.params).In h->h.Ns mainGlobals mg->mg d.name=some (.ref fa) ->
   ∃fd:L1,(∀(s:d_) (u:Value),Ow s fd ⟨[u],[]⟩ [(x,u)]) /\
    ∀base:Heap,(K w.params).In base->base.Ns mainGlobals mg->qG l.prog w (K w.params) mg base (CX w) k fa fd [x] (sp w))(hsp:∀(w:World) (H:Hp) (a:Addr) (ns:List Int),ns.length<=n->Jh H->SqL (K w.params) H a (ns.map V.int)->sp w [.ref a] H (λv _=>v=.bl true) λ_ _ _=>False)(hCX:∀(w:World) (H:Hp) (s:d_) (e:Value) (s':d_),CX w [] H s (λ_ _ _=>False) e s'->False):
  PySem.W.WalkO q loose XP YP l.row.toRowW d [] (λf vs=>PySem.call f vs):=by
 refine Att.attach_call hn hdf λw s₀ s₁ mg mb fa o pm cd doc a vs ns G Y ho hd hcd hmg hobj hints hlen hg=>?_;have KX:=hY w _ Y;obtain⟨fd,hb,hF⟩:=F w mg fa _ KX G.T.g hmg;exact Bv KX G.T.g G.T.b G.T.builtins G.T.nolimit hg hobj hints (p_ hlen hn2) hr hF hb (λH hO hS=>hsp w H a ns hlen hO hS) λH e s'=>hCX w H s₁ e s'
noncomputable def uD(s:Stmt)(j:Nat):Stmt:=match s with
 | .ClassDef _ _ _ body _ _ _ _ _ _ _=>body.getD j (.Pass ⟨0,0,0,0⟩)
 | _=>.Pass ⟨0,0,0,0⟩
noncomputable def bQ(s:Stmt):Arguments:=match s with
 | .FunctionDef _ a _ _ _ _ _ _ _ _=>a
 | _=>{ posonlyargs:=[],args:=[],vararg:=none,kwonlyargs:=[],kw_defaults:=[],kwarg:=none,defaults:=[] }
noncomputable def bi(s:Stmt):List Stmt:=match s with
 | .FunctionDef _ _ b _ _ _ _ _ _ _=>b
 | _=>[]
noncomputable def af(s:Stmt):Scope:=match s with
 | .FunctionDef _ _ _ _ _ _ sc _ _ _=>sc
 | _=>{ kind:=.function,names:=[],isGenerator:=false,isCoroutine:=false }
abbrev CX0:CXT:=λ_ _ _ _ _ _=>False
abbrev E0:XK:=λ_ _ _=>False
variable {X:Cx}
def Bw:p9 CX0 X E0:=λ_ _ _ _ _ _ _ h=>h.elim
structure Fun (K:b_) (x qual:Str) (st:Stmt) (f:Addr) (fd:L1):Prop where
 ex:∃(oc:Value) (od:Option Addr) (kV doc pm:Value) (an:Option Addr) (cdv ct:Value) (osl:Array (Option Value)),
  fd=B_ x qual (bQ st) (bi st) (af st) .none kV doc pm an cdv ct/\K.lookup f=some ⟨oc,od,.func fd,osl⟩/\Lx K cdv qual=true
 kp:x_ K (.ref f)=true
section
variable {P:tj}{base:Heap}{qual:Str}{st:Stmt}{f:Addr}{N:List Str}
def Fun.ok{ps:List Str}{sp:Sp}(F:Fun K x qual st f fd)(S:au N ps (af st))(len:∀vs H Q E,sp vs H Q E->vs.length=ps.length)(hbody:∀(cdv:Value) (A:A_) (outer:List Env) (s:d_) (H:Hp) (vs:List V) (Q:VK) (E:XK),fJ k (A.deeper (envOfC qual (af st) s.heap.objs.size f cdv))->sp vs H Q E ->
   ∃t,PSs (wy CX0 P w K mg base N qual (af st) f cdv A outer s H E).nox (bi st) t/\t { nx:=λ_ H'=>Q .non H',rt:=Q } (start N vs) H):qG P w K mg base CX0 (k+1) f fd ps sp:=by
 obtain⟨oc,od,kV,doc,pm,an,cdv,ct,osl,rfl,lk,hcd⟩:=F.ex;refine Gm lk hcd S len λA outer s H vs Q E hr hsp=>?_;obtain⟨t,h,q⟩:=hbody cdv A outer s H vs Q E hr hsp;exact⟨t,h.nox,q⟩
def Fun.binds{ps:List Str}(F:Fun K x qual st f fd)(h:∀(kV doc pm:Value) (an:Option Addr) (cdv ct:Value) (us:List Value),us.length=ps.length->bindArgs (B_ x qual (bQ st) (bi st) (af st) .none kV doc pm an cdv ct) ⟨us,[]⟩=pure (ps.zip us)):md K fd ps []:=by
 obtain⟨oc,od,kV,doc,pm,an,cdv,ct,osl,rfl,lk,hcd⟩:=F.ex;exact .all (h kV doc pm an cdv ct)
variable {oc:Value}{od an:Option Addr}{pm ct:Value}
def wB{osl:Array (Option Value)}{kV doc cdv:Value}(l:K.lookup f=some ⟨oc,od,.func (B_ x qual (bQ st) (bi st) (af st) .none kV doc pm an cdv ct),osl⟩)(c:Lx K cdv qual=true)(k:x_ K (.ref f)=true):Fun K x qual st f (B_ x qual (bQ st) (bi st) (af st) .none kV doc pm an cdv ct):=⟨⟨oc,od,kV,doc,pm,an,cdv,ct,osl,rfl,l,c⟩,k⟩
end
variable {pos:Pos}
theorem pv(i:Nat)(hN:X.N[i]?=some x:=by rfl)(hv:Vis X.env.scope x:=by first|exact Or.inl rfl|exact Or.inr (Or.inl rfl)|exact Or.inr (Or.inr rfl))(hd:(x == ("__debug__":Str))=false:=by decide)(hcd:(x == ("__classdict__":Str))=false:=by decide):PE X (.Name x pos) (aF i):=FU hN hv hd hcd
def S(l:List Nat):Str:=⟨l.toArray⟩
def fL(l:List Nat):(S l).length=l.length:=by simp [S,Str.length]
def Bx(a b:List Nat):S a++S b=S (a++b):=by
 show (⟨a.toArray++b.toArray⟩:Str)=⟨(a++b).toArray⟩
 rw [append_toArray]
variable {a b:List Nat}
def Gx(h:S a=S b):a=b:=by
 have h':=congrArg (λx:Str=>x.cps.toList) h;simpa [S] using h'
def K6(h:a≠b):S a≠S b:=λe=>h (Gx e)
def Gy:V.str (S a)=V.str (S b) ↔ a=b:=⟨λh=>Gx (V.str.inj h),λh=>by rw [h]⟩
def Gz(a b:List Nat):decide (V.str (S a)=V.str (S b))=decide (a=b):=by
 by_cases h:a=b
 .rw [decide_eq_true h,decide_eq_true (Gy.mpr h)]
 .rw [decide_eq_false h,decide_eq_false (λz=>h (Gy.mp z))]
variable {α:Type}
noncomputable def dg(xs:List α)(lo hi:Option Int):List α:=(xs.drop (HT.sIx xs.length 0 lo)).take (HT.sIx xs.length xs.length hi - HT.sIx xs.length 0 lo)
def br(xs:List α)(lo hi:Option Int):(dg xs lo hi).length<=xs.length:=by
 unfold dg;rw [length_take,length_drop];omega
def yW(xs:List V)(lo hi:Option Int):D7 xs lo hi=dg xs lo hi:=rfl
def GA(lo hi:Option Int)(n:Nat):Md lo hi 1 n=(c_ (HT.sIx n n hi - HT.sIx n 0 lo)).map (λk=>HT.sIx n 0 lo+k):=by
 have key:∀(o:Option Int) (d:Nat),d<=n->(match o with|none=>(d:Int)|some i=>max 0 (min (if i<0 then i+(n:Int) else i) (n:Int)))=((HT.sIx n d o:Nat):Int):=by
  intro o d hd
  cases o with
  | none=>rfl
  | some i =>
   show max 0 (min (if i<0 then i+(n:Int) else i) (n:Int))=_;rw [<- HT.clip_eq i n d]
   by_cases h:i<0
   .rw [if_pos h,if_pos h];omega
   .rw [if_neg h,if_neg h];omega
 have k1:=key lo 0 (K_ _);have k2:=key hi n (e_ _);unfold Md;simp only [show (1:Int) > 0 by decide,if_true];refine Eq.trans (congrArg (λa=>sliceRange a _ 1) k1) (Eq.trans (congrArg (λb=>sliceRange _ b 1) k2) ?_);unfold sliceRange;simp only [show (1:Int) > 0 by decide,if_true];generalize HT.sIx n 0 lo=a;generalize HT.sIx n n hi=b
 have ec:(if (a:Int)<(b:Int) then ((b:Int) - (a:Int)+1 - 1) / 1 else 0).toNat=b - a:=by
  split <;> omega
 rw [ec];apply MD;intro k _;omega
def yX(l:List α)(a m:Nat):((c_ m).map (λk=>a+k)).filterMap (λi=>l[i]?)=(l.drop a).take m:=by
 induction m generalizing a with
 | zero=>simp
 | succ m ih =>
  rw [range_succ_eq_map,map_cons,map_map,Nn];have e:((λk=>a+k) ∘ Nat.succ)=λk=>(a+1)+k:=by funext k;simp;omega
  rw [e,ih (a+1)]
  cases h:l[a+0]? with
  | none =>
   have hl:l.length<=a:=by simpa using List.getElem?_eq_none_iff.mp h
   rw [MR hl,MR (by omega)];simp
  | some v =>
   have hl:a<l.length:=by simpa using (i_.mp h).1
   have hv:l[a]=v:=by simpa using (i_.mp h).2
   rw [drop_eq_getElem_cons hl,hv];rfl
def Ef(l:List Nat)(lo hi:Option Int):Txt.slice (S l) lo hi=S (dg l lo hi):=by
 have e1:(Md lo hi 1 (S l).length).filterMap ((S l).cps[·]?)=dg l lo hi:=by
  rw [GA,fL];have e:(λi:Nat=>(S l).cps[i]?)=λi:Nat=>l[i]?:=by funext i;simp [S]
  rw [e];exact yX l _ _
 unfold Txt.slice
 split
 .rename_i h;have h2:(Md lo hi 1 (S l).length).length=(S l).length:=by simpa using h
  rw [GA,fL,length_map,length_range] at h2;have a0:=HT.sIx_le l.length 0 (K_ _) lo;have b0:=HT.sIx_le l.length l.length (e_ _) hi;unfold dg
  by_cases hz:l.length=0
  .have:l=[]:=LW.mp hz;subst this;simp
  .have ha:HT.sIx l.length 0 lo=0:=by omega
   have hb:HT.sIx l.length l.length hi=l.length:=by omega
   rw [ha,hb];simp
 .rw [e1];rfl
def dI(l:List α)(k:Nat):dg l none (some (k:Int))=l.take k:=by
 unfold dg;rw [HT.sIx_nat];show (l.drop 0).take (min k l.length - 0)=l.take k;rw [drop_zero,MZ]
 by_cases h:k<=l.length
 .rw [Nj h]
 .rw [OA (by omega),LN (e_ _),LN (by omega)]
def fM(l:List α)(k:Nat):dg l (some (k:Int)) none=l.drop k:=by
 unfold dg;rw [HT.sIx_nat];show (l.drop (min k l.length)).take (l.length - min k l.length)=l.drop k
 by_cases h:k<=l.length
 .rw [Nj h,LN (by rw [length_drop];exact e_ _)]
 .rw [OA (by omega),sub_self,take_zero,MR (by omega)]
def sM(l:List α)(i j:Nat):dg l (some (i:Int)) (some (j:Int))=(l.drop i).take (j - i):=by
 unfold dg;rw [HT.sIx_nat,HT.sIx_nat]
 by_cases h:i<=l.length
 .rw [Nj h]
  by_cases h2:j<=l.length
  .rw [Nj h2]
  .rw [OA (by omega),LN (by rw [length_drop];omega),LN (by rw [length_drop];omega)]
 .have e:min i l.length=l.length:=OA (by omega);rw [e,MR (e_ _),MR (by omega),take_nil,take_nil]
noncomputable def Ky:V->Option Int->Option Int->Hp->VK->Prop:=λx lo hi H Q=>∃l,x=.str (S l)/\l.length<=sizeLine/\Q (.str (S (dg l lo hi))) H
def GB:SlR X Ky:=by
 intro pins s σ H x v vl vu lo hi sl Q I rx hs pl pu h;obtain⟨l,rfl,hz,q⟩:=h;obtain⟨t,rfl⟩:=rx;refine⟨"str",_,slot_str_getitem.lookup,typeIs_str s _ t,?_⟩
 obtain⟨l',hl',el⟩:∃l':Option (Int×Tok),vl=partValue l'/\l'.map (·.1)=lo:=by
  cases pl with
  | none=>exact⟨none,rfl,rfl⟩
  | int i t=>exact⟨some (i,t),rfl,rfl⟩
 obtain⟨u',hu',eu⟩:∃l':Option (Int×Tok),vu=partValue l'/\l'.map (·.1)=hi:=by
  cases pu with
  | none=>exact⟨none,rfl,rfl⟩
  | int i t=>exact⟨some (i,t),rfl,rfl⟩
 subst hl' hu';refine wpAny_getItem_str_slice (l:=l') (u:=u') (st:=none) hs rfl ?_;have hm:∀t' k,EP X pins σ Q (.str (Txt.slice (S l) lo hi) t') { s with toks:=k }:=λt' k=>⟨.str (S (dg l lo hi)),H,I.tok _,⟨t',by rw [Ef]⟩,q⟩
 have hlen:(Txt.slice (S l) lo hi).length<=sizeLine:=p_ (Txt.slice_le _ _ _) (by rw [fL];exact hz);subst el eu;exact post_val_or_str ⟨hlen,hm⟩
noncomputable def sx(l:List α)(n:Int):List α:=(q_ n.toNat l).flatten
def yY(k:Nat)(l acc:List Nat):(q_ k l.toArray).foldl (·++·) acc.toArray=(acc++(q_ k l).flatten).toArray:=by
 induction k generalizing acc with
 | zero=>simp
 | succ k ih =>
  rw [replicate_succ,foldl_cons,append_toArray,ih (acc++l),replicate_succ,flatten_cons,append_assoc]
def Ji(l:List Nat)(n:Int):Txt.mul (S l) n=S (sx l n):=by
 unfold Txt.mul sx
 by_cases h:n<1
 .rw [if_pos h];have:n.toNat=0:=by omega
  rw [this];rfl
 .rw [if_neg h]
  split
  .rename_i h2;rw [fL] at h2;simp only [or_eq_true,beq_iff_eq] at h2
   rcases h2 with h2|h2
   .subst h2;simp [S]
   .have:l=[]:=LW.mp h2;subst this;simp [S]
  .have e:=yY n.toNat l [];show (⟨_⟩:Str)=_
   have e':(q_ n.toNat (S l).cps).foldl (·++·) #[]=((q_ n.toNat l).flatten).toArray:=by
    simpa [S] using e
   rw [e'];rfl
def gf(l:List α)(n:Int):(sx l n).length=n.toNat*l.length:=by
 unfold sx;rw [length_flatten,map_replicate,sum_replicate_nat]
def xK:OpR X (binaryOp .Mult) (λx y H Q=>∃l n,x=.str (S l)/\y=.int n/\-1000000<=n/\n<=1000000/\n.toNat*l.length<=sizeLine/\Q (.str (S (sx l n))) H):=by
 intro pins s σ H x y v u Q I rx ry h;obtain⟨l,n,rfl,rfl,h1,h2,hz,q⟩:=h;obtain⟨t,rfl⟩:=rx;obtain⟨t',rfl⟩:=ry;have hs:sizeLine=16777216:=L5;have hz':n.toNat*l.length<=16777216:=by rw [<- hs];exact hz
 refine SB.mul ⟨?_,λhn hc=>?_,λhn hc=>?_⟩ λt' k=>⟨.str (S (sx l n)),H,I.tok _,⟨t',by rw [Ji]⟩,q⟩
 .rw [decide_eq_false (by omega),decide_eq_false (by omega)];rfl
 .rw [fL];intro hgt
  have hl:l.length<=16777216:=by
   have:1*l.length<=n.toNat*l.length:=M0 _ (by omega);omega
  have hdiv:(2^63 - 1:Int) / 1000000<=(2^63 - 1) / n:=by
   apply le_ediv_of_mul_le (by omega);have:=mul_le_mul_of_nonneg_left h2 (show (0:Int)<=(2^63 - 1) / 1000000 by decide);have e2:((2^63 - 1:Int) / 1000000)*1000000<=2^63 - 1:=by decide
   omega
  have e3:(2^63 - 1:Int) / 1000000=9223372036854:=by decide
  omega
 .rw [fL];have:l.length*n.toNat<=16777216:=by rw [MY];exact hz'
  exact decide_eq_false (by omega)
def yZ:OpR X (compareOp .LtE) (λx y H Q=>∃i j,x=.str i/\y=.str j/\Q (.bl (!decide (j.cps.toList<i.cps.toList))) H):=by
 intro pins s σ H x y v u Q I rx ry h;obtain⟨i,j,rfl,rfl,q⟩:=h;obtain⟨t,rfl⟩:=rx;obtain⟨t',rfl⟩:=ry;exact PySem.P.le_str ⟨.bl _,H,I,rfl,q⟩
noncomputable def Its(xs:List V):It:=⟨λi _=>i<xs.length,λi H x H'=>H'=H/\xs[i]?=some x,λi _=>xs.length=i⟩
variable {M:Model}{A:A_}{E:Value->d_->Prop}{s:d_}{tg:Expr}{u:Value}
def y0{it:Addr}{Q:Unit->d_->Prop}(hu:∀a,u≠.ref a)(hQ:Q () s):wpAny M A (letOwnedTupleGo tg (.ref it) u) Q E s:=by
 unfold letOwnedTupleGo
 cases tg <;> first
  | exact g_ hQ
  | (cases u <;> first
    | exact g_ hQ
    | exact absurd rfl (hu _))
variable {xs:List V}
def mS{P:tj}{it:Addr}{Pt:Nat->Value->Prop}{St:Nat->Heap->Prop}(W:∀A:A_,A.handled=none->Walks P w A it [it] [it] n Pt St)(hn:xs.length=n)(hv:∀i v,i<n->Pt i v->∃x,xs[i]?=some x/\cZ x v)(hsc:∀i v,Pt i v->∀a,v≠.ref a)(hobj:∀i h,St i h->∃o,h.get? it=some o/\∀v,o.data≠.cell v)(hfr:∀i h h',St i h->(∀b∈[it],∀o,h.get? b=some o->h'.get? b=some o)->St i h')(hself:∀(A:A_) (i:Nat) (s:d_) (Q:Value->d_->Prop) (E:Value->d_->Prop),St i s.heap->Q (.ref it) s->wpAny (model P w) A (pyIter (.ref it)) Q E s):
  DT P w K tg (Its xs) [it] it St where
 mem:=by simp
 obj:=λi h st b hb=>by
  have e:b=it:=by simpa using hb
  subst e;exact hobj i h st
 keep:=λi h h' st k=>hfr i h h' st k
 item:=by
  intro X hP hw hK hc i pins s σ H E I hf st hg;subst hP hw hK;obtain⟨f0,f1,f2,f3,f4,f5⟩:=hf it (by simp);refine (W X.A (I.ok.hd hc)).item i s _ _ (by rw [<- hn];exact hg) st λv h' tk hp st' kk=>?_;obtain⟨x,hx,rx⟩:=hv i v (by rw [<- hn];exact hg) hp;have I1:Inv X pins σ H { s with heap:=h',toks:=tk }:=I.turned (λb o hb e=>kk b o (by simpa using hb) e) f0 f1 f3 f4 f5;exact⟨v,rfl,y0 (s:={ s with heap:=h',toks:=tk }) (hsc i v hp) ⟨x,H,I1,rx,⟨rfl,hx⟩,st',λb hb=>(hf b hb).1⟩⟩
 done:=by
  intro X hP hw hK hc i pins s σ H E I hf st hg;subst hP hw hK;obtain⟨f0,f1,f2,f3,f4,f5⟩:=hf it (by simp);have e:n=i:=hn.symm.trans hg;subst e;exact (W X.A (I.ok.hd hc)).done s _ _ st λh' tk kk=>⟨rfl,I.turned (λb o hb e=>kk b o (by simpa using hb) e) f0 f1 f3 f4 f5⟩
 self:=hself
noncomputable def ii(l:List Nat):List V:=l.map λc=>V.str (S [c])
variable {l:List Nat}{i:Nat}
def xL{x:V}(h:(ii l)[i]?=some x):∃c,l[i]?=some c/\x=.str (S [c]):=by
 unfold ii at h;rw [h_] at h
 cases e:l[i]? with
 | none=>rw [e] at h;cases h
 | some c=>rw [e] at h;exact⟨c,rfl,(pf h).symm⟩
def kP(l:List Nat):(ii l).length=l.length:=length_map _
noncomputable def qK(i:Int)(n:Nat):List V:=(c_ n).map λ(k:Nat)=>V.int (i - k)
def mT(i:Int)(n:Nat):(qK i n).length=n:=by simp [qK]
def y6{i:Int}{x:V}(h:(qK i n)[k]?=some x):k<n/\x=.int (i - k):=by
 unfold qK at h;rw [h_] at h
 by_cases hk:k<n
 .rw [H_ hk] at h;exact⟨hk,(pf h).symm⟩
 .rw [u_ (by simp;omega)] at h;cases h
noncomputable def GC(ta:TA):TI:=λσ H R=>ta σ H λvs H1=>∃i j:Int,vs=[.int i,.int j,.int (-1)]/\(-(2^60)<=i/\i<2^60/\-(2^60)<=j/\j<2^60)/\R (Its (qK i (i - j).toNat)) H1
def i3(i j:Int):LX i j (-1)=(((i - j).toNat:Nat):Int):=by
 unfold LX;rw [if_neg (by decide)];simp only [neg_neg,ediv_one];split <;> omega
variable {ta:TA}
def sN{a b c:Expr}{p:Pos}(hg:Gl X "range")(hm:X.mg "range"=none)(ha:PA X [a,b,c] ta)(hs:starEach [a,b,c] X.env=[(false,eval a X.env),(false,eval b X.env),(false,eval c X.env)]:=by rfl)(hs2:starEach [b,c] X.env=[(false,eval b X.env),(false,eval c X.env)]:=by rfl):
  PI X tg (.Call (.Name "range" p) [a,b,c] [] pos) (GC ta):=by
 intro pins s σ H R I h;refine Call_ (lO I hg hm boot_range (LA (thn (ha pos pins s σ H _ I h) λus s1 ⟨vs,H1,I1,r1,q1⟩=>?_) (by rw [hs,hs2]) (by rw [hs2];rfl)));obtain⟨i,j,e,⟨q1,q2,q3,q4⟩,q⟩:=q1;subst e
 cases r1 with
 | cons r rr =>
  cases rr with
  | cons r' rr =>
   cases rr with
   | cons r'' rr =>
    cases rr;obtain⟨t,rfl⟩:=r;obtain⟨t',rfl⟩:=r';obtain⟨t'',rfl⟩:=r'';refine call_range_3 (by decide) ?_ (.inl (Ou (by decide)))
    refine wpAny_pyIter_range (IsRange.new ..) ?_ ?_
    .unfold M5;rw [i3];simp only [NU,and_eq_true,or_eq_true,decide_eq_true_eq,beq_iff_eq,show ¬ (-1:Int) > 0 by decide,if_false];omega
    have I2:Inv X pins σ H1 { s1 with heap:=s1.heap.push { cls:=.type "range",data:=.fields #[.int i t,.int j t',.int (-1) t''] },toks:=s1.toks }:=I1.kept λb o e=>f_ _ e
    refine⟨_,[(s1.heap.push { cls:=.type "range",data:=.fields #[.int i t,.int j t',.int (-1) t''] }).objs.size],_,Its (qK i (i - j).toNat),H1,rfl,I2.kept (t':=s1.toks) λb o e=>f_ _ e,
     mS (λA hA=>Walks.range hA _ i (-1) (i - j).toNat) (mT _ _) ?_ ?_ ?_ ?_ (λA i s Q E st q=>wpAny_pyIter_rangeiter st q),?_,λb hb=>?_,q⟩
    .rintro k v hk ⟨t,rfl⟩
     refine⟨.int (i - k),?_,t,?_⟩
     .unfold qK;rw [h_,H_ hk];rfl
     .have e:i+(k:Int)*(-1)=i - k:=by omega
      rw [e]
    .rintro k v ⟨t,rfl⟩ a z;cases z
    .exact λk h st=>⟨_,st,λv z=>by
      have z':Data.fields _=Data.cell v:=z;cases z'⟩
    .exact λk h h' st kk=>kk _ (by simp) _ st
    .show IsRangeIter _ _ (i+((0:Nat):Int)*(-1)) ((((i - j).toNat:Nat):Int) - ((0:Nat):Int)) (-1);rw [<- i3];simp only [natCast_zero,zero_mul,O6,Int.sub_zero];exact k_ _ rfl
    .have e:b=(s1.heap.push { cls:=.type "range",data:=.fields #[.int i t,.int j t',.int (-1) t''] }).objs.size:=by simpa using hb
     subst e;exact I2.fpOk (e_ _) (I2.hok.fresh (e_ _))
def uE:bK X (.builtin "isinstance") (λxs H Q=>∃x n t b,xs=[x,.ty n]/\sw X.K H x t/\Mn X.K t (.type n)=some b/\Q (.bl b) H):=by
 intro pins s σ H xs us Q I r h;obtain⟨x,n,t,b,rfl,ty,e,q⟩:=h;obtain⟨u,w',rfl,rx,ry⟩:=Bk r;cases (show w'=Mj n from ry);exact yM I rx ty e λtk=>⟨.bl b,H,I.tok _,rfl,q⟩
mutual
inductive DV (K:b_) (H:Hp):V->NE->Prop
 | non:DV K H .non .none
 | bl (b:Bool):DV K H (.bl b) (.bool b)
 | int (i:Int):DV K H (.int i) (.int i)
 | str (x:Str):DV K H (.str x) (.str x)
 | lst {a:Addr}{xs:List V}{ds:List NE}:SqL K H a xs->DVs K H xs ds->DV K H (.ref a) (.list ds)
 | tup {a:Addr}{xs:List V}{ds:List NE}:SqT K H a xs->DVs K H xs ds->DV K H (.ref a) (.tuple ds)
inductive DVs (K:b_) (H:Hp):List V->List NE->Prop
 | nil:DVs K H [] []
 | cons {x:V}{d:NE}{xs:List V}{ds:List NE}:DV K H x d->DVs K H xs ds->DVs K H (x::xs) (d::ds)
end
mutual
theorem DV.reads{pins:List (Addr×Obj)}{σ:St}{H:Hp}{s:d_}(I:Inv X pins σ H s):∀{x:V}{d:NE}{u:Value},DV X.K H x d->cZ x u->∃as,Reads s.heap u d as
 | _,_,u,.non,r=>by cases (show u=L0 from r);exact⟨_,.none⟩
 | _,_,u,.bl b,r=>by cases (show u=Mv b from r);exact⟨_,.bool b⟩
 | _,_,u,.int i,r=>by obtain⟨t,e⟩:=(show ∃t,u=NC i t from r);subst e;exact⟨_,.int i t⟩
 | _,_,u,.str x,r=>by obtain⟨t,e⟩:=(show ∃t,u=NY x t from r);subst e;exact⟨_,.str x t⟩
 | _,_,u,.lst (a:=a) hq hs,r=>by
  cases (show u=n_ a from r);obtain⟨its,rv,pl,_⟩:=I.list hq;obtain⟨o,ho,hc,n,hd⟩:=pl.isList;obtain⟨as,ra⟩:=DVs.reads I hs rv;exact⟨_,.list ho hc hd ra⟩
 | _,_,u,.tup (a:=a) hq hs,r=>by
  cases (show u=n_ a from r);obtain⟨its,rv,pl,_⟩:=I.tuple hq;obtain⟨o,ho,hc,n,hd⟩:=pl;obtain⟨as,ra⟩:=DVs.reads I hs rv;exact⟨_,.tuple ho hc hd ra⟩
theorem DVs.reads{pins:List (Addr×Obj)}{σ:St}{H:Hp}{s:d_}(I:Inv X pins σ H s):∀{xs:List V}{ds:List NE}{us:List Value},DVs X.K H xs ds->bP xs us->∃as,ReadsAll s.heap us ds as
 | _,_,_,.nil,.nil=>⟨_,.nil⟩
 | _,_,_,.cons h hs,.cons r rs=>by
  obtain⟨as,ra⟩:=DV.reads I h r;obtain⟨bs,rb⟩:=DVs.reads I hs rs;exact⟨_,.cons ra rb⟩
end
noncomputable def Jj(K:b_)(neg:Bool):R2:=λx y H Q=>∃da db,DV K H x da/\DV K H y db/\MI da=true/\MI db=true/\Q (.bl (if neg then !N8 da db else N8 da db)) H
def GD(hu:X.A.units+64<cLine):OpR X (compareOp .Eq) (Jj X.K false):=by
 intro pins s σ H x y v u Q I rx ry h;obtain⟨da,db,ha,hb,sa,sb,q⟩:=h;obtain⟨as,ra⟩:=DV.reads I ha rx;obtain⟨bs,rb⟩:=DV.reads I hb ry;exact eq_dataH ra rb sa sb hu ⟨.bl _,H,I,rfl,q⟩
def GE(hu:X.A.units+64<cLine):OpR X (compareOp .NotEq) (Jj X.K true):=by
 intro pins s σ H x y v u Q I rx ry h;obtain⟨da,db,ha,hb,sa,sb,q⟩:=h;obtain⟨as,ra⟩:=DV.reads I ha rx;obtain⟨bs,rb⟩:=DV.reads I hb ry;exact ne_dataH ra rb sa sb hu ⟨.bl _,H,I,rfl,q⟩
variable {H:Hp}
theorem DVs.ints:∀ns:List Int,DVs K H (ns.map V.int) (ns.map OB)
 | []=>.nil
 | n::ns=>.cons (.int n) (DVs.ints ns)
theorem mU:∀ns ms:List Int,NG (ns.map OB) (ms.map OB)=decide (ns=ms)
 | [],[]=>by simp [NG]
 | [],_::_=>by simp [NG]
 | _::_,[]=>by simp [NG]
 | a::r,b::t=>by
  simp only [map_cons,NG,N8,mU r t]
  by_cases h:a=b <;> by_cases h':r=t <;> simp [h,h']
def uF:MtR X "str.endswith" (λx xs H Q=>∃a b,x=.str (S a)/\xs=[.str (S b)]/\Q (.bl (decide (b <:+ a))) H):=by
 intro pins s σ H x xs v us Q I rx rs h;obtain⟨a,b,rfl,rfl,q⟩:=h;obtain⟨t,rfl⟩:=rx;obtain⟨u,rfl,t',rfl⟩:=ie rs
 have e:Txt.endswith (S a) (S b)=decide (b <:+ a):=by
  unfold Txt.endswith Nx;rw [fL,fL]
  have e1:((S a).cps.extract (a.length - b.length) (a.length - b.length+b.length))=((a.drop (a.length - b.length)).take b.length).toArray:=by
   show a.toArray.extract _ _=_;rw [extract_toArray,extract_eq_take_drop];have e2:a.length - b.length+b.length - (a.length - b.length)=b.length:=by omega
   rw [e2]
  rw [e1]
  by_cases h:b <:+ a
  .rw [decide_eq_true h];have hl:=h.length_le;have hd:a.drop (a.length - b.length)=b:=(suffix_iff_eq_drop.mp h).symm;rw [hd];simp [S,hl]
  .rw [decide_eq_false h]
   by_cases hl:b.length<=a.length
   .have hne:¬ (a.drop (a.length - b.length)).take b.length=b:=λz=>h (by
     rw [LN (by rw [length_drop];omega)] at z;exact suffix_iff_eq_drop.mpr z.symm)
    simp only [and_eq_false_imp];intro _;show (((a.drop (a.length - b.length)).take b.length).toArray == b.toArray)=false;rw [beq_eq_false_iff_ne];intro z;exact hne (by simpa using congrArg Ot z)
   .rw [decide_eq_false (by omega)];rfl
 exact SC.endswith ⟨.bl _,H,I,rfl,by rw [e];exact q⟩
variable {j:Nat}
def dh(h:x=S l):PE X (.Constant (.str x) j pos) (tC (.str (S l))):=by
 subst h;exact FY
def y8:bK X (.builtin "len") (λxs H Q=>∃l,xs=[.str (S l)]/\l.length<=sizeLine/\Q (.int l.length) H):=by
 intro pins s σ H xs us Q I r h;obtain⟨l,rfl,hz,q⟩:=h;exact sI pins s σ H _ us Q I r ⟨S l,rfl,by rw [fL];exact hz,by rw [fL];exact q⟩
noncomputable def GF:R2:=λx y H Q=>∃l i c,x=.str (S l)/\y=.int i/\l.length<=sizeLine/\atI l i=some c/\Q (.str (S [c])) H
def Eg:IxR X GF:=by
 intro value slice pins s σ H x y v u Q I rx ry q hs;obtain⟨l,i,c,rfl,rfl,hz,ha,q⟩:=q;exact Gq value slice pins s σ H _ _ v u Q I rx ry ⟨S l,i,c,rfl,rfl,by rw [fL];exact hz,ha,q⟩ hs
def Eh:OpR X (binaryOp .Add) (λx y H Q=>∃i j,x=.str (S i)/\y=.str (S j)/\i.length+j.length<=sizeLine/\Q (.str (S (i++j))) H):=by
 intro pins s σ H x y v u Q I rx ry h;obtain⟨i,j,rfl,rfl,hz,q⟩:=h;exact xB pins s σ H _ _ v u Q I rx ry ⟨S i,S j,rfl,rfl,by rw [fL,fL];exact hz,by rw [Bx];exact q⟩
def GG:OpR X (compareOp .Eq) (λx y H Q=>∃i j,x=.str (S i)/\y=.str (S j)/\Q (.bl (decide (i=j))) H):=by
 intro pins s σ H x y v u Q I rx ry h;obtain⟨i,j,rfl,rfl,q⟩:=h;exact Ja pins s σ H _ _ v u Q I rx ry ⟨rfl,by rw [Gz];exact q⟩
def GH:OpR X (compareOp .NotEq) (λx y H Q=>∃i j,x=.str (S i)/\y=.str (S j)/\Q (.bl (!decide (i=j))) H):=by
 intro pins s σ H x y v u Q I rx ry h;obtain⟨i,j,rfl,rfl,q⟩:=h;exact Jb pins s σ H _ _ v u Q I rx ry ⟨rfl,by rw [Gz];exact q⟩
def GI:OpR X (compareOp .Eq) (rI0 λi j=>.bl (decide (i=j))):=Fz λ_ _ _ _ _ _ _ q=>eq_int (by rw [beq_eq_decide_eq];exact q)
def GJ:OpR X (compareOp .NotEq) (rI0 λi j=>.bl (!decide (i=j))):=Fz λ_ _ _ _ _ _ _ q=>ne_int (by rw [bne,beq_eq_decide_eq];exact q)
def y9:bK X (.builtin "len") (λxs H Q=>∃p ys,xs=[.ref p]/\SqL X.K H p ys/\Q (.int ys.length) H):=by
 intro pins s σ H xs us Q I r h;obtain⟨p,ys,e,hq,q⟩:=h;exact lP pins s σ H xs us Q I r ⟨p,ys,e,.inl hq,q⟩
def za:bK X (.builtin "len") (λxs H Q=>∃p ys,xs=[.ref p]/\SqT X.K H p ys/\Q (.int ys.length) H):=by
 intro pins s σ H xs us Q I r h;obtain⟨p,ys,e,hq,q⟩:=h;exact lP pins s σ H xs us Q I r ⟨p,ys,e,.inr hq,q⟩
structure Cal (P:tj) (w:World) (K:b_) (mg:Str->Option Value) (base:Heap) (k:Nat) (x:Str) (ps:List Str) (sp:Sp):Prop where
 ex:∃(f:Addr) (fd:L1),qG P w K mg base CX0 k f fd ps sp/\md K fd ps []/\x_ K (.ref f)=true/\mg x=some (.ref f)/\∃oc od osl,K.lookup f=some ⟨oc,od,.func fd,osl⟩
structure aV (K:b_) (mg:Str->Option Value) (x:Str) (st:Stmt):Prop where
 ex:∃(f:Addr) (fd:L1),Fun K x x st f fd/\mg x=some (.ref f)
section
variable {P:tj}{base:Heap}{st:Stmt}{N ps:List Str}{sp:Sp}
def aV.ok(D:aV K mg x st)(S:au N ps (af st))(hb:∀(kV doc pm:Value) (an:Option Addr) (cdv ct:Value) (us:List Value),us.length=ps.length->bindArgs (B_ x x (bQ st) (bi st) (af st) .none kV doc pm an cdv ct) ⟨us,[]⟩=pure (ps.zip us))(len:∀vs H Q E,sp vs H Q E->vs.length=ps.length)(hbody:∀(f:Addr) (cdv:Value) (A:A_) (outer:List Env) (s:d_) (H:Hp) (vs:List V) (Q:VK) (E:XK),fJ k (A.deeper (envOfC x (af st) s.heap.objs.size f cdv))->sp vs H Q E ->
   ∃t,PSs (wy CX0 P w K mg base N x (af st) f cdv A outer s H E).nox (bi st) t/\t { nx:=λ_ H'=>Q .non H',rt:=Q } (start N vs) H):Cal P w K mg base (k+1) x ps sp:=by
 obtain⟨f,fd,F,hm⟩:=D.ex
 have lk:∃oc od osl,K.lookup f=some ⟨oc,od,.func fd,osl⟩:=by
  obtain⟨oc,od,kV,doc,pm,an,cdv,ct,osl,rfl,lk,hcd⟩:=F.ex;exact⟨oc,od,osl,lk⟩
 exact⟨f,fd,F.ok S len λcdv A outer s H vs Q E hr h=>hbody f cdv A outer s H vs Q E hr h,F.binds hb,F.kp,hm,lk⟩
variable {h:Heap}{f:Addr}{oc:Value}{od an:Option Addr}{pm ct:Value}
def aV.mk'{osl:Array (Option Value)}{kV doc cdv:Value}(X:K.In h)(G:h.Ns mainGlobals mg)(a:t_ K mainGlobals x=some (some (.ref f)))(l:K.lookup f=some ⟨oc,od,.func (B_ x x (bQ st) (bi st) (af st) .none kV doc pm an cdv ct),osl⟩)(c:Lx K cdv x=true)(k:x_ K (.ref f)=true):aV K mg x st:=⟨f,_,wB (st:=st) l c k,Mf X G a⟩
end
variable {ps:List Str}{sp:Sp}{p:Pos}{e:Expr}{es:List Expr}{t:TA}
def GK(C:Cal X.prog X.w X.K X.mg X.base k x ps sp)(hr:fJ k X.A)(ha:PA X (e::es) t)(hg:Gl X x:=by rfl)(hdb:(x == ("__debug__":Str))=false:=by decide)(he:starEach (e::es) X.env=(false,eval e X.env)::starEach es X.env:=by rfl)(hpl:(backTo pos (starEach es X.env)).any (·.1)=false:=by rfl):PE X (.Call (.Name x p) (e::es) [] pos) (df sp [] E0 t):=by
 obtain⟨f,fd,F,hb,hk,hm,_⟩:=C.ex;exact yN F hr hg hm hk hb .nil Bw ha hdb he hpl
noncomputable def xM(K:b_):Sp:=λvs H Q _=>∃(a:Addr) (ns:List Int),vs=[.ref a]/\SqL K H a (ns.map V.int)/\ns.length<=63/\∀H',Q (.bl true) H'
variable {st:Stmt}
def GL{P:tj}{fa:Addr}(hfa:mg "law"=some (.ref fa))(D:aV K mg "law" st)(hbind:∀(kV doc pm:Value) (an:Option Addr) (cdv ct:Value) (s:d_) (v:Value),Ow s (B_ "law" "law" (bQ st) (bi st) (af st) .none kV doc pm an cdv ct) ⟨[v],[]⟩ [(x,v)])(h:∀base:Heap,Cal P w K mg base k "law" [x] (xM K)):
  ∃fd:L1,(∀(s:d_) (v:Value),Ow s fd ⟨[v],[]⟩ [(x,v)])/\∀base:Heap,K.In base->base.Ns mainGlobals mg->qG P w K mg base CX0 k fa fd [x] (xM K):=by
 obtain⟨f,fd,F,hm⟩:=D.ex;have e:=hfa.symm.trans hm;cases e;obtain⟨oc,od,kV,doc,pm,an,cdv,ct,osl,rfl,lk,hcd⟩:=F.ex;refine⟨_,λs v=>hbind kV doc pm an cdv ct s v,λbase kb nb=>?_⟩;obtain⟨f',fd',F',_,_,hm',oc',od',osl',lk'⟩:=(h base).ex;have e:=hfa.symm.trans hm';cases e;rw [lk] at lk';cases lk';exact F'
def GM{l:OE}{XP:(Str->Option Value)->Heap->Prop}{YP:World->Heap->Prop}{d:DefRec}{K:NZ->b_}(hn:l.most=some 63)(hdf:d.params.defaults=[])(hr:fJ k callerA)(hY:∀(w:World) (h:Heap),YP w h->(K w.params).In h)(F:∀(w:World) (mg:Str->Option Value) (fa:Addr) (h:Heap),(K w.params).In h->h.Ns mainGlobals mg->mg d.name=some (.ref fa) ->
   ∃fd:L1,(∀(s:d_) (u:Value),Ow s fd ⟨[u],[]⟩ [(x,u)])/\∀base:Heap,(K w.params).In base->base.Ns mainGlobals mg->qG l.prog w (K w.params) mg base CX0 k fa fd [x] (xM (K w.params))):
  PySem.W.WalkO q loose XP YP l.row.toRowW d [] (λf vs=>PySem.call f vs) :=
 Ee (n:=63) (k:=k) (x:=x) (CX:=λ_=>CX0) (sp:=λw=>xM (K w.params)) hn (by decide) hdf hr hY F (λ_ _ a ns hl _ hS=>⟨a,ns,rfl,hS,hl,λ_=>rfl⟩) λ_ _ _ _ _ z=>z
variable {β:Type}
def Ei{f:α->β}{xs:List α}{i:Int}{v:α}(h:atI xs i=some v):atI (xs.map f) i=some (f v):=by
 unfold atI at h ⊢;rw [length_map]
 cases e:ixN xs.length i with
 | none=>rw [e] at h;cases h
 | some j =>
  rw [e] at h;show (xs.map f)[j]?=some (f v);have h':xs[j]?=some v:=h;rw [h_,h'];rfl
def c9{xs:List α}{i:Int}{v:α}(h:xs[j]?=some v)(e:i=(j:Int)):atI xs i=some v:=by subst e;exact D9 h
def sz(n:Nat)(h:n<=1000000):n<=sizeLine:=by rw [L5];omega
def By{x:V}(h:(ns.map V.int)[i]?=some x):∃z,ns[i]?=some z/\x=.int z:=by
 rw [h_] at h
 cases e:ns[i]? with
 | none=>rw [e] at h;cases h
 | some z=>rw [e] at h;exact⟨z,rfl,(pf h).symm⟩
variable {t:TS}
noncomputable def GN(t:TS):TS:=λD σ H=>∃J:St->Hp->Prop,t { D with nx:=J } σ H/\∀σ' H',J σ' H'->D.nx σ' H'
def kQ(h:PS X st t):PS X st (GN t):=by
 intro pins s σ H D I q;obtain⟨J,q1,q2⟩:=q;refine thn (h pins s σ H _ I q1) λf s' r=>?_
 cases f with
 | next=>obtain⟨σ',H',I',r'⟩:=r;exact⟨σ',H',I',q2 σ' H' r'⟩
 | brk=>exact r
 | cont=>exact r
 | ret u=>exact r
def Bz(f:α->β)(xs:List α)(lo hi:Option Int):dg (xs.map f) lo hi=(dg xs lo hi).map f:=by
 unfold dg;rw [length_map,map_take,map_drop]
def BA(l:List α){k:Int}(h:0<=k):dg l none (some k)=l.take k.toNat:=by
 have e:k=((k.toNat:Nat):Int):=by omega
 rw [e,dI];rfl
theorem et{c:Addr}:∀(names:List (Str×L3)) (n:Nat) (acc:List (Str×Addr)),(cellsFrom n names acc).lookup x=some c->(n<=c/\(x,ML)∈names)\/acc.lookup x=some c
 | [],n,acc,h=>.inr h
 | (y,k)::r,n,acc,h=>by
  unfold cellsFrom at h
  split at h
  .rename_i hk;have hk':k=.cell:=by simpa using hk
   subst hk'
   rcases et r (n+1) ((y,n)::acc) h with ⟨h1,h2⟩|h1
   .exact .inl ⟨by omega,m_ _ h2⟩
   .rw [L6] at h1
    cases e:x == y with
    | true =>
     rw [e] at h1;have:n=c:=pf h1;have ex:x=y:=by simpa using e
     subst ex;exact .inl ⟨by omega,mem_cons_self⟩
    | false=>rw [e] at h1;exact .inr h1
  .rcases et r n acc h with ⟨h1,h2⟩|h1
   .exact .inl ⟨h1,m_ _ h2⟩
   .exact .inr h1
theorem gg:∀(names:List (Str×L3)) (n:Nat) (acc:List (Str×Addr)),(x,ML)∉names->(cellsFrom n names acc).lookup x=acc.lookup x
 | [],_,_,_=>rfl
 | (y,k)::r,n,acc,h=>by
  unfold cellsFrom
  split
  .rename_i hk;have hk':k=.cell:=by simpa using hk
   subst hk';rw [gg r (n+1) _ (λz=>h (m_ _ z)),L6]
   have:(x == y)=false:=by
    rw [beq_eq_false_iff_ne];intro e;subst e;exact h mem_cons_self
   rw [this]
  .exact gg r n acc (λz=>h (m_ _ z))
theorem gh{y:Str}{c:Addr}:∀(names:List (Str×L3)) (n:Nat) (acc:List (Str×Addr)),(∀z d,acc.lookup z=some d->d<n) ->
  (cellsFrom n names acc).lookup x=some c->(cellsFrom n names acc).lookup y=some c->n<=c->x=y
 | [],n,acc,ha,h1,h2,hc=>absurd (ha x c h1) (not_lt.mpr hc)
 | (z,k)::r,n,acc,ha,h1,h2,hc=>by
  unfold cellsFrom at h1 h2
  split at h1
  .rename_i hk;rw [if_pos hk] at h2
   have ha':∀w d,((z,n)::acc).lookup w=some d->d<n+1:=λw d e=>by
    rw [L6] at e
    cases q:w == z with
    | true=>rw [q] at e;cases e;exact Ov _
    | false=>rw [q] at e;exact MM (ha w d e)
   by_cases hcn:n+1<=c
   .exact gh r (n+1) _ ha' h1 h2 hcn
   .have e:c=n:=le_antisymm (not_lt.mp hcn) hc;subst e
    have key:∀w:Str,(cellsFrom (c+1) r ((z,c)::acc)).lookup w=some c->w=z:=λw hw=>by
     rcases et r (c+1) _ hw with ⟨q,_⟩|q
     .exact absurd q (not_succ_le_self _)
     .rw [L6] at q
      cases q2:w == z with
      | true=>simpa using q2
      | false=>rw [q2] at q;exact absurd (ha w c q) (E_ _)
    rw [key x h1,key y h2]
  .rename_i hk;rw [if_neg hk] at h2;exact gh r n acc ha h1 h2 hc
noncomputable def jq(env:Env):List (Str×L3)->List (Str×Addr)->List (Str×Addr)
 | [],acc=>acc
 | (n,k)::r,acc=>if (k == .free)=true then jq env r ((n,(env.cells.lookup n).getD 0)::acc) else jq env r acc
variable {env:Env}
theorem gj{c:Addr}:∀(names:List (Str×L3)) (acc:List (Str×Addr)),(jq env names acc).lookup x=some c->((x,M8)∈names/\c=(env.cells.lookup x).getD 0)\/acc.lookup x=some c
 | [],acc,h=>.inr h
 | (y,k)::r,acc,h=>by
  unfold jq at h
  split at h
  .rename_i hk;have hk':k=.free:=by simpa using hk
   subst hk'
   rcases gj r _ h with ⟨h1,h2⟩|h1
   .exact .inl ⟨m_ _ h1,h2⟩
   .rw [L6] at h1
    cases e:x == y with
    | true =>
     rw [e] at h1;have ex:x=y:=by simpa using e
     subst ex;exact .inl ⟨mem_cons_self,(pf h1).symm⟩
    | false=>rw [e] at h1;exact .inr h1
  .rcases gj r acc h with ⟨h1,h2⟩|h1
   .exact .inl ⟨m_ _ h1,h2⟩
   .exact .inr h1
theorem j4:∀(names:List (Str×L3)) (acc:List (Str×Addr)),((x,M8)∈names\/(acc.lookup x).isSome=true)->((jq env names acc).lookup x).isSome=true
 | [],acc,h=>h.elim (λz=>nomatch z) id
 | (y,k)::r,acc,h=>by
  unfold jq
  split
  .rename_i hk;refine j4 r _ ?_
   by_cases e:(x == y)=true
   .exact .inr (by rw [L6,e];rfl)
   .rcases h with h|h
    .rcases C_.mp h with z|z
     .cases z;exact absurd (by simp) e
     .exact .inl z
    .exact .inr (by rw [L6];rw [not_eq_true] at e;rw [e];exact h)
  .rename_i hk;refine j4 r acc ?_
   rcases h with h|h
   .rcases C_.mp h with z|z
    .cases z;exact absurd rfl hk
    .exact .inl z
   .exact .inr h
variable {scope:Scope}
def hG(h:∀x∈scope.names,x.2=.free->∃c,env.cells.lookup x.1=some c):closureFor scope env=pure (jq env scope.names []):=by
 unfold closureFor
 have key:∀(names:List (Str×L3)) (acc:List (Str×Addr)),(∀x∈names,x.2=.free->∃c,env.cells.lookup x.1=some c) ->
   (forIn names acc λ(x:Str×L3) (r:List (Str×Addr))=>(if (x.2 == M8)=true then do let y <- cellOf env x.1;pure (LV ((x.1,y)::r)) else pure (LV r):Sem _))=pure (jq env names acc):=by
  intro names
  induction names with
  | nil=>intro acc _;rfl
  | cons p r ih =>
   intro acc hp;obtain⟨n,k⟩:=p;rw [forIn_cons];have hr:∀x∈r,x.2=.free->∃c,env.cells.lookup x.1=some c:=λx hx=>hp x (m_ _ hx);unfold jq
   by_cases hk:(k == M8)=true
   .obtain⟨c,hc⟩:=hp (n,k) mem_cons_self (by simpa using hk);have hc':env.cells.lookup n=some c:=hc;have e1:cellOf env n=pure c:=by unfold cellOf;rw [hc']
    simp only [hk,if_true];rw [e1,hc'];simp only [pure_bind];exact ih _ hr
   .rw [if_neg hk,if_neg hk];simp only [pure_bind];exact ih _ hr
 have e:=key scope.names [] h;have e2:∀(m:Sem (List (Str×Addr))),(m >>= λr=>pure r)=m:=λm=>bind_pure m;rw [<- e]
 first
  | rfl
  | exact (e2 _)
noncomputable def qL(scope:Scope)(C:Addr)(env:Env):Env :=
 { scope:=relabel scope env,locals:=C,globals:=env.globals,cells:=cellsFrom (C+1) scope.names (jq env scope.names []),qual:=env.qual,func:=none,code:=env.code,frame:=env.frame,builtins:=env.builtins }
noncomputable def aT(X:Cx)(N':List Str)(scope:Scope)(s:d_)(H:Hp)(fp:List Addr)(pins:List (Addr×Obj)):Cx :=
 { X with N:=N',s₀:=s,H₀:=H,env:=qL scope s.heap.objs.size X.env,outer:=X.stack,stack:=X.stack,ex:=fp,fn:=λx=>decide ((x,ML)∈scope.names),pn:=X.pn++pins,xe:=λ_ _=>False }
noncomputable def kR(sc0:Scope)(N:List Str)(scope:Scope)(N':List Str)(ix:List (Option Nat)):Bool :=
 decide (scope.kind=.function) && scope.names.all (λy=>(!decide (y.2=.local) || decide (scope.names.lookup y.1=some .local)) &&
  (!decide (y.2=.free) || ((decide (sc0.names.lookup y.1=some .cell) || decide (sc0.names.lookup y.1=some .free)) && !decide ((y.1,ML)∈scope.names)))) &&
 decide (N'.length=ix.length) && (N'.zip ix).all (λp=>match p.2 with|none=>true|some j=>decide (N[j]?=some p.1) && decide (scope.names.lookup p.1=some .free))
structure wC (env:Env) (N:List Str) (scope:Scope) (N':List Str) (ix:List (Option Nat)):Prop where
 kind:scope.kind=.function
 loc:∀y∈scope.names,y.2=.local->scope.names.lookup y.1=some .local
 free:∀y∈scope.names,y.2=.free->(env.kindOf y.1=some .cell\/env.kindOf y.1=some .free)/\(y.1,ML)∉scope.names
 len:N'.length=ix.length
 slot:∀(i:Nat) (x:Str) (j:Nat),N'[i]?=some x->ix[i]?=some (some j)->N[j]?=some x/\scope.names.lookup x=some .free
variable {N:List Str}{ix:List (Option Nat)}
def j5{N':List Str}(h:kR env.scope N scope N' ix=true):wC env N scope N' ix:=by
 unfold kR at h;simp only [and_eq_true,decide_eq_true_eq,MU] at h;obtain⟨⟨⟨h1,h2⟩,h3⟩,h4⟩:=h
 refine⟨h1,λy hy e=>?_,λy hy e=>?_,h3,λi x j e1 e2=>?_⟩
 .have:=(h2 y hy).1;rw [e] at this;simpa using this
 .have:=(h2 y hy).2;rw [e] at this;simpa [Env.kindOf] using this
 .have hm:(x,some j)∈N'.zip ix:=by
   refine y_ (i:=i) ?_;rw [getElem?_zip_eq_some];exact⟨e1,e2⟩
  have:=h4 _ hm;simpa using this
noncomputable def rlf(env:Env)(p:Str×L3):Str×L3:=match p with|(n,k)=>if (k == M8 && env.scope.kind == .function && env.kindOf n == some .cell) then (n,.cell) else (n,k)
def zb(env:Env)(n:Str)(k:L3):∃k',rlf env (n,k)=(n,k')/\(k'=k\/(k=.free/\k'=.cell)):=by
 unfold rlf
 by_cases c:(k == M8 && env.scope.kind == .function && env.kindOf n == some .cell)=true
 .refine⟨.cell,if_pos c,.inr ⟨?_,rfl⟩⟩;simp only [and_eq_true,beq_iff_eq] at c;exact c.1.1
 .exact⟨k,if_neg c,.inl rfl⟩
theorem wD{env:Env}:∀{names:List (Str×L3)}{x:Str},names.lookup x=some .free->(names.map (rlf env)).lookup x=some .cell\/(names.map (rlf env)).lookup x=some .free
 | [],_,h=>by simp at h
 | (n,k)::r,x,h=>by
  have ih:=@wD env r x;obtain⟨k',e,hk'⟩:=zb env n k;rw [map_cons,e]
  cases hx:x == n with
  | true =>
   simp only [L6,hx] at h ⊢;have hk:k=.free:=pf h
   rcases hk' with z|z
   .right;rw [z,hk]
   .left;rw [z.2]
  | false =>
   simp only [L6,hx] at h ⊢;exact ih h
theorem qM{env:Env}:∀{names:List (Str×L3)}{x:Str}{k':L3},(names.map (rlf env)).lookup x=some k'->k'=.cell\/k'=.free->names.lookup x=some .cell\/names.lookup x=some .free
 | [],_,_,h,_=>by simp at h
 | (n,k)::r,x,k',h,hk'=>by
  have ih:=@qM env r x k';obtain⟨k2,e,hk2⟩:=zb env n k;rw [map_cons,e] at h
  cases hx:x == n with
  | true =>
   simp only [L6,hx] at h ⊢;have:k2=k':=pf h;subst this
   rcases hk2 with z|z
   .rw [<- z]
    rcases hk' with q|q
    .left;rw [q]
    .right;rw [q]
   .right;rw [z.1]
  | false =>
   simp only [L6,hx] at h ⊢;exact ih h hk'
def sO{c:Addr}:∀(names:List (Str×L3)) (n:Nat) (acc:List (Str×Addr)),(cellsFrom n names acc).lookup x=some c->(x,c)∈cellsFrom n names []\/acc.lookup x=some c:=by
 have app:∀(names:List (Str×L3)) (n:Nat) (acc:List (Str×Addr)),cellsFrom n names acc=cellsFrom n names []++acc:=by
  intro names
  induction names with
  | nil=>intro n acc;rfl
  | cons p r ih =>
   intro n acc;obtain⟨y,k⟩:=p;unfold cellsFrom
   split
   .rw [ih (n+1) ((y,n)::acc),ih (n+1) [(y,n)],append_assoc];rfl
   .exact ih n acc
 intro names n acc h;rw [app] at h;rw [lookup_append] at h
 cases e:(cellsFrom n names []).lookup x with
 | some d =>
  rw [e] at h;have:d=c:=by simpa using h
  subst this;exact .inl (mem_of_lookup e)
 | none=>rw [e] at h;exact .inr (by simpa using h)
noncomputable def sP(ix:List (Option Nat))(σ:St):St:=ix.map λo=>match o with
 | none=>none
 | some j=>match σ[j]? with
  | some v=>v
  | none=>none
variable {pins:List (Addr×Obj)}{σ:St}
def wE{N':List Str}{fp:List Addr}(ok:wC X.env X.N scope N' ix)(I:Inv X pins σ H s)(hf:∀b∈fp,uw X pins H b)(hfl:∀b∈fp,b<s.heap.objs.size):
  Inv (aT X N' scope s H fp pins) [] (sP ix σ) H { s with heap:=pushCells (s.heap.push { cls:=.type "dict",data:=.dict #[] }) scope.names }:=by
 have hk4:∀b o,s.heap.get? b=some o->(pushCells (s.heap.push { cls:=.type "dict",data:=.dict #[] }) scope.names).get? b=some o:=λb o e=>NP _ _ b o (f_ _ e)
 have hclo:∀x c,(jq X.env scope.names []).lookup x=some c->X.env.cells.lookup x=some c:=λx c e=>by
  rcases gj scope.names [] e with ⟨h1,h2⟩|h1
  .obtain⟨d,hd⟩:=I.ok.has x (ok.free _ h1 rfl).1;rw [hd] at h2 ⊢;rw [h2];rfl
  .cases h1
 have hcl:∀x c,X.env.cells.lookup x=some c->c<s.heap.objs.size:=λx c e=>by
  obtain⟨v,q⟩:=I.cell x c e;exact q.lt
 have own:=cellsFrom_ok scope.names (s.heap.push { cls:=.type "dict",data:=.dict #[] }) (s.heap.objs.size+1) [] ⟨λ_ _ hm=>(nomatch hm),Nw⟩ (by rw [Lw];exact e_ _);rw [Lw] at own
 have cases:∀x c,(cellsFrom (s.heap.objs.size+1) scope.names (jq X.env scope.names [])).lookup x=some c ->
   ((pushCells (s.heap.push { cls:=.type "dict",data:=.dict #[] }) scope.names).IsCell c none/\s.heap.objs.size+1<=c)\/X.env.cells.lookup x=some c:=λx c e=>by
  rcases sO _ _ _ e with h|h
  .exact .inl (own.empty x c h)
  .exact .inr (hclo x c h)
 have fs':∀b,b∈frs X.stack->b<s.heap.objs.size:=λb hb=>by
  rcases C_.mp (I.stkSub b hb) with z|z
  .rw [z];exact I.lt
  .by_cases q:b<s.heap.objs.size
   .exact q
   .exact absurd z (I.nofs (not_lt.mp q))
 have cix:(aT X N' scope s H fp pins).Ok:=by
  refine⟨I.ok.mod,ok.kind,I.ok.glob,I.ok.blt,e_ _,λx y c h1 h2=>?_,λx hx=>?_,λx c hx e=>?_,I.ok.hd,I.ok.frames,.inl rfl,λb hb=>⟨F_ (hfl b hb),λx c e=>?_⟩,λb o e=>I.bs b o e,p_ I.ok.bsz I.sz,λb o e hb=>?_,λb hb=>?_,I.stack,I.stkFree,I.ok.tb.un I.base⟩
  .rcases cases x c h1 with ⟨_,z⟩|z
   .exact gh scope.names _ _ (λw d e=>MM (hcl w d (hclo w d e))) h1 h2 z
   .rcases cases y c h2 with ⟨_,z2⟩|z2
    .exact absurd (hcl x c z) (not_lt.mpr (NH z2))
    .exact I.ok.inj x y c z z2
  .have hx':scope.names.lookup x=some .cell\/scope.names.lookup x=some .free:=by
    rcases hx with z|z
    .exact qM (env:=X.env) z (.inl rfl)
    .exact qM (env:=X.env) z (.inr rfl)
   rcases hx' with z|z
   .exact Mx.mp (MH scope.names _ _ (.inl z))
   .exact Mx.mp (MH scope.names _ _ (.inr (j4 _ _ (.inl (mem_of_lookup z)))))
  .have hx':(x,ML)∈scope.names:=of_decide_eq_true hx
   rcases cases x c e with ⟨_,z⟩|z
   .exact NH z
   .rcases sO _ _ _ e with h|h
    .exact NH (own.empty x c h).2
    .rcases gj scope.names [] h with ⟨h1,_⟩|h1
     .exact absurd hx' (ok.free _ h1 rfl).2
     .cases h1
  .intro z
   rcases cases x c e with ⟨_,z2⟩|z2
   .rw [z] at z2;exact absurd (hfl b hb) (not_lt.mpr (NH z2))
   .exact (hf b hb).2.2.2.2.1 x c z2 z
  .rcases (hf b hb).2.2.2.1 with z|z
   .exact I.ok.noex b o e z
   .exact absurd (pj (I.ok.bs b o e).1) (not_lt.mpr z)
  .intro z
   rcases C_.mp (I.stkSub b z) with q|q
   .exact (hf b hb).2.1 q
   .exact (hf b hb).2.2.1 q
 refine⟨cix,rfl,I.bare,Un.kept hk4,⟨λ_=>none,?_,λi x v e1 e2 e3=>?_⟩,λx c e=>?_,I.hok.fresh (e_ _),λx c e=>?_,λp hp=>?_,I.hok.kept hk4,?_⟩
 .exact (Heap.Ns.new s.heap (.type "dict")).keeps (NP _ _)
 .have e2':∃j,ix[i]?=some (some j)/\σ[j]?=some (some v):=by
   unfold sP at e2;rw [h_] at e2
   cases q:ix[i]? with
   | none=>rw [q] at e2;cases e2
   | some o =>
    rw [q] at e2
    cases o with
    | none=>cases (pf e2)
    | some j =>
     refine⟨j,rfl,?_⟩;have e2'':(match σ[j]? with|some v=>v|none=>none)=some v:=pf e2
     cases r:σ[j]? with
     | none=>rw [r] at e2'';cases e2''
     | some w=>rw [r] at e2'';exact congrArg some e2''
  obtain⟨j,hj,hv⟩:=e2';obtain⟨hN,hfr⟩:=ok.slot i x j e1 hj;have hk:=(ok.free _ (mem_of_lookup hfr) rfl).1
  have hvis:Vis X.env.scope x:=by
   rcases hk with z|z
   .exact .inr (.inl z)
   .exact .inr (.inr z)
  obtain⟨m,hn,hl⟩:=I.loc;obtain⟨u,ru,lk⟩:=hl j x v hN hv hvis
  refine⟨u,ru,.inr ⟨?_,?_⟩⟩
  .exact wD (env:=X.env) hfr
  .rcases lk with ⟨z,_⟩|⟨_,c,hc,hcell⟩
   .rcases hk with q|q
    .rw [z] at q;cases q
    .rw [z] at q;cases q
   .refine⟨c,?_,hcell.keeps hk4⟩;show (cellsFrom (s.heap.objs.size+1) scope.names (jq X.env scope.names [])).lookup x=some c;rw [gg scope.names _ _ (ok.free _ (mem_of_lookup hfr) rfl).2];obtain⟨d,hd⟩:=Mx.mp (j4 (env:=X.env) scope.names [] (.inl (mem_of_lookup hfr)));rw [hd,<- hclo x d hd,hc]
 .rcases cases x c e with ⟨z,_⟩|z
  .exact⟨none,z⟩
  .obtain⟨v,q⟩:=I.cell x c z;exact⟨v,q.keeps hk4⟩
 .rcases cases x c e with ⟨_,z⟩|z
  .exact I.hok.fresh (NH z)
  .exact I.freeC x c z
 .have hp':p∈X.pn++pins:=by simpa [aT] using hp
  obtain⟨q1,q2,q3,q4,q5⟩:=I.pin p hp';refine⟨hk4 _ _ q1,q2,F_ (pj q1),λz=>?_,q5⟩
  rcases C_.mp (I.stkSub p.1 z) with q|q
  .exact q3 q
  .exact q4 q
 .unfold sP;rw [length_map];exact ok.len.symm
variable {qual:Str}
def eA{globals:Addr}{cl:List (Str×Addr)}{func:Option Addr}{code:Value}{Q:Env->d_->Prop}(hQ:Q { scope:=scope,locals:=s.heap.objs.size,globals:=globals,cells:=cellsFrom (s.heap.objs.size+1) scope.names cl,qual:=qual,func:=func,code:=env.code,frame:=env.frame,builtins:=env.builtins }
   { s with heap:=pushCells (s.heap.push { cls:=.type "dict",data:=.dict #[] }) scope.names }):
  wpAny M A (newFunctionEnv scope globals cl [] qual func code (some env)) Q E s:=by
 simp only [newFunctionEnv,Option.isSome_some,if_true];refine cy (wpAny_alloc ?_);refine cy (wpAny_layCells _ (λname kind cells=>by cases hkc:kind == ML <;> simp [hkc]) _ _ _ _ ?_);rw [show ({ s with heap:=s.heap.push { cls:=.type "dict",data:=.dict #[] } }:d_).heap.objs.size=s.heap.objs.size+1 from Lw ..];simp only [forIn_nil];exact cy (g_ (g_ hQ))
variable {prog:tj}{R:Result->d_->Prop}
theorem sQ{elt target iter:Expr}{ifs:List Expr}{it acc:Value}(I:Nat->d_->Prop)(turn:∀n s,I n s->wpAny (model prog w) A (pyNext it) (λr s₁=>match r with
   | none=>R (.ok .next) s₁
   | some v=>wpAny (model prog w) A (letOwnedTupleGo target it v) (λ_ s₂=>wpAny (model prog w) A (assign target env v) (λ_ s₃ =>
     wpAny (model prog w) A (forIn ifs true λc r=>if r=true then do let ok <- isTrue c env (eval c env);pure (LV ok) else pure (LV r)) (λok s₄ =>
      if ok=true then wpAny (model prog w) A (eval elt env) (λx s₅ =>
       wpAny (model prog w) A (call (.builtin "list.append") [acc,x]) (λ_ s₆=>∃m,m<n/\I m s₆) (λ_ _=>False) s₅) (λ_ _=>False) s₄
      else ∃m,m<n/\I m s₄) (λ_ _=>False) s₃) (λ_ _=>False) s₂) (λ_ _=>False) s₁) (λ_ _=>False) s)(n:Nat)(h:I n s):
  codeAny (model prog w) A (.compLoop (.ListComp elt [⟨target,iter,ifs,0⟩] scope pos) 0 it acc env) R s:=by
 refine codeAny_loop rfl I (λn s hI=>?_) n h;show wpAny _ A ((compTurn (.ListComp elt [⟨target,iter,ifs,0⟩] scope pos) 0 it acc env).onRaise (λx=>do noteFrame x env;theTreesLotGoes x)) _ _ s;refine wpAny_noted ?_;rw [compTurn_list];refine cy (Me (cy (Lr (turn n s hI) (λr s₁ h₁=>?_) λ_ _ h'=>h'.elim)))
 cases r with
 | none=>exact g_ h₁
 | some v =>
  refine cy (Lr h₁ (λ_ s₂ h₂=>?_) λ_ _ h'=>h'.elim);refine cy (Lr h₂ (λ_ s₃ h₃=>cy (Lr h₃ (λok s₄ h₄=>?_) λ_ _ h'=>h'.elim)) λ_ _ h'=>h'.elim)
  cases ok with
  | false=>exact g_ ⟨rfl,h₄⟩
  | true =>
   exact cy (cy (Lr h₄ (λx s₅ h₅=>cy (Lr h₅ (λ_ s₆ h₆=>g_ (g_ ⟨rfl,h₆⟩)) λ_ _ h'=>h'.elim)) λ_ _ h'=>h'.elim))
noncomputable def PIf(X:Cx)(ifs:List Expr)(t:TT):Prop :=
 ∀(pins:List (Addr×Obj)) (s:d_) (σ:St) (H:Hp) (Q:Bool->Hp->Prop),Inv X pins σ H s->t σ H Q ->
  wpAny (model X.prog X.w) X.A (forIn ifs true λc r=>if r=true then do let ok <- isTrue c X.env (eval c X.env);pure (LV ok) else pure (LV r)) (TP X pins σ Q) X.xe s
def fK:TT:=λ_ H Q=>Q true H
def aR:PIf X [] fK:=λ_ _ _ H _ I h=>wpAny_tests_nil ⟨H,I,h⟩
def ik{c:Expr}{t:TT}(h:PT X c t):PIf X [c] t:=λpins s σ H Q I q=>wpAny_tests_one (h pins s σ H Q I q)
noncomputable def qN(ix:List (Option Nat))(wi:TI)(g:TG)(tts:TT)(te:TE):TE:=λσ H Q=>wi σ H λJ H1=>∀D,H1 D=none->∃W:Nat->Nat->St->Hp->Prop,(∃m,W 0 m (sP ix σ) (upd H1 D (.lst [])))/\∀i m τ H2,W i m τ H2 ->
 (J.stop i H2/\Q (.ref D) H2)\/(J.go i H2/\∀x H3,J.yld i H2 x H3->g x τ H3 λτ2 H4=>tts τ2 H4 λok H5=>if ok=true then te τ2 H5 λv H6=>∃ys,H6 D=some (.lst ys)/\ys.length<sizeLine/\∃m',m'<m/\W (i+1) m' τ2 (upd H6 D (.lst (ys++[v])))
  else ∃m',m'<m/\W (i+1) m' τ2 H5)
variable {iter elt:Expr}{ifs:List Expr}{N':List Str}{wi:TI}{g:TG}{tts:TT}{te:TE}
def sR{use:Option (Value->Sem Unit)}{Qf:Value->d_->Prop}{p':Pos}{Q:VK}(hc:X.calm=true)(ok:wC X.env X.N scope N' ix)(hi:PI X tg iter wi)(blk:∀s H fp pn,PG (aT X N' scope s H fp pn) tg g/\PIf (aT X N' scope s H fp pn) ifs tts/\PE (aT X N' scope s H fp pn) elt te)(hs:∀x,foldedSetIterable iter X.env x=pure x)(I:Inv X pins σ H s)(hw:qN ix wi g tts te σ H Q)(fin:∀D C H' s',Inv X pins σ H' s'->Q (.ref D) H'->(∃m,s'.heap.Ns C m)->H' C=none->X.s₀.heap.objs.size<=C->C≠X.env.locals->(∀x c,X.env.cells.lookup x=some c->c≠C)->C∉X.fs->(∀p∈X.pn++pins,p.1≠C) ->
   compPost (model X.prog X.w) X.A X.xe use Qf (.ref D) C (.ok .next) s'):
  wpAny (model X.prog X.w) X.A (comprehension (.ListComp elt [⟨tg,iter,ifs,0⟩] scope pos) scope X.env p' (newList []) false (eval iter X.env) use) Qf X.xe s:=by
 have hclos:closureFor scope X.env=pure (jq X.env scope.names []):=hG λy hy e=>I.ok.has y.1 (ok.free y hy e).1;refine wpAny_comprehension_free (use:=use) rfl hs hclos ok.kind ok.loc (thn (hi pins s σ H _ I hw) λv s1 h1=>thn h1 λitv s2 h2=>?_);obtain⟨it,fp,tn,J,H2,e,I2,T,st2,f2,hW⟩:=h2;subst e;obtain⟨W,⟨m0,w0⟩,turn⟩:=hW s2.heap.objs.size (I2.hok.fresh (e_ _))
 have hfl:∀b∈fp,b<s2.heap.objs.size:=λb hb=>by
  obtain⟨o,e,_⟩:=T.obj 0 _ st2 b hb;exact pj e
 refine L4 ?_
 have I3:Inv X pins σ (upd H2 s2.heap.objs.size (.lst [])) { s2 with heap:=s2.heap.push { cls:=.type "list",dict:=none,data:=.seq ([]:List Value).toArray } } :=
  I2.laid (t':=s2.toks) (λb o e=>f_ _ e) (e_ _) (show cf X.prog X.w _ _ _ (.lst []) from ⟨K_ _,[],0,.nil,k_ _ rfl⟩)
 have st3:tn 0 (s2.heap.push { cls:=.type "list",dict:=none,data:=.seq ([]:List Value).toArray }):=T.keep 0 _ _ st2 λb _ o e=>f_ _ e;have f3:∀b∈fp,uw X pins (upd H2 s2.heap.objs.size (.lst [])) b:=λb hb=>⟨by rw [aC (F_ (hfl b hb))];exact (f2 b hb).1,(f2 b hb).2⟩
 have hfl3:∀b∈fp,b<(s2.heap.push { cls:=.type "list",dict:=none,data:=.seq ([]:List Value).toArray }).objs.size:=λb hb=>by rw [Lw];exact MM (hfl b hb)
 generalize hs3:({ s2 with heap:=s2.heap.push { cls:=.type "list",dict:=none,data:=.seq ([]:List Value).toArray } }:d_)=s3 at I3 ⊢;have eh3:s3.heap=s2.heap.push { cls:=.type "list",dict:=none,data:=.seq ([]:List Value).toArray }:=by rw [<- hs3]
 rw [<- eh3] at st3 hfl3;generalize hH3:upd H2 s2.heap.objs.size (.lst [])=H3 at I3 f3 w0;generalize hD:s2.heap.objs.size=D at *;refine eA ?_;have I4:=wE ok I3 f3 hfl3;obtain⟨hg,ht,he⟩:=blk s3 H3 fp pins;have st4:tn 0 (pushCells (s3.heap.push { cls:=.type "dict",data:=.dict #[] }) scope.names):=T.keep 0 _ _ st3 λb _ o e=>NP _ _ b o (f_ _ e)
 have stat:∀{H':Hp},(∀b∈fp,H' b=none)->∀b∈fp,uw (aT X N' scope s3 H3 fp pins) [] H' b:=λhn b hb=>by
  refine⟨hn b hb,F_ (hfl3 b hb),I4.ok.exfs b hb,.inl hb,(I4.ok.exf b hb).2,λp hp=>?_⟩;have hp':p∈X.pn++pins:=by simpa [aT] using hp
  exact (f2 b hb).2.2.2.2.2 p hp'
 have loop:∀(s4:d_),Inv (aT X N' scope s3 H3 fp pins) [] (sP ix σ) H3 s4->tn 0 s4.heap ->
   codeAny (model X.prog X.w) X.A (.compLoop (.ListComp elt [⟨tg,iter,ifs,0⟩] scope pos) 0 (.ref it) (.ref D) (qL scope s3.heap.objs.size X.env)) (compPost (model X.prog X.w) X.A X.xe use Qf (.ref D) s3.heap.objs.size) s4:=by
  intro s4 I4 st4;refine sQ (λn s'=>∃i τ H',Inv (aT X N' scope s3 H3 fp pins) [] τ H' s'/\tn i s'.heap/\(∀b∈fp,H' b=none)/\W i n τ H') ?_ m0 ⟨0,_,H3,I4,st4,λb hb=>(f3 b hb).1,w0⟩;rintro n s5 ⟨i,τ,H5,I5,st5,fr5,w5⟩
  rcases turn i n τ H5 w5 with ⟨stop,qn⟩|⟨go,step⟩
  .refine thn (T.done (aT X N' scope s3 H3 fp pins) rfl rfl rfl hc i [] s5 τ H5 (λ_ _=>False) I5 (stat fr5) st5 stop) λr s6 ⟨hr,I6⟩=>?_;subst hr;have I7:Inv X pins σ H5 s6:=I3.call' (ch:=fp) I6.os I6.base I6.hok I6.bare λb hb=>⟨(f2 b hb).2.2.2.1,(f2 b hb).2.1,(f2 b hb).2.2.2.2.1,(f2 b hb).2.2.2.2.2⟩
   obtain⟨m6,hn6,_⟩:=I6.loc
   refine fin D s3.heap.objs.size H5 s6 I7 qn ⟨m6,hn6⟩ I6.free ?_ ?_ ?_ ?_ ?_
   .exact I3.sz
   .exact N1 I3.lt
   .intro x c e z;obtain⟨v,q⟩:=I3.cell x c e;have:=q.lt;rw [z] at this;exact E_ _ this
   .exact I3.nofs (e_ _)
   .intro p hp z;have:=pj (I3.pin p hp).1;rw [z] at this;exact E_ _ this
  .refine thn (T.item (aT X N' scope s3 H3 fp pins) rfl rfl rfl hc i [] s5 τ H5 (λ_ _=>False) I5 (stat fr5) st5 go) λr s6 ⟨u,hr,h6⟩=>?_;subst hr;refine thn h6 λ_ s7 ⟨x,H7,I7,r7,y7,st7,fr7⟩=>?_;have I7':=I7.pinned (stat fr7) (T.obj _ _ st7)
   have again:∀{s8:d_}{τ8:St}{H8:Hp},Inv (aT X N' scope s3 H3 fp pins) ([]++mI fp s7.heap) τ8 H8 s8->(∃m',m'<n/\W (i+1) m' τ8 H8) ->
     ∃m,m<n/\∃i τ H',Inv (aT X N' scope s3 H3 fp pins) [] τ H' s8/\tn i s8.heap/\(∀b∈fp,H' b=none)/\W i m τ H':=λ{s8 τ8 H8} I8 ⟨m',hm,w8⟩=>by
    refine⟨m',hm,i+1,τ8,H8,I8.unpinned,T.keep _ _ _ st7 λb hb o e=>(I8.pin (b,o) (tf _ (tf _ (cM hb e)))).1,λb hb=>?_,w8⟩;obtain⟨o,e,d⟩:=T.obj _ _ st7 b hb;exact (I8.pin (b,o) (tf _ (tf _ (cM hb e)))).2.1
   refine thn (hg _ s7 τ H7 x u _ I7' r7 (step x H7 y7)) λ_ s8 ⟨τ8,H8,I8,q8⟩=>?_;refine thn (ht _ s8 τ8 H8 _ I8 q8) λokb s9 ⟨H9,I9,q9⟩=>?_
   cases okb with
   | false =>
    rw [if_neg l_] at q9;rw [if_neg l_];exact again I9 q9
   | true =>
    rw [if_pos rfl] at q9;rw [if_pos rfl];refine thn (he _ s9 τ8 H9 _ I9 q9) λv10 s10 ⟨x10,H10,I10,r10,q10⟩=>?_;obtain⟨ys,hD10,hz,m',hm,w10⟩:=q10;refine thn (en (X:=aT X N' scope s3 H3 fp pins) _ s10 τ8 H10 (.ref D) [x10] (.ref D) [v10] (λ_ H'=>∃m',m'<n/\W (i+1) m' τ8 H') I10 rfl (.cons r10 .nil) ⟨D,ys,x10,rfl,rfl,hD10,hz,m',hm,w10⟩) λ_ s11 ⟨_,H11,I11,_,q11⟩=>?_;exact again I11 q11
 exact codeAny_compStart_list (loop _ I4 st4) (T.self X.A 0 _ _ _ st4 (loop _ I4 st4))
def aP(N':List Str)(ix:List (Option Nat))(hc:X.calm=true)(hi:PI X tg iter wi)(blk:∀s H fp pn,PG (aT X N' scope s H fp pn) tg g/\PIf (aT X N' scope s H fp pn) ifs tts/\PE (aT X N' scope s H fp pn) elt te)(chk:kR X.env.scope X.N scope N' ix=true)(hs:∀x,foldedSetIterable iter X.env x=pure x:=by intro _;rfl):
  PE X (.ListComp elt [⟨tg,iter,ifs,0⟩] scope pos) (qN ix wi g tts te):=by
 intro pins s σ H Q I hw;rw [eval_ListComp];refine sR (use:=none) hc (j5 chk) hi blk hs I hw λD C H' s' I' q hm hn h1 h2 h3 h4 h5=>?_;obtain⟨m,hm⟩:=hm;refine⟨m,hm,λh' sb=>⟨.ref D,H',?_,rfl,q⟩⟩;exact I'.turned (t':=s'.toks) (λb o hb e=>(sb.2 b hb).trans e) hn h2 (.inr h1) h3 h5
theorem uG{pos' cpos:Pos}(N':List Str)(ix:List (Option Nat))(hN:X.N.Nodup)(hi:X.N[i]?=some x)(hx:Loc X.env.scope x)(hc:X.calm=true)(hit:PI X tg iter wi)(blk:∀s H fp pn,PG (aT X N' scope s H fp pn) tg g/\PIf (aT X N' scope s H fp pn) ifs tts/\PE (aT X N' scope s H fp pn) elt te)(chk:kR X.env.scope X.N scope N' ix=true)(hsw:swapsWith (.ListComp elt [⟨tg,iter,ifs,0⟩] scope cpos) (some (.Name x pos')) pos.line X.env=pure true:=by rfl)(hs:∀x,foldedSetIterable iter X.env x=pure x:=by intro _;rfl)(hf:X.fn x=true\/X.env.scope.names.lookup x=some .local:=by first|exact .inl rfl|exact .inr rfl|assumption):
  PS X (.Assign [.Name x pos'] (.ListComp elt [⟨tg,iter,ifs,0⟩] scope cpos) pos) (DS (qN ix wi g tts te) (aU i)):=by
 intro pins s σ H D I hw;rw [exec_Assign_Name_used _ _ _ _ hsw];refine cy (Me (cy ?_));show wpAny _ X.A (do let _ <- comprehension (.ListComp elt [⟨tg,iter,ifs,0⟩] scope cpos) scope X.env _ (newList []) false (eval iter X.env) (some (assign (.Name x pos') X.env))) _ _ s;refine cy (thn (sR (use:=some (assign (.Name x pos') X.env)) (Qf:=λ_ s'=>SP X pins D .next s') hc (j5 chk) hit blk hs I hw λD' C H' s' I' q hm hn h1 h2 h3 h4 h5=>?_) λ_ s' q=>g_ (g_ q))
 obtain⟨m,oC,es,ep,hoC,hdC,hrC⟩:=hm
 have Ip:Inv X (pins++[(C,oC)]) σ H' s':=I'.pins_of λp hp=>(Ml.mp hp).elim (λz=>I'.pin p (tf _ z)) λz=>by
  have e:p=(C,oC):=by simpa using z
  subst e;exact⟨hoC,hn,h2,h4,λv z=>by rw [hdC] at z;cases z⟩
 refine Og (jX (v:=.ref D') Ip hN hi hx rfl (λs2 I2=>?_) hf);have hC2:s2.heap.get? C=some oC:=(I2.pin (C,oC) (by simp)).1;have I2':Inv X pins (σ.set i (some (.ref D'))) H' s2:=I2.pins_of λp hp=>I2.pin p (tf _ (Mr _ hp));refine⟨m,⟨oC,es,ep,hC2,hdC,hrC⟩,λh' sb=>⟨_,H',?_,q⟩⟩;exact I2'.turned (t':=s2.toks) (λb o hb e=>(sb.2 b hb).trans e) hn h2 (.inr h1) h3 h5
noncomputable def CQ(p:Addr)(a b c:Int):HO:=.ext λh=>∃t u v,IsRange h p a b c t u v
noncomputable def uH(a c:Int)(n:Nat):List V:=(c_ n).map λ(k:Nat)=>V.int (a+k*c)
def xN{a c:Int}{acc:Array Value}(h:ItemsOf (λi v=>∃t,v=.int (a+i*c) t) acc n):bP (uH a c n) acc.toList:=by
 obtain⟨hn,hi⟩:=h
 have key:∀(m:Nat) (us:List Value) (f:Nat->Int),us.length=m->(∀i u,us[i]?=some u->∃t,u=NC (f i) t)->bP ((c_ m).map λk=>V.int (f k)) us:=by
  intro m
  induction m with
  | zero=>intro us f hl _;rw [LW] at hl;subst hl;exact .nil
  | succ m ih =>
   intro us f hl hu
   cases us with
   | nil=>simp at hl
   | cons u r =>
    rw [range_succ_eq_map,map_cons,map_map];refine .cons (hu 0 u rfl) (ih r (λk=>f (k+1)) (by simpa using hl) λi v e=>hu (i+1) v (by simpa using e))
 refine key n acc.toList (λk=>a+k*c) (by simpa using hn) λi u e=>?_;exact hi i u (by simpa using e)
def zc(a c:Int)(n:Nat):(uH a c n).length=n:=by simp [uH]
def BB{a b c:Int}{t u v:Tok}{tk:Nat}(I:Inv X pins σ H s):
  Inv X pins σ (upd H s.heap.objs.size (CQ s.heap.objs.size a b c)) { s with heap:=s.heap.push { cls:=.type "range",data:=.fields #[.int a t,.int b u,.int c v] },toks:=tk }:=by
 refine I.laid (λb o e=>f_ _ e) (e_ _) ⟨⟨t,u,v,IsRange.new ..⟩,⟨_,k_ _ rfl⟩,λh1 h2 ⟨t,u,v,z⟩ k=>⟨t,u,v,k _ z⟩⟩
def mW{a:Expr}(hg:Gl X "range")(hm:X.mg "range"=none)(ha:PA X [a] ta)(hs:starEach [a] X.env=[(false,eval a X.env)]:=by rfl):
  PE X (.Call (.Name "range" p) [a] [] pos) (λσ H Q=>ta σ H λvs H1=>∃j:Int,vs=[.int j]/\∀p,H1 p=none->Q (.ref p) (upd H1 p (CQ p 0 j 1))):=by
 intro pins s σ H Q I h;refine Call_ (lO I hg hm boot_range (LA (thn (ha pos pins s σ H _ I h) λus s1 ⟨vs,H1,I1,r1,q1⟩=>?_) hs rfl));obtain⟨j,e,q⟩:=q1;subst e
 cases r1 with
 | cons r rr =>
  cases rr;obtain⟨t,rfl⟩:=r;exact call_range_1 ⟨.ref s1.heap.objs.size,_,BB I1,rfl,q _ (I1.hok.fresh (e_ _))⟩
noncomputable def Jk(K:b_)(mk:List V->HO):List V->Hp->VK->Prop:=λxs H Q=>∃p a b c n,xs=[.ref p]/\H p=some (CQ p a b c)/\M5 a b c=true/\LX a b c=((n:Nat):Int)/\n<=1000000/\∀l,H l=none->Q (.ref l) (upd H l (mk (uH a c n)))
def xO(hc:X.calm=true):bK X (.type "list") (Jk X.K .lst):=by
 intro pins s σ H xs us Q I r h;obtain⟨p,a,b,c,n,rfl,hp,hsm,hsz,hn,q⟩:=h;obtain⟨u,rfl,rx⟩:=ie r;cases rx;obtain⟨⟨t,u,v,hr⟩,_,_⟩:=(show cf X.prog X.w H s.heap p (CQ p a b c) from I.hok p _ hp)
 have hs:sizeLine=16777216:=L5;refine call_list_range (I.ok.hd hc) hr hsm hsz (by omega) λh' tk acc c' hk e hacc=>?_;exact⟨.ref s.heap.objs.size,_,I.laid (t':=tk) hk (e_ _) (show cf X.prog X.w _ h' _ (.lst (uH a c n)) from ⟨by rw [zc];omega,acc.toList,c',xN hacc,by simpa using e⟩),rfl,q _ (I.hok.fresh (e_ _))⟩
noncomputable def fe(k:Bool)(h:Heap)(a:Addr)(its:Array Value):Prop:=∃o,h.get? a=some o/\o.cls=.type (cond k "tuple" "list")/\∃n,o.data=.seq its n
noncomputable def cB(k:Bool)(h:Heap)(it a:Addr)(i:Nat):Prop:=∃o,h.get? it=some o/\o.cls=.type (cond k "tuple_iterator" "list_iterator")/\o.data=.fields #[.ref a,.int i 0]
variable {h h':Heap}
def fe.mv{k:Bool}{a:Addr}{its:Array Value}(r:fe k h a its)(f:∀o,h.get? a=some o->h'.get? a=some o):fe k h' a its:=let ⟨o,e,q⟩:=r;⟨o,f o e,q⟩
def cB.mv{k:Bool}{it a:Addr}(r:cB k h it a i)(f:∀o,h.get? it=some o->h'.get? it=some o):cB k h' it a i:=let ⟨o,e,q⟩:=r;⟨o,f o e,q⟩
section
variable {P:tj}{it a:Addr}{its:Array Value}{Q:Value->d_->Prop}
def sS{x:Value}(W:s.heap.IsTupleIter it a i)(R:s.heap.IsTuple a its)(hx:its[i]?=some x)(hQ:∀h',h'.IsTupleIter it a (i+1)->Np it s.heap h'->Q x { s with heap:=h' }):wpAny (model P w) A (w_ (.ref it)) Q E s:=by
 have hT:=W.typeIs;obtain⟨o,ho,c,d⟩:=W;obtain⟨ol,hol,_,nl,dl⟩:=R;unfold w_;refine cy (LB (name:=MX "__next__") hT F.slot_tuple_iterator_next (LY F.slot_tuple_iterator_next hT F.entry_tuple_iterator_next ?_ (F.args_tuple_iterator_next_1 _)));refine cy (m:=field (.ref it) 0) (LF ho d (x:=.ref a) rfl ?_);have nn:¬ ((n_ a == L0)=true):=l_
 show wpAny _ _ (if (n_ a == L0)=true then _ else _) _ _ s;rw [if_neg nn];refine cy (m:=field (.ref it) 1) (LF ho d (x:=.int i 0) rfl ?_);refine cy (m:=seqItems? (.ref a)) (Mo hol dl ?_);simp only [toNat_natCast,hx];exact cy (wpAny_setField ho d (by simp) (g_ ⟨x,rfl,g_ (hQ _ ⟨_,Heap.get?_update_self _ ho (Obj.isFreed_of_fields (Obj.data_mapFields d _)),(Obj.cls_mapFields ..).trans c,by rw [Obj.data_mapFields d];simp [rawInt]⟩ (Heap.SameBut.update ..))⟩))
def uI(hh:A.handled=none)(W:s.heap.IsTupleIter it a i)(R:s.heap.IsTuple a its)(hx:its[i]?=none)(hE:∀h' e,OL it s.heap h'->(∃o,h'.get? e=some o/\o.cls=.type "StopIteration")->E (.ref e) { s with heap:=h' }):wpAny (model P w) A (w_ (.ref it)) Q E s:=by
 have hT:=W.typeIs;obtain⟨o,ho,c,d⟩:=W;obtain⟨ol,hol,_,nl,dl⟩:=R;unfold w_;refine cy (LB (name:=MX "__next__") hT F.slot_tuple_iterator_next (LY F.slot_tuple_iterator_next hT F.entry_tuple_iterator_next ?_ (F.args_tuple_iterator_next_1 _)));refine cy (m:=field (.ref it) 0) (LF ho d (x:=.ref a) rfl ?_);have nn:¬ ((n_ a == L0)=true):=l_
 show wpAny _ _ (if (n_ a == L0)=true then _ else _) _ _ s;rw [if_neg nn];refine cy (m:=field (.ref it) 1) (LF ho d (x:=.int i 0) rfl ?_);refine cy (m:=seqItems? (.ref a)) (Mo hol dl ?_);simp only [toNat_natCast,hx];refine cy (N9 (cy (wpAny_setField ho d (by simp) (cy (m:=newExc (.type "StopIteration") []) ?_))));simp only [newExc,newTuple]
 refine cy (L4 (cy (m:=firstArgMember _ _) (OM (a:=L0) (by first|rfl|(simp only [firstArgMember];rfl)) (L4 ?_ (by size_fits)))) (by size_fits));simp only [raiseNew];refine cy (wpAny_handled ?_)
 first|rw [show A.in1.handled=none from hh]|rw [hh]
 exact cy (g_ (wpAny_throw (hE _ _ (((Heap.SameBut.update ..).extBut.push _).push _) ⟨_,k_ _ rfl,rfl⟩)))
variable {k:Bool}
def eY{x:Value}(W:cB k s.heap it a i)(R:fe k s.heap a its)(hx:its[i]?=some x)(hQ:∀h',cB k h' it a (i+1)->Np it s.heap h'->Q x { s with heap:=h' }):wpAny (model P w) A (w_ (.ref it)) Q E s:=by
 cases k with
 | false=>exact wpAny_nextOf_list_item W R hx hQ
 | true=>exact sS W R hx hQ
def gk(hh:A.handled=none)(W:cB k s.heap it a i)(R:fe k s.heap a its)(hx:its[i]?=none)(hE:∀h' e,OL it s.heap h'->(∃o,h'.get? e=some o/\o.cls=.type "StopIteration")->E (.ref e) { s with heap:=h' }):wpAny (model P w) A (w_ (.ref it)) Q E s:=by
 cases k with
 | false=>exact wpAny_nextOf_list_end hh W R hx hE
 | true=>exact uI hh W R hx hE
end
structure ZA (z U V i j:Addr):Prop where
 Uz:U≠z
 Vz:V≠z
 iz:i≠z
 jz:j≠z
 UV:U≠V
 Ui:U≠i
 Uj:U≠j
 Vi:V≠i
 Vj:V≠j
 ij:i≠j
section
variable {P:tj}{k l:Bool}{z U V i j a c:Addr}{xs ys:Array Value}{x y v:Value}{Q:Value->d_->Prop}
def Ej(D:ZA z U V i j)(az:a≠z)(cz:c≠z)(ci:c≠i)(cV:c≠V)(hz:IsZip s.heap z U V .none)(hU:Ng s.heap U (.ref i) (.ref j))(hV:Ng s.heap V u v)(W1:cB k s.heap i a n)(W2:cB l s.heap j c n)(R1:fe k s.heap a xs)(R2:fe l s.heap c ys)(hx:xs[n]?=some x)(hy:ys[n]?=some y)(hQ:∀h',IsZip h' z U V (rawInt s.heap.objs.size)->Ng h' V x y->cB k h' i a (n+1)->cB l h' j c (n+1)->Ng h' s.heap.objs.size x y->h'.objs.size=s.heap.objs.size+1 ->
   (∀b o,b≠z->b≠V->b≠i->b≠j->s.heap.get? b=some o->h'.get? b=some o)->Q (.ref s.heap.objs.size) { s with heap:=h' }):
  wpAny (model P w) A (Od.«zip.__next__» ⟨[.ref z],[]⟩) (λf s'=>∃r,f=.done (.ret r)/\Q r s') E s:=by
 refine cy (m:=field (.ref z) 2) (LF hz rfl (x:=.bool false) rfl (cy (m:=field (.ref z) 3) (LF hz rfl (x:=.ref U) rfl (cy (Mo hU rfl ?_)))));refine cy (m:=LQ (.ref z)) ?_;unfold LQ;refine cy (LF hz rfl (x:=.none) rfl (g_ ?_));simp only [if_true];refine cy (N9 (cy (LF hz rfl (x:=.ref V) rfl (cy (Mp hz (by simp) λg1 z1 b1=>cy ?_)))))
 replace z1:IsZip g1 z U V .ellipsis:=z1
 simp only [zipIdx_cons,zipIdx_nil,forIn_cons,forIn_nil];have e1:=b1.extBut;refine cy (cy (NI (cy (m:=w_ (.ref i)) (eY (W1.mv λo e=>e1 _ o D.iz e) (R1.mv λo e=>e1 _ o az e) hx λg2 w1 b2=>g_ ?_))));have e2:=b2.extBut;have v2:Ng g2 V u v:=e2 _ _ D.Vi (e1 _ _ D.Vz hV);refine cy (Mo v2 rfl (cy (NK v2 λg3 v3 b3=>cy (wpAny_letGo (g_ ?_)))))
 replace v3:Ng g3 V x v:=v3
 have e3:=b3.extBut;refine cy (cy (NI (cy (m:=w_ (.ref j)) (eY (W2.mv λo e=>e3 _ o D.Vj.symm (e2 _ o D.ij.symm (e1 _ o D.jz e))) (R2.mv λo e=>e3 _ o cV (e2 _ o ci (e1 _ o cz e))) hy λg4 w2 b4=>g_ ?_))));have e4:=b4.extBut;have v4:Ng g4 V x v:=e4 _ _ D.Vj v3;refine cy (Mo v4 rfl (cy (NK v4 λg5 v5 b5=>cy (wpAny_letGo (g_ (g_ ?_))))))
 replace v5:Ng g5 V x y:=v5
 have e5:=b5.extBut;refine cy (Mo v5 rfl (cy (wpAny_newTuple ?_)));have sz:g5.objs.size=s.heap.objs.size:=by rw [b5.1,b4.1,b3.1,b2.1,b1.1]
 have z5:IsZip g5 z U V .ellipsis:=e5 _ _ D.Vz.symm (e4 _ _ D.jz.symm (e3 _ _ D.Vz.symm (e2 _ _ D.iz.symm z1)));have k5:∀b o,b≠z->b≠V->b≠i->b≠j->s.heap.get? b=some o->g5.get? b=some o:=λb o q1 q2 q3 q4 e=>e5 _ _ q2 (e4 _ _ q4 (e3 _ _ q2 (e2 _ _ q3 (e1 _ _ q1 e))));have w15:cB k g5 i a (n+1):=w1.mv λo e=>e5 _ o D.Vi.symm (e4 _ o D.ij (e3 _ o D.Vi.symm e));have w25:cB l g5 j c (n+1):=w2.mv λo e=>e5 _ o D.Vj.symm e
 have zlt:z<g5.objs.size:=pj z5;refine cy (m:=M6 (.ref z) (.ref g5.objs.size)) ?_;unfold M6;have z6:IsZip (g5.push { cls:=.type "tuple",data:=.seq #[x,y] }) z U V .ellipsis:=f_ _ z5;refine cy (Mp z6 (by simp) λg7 z7 b7=>?_)
 replace z7:IsZip g7 z U V (rawInt g5.objs.size):=z7
 refine Mp z7 (by simp) λg8 z8 b8=>?_
 replace z8:IsZip g8 z U V (rawInt g5.objs.size):=z8
 have up:∀b o,b≠z->g5.get? b=some o->g8.get? b=some o:=λb o q e=>b8.extBut _ _ q (b7.extBut _ _ q (f_ _ e));have t8:Ng g8 g5.objs.size x y:=b8.extBut _ _ (N1 zlt) (b7.extBut _ _ (N1 zlt) (k_ _ rfl));have s8:g8.objs.size=g5.objs.size+1:=by rw [b8.1,b7.1,Lw]
 rw [sz] at z8 t8 s8;refine g_ ⟨_,rfl,?_⟩;show Q (.ref g5.objs.size) _;rw [sz];exact hQ g8 z8 (up _ _ D.Vz v5) (w15.mv λo e=>up _ o D.iz e) (w25.mv λo e=>up _ o D.jz e) t8 s8 λb o q1 q2 q3 q4 e=>up b o q1 (k5 b o q1 q2 q3 q4 e)
def GO{Q:Fin->d_->Prop}(hh:A.handled=none)(D:ZA z U V i j)(az:a≠z)(cz:c≠z)(ci:c≠i)(cV:c≠V)(hz:IsZip s.heap z U V .none)(hU:Ng s.heap U (.ref i) (.ref j))(hV:Ng s.heap V u v)(W1:cB k s.heap i a n)(W2:cB l s.heap j c n)(R1:fe k s.heap a xs)(R2:fe l s.heap c ys)(hend:xs[n]?=none\/ys[n]?=none)(hE:∀h' e,(∀b o,b≠z->b≠V->b≠i->b≠j->s.heap.get? b=some o->h'.get? b=some o)->(∃o,h'.get? e=some o/\o.cls=.type "StopIteration")->E (.ref e) { s with heap:=h' }):
  wpAny (model P w) A (Od.«zip.__next__» ⟨[.ref z],[]⟩) Q E s:=by
 refine cy (m:=field (.ref z) 2) (LF hz rfl (x:=.bool false) rfl (cy (m:=field (.ref z) 3) (LF hz rfl (x:=.ref U) rfl (cy (Mo hU rfl ?_)))));refine cy (m:=LQ (.ref z)) ?_;unfold LQ;refine cy (LF hz rfl (x:=.none) rfl (g_ ?_));simp only [if_true];refine cy (N9 (cy (LF hz rfl (x:=.ref V) rfl (cy (Mp hz (by simp) λg1 z1 b1=>cy ?_)))))
 replace z1:IsZip g1 z U V .ellipsis:=z1
 simp only [zipIdx_cons,zipIdx_nil,forIn_cons,forIn_nil];have e1:=b1.extBut
 cases hx:xs[n]? with
 | none =>
  refine cy (cy (NI (cy (m:=w_ (.ref i)) (gk hh (W1.mv λo e=>e1 _ o D.iz e) (R1.mv λo e=>e1 _ o az e) hx λg2 e b2 he=>?_))));obtain⟨oe,ge,ce⟩:=he;have z2:IsZip g2 z U V .ellipsis:=b2 _ _ D.iz.symm z1;have ez:e≠z:=λq=>by subst q;rw [z2] at ge;cases ge;simp at ce
  exact Mp z2 (by simp) λg3 _ b3=>hE g3 e (λb o q1 _ q3 _ q=>b3.extBut _ _ q1 (b2 _ _ q3 (e1 _ _ q1 q))) ⟨oe,b3.extBut _ _ ez ge,ce⟩
 | some x =>
  have hy:ys[n]?=none:=by
   rcases hend with q|q
   .rw [hx] at q;cases q
   .exact q
  refine cy (cy (NI (cy (m:=w_ (.ref i)) (eY (W1.mv λo e=>e1 _ o D.iz e) (R1.mv λo e=>e1 _ o az e) hx λg2 w1 b2=>g_ ?_))));have e2:=b2.extBut;have v2:Ng g2 V u v:=e2 _ _ D.Vi (e1 _ _ D.Vz hV);refine cy (Mo v2 rfl (cy (NK v2 λg3 v3 b3=>cy (wpAny_letGo (g_ ?_)))))
  have e3:=b3.extBut;refine cy (cy (NI (cy (m:=w_ (.ref j)) (gk hh (W2.mv λo e=>e3 _ o D.Vj.symm (e2 _ o D.ij.symm (e1 _ o D.jz e))) (R2.mv λo e=>e3 _ o cV (e2 _ o ci (e1 _ o cz e))) hy λg4 e b4 he=>?_))));obtain⟨oe,ge,ce⟩:=he;have z4:IsZip g4 z U V .ellipsis:=b4 _ _ D.jz.symm (e3 _ _ D.Vz.symm (e2 _ _ D.iz.symm z1));have ez:e≠z:=λq=>by subst q;rw [z4] at ge;cases ge;simp at ce
  exact Mp z4 (by simp) λg5 _ b5=>hE g5 e (λb o q1 q2 q3 q4 q=>b5.extBut _ _ q1 (b4 _ _ q4 (e3 _ _ q2 (e2 _ _ q3 (e1 _ _ q1 q))))) ⟨oe,b5.extBut _ _ ez ge,ce⟩
end
noncomputable def Sq(k:Bool)(K:b_)(H:Hp)(a:Addr)(xs:List V):Prop:=cond k (SqT K H a xs) (SqL K H a xs)
variable {k:Bool}{a:Addr}
def Inv.row(I:Inv X pins σ H s)(h:Sq k X.K H a xs):∃its:List Value,bP xs its/\fe k s.heap a its.toArray/\xs.length<=sizeLine:=by
 cases k with
 | false=>obtain⟨its,r,p,z⟩:=I.list h;exact⟨its,r,p.isList,z⟩
 | true=>obtain⟨its,r,p,z⟩:=I.tuple h;exact⟨its,r,p,z⟩
variable {ys:List V}
def Inv.row_inj(I:Inv X pins σ H s)(h:Sq k X.K H a xs)(h':Sq k X.K H a ys):xs=ys:=by
 cases k with
 | false=>exact I.list_inj h h'
 | true=>exact I.tuple_inj h h'
def zd{u:HO}(r:Rd H a u):∃v,H a=some v:=by
 rcases r with r|⟨o,r⟩ <;> exact⟨_,r⟩
variable {b:Addr}
def Inv.row_ne(I:Inv X pins σ H s)(h:Sq k X.K H a xs)(f:uw X pins H b):a≠b:=by
 have kk:∀o,X.K.lookup a=some o->a≠b:=λo e z=>by
  have e1:=I.ok.mod.kin a o e
  rcases f.2.2.2.1 with q|q
  .exact I.ok.noex a o e1 (z ▸ q)
  .exact absurd (u1 (pj (I.ok.bs a o e1).1) (z ▸ q)) (E_ _)
 have hh:∀u,H a=some u->a≠b:=λu e z=>by rw [z,f.1] at e;cases e
 cases k with
 | false =>
  rcases h with r|⟨o,its,n,e,_⟩
  .obtain⟨v,e⟩:=zd r;exact hh v e
  .exact kk o e
 | true =>
  rcases h with r|⟨o,its,n,e,_⟩
  .obtain⟨v,e⟩:=zd r;exact hh v e
  .exact kk o e
variable {c:Addr}{t':Nat}
def Inv.yielded{T:Addr}{zs:List V}{ch:List Addr}(I:Inv X pins σ H s)(hf:∀b∈ch,uw X pins H b)(hT:s.heap.objs.size<=T)(kp:∀b o,b∉ch->s.heap.get? b=some o->h'.get? b=some o)(new:cf X.prog X.w (upd H T (.tup zs)) h' T (.tup zs)):Inv X pins σ (upd H T (.tup zs)) { s with heap:=h',toks:=t' }:=by
 have hn:H T=none:=I.hok.fresh hT;have nT:∀b u,H b=some u->b≠T:=λb u e z=>by rw [z,hn] at e;cases e
 have oT:∀b o,s.heap.get? b=some o->b≠T:=λb o e z=>absurd (u1 (pj e) (z ▸ hT)) (E_ _);have nc:∀b u,H b=some u->b∉ch:=λb u e z=>by rw [(hf b z).1] at e;cases e
 refine I.step (g':=s.gens) (d':=s.drawn) (ch:=ch) (λb hb=>⟨(hf b hb).2.2.2.1,(hf b hb).2.1,(hf b hb).2.2.2.2.1,(hf b hb).2.2.2.2.2⟩) (λb o _ _ hc e _=>kp b o hc e) (λb o _ _ hc e _=>⟨o.slots,kp b o hc e⟩)
  (λb o _ e n=>by rw [aC (oT b o e)];exact n) (λb o hc e=>⟨o,kp b o hc e⟩) (λb xs e=>by rw [aC (nT b _ e)];exact e) (λb o u e=>by rw [aC (nT b _ e)];exact e)
  (λb ps e=>⟨#[],by rw [aC (nT b _ e),e];simp⟩) (λm hm=>?_) (λb u e=>?_) I.bare
 .obtain⟨o,es,ep,ho,r⟩:=hm;exact⟨o,es,ep,kp _ o (λz=>(hf _ z).2.1 rfl) ho,r⟩
 .by_cases hb:b=T
  .subst hb;rw [aY] at e;cases e;exact new
  .rw [aC hb] at e;refine (I.hok b u e).stay (λc v hc q=>kp c v ?_ q) (λc q=>by rw [aC (nT c _ q)];exact q) λc xs q=>by rw [aC (nT c _ q)];exact q
   rcases hc with z|z
   .rw [z];exact nc b u e
   .exact nc c _ z
noncomputable def Itz(k l:Bool)(K:b_)(a c:Addr):It :=
  ⟨λi H=>∃xs ys x y,Sq k K H a xs/\Sq l K H c ys/\xs[i]?=some x/\ys[i]?=some y,
   λi H p H'=>∃T x y,H T=none/\p=.ref T/\(∀xs,Sq k K H a xs->xs[i]?=some x)/\(∀ys,Sq l K H c ys->ys[i]?=some y)/\H'=upd H T (.tup [x,y]),
   λi H=>∃xs ys,Sq k K H a xs/\Sq l K H c ys/\(xs.length<=i\/ys.length<=i)⟩
def BC{P:tj}{ct:Nat}{tp:Pos}{l:Bool}{z U V i j:Addr}(D:ZA z U V i j):
  DT P w K (.Tuple es ct tp) (Itz k l K a c) [z,U,V,i,j] z (λn h=>IsZip h z U V .none/\Ng h U (.ref i) (.ref j)/\(∃u v,Ng h V u v)/\cB k h i a n/\cB l h j c n) where
 mem:=by simp
 obj:=λn h st b hb=>by
  obtain⟨hz,hU,⟨u,v,hV⟩,⟨o1,g1,c1,d1⟩,⟨o2,g2,c2,d2⟩⟩:=st;simp only [C_,not_mem_nil,or_false] at hb
  rcases hb with rfl|rfl|rfl|rfl|rfl
  .exact⟨_,hz,λv q=>by cases q⟩
  .exact⟨_,hU,λv q=>by cases q⟩
  .exact⟨_,hV,λv q=>by cases q⟩
  .exact⟨_,g1,λv q=>by rw [d1] at q;cases q⟩
  .exact⟨_,g2,λv q=>by rw [d2] at q;cases q⟩
 keep:=λn h h' st kk=>by
  obtain⟨hz,hU,⟨u,v,hV⟩,w1,w2⟩:=st;exact⟨kk z (by simp) _ hz,kk U (by simp) _ hU,⟨u,v,kk V (by simp) _ hV⟩,w1.mv λo e=>kk i (by simp) o e,w2.mv λo e=>kk j (by simp) o e⟩
 item:=by
  intro X hP hw hK hc n pins s σ H E I hf st hg;subst hP hw hK;obtain⟨xs,ys,x,y,q1,q2,hx,hy⟩:=hg;obtain⟨hz,hU,⟨u,v,hV⟩,w1,w2⟩:=st;obtain⟨its,rv,p,_⟩:=I.row q1;obtain⟨jts,rv',p',_⟩:=I.row q2;obtain⟨ux,hux,rx⟩:=rv.get hx;obtain⟨uy,huy,ry⟩:=rv'.get hy;have hT:s.TypeIs (.ref z) "zip":=⟨_,hz,rfl⟩
  have nz:=I.row_ne q1 (hf z (by simp));have mz:=I.row_ne q2 (hf z (by simp));have mi:=I.row_ne q2 (hf i (by simp));have mV:=I.row_ne q2 (hf V (by simp));unfold pyNext
  refine cy (wpAny_attempt (LB (name:=MX "__next__") hT F.slot_zip_next (LY F.slot_zip_next hT F.entry_zip_next
   (Ej (x:=ux) (y:=uy) D nz mz mi mV hz hU hV w1 w2 p p' (by simpa using hux) (by simpa using huy) λh' a1 a2 a3 a4 a5 a6 a7=>g_ ?_) (F.args_zip_next_1 _))))
  refine⟨_,rfl,wpAny_letOwnedTupleGo_zip a1 λg gz gs=>?_⟩;have lt:∀{b o},s.heap.get? b=some o->s.heap.objs.size≠b:=λe=>N1 (pj e)
  have kp:∀b o,b∉[z,V,i,j]->s.heap.get? b=some o->g.get? b=some o:=λb o hb e=>by
   simp only [C_,not_mem_nil,or_false,not_or] at hb;exact gs.extBut _ _ hb.1 (a7 b o hb.1 hb.2.1 hb.2.2.1 hb.2.2.2 e)
  have I2:Inv X pins σ (upd H s.heap.objs.size (.tup [x,y])) { s with heap:=g,toks:=s.toks }:=I.yielded (ch:=[z,V,i,j]) (λb hb=>hf b (by
   simp only [C_,not_mem_nil,or_false] at hb ⊢;rcases hb with q|q|q|q <;> simp [q])) (e_ _) kp ⟨by show 2<=sizeLine;decide,[ux,uy],.cons rx (.cons ry .nil),_,gs.extBut _ _ (lt hz) a5,rfl,_,rfl⟩
  refine⟨.ref s.heap.objs.size,_,I2,rfl,⟨_,x,y,I.hok.fresh (e_ _),rfl,λxs' q=>by rw [I.row_inj q q1];exact hx,λys' q=>by rw [I.row_inj q q2];exact hy,rfl⟩,
   ⟨gz,gs.extBut _ _ D.Uz (a7 _ _ D.Uz D.UV D.Ui D.Uj hU),⟨_,_,gs.extBut _ _ D.Vz a2⟩,a3.mv λo e=>gs.extBut _ o D.iz e,a4.mv λo e=>gs.extBut _ o D.jz e⟩,λb hb=>?_⟩
  rw [aC ?_]
  .exact (hf b hb).1
  .intro q;subst q;simp only [C_,not_mem_nil,or_false] at hb;obtain⟨o1,g1,_⟩:=w1;obtain⟨o2,g2,_⟩:=w2
   rcases hb with q|q|q|q|q
   .exact lt hz q
   .exact lt hU q
   .exact lt hV q
   .exact lt g1 q
   .exact lt g2 q
 done:=by
  intro X hP hw hK hc n pins s σ H E I hf st hg;subst hP hw hK;obtain⟨xs,ys,q1,q2,hend⟩:=hg;obtain⟨hz,hU,⟨u,v,hV⟩,w1,w2⟩:=st;obtain⟨its,rv,p,_⟩:=I.row q1;obtain⟨jts,rv',p',_⟩:=I.row q2;have e1:=rv.length;have e2:=rv'.length;have hT:s.TypeIs (.ref z) "zip":=⟨_,hz,rfl⟩
  unfold pyNext
  refine cy (wpAny_attempt (LB (name:=MX "__next__") hT F.slot_zip_next (LY F.slot_zip_next hT F.entry_zip_next
   (GO (I.ok.hd hc) D (I.row_ne q1 (hf z (by simp))) (I.row_ne q2 (hf z (by simp))) (I.row_ne q2 (hf i (by simp))) (I.row_ne q2 (hf V (by simp))) hz hU hV w1 w2 p p' ?_ λh' e hk he=>?_) (F.args_zip_next_1 _))))
  .rcases hend with q|q
   .exact .inl (by simp;omega)
   .exact .inr (by simp;omega)
  .obtain⟨o,ho,hcl⟩:=he;refine cy (wpAny_isInstance (T:="StopIteration") (b:=true) ⟨o,ho,hcl⟩ isSubtype_stop (g_ ⟨rfl,?_⟩))
   exact I.step (g':=s.gens) (d':=s.drawn) (t':=s.toks) (ch:=[z,V,i,j]) (λb hb=>by
     have q:=hf b (by
      simp only [C_,not_mem_nil,or_false] at hb ⊢;rcases hb with q|q|q|q <;> simp [q])
     exact⟨q.2.2.2.1,q.2.1,q.2.2.2.2.1,q.2.2.2.2.2⟩) (λb o _ _ hc e _=>by
     simp only [C_,not_mem_nil,or_false,not_or] at hc;exact hk b o hc.1 hc.2.1 hc.2.2.1 hc.2.2.2 e) (λb o _ _ hc e _=>⟨o.slots,by
     simp only [C_,not_mem_nil,or_false,not_or] at hc;exact hk b o hc.1 hc.2.1 hc.2.2.1 hc.2.2.2 e⟩) (λ_ _ _ _ q=>q) (λb o hc e=>⟨o,by
     simp only [C_,not_mem_nil,or_false,not_or] at hc;exact hk b o hc.1 hc.2.1 hc.2.2.1 hc.2.2.2 e⟩) (λ_ _ e=>e) (λ_ _ _ e=>e) (λb ps e=>⟨#[],by rw [e];simp⟩) (λm hm=>by
     obtain⟨o,es,ep,ho,r⟩:=hm;exact⟨o,es,ep,hk _ o (hf z (by simp)).2.1.symm (hf V (by simp)).2.1.symm (hf i (by simp)).2.1.symm (hf j (by simp)).2.1.symm ho,r⟩) (λb u e=>by
     have nn:∀b u,H b=some u->b≠z/\b≠V/\b≠i/\b≠j:=λb u e=>⟨λq=>(by rw [q,(hf z (by simp)).1] at e;cases e),λq=>(by rw [q,(hf V (by simp)).1] at e;cases e),λq=>(by rw [q,(hf i (by simp)).1] at e;cases e),λq=>(by rw [q,(hf j (by simp)).1] at e;cases e)⟩
     refine (I.hok b u e).stay (λc v hc q=>?_) (λ_ q=>q) λ_ _ q=>q
     have n4:c≠z/\c≠V/\c≠i/\c≠j:=by
      rcases hc with q|q
      .rw [q];exact nn b u e
      .exact nn c _ q
     exact hk c v n4.1 n4.2.1 n4.2.2.1 n4.2.2.2 q) I.bare
 self:=λ_ _ _ _ _ st h=>wpAny_pyIter_zip st.1 h
def Jl(n:Nat):ZA (n+4) (n+2) (n+3) n (n+1):=by
 refine⟨?_,?_,?_,?_,?_,?_,?_,?_,?_,?_⟩ <;> (intro h;have h2:@Eq Nat _ _:=h;omega)
section
abbrev me(k:Bool)(a:Addr):Obj:={ cls:=.type (cond k "tuple_iterator" "list_iterator"),data:=.fields #[.ref a,.int 0 0] }
variable {P:tj}{Q:Value->d_->Prop}
def fN{its:Array Value}(R:fe k s.heap a its)(hQ:Q (.ref s.heap.objs.size) { s with heap:=s.heap.push (me k a) }):wpAny (model P w) A (pyIter (.ref a)) Q E s:=by
 cases k with
 | false=>exact MS R hQ
 | true=>exact wpAny_pyIter_tuple R hQ
abbrev zg1(h:Heap)(k:Bool)(a:Addr):Heap:=h.push (me k a)
variable {l:Bool}
abbrev zg2(h:Heap)(k l:Bool)(a c:Addr):Heap:=(zg1 h k a).push (me l c)
abbrev zg3(h:Heap)(k l:Bool)(a c:Addr):Heap:=(zg2 h k l a c).push { cls:=.type "tuple",data:=.seq #[.ref h.objs.size,.ref (zg1 h k a).objs.size] }
abbrev zg4(h:Heap)(k l:Bool)(a c:Addr):Heap:=(zg3 h k l a c).push { cls:=.type "tuple",data:=.seq #[.none,.none] }
abbrev zg5(h:Heap)(k l:Bool)(a c:Addr):Heap:=(zg4 h k l a c).push { cls:=.type "zip",data:=.fields #[.none,.bool false,.bool false,.ref (zg2 h k l a c).objs.size,.ref (zg3 h k l a c).objs.size] }
def Ek(k l:Bool)(a c:Addr)(xs ys:Array Value):Meets (Od.«zip.__new__» ⟨[.type "zip",.ref a,.ref c],[]⟩) (λ_ R s=>fe k s.heap a xs/\fe l s.heap c ys /\
   R (.ok (.ret (.ref (zg4 s.heap k l a c).objs.size))) { s with heap:=zg5 s.heap k l a c }) :=
 .of_wp λprog w A R s h=>by
  obtain⟨hp,g,d,tk,os⟩:=s;obtain⟨r1,r2,h⟩:=h;have hsub:=sub_zip;have R1:fe k (Shared.heap ⟨hp,g,d,tk,os⟩) a xs:=r1;have R2:fe l (Shared.heap ⟨hp.push (me k a),g,d,tk,os⟩) c ys:=r2.mv λo e=>f_ _ e
  wp_walk using fN R1,fN R2
  exact⟨_,rfl,h⟩
def El{xs ys:Array Value}(r1:fe k s.heap a xs)(r2:fe l s.heap c ys)(h:∀h',IsZip h' (s.heap.objs.size+4) (s.heap.objs.size+2) (s.heap.objs.size+3) .none->Ng h' (s.heap.objs.size+2) (.ref s.heap.objs.size) (.ref (s.heap.objs.size+1)) ->
   Ng h' (s.heap.objs.size+3) .none .none->cB k h' s.heap.objs.size a 0->cB l h' (s.heap.objs.size+1) c 0->(∀b o,s.heap.get? b=some o->h'.get? b=some o)->Q (.ref (s.heap.objs.size+4)) { s with heap:=h' }):
  wpAny (model P w) A (call (.type "zip") [.ref a,.ref c]) Q E s:=by
 refine callType_new F.called_zip (by decide) (F.typeCall_zip_2 _ _) (F.newCall_zip_2 _ _) (λobj=>F.args_object_init_3 obj _ _) F.entry_zip_new (Ek k l a c xs ys) ⟨r1,r2,?_⟩;have z1:(zg1 s.heap k a).objs.size=s.heap.objs.size+1:=Lw ..;have z2:(zg2 s.heap k l a c).objs.size=s.heap.objs.size+2:=by rw [Lw,z1]
 have z3:(zg3 s.heap k l a c).objs.size=s.heap.objs.size+3:=by rw [Lw,z2]
 have z4:(zg4 s.heap k l a c).objs.size=s.heap.objs.size+4:=by rw [Lw,z3]
 have m4:∀b o,(zg4 s.heap k l a c).get? b=some o->(zg5 s.heap k l a c).get? b=some o:=λb o e=>f_ _ e;have m3:∀b o,(zg3 s.heap k l a c).get? b=some o->(zg5 s.heap k l a c).get? b=some o:=λb o e=>m4 b o (f_ _ e);have m2:∀b o,(zg2 s.heap k l a c).get? b=some o->(zg5 s.heap k l a c).get? b=some o:=λb o e=>m3 b o (f_ _ e);have m1:∀b o,(zg1 s.heap k a).get? b=some o->(zg5 s.heap k l a c).get? b=some o:=λb o e=>m2 b o (f_ _ e)
 have g5:(zg5 s.heap k l a c).get? (zg4 s.heap k l a c).objs.size=some _:=k_ _ rfl;have g4:=m4 _ _ (k_ (zg3 s.heap k l a c) (o:={ cls:=.type "tuple",data:=.seq #[.none,.none] }) rfl);have g3:=m3 _ _ (k_ (zg2 s.heap k l a c) (o:={ cls:=.type "tuple",data:=.seq #[.ref s.heap.objs.size,.ref (zg1 s.heap k a).objs.size] }) rfl);have g2:=m2 _ _ (k_ (zg1 s.heap k a) (o:=me l c) rfl)
 have g1:=m1 _ _ (k_ s.heap (o:=me k a) rfl);show _/\_;rw [z2,z3,z4] at g5;rw [z1,z2] at g3;rw [z3] at g4;rw [z1] at g2;rw [z4];exact⟨⟨_,g5,rfl⟩,h _ g5 g3 g4 ⟨_,g1,rfl,rfl⟩ ⟨_,g2,rfl,rfl⟩ λb o e=>m1 b o (f_ _ e)⟩
end
noncomputable def stA(a b:List Nat)(i:Nat):Bool:=decide (i+b.length<=a.length/\(a.drop i).take b.length=b)
noncomputable def fnd(a b:List Nat)(lo:Nat):Int:=match (Nk lo (a.length+1 - lo)).find? (stA a b) with|some k=>(k:Int)|none=>-1
theorem sU(s sub:Str)(hi:Nat):∀(l:List Nat) (st:Array Nat×Nat),st.fst.size=1->(forIn l st (NQ s sub hi 1)).run.fst=st.fst
 | [],_,_=>rfl
 | x::l,st,h=>by
  rw [forIn_cons];unfold NQ;rw [if_neg (λz=>by have:=z.1.1.1;omega)];exact sU s sub hi l (st.fst,st.snd) h
theorem sV(s sub:Str)(hi:Nat)(p:Nat->Bool)(hp:∀i,p i=true ↔ (i+sub.length<=hi/\Nx s sub i=true)):∀(l:List Nat) (free:Nat),(∀i∈l,free<=i) ->
  (forIn l ((#[]:Array Nat),free) (NQ s sub hi 1)).run.fst=(match l.find? p with|some k=>#[k]|none=>#[])
 | [],_,_=>rfl
 | x::l,free,hf=>by
  rw [forIn_cons,find?_cons];unfold NQ;have hx:free<=x:=hf x (mem_cons_self ..)
  cases c:p x with
  | true =>
   have hc:=(hp x).mp c;rw [if_pos ⟨⟨⟨by simp,hx⟩,hc.1⟩,hc.2⟩];exact sU s sub hi l (#[x],x+sub.length) rfl
  | false =>
   rw [if_neg (λz=>by
    have:=(hp x).mpr ⟨z.1.2,z.2⟩;rw [c] at this;cases this)]
   exact sV s sub hi p hp l free λi h=>hf i (m_ _ h)
def Em(a b:List Nat)(i:Nat):Nx (S a) (S b) i=decide ((a.drop i).take b.length=b):=by
 unfold Nx;rw [fL]
 have e1:((S a).cps.extract i (i+b.length))=((a.drop i).take b.length).toArray:=by
  show a.toArray.extract _ _=_;rw [extract_toArray,extract_eq_take_drop];congr 2;omega
 rw [e1];show (((a.drop i).take b.length).toArray == b.toArray)=_
 by_cases h:(a.drop i).take b.length=b
 .rw [decide_eq_true h,h];simp
 .rw [decide_eq_false h,beq_eq_false_iff_ne];intro z;exact h (by simpa using congrArg Ot z)
theorem uJ(a b:List Nat)(lo:Nat):(match Nl (S a) (S b) lo (S a).length 1 with|k::_=>(k:Int)|[]=>-1)=fnd a b lo:=by
 rw [StrLaws.occ_eq,fL,sV (S a) (S b) a.length (stA a b) (λi=>?_) _ lo (λi hi=>(NV.mp hi).1)]
 .unfold fnd;cases (Nk lo (a.length+1 - lo)).find? (stA a b) <;> rfl
 .unfold stA;rw [Em,fL];simp
def BD:MtR X "str.find" (λx xs H Q=>∃a b,x=.str (S a)/\xs=[.str (S b)]/\Q (.int (fnd a b 0)) H):=by
 intro pins s σ H x xs v us Q I rx rs h;obtain⟨a,b,rfl,rfl,q⟩:=h;obtain⟨t,rfl⟩:=rx;obtain⟨u,rfl,t',rfl⟩:=ie rs;have e:Txt.find (S a) (S b)=fnd a b 0:=uJ a b 0;exact SC.find ⟨.int _,H,I.tok _,⟨_,rfl⟩,by rw [e];exact q⟩
def BE:MtR X "str.find" (λx xs H Q=>∃a b i,x=.str (S a)/\xs=[.str (S b),.int i]/\0<=i/\Q (.int (fnd a b i.toNat)) H):=by
 intro pins s σ H x xs v us Q I rx rs h;obtain⟨a,b,i,rfl,rfl,h0,q⟩:=h;obtain⟨t,rfl⟩:=rx
 cases rs with
 | cons r rr =>
  cases rr with
  | cons r' rr =>
   cases rr;obtain⟨t1,rfl⟩:=r;obtain⟨t2,rfl⟩:=r'
   have e:Txt.find3 (S a) (S b) i=fnd a b i.toNat:=by
    unfold Txt.find3
    have e2:fromIndex (S a).length i=i.toNat:=by
     unfold fromIndex;rw [if_neg (by omega)];omega
    rw [e2];exact uJ a b i.toNat
   exact SC.find3 ⟨.int _,H,I.tok _,⟨_,rfl⟩,by rw [e];exact q⟩
def iR{a b:List Nat}{lo:Nat}(h:fnd a b lo≠-1):∃k:Nat,fnd a b lo=(k:Int)/\lo<=k/\stA a b k=true/\∀j,lo<=j->j<k->stA a b j=false:=by
 unfold fnd at h ⊢
 cases e:(Nk lo (a.length+1 - lo)).find? (stA a b) with
 | none=>rw [e] at h;exact absurd rfl h
 | some k =>
  obtain⟨h1,h2⟩:=find?_eq_some_iff_append.mp e;obtain⟨as,bs,hl,hn⟩:=h2;have hk:k∈Nk lo (a.length+1 - lo):=by rw [hl];simp
  refine⟨k,rfl,(NV.mp hk).1,h1,λj hj1 hj2=>?_⟩;have hj:j∈Nk lo (a.length+1 - lo):=NV.mpr ⟨hj1,by have:=(NV.mp hk).2;omega⟩;have hs:(Nk lo (a.length+1 - lo)).Pairwise (·<·):=List.pairwise_lt_range';rw [hl] at hj hs
  rcases Ml.mp hj with z|z
  .have:=hn j z;simpa using this
  .rcases C_.mp z with z|z
   .omega
   .have:=(M9.mp (OF.mp hs).2.1).1 j z;omega
def wF{a b:List Nat}{lo:Nat}(h:fnd a b lo=-1):∀j,lo<=j->stA a b j=false:=by
 unfold fnd at h
 cases e:(Nk lo (a.length+1 - lo)).find? (stA a b) with
 | some k=>rw [e] at h;simp only at h;omega
 | none =>
  intro j hj
  by_cases hlt:j<a.length+1
  .have:=find?_eq_none.mp e j (NV.mpr ⟨hj,by omega⟩);simpa using this
  .unfold stA;rw [decide_eq_false (λz=>by have:=z.1;omega)]
noncomputable def Itk(k:Bool)(K:b_)(a:Addr):It:=cond k (Itt K a) (Itl K a)
noncomputable def GP(K:b_):R2:=λx y H Q=>∃l b xs zs,x=.ref l/\y=.ref b/\SqL K H l xs/\SqL K H b zs/\xs.length+zs.length<=sizeLine/\∀p,H p=none->Q (.ref p) (upd H p (.lst (xs++zs)))
def En:OpR X (binaryOp .Add) (GP X.K):=by
 intro pins s σ H x y v u Q I rx ry h;obtain⟨l,b,xs,zs,rfl,rfl,hH,hB,hz,q⟩:=h;cases rx;cases ry;obtain⟨its,r,pl,hl⟩:=I.list hH;obtain⟨its2,r2,pl2,hl2⟩:=I.list hB;obtain⟨⟨cls,dd,data,sl⟩,ho,hc,n,hd⟩:=pl.isList;obtain⟨⟨cls2,dd2,data2,sl2⟩,ho2,hc2,n2,hd2⟩:=pl2.isList;simp only at hc hd hc2 hd2;subst hc hd hc2 hd2;have n1:=r.length;have n2':=r2.length;have ea:its.toArray++its2.toArray=(its++its2).toArray:=by simp
 have fin:EP X pins σ Q (.ref s.heap.objs.size) { s with heap:=s.heap.push { cls:=.type "list",data:=.seq (its.toArray++its2.toArray) } }:=by
  rw [ea];exact⟨.ref _,_,I.lnew (t':=s.toks) (r.append r2) (by rw [length_append];omega),rfl,q _ I.fresh⟩
 exact Oy ⟨_,ho,rfl⟩ ⟨_,ho2,rfl⟩ noFill_list_add seq_list_add PySem.F.slot_list_add PySem.F.entry_list_add (PySem.F.args_list_add_2 _ _) (list_addW l b its.toArray its2.toArray n n2 dd dd2 sl sl2 (by simp;omega)) ⟨ho,ho2,fin⟩
def tx(l:List Nat):V:=.str (S l)
noncomputable def ze(n:Nat)(d:NE):Prop:=d.canLay0=true/\d.depth<=n
def ze.shaped{d:NE}(h:ze n d)(hn:n<=64):MI d=true:=by
 unfold MI;rw [h.1,decide_eq_true (p_ h.2 hn)];rfl
theorem zf{n:Nat}:∀{ds:List NE},(∀d∈ds,ze n d)->PyData.canLayAll0 ds=true/\PyData.depthAll ds<=n
 | [],_=>⟨rfl,K_ _⟩
 | d::ds,h=>by
  obtain⟨a,b⟩:=zf (ds:=ds) λx hx=>h x (m_ _ hx);obtain⟨c,e⟩:=h d mem_cons_self;simp only [PyData.canLayAll0,PyData.depthAll,a,c];exact⟨rfl,max_le.mpr ⟨e,b⟩⟩
def ze.list{ds:List NE}(h:∀d∈ds,ze n d):ze (n+1) (.list ds):=by
 obtain⟨a,b⟩:=zf h;exact⟨by simp only [PyData.canLay0];exact a,by simp only [PyData.depth];omega⟩
def ze.int(i:Int):ze 0 (.int i):=⟨by simp [PyData.canLay0],by simp [PyData.depth]⟩
noncomputable def Lts(l:List Nat):Prop:=∀c∈l,97<=c/\c<=122
def Lts.nil:Lts []:=λc h=>nomatch h
def Lts.app{a b:List Nat}(x:Lts a)(y:Lts b):Lts (a++b):=λc h=>(Ml.mp h).elim (x c) (y c)
def Lts.one{c:Nat}(h:97<=c/\c<=122):Lts [c]:=λd hd=>by
 have:d=c:=by simpa using hd
 subst this;exact h
def Lts.take{a:List Nat}(x:Lts a)(n:Nat):Lts (a.take n):=λc h=>x c (NR h)
def Lts.drop{a:List Nat}(x:Lts a)(n:Nat):Lts (a.drop n):=λc h=>x c (mem_of_mem_drop h)
def Lts.rep{a:List Nat}(x:Lts a)(n:Int):Lts (sx a n):=λc h=>by
 unfold sx at h;obtain⟨l,h1,h2⟩:=mem_flatten.mp h;rw [eq_of_mem_replicate h1] at h2;exact x c h2
def zg(ns:List Int):∀d∈ns.map OB,ze 0 d:=λd hd=>by
 obtain⟨i,_,rfl⟩:=Lv.mp hd;exact ze.int i
theorem mX(p:Nat->Prop)(h0:p 0):∀n,0<n->∃k,k<n/\p k/\∀j,j<n->p j->j<=k
 | 0,h=>absurd h (by decide)
 | 1,_=>⟨0,by decide,h0,λj hj _=>by omega⟩
 | n+2,_=>by
  obtain⟨k,h1,h2,h3⟩:=mX p h0 (n+1) (by omega)
  by_cases c:p (n+1)
  .exact⟨n+1,by omega,c,λj hj _=>by omega⟩
  .refine⟨k,by omega,h2,λj hj hp=>?_⟩
   by_cases e:j=n+1
   .subst e;exact absurd hp c
   .exact h3 j (by omega) hp
variable {κ:Type} [DecidableEq κ]
def KV.length{kvs:List (κ×V)}{vs:List (κ×Value)}(r:KV kvs vs):kvs.length=vs.length:=Paired.length r
section
variable {P:tj}
def Jm{u:HO}(ok:HOk P w H h)(e:Rd H a u):cf P w H h a u:=e.ok ok
def Jn{kvs:List (Key×V)}(ok:HOk P w H h)(e:Rd H a (.dK kvs)):kvs.length<=sizeLine/\(a == sysModules)=false/\∃vs,KV kvs vs/\h.DictOf (qE P w) a vs :=
 show cf P w H h a (.dK kvs) from Jm ok e
end
variable {kvs:List (Key×V)}{Q:Value->d_->Prop}
def Jo(I:Inv X pins σ H s)(e:Rd H a (.dK kvs))(h:∀t s',Inv X pins σ H s'->Q (.int kvs.length t) s'):wpAny (model X.prog X.w) A (call (.builtin "len") [.ref a]) Q E s:=by
 obtain⟨z,hd,vs,rel,dd⟩:=Jn I.hok e;refine call_len_dict hd dd (by rw [<- rel.length];rw [L5] at z;omega) ?_;rw [<- rel.length];exact h _ _ (I.tok _)
def j6{i:Int}(hg:Gl X x)(h:∃t,X.mg x=some (.int i t))(hd:(x == ("__debug__":Str))=false:=by decide):PE X (.Name x pos) (tC (.int i)):=by
 obtain⟨t,e⟩:=h;exact DR (u:=.int i t) hg e ⟨t,rfl⟩ hd
structure GQ (P:tj) (w:World) (K:b_) (mg:Str->Option Value) (base:Heap) (k:Nat) (x:Str) (ps:List Str) (dvs:List V) (sp:Sp):Prop where
 ex:∃(f:Addr) (fd:L1),qG P w K mg base CX0 k f fd ps sp/\(∀n,n<=dvs.length->∃ds,bP (dvs.drop n) ds/\md K fd ps ds)/\x_ K (.ref f)=true/\mg x=some (.ref f)
structure wG (K:b_) (mg:Str->Option Value) (x:Str) (st:Stmt) (dvs:List V):Prop where
 ex:∃(f dT:Addr) (oc:Value) (od an dd:Option Addr) (kV doc pm cdv ct:Value) (osl sl:Array (Option Value)) (items:List Value) (n:Nat),
  K.lookup f=some ⟨oc,od,.func (B_ x x (bQ st) (bi st) (af st) (.ref dT) kV doc pm an cdv ct),osl⟩/\Lx K cdv x=true/\x_ K (.ref f)=true/\mg x=some (.ref f) /\
  K.lookup dT=some ⟨.type "tuple",dd,.seq items.toArray n,sl⟩/\bP dvs items
section
variable {P:tj}{base:Heap}{k:Nat}{dvs:List V}
def wG.ok(D:wG K mg x st dvs)(S:au N ps (af st))(hb:∀(dT:Addr) (kV doc pm:Value) (an:Option Addr) (cdv ct:Value) (items:List Value) (us:List Value) (n:Nat),items.length=dvs.length->n<=dvs.length->(us++items.drop n).length=ps.length ->
   ∃k,bindArgs (B_ x x (bQ st) (bi st) (af st) (.ref dT) kV doc pm an cdv ct) ⟨us,[]⟩=seqItems? (.ref dT) >>= k/\k (some items.toArray)=pure (ps.zip (us++items.drop n)))(len:∀vs H Q E,sp vs H Q E->vs.length=ps.length)(hbody:∀(f:Addr) (cdv:Value) (A:A_) (outer:List Env) (s:d_) (H:Hp) (vs:List V) (Q:VK) (E:XK),fJ k (A.deeper (envOfC x (af st) s.heap.objs.size f cdv))->sp vs H Q E ->
   ∃t,PSs (wy CX0 P w K mg base N x (af st) f cdv A outer s H E).nox (bi st) t/\t { nx:=λ_ H'=>Q .non H',rt:=Q } (start N vs) H):GQ P w K mg base (k+1) x ps dvs sp:=by
 obtain⟨f,dT,oc,od,an,dd,kV,doc,pm,cdv,ct,osl,sl,items,n,lk,hcd,kp,hm,lt,rv⟩:=D.ex;have hl:=rv.length
 refine⟨f,_,Gm lk hcd S len λA outer s H vs Q E hr hsp=>?_,λj hj=>⟨items.drop j,rv.drop j,λs us X hlen=>?_⟩,kp,hm⟩
 .obtain⟨t,h,q⟩:=hbody f cdv A outer s H vs Q E hr hsp;exact⟨t,h.nox,q⟩
 .obtain⟨k,h1,h2⟩:=hb dT kV doc pm an cdv ct items us j hl.symm hj hlen;exact BindsTo.of_defaults rfl (X dT _ lt) rfl h1 h2
end
section
variable {k:Nat}{t:TA}{dvs:List V}
def Ep(j:Nat)(C:GQ X.prog X.w X.K X.mg X.base k x ps dvs sp)(hr:fJ k X.A)(hj:j<=dvs.length)(ha:PA X (e::es) t)(hg:Gl X x:=by rfl)(hdb:(x == ("__debug__":Str))=false:=by decide)(he:starEach (e::es) X.env=(false,eval e X.env)::starEach es X.env:=by rfl)(hpl:(backTo pos (starEach es X.env)).any (·.1)=false:=by rfl):PE X (.Call (.Name x p) (e::es) [] pos) (df sp (dvs.drop j) E0 t):=by
 obtain⟨f,fd,F,hb,hk,hm⟩:=C.ex;obtain⟨ds,rv,hb⟩:=hb j hj;exact yN F hr hg hm hk hb rv Bw ha hdb he hpl
def GR{x:V}{t:Value}(I:Inv X pins σ H s)(rx:cZ x u)(ty:sw X.K H x t):
  ∃Hq:Heap->Prop,PySem.W.KitX X.K u t Hq/\Hq s.heap/\u≠.builtin "__main__.__loader__#opaque":=by
 cases ty with
 | non=>cases (show u=L0 from rx);exact⟨_,PySem.W.kitx_none,Mm,λz=>nomatch z⟩
 | bl y=>cases (show u=Mv y from rx);exact⟨_,PySem.W.kitx_bool,Mm,λz=>nomatch z⟩
 | int i=>obtain⟨t,q⟩:=(show ∃t,u=NC i t from rx);cases q;exact⟨_,PySem.W.kitx_int,Mm,λz=>nomatch z⟩
 | str y=>obtain⟨t,q⟩:=(show ∃t,u=NY y t from rx);cases q;exact⟨_,PySem.W.kitx_str,Mm,λz=>nomatch z⟩
 | flt y=>obtain⟨t,q⟩:=(show ∃t,u=OJ y t from rx);cases q;exact⟨_,PySem.W.kitx_float,Mm,λz=>nomatch z⟩
 | @lst a xs ea =>
  cases (show u=n_ a from rx);obtain⟨_,_,n,_,h1⟩:=(show cf X.prog X.w H s.heap a (.lst xs) from I.hok a _ ea)
  exact⟨_,Nt,⟨_,h1,rfl⟩,λz=>nomatch z⟩
 | @frz a ob xs ea =>
  cases (show u=n_ a from rx);obtain⟨_,_,_,n,_,h1⟩:=(show cf X.prog X.w H s.heap a (.frz ob (.lst xs)) from I.hok a _ ea)
  exact⟨_,Nt,⟨_,h1,rfl⟩,λz=>nomatch z⟩
 | @tup a xs ea =>
  cases (show u=n_ a from rx);obtain⟨_,_,_,p⟩:=(show cf X.prog X.w H s.heap a (.tup xs) from I.hok a _ ea)
  obtain⟨o,h1,h2,_⟩:=p;exact⟨_,PySem.W.kitx_tuple,⟨o,h1,h2⟩,λz=>nomatch z⟩
 | @dK a kvs ea =>
  cases (show u=n_ a from rx);obtain⟨_,_,vs,_,p⟩:=(show cf X.prog X.w H s.heap a (.dK kvs) from I.hok a _ ea)
  obtain⟨o,es,ep,h1,h2,_⟩:=p;exact⟨_,Nu,⟨o,h1,h2.1⟩,λz=>nomatch z⟩
 | @dT a kvs ea =>
  cases (show u=n_ a from rx);obtain⟨_,_,xs,_,o,es,ep,h1,h2,_⟩:=(show cf X.prog X.w H s.heap a (.dT kvs) from I.hok a _ ea)
  exact⟨_,Nu,⟨o,h1,h2.1⟩,λz=>nomatch z⟩
 | @ins a C dx fs ea cl ha hn htk hm =>
  cases (show u=n_ a from rx);obtain⟨mA,O,_⟩:=mN I.hok ea;obtain⟨od,J,_⟩:=O.look;exact⟨_,PySem.W.kitx_own (cl.get _) cl.hd ha hn htk hm,J,λz=>nomatch z⟩
theorem wH:∀{ts:List String}{us:List Value},bP (ts.map V.ty) us->us=ts.map Mj
 | [],_,.nil=>rfl
 | t::ts,_,.cons r rr=>by rw [wH rr,show _=Mj t from r];rfl
def sW:bK X (.builtin "isinstance") (λxs H Q=>∃(x:V) (p:Addr) (ts:List String) (t:Value) (b:Bool),xs=[x,.ref p]/\sw X.K H x t/\H p=some (.tup (ts.map V.ty))/\Ny X.K t (ts.map Mj)=some b/\Q (.bl b) H):=by
 intro pins s σ H xs us Q I r h;obtain⟨x,p,ts,t,b,rfl,ty,hp,e,q⟩:=h;obtain⟨u,w',rfl,rx,ry⟩:=Bk r;cases (show w'=n_ p from ry);obtain⟨Hq,Z,hq,hx⟩:=GR I rx ty;obtain⟨its,rv,⟨⟨cls,dd,data,sl⟩,ho,hc,n,hd⟩,_⟩:=I.tuple (SqT.of hp);simp only at hc hd;subst hc hd;exact PySem.W.kia_tup Z I.kIn hq ho (by rw [wH rv];exact e) hx λtk=>⟨.bl b,H,I.tok _,rfl,q⟩
def qO(bs:List Bool):(c_ bs.length).all (λi=>bs.getD i false)=bs.all id:=by
 induction bs with
 | nil=>rfl
 | cons b bs ih=>rw [length_cons,range_succ_eq_map,all_cons,all_map,all_cons,<- ih];rfl
def qP(bs:List Bool):(c_ bs.length).any (λi=>bs.getD i false)=bs.any id:=by
 induction bs with
 | nil=>rfl
 | cons b bs ih=>rw [length_cons,range_succ_eq_map,any_cons,any_map,any_cons,<- ih];rfl
variable {its:List Value}
def zh{bs:List Bool}(r:bP (bs.map V.bl) its){v:Value}(h:its.toArray[i]?=some v):v=.bool (bs.getD i false):=by
 have h':its[i]?=some v:=by simpa using h
 have hl:=r.length;rw [length_map] at hl;have hi:i<bs.length:=by have:=(i_.mp h').1;omega
 obtain⟨u,e1,e2⟩:=r.get (i:=i) (x:=V.bl bs[i]) (by rw [h_,cx hi];rfl);rw [h'] at e1;cases e1;rw [show v=Mv bs[i] from e2,cn,cx hi];rfl
def BF(hc:X.calm=true):bK X (.builtin "all") (λxs H Q=>∃(p:Addr) (bs:List Bool),xs=[.ref p]/\SqL X.K H p (bs.map V.bl)/\Q (.bl (bs.all id)) H):=by
 intro pins s σ H xs us Q I r h;obtain⟨p,bs,rfl,hS,q⟩:=h;obtain⟨u,rfl,ru⟩:=ie r;cases (show u=n_ p from ru);obtain⟨its,rv,pl,hz⟩:=I.list hS;have hl:=rv.length;rw [length_map] at hl;have hps:p<s.heap.objs.size:=let ⟨o,ho,_⟩:=pl.isList;pj ho
 obtain⟨f0,f1,f2,f3,f4,f5⟩:=I.fpOk (H':=H) (e_ s.heap.objs.size) (I.hok.fresh (e_ _))
 refine call_all_walk (MS pl.isList ⟨s.heap.objs.size,_,_,its.toArray.size,_,_,λi=>bs.getD i false,rfl,Walks.list (by exact I.ok.hd hc) s.heap.objs.size p (F_ hps) its.toArray,⟨⟨_,k_ _ rfl,rfl,rfl⟩,pl.isList.push _⟩,λi v s Q E hP hQ=>?_,λh' tk hk=>?_⟩)
 .rw [zh rv hP];exact Ls hQ
 .have I1:Inv X pins σ H { s with heap:=s.heap.push { cls:=.type "list_iterator",data:=.fields #[.ref p,.int 0 0] } }:=I.kept (t':=s.toks) λb o e=>f_ _ e;have I2:=I1.turned (h':=h') (t':=tk) (it:=s.heap.objs.size) (λb o hb e=>hk b o (by simpa using hb) e) f0 f1 f3 f4 f5;refine⟨.bl (bs.all id),H,I2,?_,q⟩;show Mv _=Mv _;rw [size_toArray,<- hl,qO]
def BG(hc:X.calm=true):bK X (.builtin "any") (λxs H Q=>∃(p:Addr) (bs:List Bool),xs=[.ref p]/\SqL X.K H p (bs.map V.bl)/\Q (.bl (bs.any id)) H):=by
 intro pins s σ H xs us Q I r h;obtain⟨p,bs,rfl,hS,q⟩:=h;obtain⟨u,rfl,ru⟩:=ie r;cases (show u=n_ p from ru);obtain⟨its,rv,pl,hz⟩:=I.list hS;have hl:=rv.length;rw [length_map] at hl;have hps:p<s.heap.objs.size:=let ⟨o,ho,_⟩:=pl.isList;pj ho
 obtain⟨f0,f1,f2,f3,f4,f5⟩:=I.fpOk (H':=H) (e_ s.heap.objs.size) (I.hok.fresh (e_ _))
 refine call_any_walk (MS pl.isList ⟨s.heap.objs.size,_,_,its.toArray.size,_,_,λi=>bs.getD i false,rfl,Walks.list (by exact I.ok.hd hc) s.heap.objs.size p (F_ hps) its.toArray,⟨⟨_,k_ _ rfl,rfl,rfl⟩,pl.isList.push _⟩,λi v s Q E hP hQ=>?_,λh' tk hk=>?_⟩)
 .rw [zh rv hP];exact Ls hQ
 .have I1:Inv X pins σ H { s with heap:=s.heap.push { cls:=.type "list_iterator",data:=.fields #[.ref p,.int 0 0] } }:=I.kept (t':=s.toks) λb o e=>f_ _ e;have I2:=I1.turned (h':=h') (t':=tk) (it:=s.heap.objs.size) (λb o hb e=>hk b o (by simpa using hb) e) f0 f1 f3 f4 f5;refine⟨.bl (bs.any id),H,I2,?_,q⟩;show Mv _=Mv _;rw [size_toArray,<- hl,qP]
end
section
def zi:bK X (.builtin "len") (λxs H Q=>∃p kvs,xs=[.ref p]/\Rd H p (.dK kvs)/\Q (.int kvs.length) H):=by
 intro pins s σ H xs us Q I r h;obtain⟨p,kvs,rfl,hd,q⟩:=h;obtain⟨u,rfl,ru⟩:=ie r;cases (show u=n_ p from ru);exact Jo I hd λt s' I'=>⟨.int kvs.length,H,I',⟨t,rfl⟩,q⟩
end
noncomputable def bw(K:b_)(x:Str):Addr:=match t_ K mainGlobals x with
 | some (some (.ref C))=>C
 | _=>0
variable {C:Addr}
def wI(h:t_ K mainGlobals x=some (some (.ref C))):bw K x=C:=by unfold bw;rw [h]
structure IM (P:tj) (w:World) (K:b_) (mg:Str->Option Value) (base:Heap) (k:Nat) (C:Addr) (m:Str) (ps:List Str) (sp:Sp):Prop where
 ex:∃(f:Addr) (fd:L1),qG P w K mg base CX0 k f fd ps sp/\md K fd ps []/\IK K C m f
structure Er (P:tj) (w:World) (K:b_) (mg:Str->Option Value) (base:Heap) (k:Nat) (C:Addr) (x:Str) (ps:List Str) (sp:Sp):Prop where
 ex:∃(f:Addr) (fd:L1),qG P w K mg base CX0 k f fd ps sp/\md K fd ps []/\Mk K C f/\mg x=some (.ref C)
structure wJ (K:b_) (C:Addr) (m qual:Str) (st:Stmt):Prop where
 ex:∃(f:Addr) (fd:L1),Fun K m qual st f fd/\IK K C m f
structure qb (K:b_) (mg:Str->Option Value) (C:Addr) (x qual:Str) (st:Stmt):Prop where
 ex:∃(f:Addr) (fd:L1),Fun K "__init__" qual st f fd/\Mk K C f/\mg x=some (.ref C)
section
variable {P:tj}{base:Heap}{m:Str}{k:Nat}
def wJ.ok(D:wJ K C m qual st)(S:au N ps (af st))(hb:∀(kV doc pm:Value) (an:Option Addr) (cdv ct:Value) (us:List Value),us.length=ps.length->bindArgs (B_ m qual (bQ st) (bi st) (af st) .none kV doc pm an cdv ct) ⟨us,[]⟩=pure (ps.zip us))(len:∀vs H Q E,sp vs H Q E->vs.length=ps.length)(hbody:∀(f:Addr) (cdv:Value) (A:A_) (outer:List Env) (s:d_) (H:Hp) (vs:List V) (Q:VK) (E:XK),fJ k (A.deeper (envOfC qual (af st) s.heap.objs.size f cdv))->sp vs H Q E ->
   ∃t,PSs (wy CX0 P w K mg base N qual (af st) f cdv A outer s H E).nox (bi st) t/\t { nx:=λ_ H'=>Q .non H',rt:=Q } (start N vs) H):IM P w K mg base (k+1) C m ps sp:=by
 obtain⟨f,fd,F,hm⟩:=D.ex;exact⟨f,fd,F.ok S len λcdv A outer s H vs Q E hr h=>hbody f cdv A outer s H vs Q E hr h,F.binds hb,hm⟩
def qb.ok(D:qb K mg C x qual st)(S:au N ps (af st))(hb:∀(kV doc pm:Value) (an:Option Addr) (cdv ct:Value) (us:List Value),us.length=ps.length->bindArgs (B_ "__init__" qual (bQ st) (bi st) (af st) .none kV doc pm an cdv ct) ⟨us,[]⟩=pure (ps.zip us))(len:∀vs H Q E,sp vs H Q E->vs.length=ps.length)(hbody:∀(f:Addr) (cdv:Value) (A:A_) (outer:List Env) (s:d_) (H:Hp) (vs:List V) (Q:VK) (E:XK),fJ k (A.deeper (envOfC qual (af st) s.heap.objs.size f cdv))->sp vs H Q E ->
   ∃t,PSs (wy CX0 P w K mg base N qual (af st) f cdv A outer s H E).nox (bi st) t/\t { nx:=λ_ H'=>Q .non H',rt:=Q } (start N vs) H):Er P w K mg base (k+1) C x ps sp:=by
 obtain⟨f,fd,F,hm,e⟩:=D.ex;exact⟨f,fd,F.ok S len λcdv A outer s H vs Q E hr h=>hbody f cdv A outer s H vs Q E hr h,F.binds hb,hm,e⟩
end
section
variable {k:Nat}{t:TA}
def Es(M:Er X.prog X.w X.K X.mg X.base k C x ps sp)(hr:fJ (k+1) X.A)(ha:PA X (e::es) t)(hg:Gl X x:=by rfl)(hdb:(x == ("__debug__":Str))=false:=by decide)(he:starEach (e::es) X.env=(false,eval e X.env)::starEach es X.env:=by rfl)(hpl:(backTo pos (starEach es X.env)).any (·.1)=false:=by rfl):PE X (.Call (.Name x p) (e::es) [] pos) (Bp C sp [] E0 t):=by
 obtain⟨f,fd,F,hb,hk,hm⟩:=M.ex;exact D6 hk F hr hg hm hb .nil Bw ha hdb he hpl
variable {m:Str}{apos:Pos}{o:Expr}{ta:TE}
def wK{pl:Sem Bool}(he:PE X o ta)(c:Cls X.K C)(M:IM X.prog X.w X.K X.mg X.base k C m ps sp)(hr:fJ k X.A)(ht:eval (.Call (.Attribute o m apos) [] [] pos) X.env=(do
   let ov <- eval o X.env
   standAt apos.atName
   let (f,first) <- holding [ov] (getMethod ov m pl)
   callWith pos f first (backTo pos (starEach [] X.env)) (backToKw pos (keywordEach [] X.env))):=by rfl):
  PE X (.Call (.Attribute o m apos) [] [] pos) (D5 C m sp [] E0 ta cP):=by
 obtain⟨f,fd,F,hb,hm⟩:=M.ex;exact Bq (pl:=pl) he c hm F hr hb .nil Bw ht
end
def zj(k:Bool)(hh:A.handled=none)(it a:Addr)(hne:a≠it)(its:Array Value):
  Draws prog w A it [it,a] its.size (λi v=>its[i]?=some v) (λi h=>cB k h it a i/\fe k h a its) where
 live:=λ_ _ st=>let ⟨o,ho,_⟩:=st.1;⟨o,ho⟩
 frame:=λ_ _ _ st hk=>⟨st.1.mv λo e=>hk it (by simp) o e,st.2.mv λo e=>hk a (by simp) o e⟩
 item:=λi s Q E hi st hQ=>by
  refine eY st.1 st.2 (x:=its[i]) (by simp [hi]) λh' hit' hs'=>?_;exact hQ _ h' s.toks (by simp [hi]) ⟨hit',st.2.mv λo e=>hs'.extBut _ o hne e⟩ hs'
 done:=λs Q E st hE=>gk hh st.1 st.2 (by simp) hE
noncomputable def Ite(k:Bool)(K:b_)(a:Addr):It :=
  ⟨λi H=>∃xs x,Sq k K H a xs/\xs[i]?=some x,
   λi H p H'=>∃T x,H T=none/\p=.ref T/\(∀xs,Sq k K H a xs->xs[i]?=some x)/\H'=upd H T (.tup [.int (i:Int),x]),
   λi H=>∃xs,Sq k K H a xs/\xs.length<=i⟩
def zk{P:tj}{ct:Nat}{tp:Pos}{e it:Addr}(hei:e≠it):
  DT P w K (.Tuple es ct tp) (Ite k K a) [e,it] e (λn h=>(∃old,IsEnum h e it ((n:Nat):Int) old)/\cB k h it a n) where
 mem:=by simp
 obj:=λn h st b hb=>by
  obtain⟨⟨old,he⟩,o1,g1,c1,d1⟩:=st;simp only [C_,not_mem_nil,or_false] at hb
  rcases hb with rfl|rfl
  .exact⟨_,he,λv q=>by cases q⟩
  .exact⟨_,g1,λv q=>by rw [d1] at q;cases q⟩
 keep:=λn h h' st kk=>by
  obtain⟨⟨old,he⟩,w1⟩:=st;exact⟨⟨old,kk e (by simp) _ he⟩,w1.mv λo q=>kk it (by simp) o q⟩
 item:=by
  intro X hP hw hK hc n pins s σ H E I hf st hg;subst hP hw hK;obtain⟨xs,x,q1,hx⟩:=hg;obtain⟨⟨old,he⟩,w1⟩:=st;obtain⟨its,rv,p,_⟩:=I.row q1;obtain⟨ux,hux,rx⟩:=rv.get hx;have ne:=I.row_ne q1 (hf e (by simp));have ni:=I.row_ne q1 (hf it (by simp))
  have hlt:n<its.toArray.size:=by
   have:=(i_.mp hux).1;simpa using this
  have hhd:X.A.in1.handled=none:=by exact I.ok.hd hc
  refine wpAny_pyNext_enum_itemD (zj k hhd it a ni its.toArray) he ⟨w1,p⟩ hlt hei (by simp [hei,Na ne]) λy h' tk hP ho hst ht hsz hk=>?_
  have hy:y=ux:=by
   have h1:its[n]?=some y:=by simpa using hP
   rw [hux] at h1;exact (pf h1).symm
  subst hy;refine⟨_,rfl,wpAny_letOwnedTupleGo_enum ho λg ge gs=>?_⟩;have lt:∀{b o},s.heap.get? b=some o->s.heap.objs.size≠b:=λq=>N1 (pj q)
  have kp:∀b o,b∉[e,it]->s.heap.get? b=some o->g.get? b=some o:=λb o hb q=>by
   simp only [C_,not_mem_nil,or_false,not_or] at hb;exact gs.extBut _ _ hb.1 (hk b o hb.1 hb.2 q)
  have I2:Inv X pins σ (upd H s.heap.objs.size (.tup [.int (n:Int),x])) { s with heap:=g,toks:=tk+1 }:=I.yielded (ch:=[e,it]) (λb hb=>hf b hb) (e_ _) kp
   ⟨by show 2<=sizeLine;decide,[.int (n:Int) tk,y],.cons ⟨tk,rfl⟩ (.cons rx .nil),_,gs.extBut _ _ (lt he) ht,rfl,_,rfl⟩
  refine⟨.ref s.heap.objs.size,_,I2,rfl,⟨_,x,I.hok.fresh (e_ _),rfl,λxs' q=>by rw [I.row_inj q q1];exact hx,rfl⟩,⟨⟨y,by simpa using ge⟩,hst.1.mv λo q=>gs.extBut _ o (Na hei) q⟩,λb hb=>?_⟩
  rw [aC ?_]
  .exact (hf b hb).1
  .intro q;subst q;simp only [C_,not_mem_nil,or_false] at hb;obtain⟨o1,g1,_⟩:=w1
   rcases hb with q|q
   .exact lt he q
   .exact lt g1 q
 done:=by
  intro X hP hw hK hc n pins s σ H E I hf st hg;subst hP hw hK;obtain⟨xs,q1,hend⟩:=hg;obtain⟨⟨old,he⟩,w1⟩:=st;obtain⟨its,rv,p,_⟩:=I.row q1;have e1:=rv.length;have ni:=I.row_ne q1 (hf it (by simp));have hhd:X.A.in1.handled=none:=by exact I.ok.hd hc
  obtain⟨f0,f1,f2,f3,f4,f5⟩:=hf it (by simp)
  -- the walk's end is wherever the row has no item
  have hT:s.TypeIs (.ref e) "enumerate":=⟨_,he,rfl⟩
  unfold pyNext
  refine cy (wpAny_attempt (LB (name:=MX "__next__") hT F.slot_enumerate_next
   (LY F.slot_enumerate_next hT F.entry_enumerate_next ?_ (F.args_enumerate_next_1 _))))
  show wpAny _ _ (field (.ref e) 2 >>= _) _ _ _;refine cy (LF he rfl (x:=.ref it) rfl ?_);refine cy (gk hhd w1 p (by simp;omega) λh' x he' hx'=>?_);obtain⟨o,ho,hcl⟩:=hx';refine cy (wpAny_isInstance (T:="StopIteration") (b:=true) ⟨o,ho,hcl⟩ isSubtype_stop ?_);exact g_ ⟨rfl,I.turned (t':=s.toks) (λb o hb q=>he' b o hb q) f0 f1 f3 f4 f5⟩
 self:=λ_ _ _ _ _ st h=>let ⟨⟨_,he⟩,_⟩:=st;wpAny_pyIter_enum he h
section
def BH(k:Bool)(a:Addr)(xs:Array Value):Meets (Od.«enumerate.__new__» ⟨[.type "enumerate",.ref a],[]⟩) (λ_ R s=>fe k s.heap a xs /\
   R (.ok (.ret (.ref (s.heap.push (me k a)).objs.size))) { s with heap:=(s.heap.push (me k a)).push { cls:=.type "enumerate",data:=.fields #[.none,.bool false,.ref s.heap.objs.size,rawInt 0,.none,.none] } }) :=
 .of_wp λprog w A R s h=>by
  obtain⟨hp,g,d,tk,os⟩:=s;obtain⟨r1,h⟩:=h;have hsub:=sub_enumerate;have R1:fe k (Shared.heap ⟨hp,g,d,tk,os⟩) a xs:=r1;obtain⟨⟨cls,dd,data,sl⟩,ho,hc,n,hd⟩:=id r1;simp only at hc hd;subst hc hd
  wp_walk using Mz ho
  refine wpAny_stack_any λst=>g_ ?_
  split
  .rename_i c _ _ _ _ _
   cases (c == Mj "enumerate")
   .wp_walk using Mz ho,fN R1
    exact⟨_,rfl,h⟩
   .wp_walk using Mz ho,fN R1
    exact⟨_,rfl,h⟩
  .wp_walk using Mz ho,fN R1
   exact⟨_,rfl,h⟩
variable {P:tj}
def BI{xs:Array Value}(r1:fe k s.heap a xs)(h:∀h',IsEnum h' (s.heap.objs.size+1) s.heap.objs.size 0 .none->cB k h' s.heap.objs.size a 0->(∀b o,s.heap.get? b=some o->h'.get? b=some o)->Q (.ref (s.heap.objs.size+1)) { s with heap:=h' }):
  wpAny (model P w) A (call (.type "enumerate") [.ref a]) Q E s:=by
 refine callType_new F.called_enumerate (by decide) (F.typeCall_enumerate_1 _) (F.newCall_enumerate_1 _) (λobj=>F.args_object_init_2 obj _) F.entry_enumerate_new (BH k a xs) ⟨r1,?_⟩;have z1:(s.heap.push (me k a)).objs.size=s.heap.objs.size+1:=Lw ..;have g2:((s.heap.push (me k a)).push { cls:=.type "enumerate",data:=.fields #[.none,.bool false,.ref s.heap.objs.size,rawInt 0,.none,.none] }).get? (s.heap.push (me k a)).objs.size=some _:=k_ _ rfl
 have g1:=f_ { cls:=.type "enumerate",data:=.fields #[.none,.bool false,.ref s.heap.objs.size,rawInt 0,.none,.none] } (k_ s.heap (o:=me k a) rfl);show _/\_;rw [z1] at g2 ⊢;exact⟨⟨_,g2,rfl⟩,h _ g2 ⟨_,g1,rfl,rfl⟩ λb o q=>f_ _ (f_ _ q)⟩
end
noncomputable def zl(K:b_)(ta:TA):TI:=λσ H R=>ta σ H λvs H1=>∃k a,vs=[.ref a]/\(∃xs,Sq k K H1 a xs)/\R (Ite k K a) H1
variable {ct:Nat}{tp:Pos}
def Et{a:Expr}(hg:Gl X "enumerate")(hm:X.mg "enumerate"=none)(ha:PA X [a] ta)(hs:starEach [a] X.env=[(false,eval a X.env)]:=by rfl):
  PI X (.Tuple es ct tp) (.Call (.Name "enumerate" p) [a] [] pos) (zl X.K ta):=by
 intro pins s σ H R I h;refine Call_ (lO I hg hm boot_enumerate (LA (thn (ha pos pins s σ H _ I h) λus s1 ⟨vs,H1,I1,r1,q1⟩=>?_) hs rfl));obtain⟨k,a,e,⟨xs,q1⟩,q⟩:=q1;subst e
 cases r1 with
 | cons r rr =>
  cases rr;cases r;obtain⟨its,rv,p,_⟩:=I1.row q1;refine BI p λh' g1 g2 kk=>wpAny_pyIter_enum g1 ?_;have I2:Inv X pins σ H1 { s1 with heap:=h',toks:=s1.toks }:=I1.kept kk;refine⟨s1.heap.objs.size+1,[s1.heap.objs.size+1,s1.heap.objs.size],_,_,H1,rfl,I2,zk (k:=k) (a:=a) (it:=s1.heap.objs.size) (N1 (Ov _)),⟨⟨_,g1⟩,g2⟩,λb hb=>?_,q⟩
  have hle:s1.heap.objs.size<=b:=by
   simp only [C_,not_mem_nil,or_false] at hb
   rcases hb with e|e
   .rw [e];exact NW _ _
   .rw [e];exact e_ _
  exact I1.fpOk hle (I1.hok.fresh hle)
def zm(hc:X.calm=true):bK X (.builtin "min") (λxs H Q=>∃(p:Addr) (ns:List Int),xs=[.ref p]/\SqL X.K H p (ns.map V.int)/\0<ns.length/\∀m:Int,m∈ns->(∀a∈ns,m<=a)->Q (.int m) H):=by
 intro pins s σ H xs us Q I r h;obtain⟨p,ns,rfl,hS,hne,q⟩:=h;obtain⟨u,rfl,ru⟩:=ie r;cases (show u=n_ p from ru);obtain⟨its,rv,pl,hz⟩:=I.list hS;have hi:=dZ rv;have hl:=pl.isList;obtain⟨ys,e⟩:=hi.allInts.items;have hns:ns=ys.toList.map (·.1):=by rw [<- hi.numsOf,<- nums_intItems,<- e]
 have hsz:0<ys.size:=by
  have h3:=hne;rw [hns,length_map,we] at h3;exact h3
 rw [e] at hl;refine min_intList (by exact I.ok.hd hc) hl hsz λv h' tk hv hk=>?_;obtain⟨t,rfl⟩:=intItems_at hv;obtain⟨h1,h2⟩:=argBest_lt (numAt ys) (ys.size - 1)
 refine⟨.int _,H,I.kept (t':=tk) hk,⟨t,rfl⟩,q _ ?_ λa ha=>?_⟩
 .rw [hns,numAt_eq];exact getD_mem (by rw [length_map,we];omega)
 .rw [hns] at ha;obtain⟨j,hj,rfl⟩:=mem_getD ha;rw [length_map,we] at hj;rw [<- numAt_eq];exact h2 j (by omega)
theorem qc(ns:List Int):∀k,k<=ns.length->preSum (λi=>ns.getD i 0) k=(ns.take k).sum
 | 0,_=>rfl
 | k+1,h=>by
  rw [preSum,qc ns k (by omega),take_add_one,cx (by omega),sum_append,cn,cx (by omega)];simp
def zn(hc:X.calm=true):bK X (.builtin "sum") (λxs H Q=>∃(p:Addr) (ns:List Int),xs=[.ref p]/\SqL X.K H p (ns.map V.int)/\Q (.int ns.sum) H):=by
 intro pins s σ H xs us Q I r h;obtain⟨p,ns,rfl,hS,q⟩:=h;obtain⟨u,rfl,ru⟩:=ie r;cases (show u=n_ p from ru);obtain⟨its,rv,pl,hz⟩:=I.list hS;have hi:=dZ rv;have hl:=pl.isList;obtain⟨ys,e⟩:=hi.allInts.items;have hns:ns=ys.toList.map (·.1):=by rw [<- hi.numsOf,<- nums_intItems,<- e]
 rw [e] at hl;refine sum_intListG (by exact I.ok.hd hc) hl λh' tk t' hk=>⟨.int ns.sum,H,I.kept (t':=tk) hk,⟨t',?_⟩,q⟩
 have hlen:ys.size=ns.length:=by rw [hns,length_map,we]
 have hnum:numAt ys=λi=>ns.getD i 0:=by
  funext i;rw [numAt_eq,hns]
 rw [hnum,hlen,qc ns ns.length (e_ _),take_length]
theorem zo:∀{ws:List (List Nat)}{us:List Value},bP (ws.map tx) us->StrsAre us (ws.map S)
 | [],_,.nil=>.nil
 | w::ws,_,.cons r rr=>by
  obtain⟨t,e⟩:=r;subst e;exact .cons _ _ (zo rr)
noncomputable def zp(K:b_)(ta:TA):TI:=λσ H R=>ta σ H λvs H1=>∃k l a c,vs=[.ref a,.ref c]/\(∃xs ys,Sq k K H1 a xs/\Sq l K H1 c ys)/\R (Itz k l K a c) H1
def Eu{a b:Expr}(hg:Gl X "zip")(hm:X.mg "zip"=none)(ha:PA X [a,b] ta)(hs:starEach [a,b] X.env=[(false,eval a X.env),(false,eval b X.env)]:=by rfl)(hs2:starEach [b] X.env=[(false,eval b X.env)]:=by rfl):
  PI X (.Tuple es ct tp) (.Call (.Name "zip" p) [a,b] [] pos) (zp X.K ta):=by
 intro pins s σ H R I h;refine Call_ (lO I hg hm boot_zip (LA (thn (ha pos pins s σ H _ I h) λus s1 ⟨vs,H1,I1,r1,q1⟩=>?_) (by rw [hs,hs2]) (by rw [hs2];rfl)));obtain⟨k,l,a,c,e,⟨xs,ys,q1,q2⟩,q⟩:=q1;subst e
 cases r1 with
 | cons r rr =>
  cases rr with
  | cons r' rr =>
   cases rr;cases r;cases r';obtain⟨its,rv,p,_⟩:=I1.row q1;obtain⟨jts,rv',p',_⟩:=I1.row q2;refine El p p' λh' g1 g2 g3 g4 g5 kk=>wpAny_pyIter_zip g1 ?_;have I2:Inv X pins σ H1 { s1 with heap:=h',toks:=s1.toks }:=I1.kept kk
   refine⟨s1.heap.objs.size+4,[s1.heap.objs.size+4,s1.heap.objs.size+2,s1.heap.objs.size+3,s1.heap.objs.size,s1.heap.objs.size+1],_,_,H1,rfl,I2,BC (i:=s1.heap.objs.size) (j:=s1.heap.objs.size+1)
    (Jl _),⟨g1,g2,⟨_,_,g3⟩,g4,g5⟩,λb hb=>?_,q⟩
   have hle:s1.heap.objs.size<=b:=by
    simp only [C_,not_mem_nil,or_false] at hb
    rcases hb with e|e|e|e|e
    .rw [e];exact NW _ _
    .rw [e];exact NW _ _
    .rw [e];exact NW _ _
    .rw [e];exact e_ _
    .rw [e];exact NW _ _
   exact I1.fpOk hle (I1.hok.fresh hle)
variable {ta:TE}{f:Str}
def aX(K:b_)(eK:X.K=K)(he:PE X e ta)(hb:attributeBase e f X.env (eval e X.env)=eval e X.env):PE X (.Attribute e f pos) (p8 K ta f):=eK ▸ Gk he hb
noncomputable def Jp(K:b_):List V->Hp->VK->Prop:=λxs H Q=>∃p ys,xs=[.ref p]/\SqL K H p ys/\Q (.int ys.length) H
noncomputable def Jq(K:b_):List V->Hp->VK->Prop:=λxs H Q=>∃p ys,xs=[.ref p]/\SqT K H p ys/\Q (.int ys.length) H
noncomputable def Kz(K:b_):List V->Hp->VK->Prop:=λxs H Q=>∃x n t b,xs=[x,.ty n]/\sw K H x t/\Mn K t (.type n)=some b/\Q (.bl b) H
noncomputable def zq(K:b_):List V->Hp->VK->Prop:=λxs H Q=>∃p ys,xs=[.ref p]/\(SqL K H p ys\/SqT K H p ys)/\∀l,H l=none->Q (.ref l) (upd H l (.lst ys))
section
variable {o:Expr}{to:TE}{t:TA}{name:Str}{apos cpos:Pos}{T id:String}{r:V->List V->Hp->VK->Prop}
def eZ(K:b_)(eK:X.K=K)(pa:PlainAttrs T)(slot:Slot T name id)(hty:typeOf (.builtin id)=pure (.type "method_descriptor"))(hm:MtR X id r)(ho:PE X o to)(ha:PA X (e::es) t)(hbase:attributeBase o name X.env (eval o X.env)=eval o X.env:=by rfl)(hfew:((backTo cpos (starEach (e::es) X.env)).all (λx=>!x.1) && (backToKw cpos (keywordEach [] X.env)).all (λx=>x.1.isSome)
   && decide ((e::es).length+([]:List Keyword).length+(if ([]:List Keyword).isEmpty then 0 else 1)<30))=true:=by rfl)(hline:(apos.endLine == cpos.line)=true:=by rfl)(hs:starEach (e::es) X.env=(false,eval e X.env)::starEach es X.env:=by rfl)(hplain:(backTo cpos (starEach es X.env)).any (·.1)=false:=by rfl):
  PE X (.Call (.Attribute o name apos) (e::es) [] cpos) (tBM K T r to t):=eK ▸ Jg pa slot hty hm ho ha hbase hfew hline hs hplain
end
noncomputable def il(c:Bool)(A B:Prop):Prop:=match c with|true=>A|false=>B
variable {B:Prop}
def GS{c:Bool}{A:Prop}(h1:c=true->A)(h2:c=false->B):il c A B:=by
 cases c with
 | true=>exact h1 rfl
 | false=>exact h2 rfl
def dU{p:Prop}[Decidable p]{A B:Prop}(h1:p->A)(h2:¬ p->B):il (decide p) A B:=GS (λh=>h1 (of_decide_eq_true h)) (λh=>h2 (of_decide_eq_false h))
def uK{p:Prop}[Decidable p]{A B:Prop}(h1:¬ p->A)(h2:p->B):il (!decide p) A B:=GS (λh=>h1 λz=>by rw [decide_eq_true z] at h;cases h) (λh=>h2 (by
 by_cases z:p
 .exact z
 .rw [decide_eq_false z] at h;cases h))
def Jr{p:Prop}[Decidable p]{A B:Prop}(h:p)(hA:A):il (decide p) A B:=dU (λ_=>hA) (λz=>absurd h z)
def Js{p:Prop}[Decidable p]{A B:Prop}(h:¬ p)(hB:B):il (decide p) A B:=dU (λz=>absurd z h) (λ_=>hB)
def GT{p:Prop}[Decidable p]{A B:Prop}(h:¬ p)(hA:A):il (!decide p) A B:=uK (λ_=>hA) (λz=>absurd z h)
def GU{p:Prop}[Decidable p]{A B:Prop}(h:p)(hB:B):il (!decide p) A B:=uK (λz=>absurd h z) (λ_=>hB)
def zr{c:Bool}{A:Prop}(h:il c B A):il (!c) A B:=by
 cases c <;> exact h
def K7{c:Bool}{A:Prop}(h:c=true)(hA:A):il c A B:=by subst h;exact hA
def K8{c:Bool}{A:Prop}(h:c=false)(hB:B):il c A B:=by subst h;exact hB
def Jt{c:Bool}{A:Prop}(h:c=false)(hA:A):il (!c) A B:=by subst h;exact hA
def Ev{c:Bool}{A:Prop}(h:c=true)(hB:B):il (!c) A B:=by subst h;exact hB
inductive D where
 | non|bl (b:Bool)|int (i:Int)|str (l:List Nat)|ty (n:String)
 | lst (ds:List D)|tup (ds:List D)|scr (ns:List Int)|dic (ks:List Key) (ds:List D)|fdc (ks:List Key) (ds:List D)|obj (c:Str) (ns:List Str) (ds:List D)|exc (c:Str) (ns:List Str) (ds:List D)
noncomputable def XAt(x C:Addr)(dd:Option Addr)(new:Bool)(h:Heap):Prop:=∃o vs,h.get? x=some o/\o.cls=.ref C/\o.dict=dd/\o.data=.fields vs/\1<vs.size/\(new=true->vs[1]?=some .none)
noncomputable def dJ(A:Addr->Prop)(a:Addr):Addr->Prop:=λb=>A b\/b=a
noncomputable def FA(K:b_)(O:Addr->Prop)(H:Hp)(a:Addr)(xs:List V):Prop :=
 (¬ O a/\Rd H a (.lst xs))\/∃(o:Obj) (its:Array Value) (n:Nat),K.lookup a=some o/\o.cls=.type "list"/\o.dict=none/\o.data=.seq its n/\its.size<=sizeLine/\bP xs its.toList
variable {O:Addr->Prop}
def FA.sq(h:FA K O H a xs):SqL K H a xs:=h.elim (λz=>.inl z.2) .inr
noncomputable def aI(O:Addr->Prop)(H:Hp)(O':Addr->Prop)(H':Hp):Prop:=∀b o,¬ O b->H b=some o->¬ O' b/\H' b=some o
variable {O':Addr->Prop}{H':Hp}
def Rd.keeps{u:HO}(k:aI O H O' H')(n:¬ O a)(r:Rd H a u):¬ O' a/\Rd H' a u:=by
 rcases r with e|⟨o,e⟩
 .exact⟨(k _ _ n e).1,.inl (k _ _ n e).2⟩
 .exact⟨(k _ _ n e).1,.inr ⟨o,(k _ _ n e).2⟩⟩
def FA.keeps(k:aI O H O' H')(h:FA K O H a xs):FA K O' H' a xs:=by
 rcases h with ⟨n,r⟩|r
 .exact .inl (r.keeps k n)
 .exact .inr r
mutual
inductive FV (K:b_) (O:Addr->Prop) (H:Hp):V->D->Prop
 | non:FV K O H .non .non
 | bl (b:Bool):FV K O H (.bl b) (.bl b)
 | int (i:Int):FV K O H (.int i) (.int i)
 | str (l:List Nat):l.length<=1000000->FV K O H (.str (S l)) (.str l)
 | ty (n:String):FV K O H (.ty n) (.ty n)
 | scr {a:Addr}{ns:List Int}:FA K O H a (ns.map V.int)->FV K O H (.ref a) (.scr ns)
 | lst {a:Addr}{xs:List V}{ds:List D}:¬ O a->H a=some (.lst xs)->FVs K O H xs ds->FV K O H (.ref a) (.lst ds)
 | tup {a:Addr}{xs:List V}{ds:List D}:¬ O a->H a=some (.tup xs)->FVs K O H xs ds->FV K O H (.ref a) (.tup ds)
 | dic {a:Addr}{kvs:List (Key×V)}{ks:List Key}{ds:List D}:¬ O a->H a=some (.dK kvs)->kvs.map G_=ks->FVs K O H (kvs.map Mt) ds->FV K O H (.ref a) (.dic ks ds)
 | fdc {a:Addr}{o:Obj}{kvs:List (Key×V)}{ks:List Key}{ds:List D}:¬ O a->H a=some (.frz o (.dK kvs))->kvs.map G_=ks->FVs K O H (kvs.map Mt) ds->FV K O H (.ref a) (.fdc ks ds)
 | obj {a dx:Addr}{c:Str}{fs:List (Str×V)}{ns:List Str}{ds:List D}:¬ O a->H a=some (.ins (bw K c) dx fs)->fs.map G_=ns->FVs K O H (fs.map Mt) ds->FV K O H (.ref a) (.obj c ns ds)
 | exc0 {a:Addr}{c:Str}{new:Bool}:¬ O a->H a=some (.ext (XAt a (bw K c) none new))->FV K O H (.ref a) (.exc c [] [])
 | exc1 {a dx:Addr}{c:Str}{new:Bool}{fs:List (Str×V)}{ns:List Str}{ds:List D}:¬ O a->¬ O dx->H a=some (.ext (XAt a (bw K c) (some dx) new))->H dx=some (.xd fs)->fs.map G_=ns->FVs K O H (fs.map Mt) ds->FV K O H (.ref a) (.exc c ns ds)
inductive FVs (K:b_) (O:Addr->Prop) (H:Hp):List V->List D->Prop
 | nil:FVs K O H [] []
 | cons {x:V}{d:D}{xs:List V}{ds:List D}:FV K O H x d->FVs K O H xs ds->FVs K O H (x::xs) (d::ds)
end
mutual
theorem FV.keeps(k:aI O H O' H'):∀{v:V}{d:D},FV K O H v d->FV K O' H' v d
 | _,_,.non=>.non
 | _,_,.bl b=>.bl b
 | _,_,.int i=>.int i
 | _,_,.str l h=>.str l h
 | _,_,.ty n=>.ty n
 | _,_,.scr s=>.scr (s.keeps k)
 | _,_,.lst n e f=>.lst (k _ _ n e).1 (k _ _ n e).2 (FVs.keeps k f)
 | _,_,.tup n e f=>.tup (k _ _ n e).1 (k _ _ n e).2 (FVs.keeps k f)
 | _,_,.dic n e m f=>.dic (k _ _ n e).1 (k _ _ n e).2 m (FVs.keeps k f)
 | _,_,.fdc n e m f=>.fdc (k _ _ n e).1 (k _ _ n e).2 m (FVs.keeps k f)
 | _,_,.obj n e m f=>.obj (k _ _ n e).1 (k _ _ n e).2 m (FVs.keeps k f)
 | _,_,.exc0 n e=>.exc0 (k _ _ n e).1 (k _ _ n e).2
 | _,_,.exc1 n n2 e e2 m f=>.exc1 (k _ _ n e).1 (k _ _ n2 e2).1 (k _ _ n e).2 (k _ _ n2 e2).2 m (FVs.keeps k f)
theorem FVs.keeps(k:aI O H O' H'):∀{vs:List V}{ds:List D},FVs K O H vs ds->FVs K O' H' vs ds
 | _,_,.nil=>.nil
 | _,_,.cons a b=>.cons (FV.keeps k a) (FVs.keeps k b)
end
theorem FVs.length:∀{vs:List V}{ds:List D},FVs K O H vs ds->vs.length=ds.length
 | _,_,.nil=>rfl
 | _,_,.cons _ b=>by rw [length_cons,length_cons,b.length]
theorem FVs.get:∀{vs:List V}{ds:List D}{i:Nat}{v:V},FVs K O H vs ds->vs[i]?=some v->∃d,ds[i]?=some d/\FV K O H v d
 | _,_,0,_,.cons a _,e=>by simp at e;subst e;exact⟨_,rfl,a⟩
 | _,_,i+1,v,.cons _ b,e=>by
  obtain⟨d,h1,h2⟩:=b.get (i:=i) (v:=v) (by simpa using e);exact⟨d,by simpa using h1,h2⟩
theorem FVs.getD:∀{vs:List V}{ds:List D}{i:Nat}{d:D},FVs K O H vs ds->ds[i]?=some d->∃v,vs[i]?=some v/\FV K O H v d
 | _,_,0,_,.cons a _,e=>by simp at e;subst e;exact⟨_,rfl,a⟩
 | _,_,i+1,v,.cons _ b,e=>by
  obtain⟨d,h1,h2⟩:=b.getD (i:=i) (d:=v) (by simpa using e);exact⟨d,by simpa using h1,h2⟩
theorem FVs.append:∀{vs ws:List V}{ds es:List D},FVs K O H vs ds->FVs K O H ws es->FVs K O H (vs++ws) (ds++es)
 | _,_,_,_,.nil,s=>s
 | _,_,_,_,.cons a b,s=>.cons a (b.append s)
variable {v:V}
theorem FVs.set{d:D}(f:FV K O H v d):∀{vs:List V}{ds:List D} (i:Nat),FVs K O H vs ds->FVs K O H (vs.set i v) (ds.set i d)
 | _,_,_,.nil=>.nil
 | _,_,0,.cons _ t=>.cons f t
 | _,_,i+1,.cons q t=>.cons q (FVs.set f i t)
theorem FVs.take:∀{vs:List V}{ds:List D} (n:Nat),FVs K O H vs ds->FVs K O H (vs.take n) (ds.take n)
 | _,_,0,_=>.nil
 | _,_,_+1,.nil=>.nil
 | _,_,n+1,.cons r t=>.cons r (t.take n)
theorem FVs.drop:∀{vs:List V}{ds:List D} (n:Nat),FVs K O H vs ds->FVs K O H (vs.drop n) (ds.drop n)
 | _,_,0,r=>r
 | _,_,_+1,.nil=>.nil
 | _,_,n+1,.cons _ t=>t.drop n
theorem FVs.ints:∀{vs:List V}{ns:List Int},FVs K O H vs (ns.map D.int)->vs=ns.map V.int
 | _,[],.nil=>rfl
 | _,n::r,h=>by
  cases h with
  | cons a b=>cases a;rw [FVs.ints b];rfl
theorem FVs.of_ints:∀ns:List Int,FVs K O H (ns.map V.int) (ns.map D.int)
 | []=>.nil
 | n::r=>.cons (.int n) (FVs.of_ints r)
theorem FVs.strs:∀{vs:List V}{ws:List (List Nat)},FVs K O H vs (ws.map D.str)->vs=ws.map tx
 | _,[],.nil=>rfl
 | _,n::r,h=>by
  cases h with
  | cons a b=>cases a;rw [FVs.strs b];rfl
theorem FVs.bls:∀{vs:List V}{bs:List Bool},FVs K O H vs (bs.map D.bl)->vs=bs.map V.bl
 | _,[],.nil=>rfl
 | _,n::r,h=>by
  cases h with
  | cons a b=>cases a;rw [FVs.bls b];rfl
inductive PV where
 | dat (d:D)|own (ds:List D)|ins (c:Str) (ns:List Str) (ds:List D)|odc (ks:List Key) (ds:List D)
noncomputable def PV.isOwn:PV->Bool
 | .dat _=>false
 | _=>true
noncomputable def PV.d:PV->D
 | .dat d=>d
 | .own ds=>.lst ds
 | .ins c ns ds=>.obj c ns ds
 | .odc ks ds=>.dic ks ds
abbrev PSt:=List (Option PV)
noncomputable def Wr(ρ:PSt)(σ:St)(b:Addr):Prop:=∃(i:Nat) (p:PV),ρ[i]?=some (some p)/\p.isOwn=true/\σ[i]?=some (some (.ref b))
noncomputable def OO(A:Addr->Prop)(ρ:PSt)(σ:St)(b:Addr):Prop:=A b\/Wr ρ σ b
noncomputable def RS(K:b_)(O:Addr->Prop)(H:Hp):PV->V->Prop
 | .dat d,v=>FV K O H v d
 | .own ds,v=>∃a xs,v=.ref a/\H a=some (.lst xs)/\FVs K O H xs ds
 | .ins c ns ds,v=>∃a dx fs,v=.ref a/\H a=some (.ins (bw K c) dx fs)/\fs.map G_=ns/\FVs K O H (fs.map Mt) ds
 | .odc ks ds,v=>∃a kvs,v=.ref a/\H a=some (.dK kvs)/\kvs.map G_=ks/\FVs K O H (kvs.map Mt) ds
structure Rel (K:b_) (A:Addr->Prop) (ρ:PSt) (σ:St) (H:Hp):Prop where
 len:ρ.length=σ.length
 get:∀(i:Nat) (p:PV),ρ[i]?=some (some p)->∃v,σ[i]?=some (some v)/\RS K (OO A ρ σ) H p v
 dj:∀(i j:Nat) (p q:PV) (v:V),ρ[i]?=some (some p)->ρ[j]?=some (some q)->p.isOwn=true->q.isOwn=true->σ[i]?=some (some v)->σ[j]?=some (some v)->i=j
 dom:∀b,A b->H b≠none
 sep:∀b,A b->¬ Wr ρ σ b
structure Fr (ρ:PSt) (σ:St) (H:Hp) (ρ':PSt) (H':Hp):Prop where
 kp:∀b o,¬ Wr ρ σ b->H b=some o->H' b=some o
 dm:∀b,H b≠none->H' b≠none
 ow:∀b,Wr ρ' σ b->Wr ρ σ b
def Fr.refl(ρ:PSt)(σ:St)(H:Hp):Fr ρ σ H ρ H:=⟨λ_ _ _ h=>h,λ_ h=>h,λ_ h=>h⟩
variable {ρ ρ1:PSt}{H1:Hp}
def Fr.trans{ρ2:PSt}{H2:Hp}(a:Fr ρ σ H ρ1 H1)(b:Fr ρ1 σ H1 ρ2 H2):Fr ρ σ H ρ2 H2 :=
 ⟨λc o n h=>b.kp c o (λz=>n (a.ow c z)) (a.kp c o n h),λc h=>b.dm c (a.dm c h),λc h=>a.ow c (b.ow c h)⟩
def Fr.keeps{ρ':PSt}{A:Addr->Prop}(f:Fr ρ σ H ρ' H'):aI (OO A ρ σ) H (OO A ρ' σ) H':=λb o n h =>
 ⟨λz=>z.elim (λz=>n (.inl z)) (λz=>n (.inr (f.ow b z))),f.kp b o (λz=>n (.inr z)) h⟩
variable {o:HO}
def Fr.new{p:Addr}(h:H p=none):Fr ρ σ H ρ (upd H p o) :=
 ⟨λb u _ e=>by rw [aC (bc e h)];exact e,λb e=>by
  by_cases z:b=p
  .rw [z,aY];exact nofun
  .rw [aC z];exact e,λ_ h=>h⟩
def aI.fresh{p:Addr}(h:H p=none):aI O H (dJ O p) (upd H p o):=λb u n e =>
 ⟨λz=>z.elim n (λz=>by rw [z,h] at e;cases e),by rw [aC (bc e h)];exact e⟩
def aI.less(h:∀b,O' b->O b):aI O H O' H:=λb o n e=>⟨λz=>n (h b z),e⟩
def RS.keeps{p:PV}(k:aI O H O' H')(w:p.isOwn=true->∀a,v=.ref a->H' a=H a)(h:RS K O H p v):RS K O' H' p v:=by
 cases p with
 | dat d=>exact FV.keeps k h
 | own ds =>
  obtain⟨a,xs,e,g,f⟩:=h;exact⟨a,xs,e,by rw [w rfl a e];exact g,f.keeps k⟩
 | ins c ns ds =>
  obtain⟨a,dx,fs,e,g,m,f⟩:=h;exact⟨a,dx,fs,e,by rw [w rfl a e];exact g,m,f.keeps k⟩
 | odc ks ds =>
  obtain⟨a,kvs,e,g,m,f⟩:=h;exact⟨a,kvs,e,by rw [w rfl a e];exact g,m,f.keeps k⟩
def RS.ref{p:PV}(h:RS K O H p v)(o:p.isOwn=true):∃a u,v=.ref a/\H a=some u:=by
 cases p with
 | dat d=>cases o
 | own ds=>obtain⟨a,xs,e,g,f⟩:=h;exact⟨a,_,e,g⟩
 | ins c ns ds=>obtain⟨a,dx,fs,e,g,m,f⟩:=h;exact⟨a,_,e,g⟩
 | odc ks ds=>obtain⟨a,kvs,e,g,m,f⟩:=h;exact⟨a,_,e,g⟩
def Rel.wr{A:Addr->Prop}(R:Rel K A ρ σ H)(h:Wr ρ σ b):H b≠none:=by
 obtain⟨i,p,e,o,s⟩:=h;obtain⟨v,s',r⟩:=R.get i p e;rw [s] at s';cases s';obtain⟨a,u,e1,e2⟩:=r.ref o;cases e1;rw [e2];exact nofun
def Rel.oo{A:Addr->Prop}(R:Rel K A ρ σ H)(h:H b=none):¬ OO A ρ σ b:=λz=>z.elim (λz=>R.dom b z h) (λz=>R.wr z h)
def Rel.grow{A:Addr->Prop}(R:Rel K A ρ σ H){p:Addr}(h:H p=none):Rel K A ρ σ (upd H p o):=by
 have k:aI (OO A ρ σ) H (OO A ρ σ) (upd H p o):=Fr.keeps (Fr.new h);refine⟨R.len,λi q e=>?_,R.dj,λb z=>(Fr.new (ρ:=ρ) (σ:=σ) h).dm b (R.dom b z),R.sep⟩;obtain⟨v,s,r⟩:=R.get i q e;refine⟨v,s,r.keeps k λow a ea=>?_⟩;obtain⟨a',u,e1,e2⟩:=r.ref ow;rw [ea] at e1;cases e1;rw [aC (bc e2 h)]
def Rel.less{A A':Addr->Prop}(R:Rel K A ρ σ H)(h:∀b,A' b->A b):Rel K A' ρ σ H:=by
 refine⟨R.len,λi q e=>?_,R.dj,λb z=>R.dom b (h b z),λb z=>R.sep b (h b z)⟩;obtain⟨v,s,r⟩:=R.get i q e;exact⟨v,s,r.keeps (aI.less λb z=>z.imp (h b) id) λ_ _ _=>rfl⟩
def Rel.write{A:Addr->Prop}(R:Rel K A ρ σ H){p q:PV}(e:ρ[i]?=some (some p))(ow:p.isOwn=true)(ow':q.isOwn=true)(es:σ[i]?=some (some (.ref a)))(new:RS K (OO A ρ σ) (upd H a o) q (.ref a)):Rel K A (ρ.set i (some q)) σ (upd H a o)/\Fr ρ σ H (ρ.set i (some q)) (upd H a o):=by
 have hi:i<ρ.length:=(i_.mp e).1;have wa:Wr ρ σ a:=⟨i,p,e,ow,es⟩
 have weq:∀b,Wr (ρ.set i (some q)) σ b ↔ Wr ρ σ b:=λb=>by
  constructor
  .rintro⟨j,r,e1,o1,s1⟩
   by_cases z:i=j
   .subst z;exact⟨i,p,e,ow,s1⟩
   .rw [o_ z] at e1;exact⟨j,r,e1,o1,s1⟩
  .rintro⟨j,r,e1,o1,s1⟩
   by_cases z:i=j
   .subst z;exact⟨i,q,s_ hi,ow',s1⟩
   .exact⟨j,r,by rw [o_ z];exact e1,o1,s1⟩
 have oeq:OO A (ρ.set i (some q)) σ=OO A ρ σ:=funext λb=>propext (or_congr Iff.rfl (weq b));have kp:∀b u,¬ Wr ρ σ b->H b=some u->upd H a o b=some u:=λb u n h=>by rw [aC (λz=>n (by rw [z];exact wa))];exact h
 have k:aI (OO A ρ σ) H (OO A ρ σ) (upd H a o):=λb u n h=>⟨n,kp b u (λz=>n (.inr z)) h⟩
 have dm:∀b,H b≠none->upd H a o b≠none:=λb n=>by
  by_cases z:b=a
  .rw [z,aY];exact nofun
  .rw [aC z];exact n
 refine⟨⟨by rw [LK];exact R.len,λj r e1=>?_,λj l p1 q1 v e1 e2 o1 o2 s1 s2=>?_,λb z=>dm b (R.dom b z),λb z w=>R.sep b z ((weq b).mp w)⟩,⟨kp,dm,λb w=>(weq b).mp w⟩⟩
 .rw [oeq]
  by_cases z:i=j
  .subst z;rw [s_ hi] at e1;cases e1;exact⟨_,es,new⟩
  .rw [o_ z] at e1;obtain⟨v,s,rr⟩:=R.get j r e1;refine⟨v,s,rr.keeps k λow2 b eb=>?_⟩;rw [aC];intro zz;subst zz;rw [eb] at s;exact z (R.dj i j p r _ e e1 ow ow2 es s)
 .have ex:∀(m:Nat) (x:PV),(ρ.set i (some q))[m]?=some (some x)->x.isOwn=true->∃y:PV,ρ[m]?=some (some y)/\y.isOwn=true:=λm x em ox=>by
   by_cases z:i=m
   .subst z;exact⟨p,e,ow⟩
   .rw [o_ z] at em;exact⟨x,em,ox⟩
  obtain⟨y1,h1,h2⟩:=ex j p1 e1 o1;obtain⟨y2,h3,h4⟩:=ex l q1 e2 o2;exact R.dj j l y1 y2 v h1 h3 h2 h4 s1 s2
def Rel.frz{A:Addr->Prop}(R:Rel K A ρ σ H){p:PV}(e:ρ[i]?=some (some p)):
  Rel K A (ρ.set i (some (.dat p.d))) σ H/\Fr ρ σ H (ρ.set i (some (.dat p.d))) H:=by
 have hi:i<ρ.length:=(i_.mp e).1
 have ex:∀(m:Nat) (x:PV),(ρ.set i (some (.dat p.d)))[m]?=some (some x)->x.isOwn=true->m≠i/\ρ[m]?=some (some x):=λm x em ox=>by
  by_cases z:i=m
  .subst z;rw [s_ hi] at em;cases em;cases ox
  .rw [o_ z] at em;exact⟨λq=>z q.symm,em⟩
 have ow:∀b,Wr (ρ.set i (some (.dat p.d))) σ b->Wr ρ σ b:=λb ⟨j,r,e1,o1,s1⟩=>⟨j,r,(ex j r e1 o1).2,o1,s1⟩
 have k:aI (OO A ρ σ) H (OO A (ρ.set i (some (.dat p.d))) σ) H:=aI.less λb z=>z.imp id (ow b);refine⟨⟨by rw [LK];exact R.len,λj r e1=>?_,λj l p1 q1 v e1 e2 o1 o2 s1 s2=>R.dj j l p1 q1 v (ex j p1 e1 o1).2 (ex l q1 e2 o2).2 o1 o2 s1 s2,R.dom,λb z w=>R.sep b z (ow b w)⟩,⟨λ_ _ _ h=>h,λ_ h=>h,ow⟩⟩
 by_cases z:i=j
 .subst z;rw [s_ hi] at e1;cases e1;obtain⟨v,s,r⟩:=R.get i p e;refine⟨v,s,?_⟩
  have na:∀a,v=.ref a->p.isOwn=true->¬ OO A (ρ.set i (some (.dat p.d))) σ a:=λa ea oo z=>by
   subst ea
   rcases z with z|⟨j,r,e1,o1,s1⟩
   .exact R.sep a z ⟨i,p,e,oo,s⟩
   .obtain⟨n1,n2⟩:=ex j r e1 o1;exact n1 (R.dj j i r p _ n2 e o1 oo s1 s)
  cases p with
  | dat d=>exact FV.keeps k r
  | own ds =>
   obtain⟨a,xs,rfl,g,f⟩:=r;exact .lst (na a rfl rfl) g (f.keeps k)
  | ins c ns ds =>
   obtain⟨a,dx,fs,rfl,g,m,f⟩:=r;exact .obj (na a rfl rfl) g m (f.keeps k)
  | odc ks ds =>
   obtain⟨a,kvs,rfl,g,m,f⟩:=r;exact .dic (na a rfl rfl) g m (f.keeps k)
 .rw [o_ z] at e1;obtain⟨v,s,r⟩:=R.get j _ e1;exact⟨v,s,r.keeps k λ_ _ _=>rfl⟩
abbrev PKt:=PV->PSt->Prop
abbrev PTE:=PSt->PKt->Prop
abbrev PTT:=PSt->(Bool->PSt->Prop)->Prop
inductive AV where
 | v (d:D)|sl (i:Nat)
abbrev PA1:=PSt->(AV->PSt->Prop)->Prop
abbrev PTA:=PSt->(List AV->PSt->Prop)->Prop
noncomputable def Out(K:b_)(A:Addr->Prop)(ρ:PSt)(σ:St)(H0 H:Hp):PV->V->Prop
 | .dat d,v=>Rel K A ρ σ H/\FV K (OO A ρ σ) H v d
 | .own ds,v=>∃a xs,v=.ref a/\¬ A a/\H0 a=none/\H a=some (.lst xs)/\Rel K (dJ A a) ρ σ H/\FVs K (OO (dJ A a) ρ σ) H xs ds
 | .ins c ns ds,v=>∃a dx fs,v=.ref a/\¬ A a/\H0 a=none/\H a=some (.ins (bw K c) dx fs)/\fs.map G_=ns/\Rel K (dJ A a) ρ σ H/\FVs K (OO (dJ A a) ρ σ) H (fs.map Mt) ds
 | .odc ks ds,v=>∃a kvs,v=.ref a/\¬ A a/\H0 a=none/\H a=some (.dK kvs)/\kvs.map G_=ks/\Rel K (dJ A a) ρ σ H/\FVs K (OO (dJ A a) ρ σ) H (kvs.map Mt) ds
noncomputable def LE(K:b_)(te:TE)(pe:PTE):Prop:=∀(A:Addr->Prop) (ρ:PSt) (σ:St) (H:Hp) (Q:PKt) (Q':VK),Rel K A ρ σ H->pe ρ Q ->
 (∀v H' p ρ',Q p ρ'->Fr ρ σ H ρ' H'->Out K A ρ' σ H H' p v->Q' v H')->te σ H Q'
noncomputable def LT(K:b_)(tt:TT)(pt:PTT):Prop:=∀(A:Addr->Prop) (ρ:PSt) (σ:St) (H:Hp) (Q:Bool->PSt->Prop) (Q':Bool->Hp->Prop),Rel K A ρ σ H->pt ρ Q ->
 (∀b H' ρ',Q b ρ'->Fr ρ σ H ρ' H'->Rel K A ρ' σ H'->Q' b H')->tt σ H Q'
noncomputable def AOk(K:b_)(O:Addr->Prop)(σ:St)(H:Hp):AV->V->Prop
 | .v d,v=>FV K O H v d
 | .sl i,v=>σ[i]?=some (some v)
noncomputable def LA1(K:b_)(te:TE)(pa:PA1):Prop:=∀(A:Addr->Prop) (ρ:PSt) (σ:St) (H:Hp) (Q:AV->PSt->Prop) (Q':VK),Rel K A ρ σ H->pa ρ Q ->
 (∀v H' av ρ',Q av ρ'->Fr ρ σ H ρ' H'->Rel K A ρ' σ H'->AOk K (OO A ρ' σ) σ H' av v->Q' v H')->te σ H Q'
inductive Ew (K:b_) (O:Addr->Prop) (σ:St) (H:Hp):List AV->List V->Prop
 | nil:Ew K O σ H [] []
 | cons {a:AV}{v:V}{as:List AV}{vs:List V}:AOk K O σ H a v->Ew K O σ H as vs->Ew K O σ H (a::as) (v::vs)
noncomputable def LAs(K:b_)(ta:TA)(pa:PTA):Prop:=∀(A:Addr->Prop) (ρ:PSt) (σ:St) (H:Hp) (Q:List AV->PSt->Prop) (Q':List V->Hp->Prop),Rel K A ρ σ H->pa ρ Q ->
 (∀vs H' as ρ',Q as ρ'->Fr ρ σ H ρ' H'->Rel K A ρ' σ H'->Ew K (OO A ρ' σ) σ H' as vs->Q' vs H')->ta σ H Q'
def AOk.keeps{a:AV}(k:aI O H O' H')(h:AOk K O σ H a v):AOk K O' σ H' a v:=by
 cases a with
 | v d=>exact FV.keeps k h
 | sl i=>exact h
variable {A:Addr->Prop}{H0:Hp}
def Out.frz{p:PV}(h:Out K A ρ σ H0 H p v):Rel K A ρ σ H/\FV K (OO A ρ σ) H v p.d:=by
 cases p with
 | dat d=>exact h
 | own ds =>
  obtain⟨a,xs,rfl,na,_,e,R,f⟩:=h;refine⟨R.less λb z=>.inl z,.lst (λz=>?_) e (f.keeps (aI.less λb z=>z.imp .inl id))⟩;exact z.elim na (λz=>R.sep a (.inr rfl) z)
 | ins c ns ds =>
  obtain⟨a,dx,fs,rfl,na,_,e,m,R,f⟩:=h;refine⟨R.less λb z=>.inl z,.obj (λz=>?_) e m (f.keeps (aI.less λb z=>z.imp .inl id))⟩;exact z.elim na (λz=>R.sep a (.inr rfl) z)
 | odc ks ds =>
  obtain⟨a,kvs,rfl,na,_,e,m,R,f⟩:=h;refine⟨R.less λb z=>.inl z,.dic (λz=>?_) e m (f.keeps (aI.less λb z=>z.imp .inl id))⟩;exact z.elim na (λz=>R.sep a (.inr rfl) z)
def Out.h0{p:PV}(h:Out K A ρ σ H0 H p v)(dm:∀b,H1 b≠none->H0 b≠none):Out K A ρ σ H1 H p v:=by
 have k:∀a,H0 a=none->H1 a=none:=λa e=>by
  cases z:H1 a with
  | none=>rfl
  | some o=>exact absurd e (dm a (by rw [z];exact nofun))
 cases p with
 | dat d=>exact h
 | own ds=>obtain⟨a,xs,e1,na,e2,r⟩:=h;exact⟨a,xs,e1,na,k a e2,r⟩
 | ins c ns ds=>obtain⟨a,dx,fs,e1,na,e2,r⟩:=h;exact⟨a,dx,fs,e1,na,k a e2,r⟩
 | odc ks ds=>obtain⟨a,kvs,e1,na,e2,r⟩:=h;exact⟨a,kvs,e1,na,k a e2,r⟩
noncomputable def Gr(H H':Hp):Prop:=∀b o,H b=some o->H' b=some o
def Gr.fr(g:Gr H H'):Fr ρ σ H ρ H':=⟨λb o _ h=>g b o h,λb h=>by
 cases e:H b with
 | none=>exact absurd e h
 | some o=>rw [g b o e];exact nofun,λ_ h=>h⟩
def Gr.new{p:Addr}(h:H p=none):Gr H (upd H p o):=λb u e=>by rw [aC (bc e h)];exact e
def Gr.refl(H:Hp):Gr H H:=λ_ _ h=>h
def Rel.gr(R:Rel K A ρ σ H)(g:Gr H H'):Rel K A ρ σ H':=by
 refine⟨R.len,λi q e=>?_,R.dj,λb z=>(g.fr (ρ:=ρ) (σ:=σ)).dm b (R.dom b z),R.sep⟩;obtain⟨v,s,r⟩:=R.get i q e;refine⟨v,s,r.keeps (g.fr (ρ:=ρ) (σ:=σ)).keeps λow a ea=>?_⟩;obtain⟨a',u,e1,e2⟩:=r.ref ow;rw [ea] at e1;cases e1;rw [e2];exact g _ _ e2
def Rel.grA(R:Rel K A ρ σ H)(g:Gr H H'){p:Addr}(h:H p=none)(h':H' p≠none):Rel K (dJ A p) ρ σ H':=by
 have k:aI (OO A ρ σ) H (OO (dJ A p) ρ σ) H':=λb u n e=>by
  refine⟨λz=>?_,g _ _ e⟩
  rcases z with (z|z)|z
  .exact n (.inl z)
  .rw [z,h] at e;cases e
  .exact n (.inr z)
 refine⟨R.len,λi q e=>?_,R.dj,λb z=>?_,λb z w=>?_⟩
 .obtain⟨v,s,r⟩:=R.get i q e;refine⟨v,s,r.keeps k λow a ea=>?_⟩;obtain⟨a',u,e1,e2⟩:=r.ref ow;rw [ea] at e1;cases e1;rw [e2];exact g _ _ e2
 .rcases z with z|z
  .exact (g.fr (ρ:=ρ) (σ:=σ)).dm b (R.dom b z)
  .rw [z];exact h'
 .rcases z with z|z
  .exact R.sep b z w
  .exact R.wr w (by rw [z];exact h)
noncomputable def uL(K:b_)(O:Addr->Prop)(H0 H:Hp):PV->V->Prop
 | .dat d,v=>FV K O H v d
 | .own ds,v=>∃a xs,v=.ref a/\H0 a=none/\H a=some (.lst xs)/\FVs K (dJ O a) H xs ds
 | .ins c ns ds,v=>∃a dx fs,v=.ref a/\H0 a=none/\H a=some (.ins (bw K c) dx fs)/\fs.map G_=ns/\FVs K (dJ O a) H (fs.map Mt) ds
 | .odc ks ds,v=>∃a kvs,v=.ref a/\H0 a=none/\H a=some (.dK kvs)/\kvs.map G_=ks/\FVs K (dJ O a) H (kvs.map Mt) ds
def uL.out{p:PV}(R:Rel K A ρ σ H)(g:Gr H H')(h:uL K (OO A ρ σ) H H' p v):Out K A ρ σ H H' p v:=by
 cases p with
 | dat d=>exact⟨R.gr g,h⟩
 | own ds =>
  obtain⟨a,xs,rfl,e0,e,f⟩:=h;refine⟨a,xs,rfl,λz=>R.dom a z e0,e0,e,R.grA g e0 (by rw [e];exact nofun),f.keeps (aI.less λb z=>?_)⟩
  rcases z with (z|z)|z
  .exact .inl (.inl z)
  .exact .inr z
  .exact .inl (.inr z)
 | ins c ns ds =>
  obtain⟨a,dx,fs,rfl,e0,e,m,f⟩:=h;refine⟨a,dx,fs,rfl,λz=>R.dom a z e0,e0,e,m,R.grA g e0 (by rw [e];exact nofun),f.keeps (aI.less λb z=>?_)⟩
  rcases z with (z|z)|z
  .exact .inl (.inl z)
  .exact .inr z
  .exact .inl (.inr z)
 | odc ks ds =>
  obtain⟨a,kvs,rfl,e0,e,m,f⟩:=h;refine⟨a,kvs,rfl,λz=>R.dom a z e0,e0,e,m,R.grA g e0 (by rw [e];exact nofun),f.keeps (aI.less λb z=>?_)⟩
  rcases z with (z|z)|z
  .exact .inl (.inl z)
  .exact .inr z
  .exact .inl (.inr z)
noncomputable def FVc(K:b_)(O:Addr->Prop)(H:Hp)(v:V)(d:D):Prop:=FV K O H v d\/(∃a xs ds,v=.ref a/\d=.lst ds/\H a=some (.lst xs)/\FVs K O H xs ds) \/
 (∃a dx c fs ns ds,v=.ref a/\d=.obj c ns ds/\H a=some (.ins (bw K c) dx fs)/\fs.map G_=ns/\FVs K O H (fs.map Mt) ds) \/
 ∃a kvs ks ds,v=.ref a/\d=.dic ks ds/\H a=some (.dK kvs)/\kvs.map G_=ks/\FVs K O H (kvs.map Mt) ds
noncomputable def cont(ρ:PSt):AV->Option D
 | .v d=>some d
 | .sl i=>match ρ[i]? with|some (some p)=>some p.d|_=>none
def Rel.cont{av:AV}{d:D}(R:Rel K A ρ σ H)(h:AOk K (OO A ρ σ) σ H av v)(e:L2.cont ρ av=some d):FVc K (OO A ρ σ) H v d:=by
 cases av with
 | v d'=>cases e;exact .inl h
 | sl i =>
  have h:σ[i]?=some (some v):=h;simp only [L2.cont] at e
  split at e
  .rename_i p ep;cases e;obtain⟨v',s,r⟩:=R.get i p ep;rw [h] at s;cases s
   cases p with
   | dat d=>exact .inl r
   | own ds=>obtain⟨a,xs,e1,e2,f⟩:=r;exact .inr (.inl ⟨a,xs,ds,e1,rfl,e2,f⟩)
   | ins c ns ds=>obtain⟨a,dx,fs,e1,e2,m,f⟩:=r;exact .inr (.inr (.inl ⟨a,dx,c,fs,ns,ds,e1,rfl,e2,m,f⟩))
   | odc ks ds=>obtain⟨a,kvs,e1,e2,m,f⟩:=r;exact .inr (.inr (.inr ⟨a,kvs,ks,ds,e1,rfl,e2,m,f⟩))
  .cases e
variable {ds:List D}
def FVc.lst(h:FVc K O H v (.lst ds)):∃a xs,v=.ref a/\H a=some (.lst xs)/\FVs K O H xs ds:=by
 rcases h with h|⟨a,xs,ds',e1,e2,e3,f⟩|⟨a,dx,c,fs,ns,ds',e1,e2,_⟩|⟨a,kvs,ks,ds',e1,e2,_⟩
 .cases h with
  | lst n s f=>exact⟨_,_,rfl,s,f⟩
 .cases e2;exact⟨a,xs,e1,e3,f⟩
 .cases e2
 .cases e2
def FVc.fv{d:D}(h:FVc K O H v d)(n:∀ds,d≠.lst ds)(n':∀c ns ds,d≠.obj c ns ds)(n'':∀ks ds,d≠.dic ks ds:=by nofun):FV K O H v d:=by
 rcases h with h|⟨a,xs,ds',e1,e2,e3,f⟩|⟨a,dx,c,fs,ns,ds',e1,e2,_⟩|⟨a,kvs,ks,ds',e1,e2,_⟩
 .exact h
 .exact absurd e2 (n _)
 .exact absurd e2 (n' _ _ _)
 .exact absurd e2 (n'' _ _)
def FVc.dic{ks:List Key}(h:FVc K O H v (.dic ks ds)):∃a kvs,v=.ref a/\H a=some (.dK kvs)/\kvs.map G_=ks/\FVs K O H (kvs.map Mt) ds:=by
 rcases h with h|⟨_,_,_,_,e2,_⟩|⟨_,_,_,_,_,_,_,e2,_⟩|⟨a,kvs,_,_,e1,e2,e3,m,f⟩
 .cases h with
  | dic n e m f=>exact⟨_,_,rfl,e,m,f⟩
 .cases e2
 .cases e2
 .cases e2;exact⟨a,kvs,e1,e3,m,f⟩
def FVc.tup(h:FVc K O H v (.tup ds)):∃a xs,v=.ref a/\¬ O a/\H a=some (.tup xs)/\FVs K O H xs ds:=by
 cases h.fv nofun nofun with
 | tup n s f=>exact⟨_,_,rfl,n,s,f⟩
def FVc.scr(h:FVc K O H v (.scr ns)):∃a,v=.ref a/\SqL K H a (ns.map V.int):=by
 cases h.fv nofun nofun with
 | scr s=>exact⟨_,rfl,s.sq⟩
def FVc.int{i:Int}(h:FVc K O H v (.int i)):v=.int i:=by cases h.fv nofun nofun;rfl
def FVc.str{i:List Nat}(h:FVc K O H v (.str i)):v=.str (S i)/\i.length<=1000000:=by
 cases h.fv nofun nofun with
 | str _ z=>exact⟨rfl,z⟩
def pC(d:D):PTE:=λρ Q=>Q (.dat d) ρ
noncomputable def uM(i:Nat):PTE:=λρ Q=>match ρ[i]? with
 | some (some (.dat d))=>Q (.dat d) ρ
 | some (some (.own ds))=>Q (.dat (.lst ds)) (ρ.set i (some (.dat (.lst ds))))
 | some (some (.ins c ns ds))=>Q (.dat (.obj c ns ds)) (ρ.set i (some (.dat (.obj c ns ds))))
 | _=>False
noncomputable def pSl(i:Nat):PA1:=λρ Q=>match ρ[i]? with
 | some (some (.dat d))=>Q (.v d) ρ
 | some (some (.own _))=>Q (.sl i) ρ
 | some (some (.ins _ _ _))=>Q (.sl i) ρ
 | _=>False
noncomputable def pFz(pe:PTE):PA1:=λρ Q=>pe ρ λp ρ1=>Q (.v p.d) ρ1
def di:PTA:=λρ Q=>Q [] ρ
noncomputable def bF(pa:PA1)(pr:PTA):PTA:=λρ Q=>pa ρ λa ρ1=>pr ρ1 λas ρ2=>Q (a::as) ρ2
def IN{d:D}(h:∀O H,FV K O H v d):LE K (tC v) (pC d):=λA ρ σ H Q Q' R q k=>k v H (.dat d) ρ q (Fr.refl _ _ _) ⟨R,h _ _⟩
def le_int{i:Int}:LE K (tC (.int i)) (pC (.int i)):=IN λ_ _=>.int i
def oZ{i:Bool}:LE K (tC (.bl i)) (pC (.bl i)):=IN λ_ _=>.bl i
def GV:LE K (tC .non) (pC .non):=IN λ_ _=>.non
def le_str(h:l.length<=1000000:=by decide):LE K (tC (.str (S l))) (pC (.str l)):=IN λ_ _=>.str l h
def fO:LE K (aF i) (uM i):=by
 intro A ρ σ H Q Q' R q k;unfold uM at q
 split at q
 .rename_i d e;obtain⟨v,s,r⟩:=R.get i _ e;exact⟨v,s,k v H (.dat d) ρ q (Fr.refl _ _ _) ⟨R,r⟩⟩
 .rename_i ds e;obtain⟨R',f⟩:=R.frz e;obtain⟨v,s,r⟩:=R'.get i _ (s_ (i_.mp e).1);exact⟨v,s,k v H (.dat (.lst ds)) _ q f ⟨R',r⟩⟩
 .rename_i c ns ds e;obtain⟨R',f⟩:=R.frz e;obtain⟨v,s,r⟩:=R'.get i _ (s_ (i_.mp e).1);exact⟨v,s,k v H (.dat (.obj c ns ds)) _ q f ⟨R',r⟩⟩
 .exact q.elim
def c6:LA1 K (aF i) (pSl i):=by
 intro A ρ σ H Q Q' R q k;unfold pSl at q
 split at q
 .rename_i d e;obtain⟨v,s,r⟩:=R.get i _ e;exact⟨v,s,k v H _ ρ q (Fr.refl _ _ _) R r⟩
 .rename_i e;obtain⟨v,s,r⟩:=R.get i _ e;exact⟨v,s,k v H _ ρ q (Fr.refl _ _ _) R s⟩
 .rename_i e;obtain⟨v,s,r⟩:=R.get i _ e;exact⟨v,s,k v H _ ρ q (Fr.refl _ _ _) R s⟩
 .exact q.elim
variable {pe:PTE}
def ag(h:LE K ta pe):LA1 K ta (pFz pe):=λA ρ σ H Q Q' R q k=>h A ρ σ H _ Q' R q λv H' p ρ' q f o=>k v H' _ ρ' q f o.frz.1 o.frz.2
def ac:LAs K cP di:=λA ρ σ H Q Q' R q k=>k [] H [] ρ q (Fr.refl _ _ _) R .nil
variable {pa:PA1}{tr:TA}{pr:PTA}
def aa(h:LA1 K ta pa)(hr:LAs K tr pr):LAs K (aG ta tr) (bF pa pr):=λA ρ σ H Q Q' R q k =>
 h A ρ σ H _ _ R q λv H1 a ρ1 q1 f1 R1 o1=>hr A ρ1 σ H1 _ _ R1 q1 λvs H2 as ρ2 q2 f2 R2 o2=>k _ H2 _ ρ2 q2 (f1.trans f2) R2 (.cons (o1.keeps f2.keeps) o2)
noncomputable def LO(K:b_)(r:R2)(f:D->D->(PV->Prop)->Prop):Prop:=∀(O:Addr->Prop) (H:Hp) (x y:V) (a b:D) (Q:PV->Prop) (Q':VK),(∀b,O b->H b≠none)->FVc K O H x a->FVc K O H y b->f a b Q ->
 (∀v H' p,Q p->Gr H H'->uL K O H H' p v->Q' v H')->r x y H Q'
noncomputable def op2(f:D->D->(PV->Prop)->Prop)(ρ:PSt)(x y:AV)(Q:PKt):Prop:=match cont ρ x,cont ρ y with
 | some a,some b=>f a b λp=>Q p ρ
 | _,_=>False
variable {pb:PA1}
noncomputable def pOp(f:D->D->(PV->Prop)->Prop)(pa pb:PA1):PTE:=λρ Q=>pa ρ λx ρ1=>pb ρ1 λy ρ2=>op2 f ρ2 x y Q
def Rel.dom2(R:Rel K A ρ σ H):∀b,OO A ρ σ b->H b≠none:=λb z=>z.elim (R.dom b) R.wr
variable {tb:TE}{r:R2}
def am{f:D->D->(PV->Prop)->Prop}(o:LO K r f)(ha:LA1 K ta pa)(hb:LA1 K tb pb):LE K (tOp r ta tb) (pOp f pa pb):=λA ρ σ H Q Q' R q k =>
 ha A ρ σ H _ _ R q λv H1 a ρ1 q1 f1 R1 o1=>hb A ρ1 σ H1 _ _ R1 q1 λw H2 b ρ2 q2 f2 R2 o2=>by
  unfold op2 at q2
  split at q2
  .rename_i da db e1 e2;exact o _ H2 v w da db _ _ R2.dom2 (R2.cont (o1.keeps f2.keeps) e1) (R2.cont o2 e2) q2 λz H3 p q3 g ov=>k z H3 p ρ2 q3 ((f1.trans f2).trans g.fr) ((ov.out R2 g).h0 λb z=>f2.dm b (f1.dm b z))
  .exact q2.elim
noncomputable def LU(K:b_)(r:V->Hp->VK->Prop)(f:D->(PV->Prop)->Prop):Prop:=∀(O:Addr->Prop) (H:Hp) (x:V) (a:D) (Q:PV->Prop) (Q':VK),(∀b,O b->H b≠none)->FVc K O H x a->f a Q ->
 (∀v H' p,Q p->Gr H H'->uL K O H H' p v->Q' v H')->r x H Q'
noncomputable def op1(f:D->(PV->Prop)->Prop)(ρ:PSt)(x:AV)(Q:PKt):Prop:=match cont ρ x with
 | some a=>f a λp=>Q p ρ
 | _=>False
noncomputable def pUn(f:D->(PV->Prop)->Prop)(pa:PA1):PTE:=λρ Q=>pa ρ λx ρ1=>op1 f ρ1 x Q
def Ex{r:V->Hp->VK->Prop}{f:D->(PV->Prop)->Prop}(o:LU K r f)(ha:LA1 K ta pa):LE K (tUn r ta) (pUn f pa):=λA ρ σ H Q Q' R q k =>
 ha A ρ σ H _ _ R q λv H1 a ρ1 q1 f1 R1 o1=>by
  unfold op1 at q1
  split at q1
  .rename_i da e1;exact o _ H1 v da _ _ R1.dom2 (R1.cont o1 e1) q1 λz H3 p q3 g ov=>k z H3 p ρ1 q3 (f1.trans g.fr) ((ov.out R1 g).h0 λb z=>f1.dm b z)
  .exact q1.elim
inductive FB (K:b_) (O:Addr->Prop) (H:Hp):List V->List D->Prop
 | nil:FB K O H [] []
 | cons {x:V}{d:D}{xs:List V}{ds:List D}:FVc K O H x d->FB K O H xs ds->FB K O H (x::xs) (d::ds)
noncomputable def conts(ρ:PSt):List AV->Option (List D)
 | []=>some []
 | a::r=>match cont ρ a,conts ρ r with
  | some d,some ds=>some (d::ds)
  | _,_=>none
theorem Rel.conts(R:Rel K A ρ σ H):∀{as:List AV}{vs:List V}{ds:List D},Ew K (OO A ρ σ) σ H as vs->L2.conts ρ as=some ds->FB K (OO A ρ σ) H vs ds
 | _,_,_,.nil,e=>by cases e;exact .nil
 | _,_,_,.cons a b,e=>by
  unfold L2.conts at e
  split at e
  .rename_i e1 e2;cases e;exact .cons (R.cont a e1) (R.conts b e2)
  .cases e
noncomputable def LC(K:b_)(r:List V->Hp->VK->Prop)(f:List D->(PV->Prop)->Prop):Prop:=∀(O:Addr->Prop) (H:Hp) (xs:List V) (as:List D) (Q:PV->Prop) (Q':VK),(∀b,O b->H b≠none)->FB K O H xs as->f as Q ->
 (∀v H' p,Q p->Gr H H'->uL K O H H' p v->Q' v H')->r xs H Q'
noncomputable def opN(f:List D->(PV->Prop)->Prop)(ρ:PSt)(as:List AV)(Q:PKt):Prop:=match conts ρ as with
 | some ds=>f ds λp=>Q p ρ
 | _=>False
noncomputable def pCB(f:List D->(PV->Prop)->Prop)(pr:PTA):PTE:=λρ Q=>pr ρ λas ρ1=>opN f ρ1 as Q
def aD{r:List V->Hp->VK->Prop}{f:List D->(PV->Prop)->Prop}(o:LC K r f)(ha:LAs K tr pr):LE K (tCB r tr) (pCB f pr):=λA ρ σ H Q Q' R q k =>
 ha A ρ σ H _ _ R q λvs H1 as ρ1 q1 f1 R1 o1=>by
  unfold opN at q1
  split at q1
  .rename_i ds e1;exact o _ H1 vs ds _ _ R1.dom2 (R1.conts o1 e1) q1 λz H3 p q3 g ov=>k z H3 p ρ1 q3 (f1.trans g.fr) ((ov.out R1 g).h0 λb z=>f1.dm b z)
  .exact q1.elim
noncomputable def avD:List AV->Option (List D)
 | []=>some []
 | .v d::r=>match avD r with|some ds=>some (d::ds)|none=>none
 | .sl _::_=>none
theorem Ew.avD:∀{as:List AV}{vs:List V}{ds:List D},Ew K O σ H as vs->L2.avD as=some ds->FVs K O H vs ds
 | _,_,_,.nil,e=>by cases e;exact .nil
 | .v d::r,_,_,.cons a b,e=>by
  simp only [L2.avD] at e
  split at e
  .rename_i e1;cases e;exact .cons a (b.avD e1)
  .cases e
 | .sl i::r,_,_,.cons a b,e=>by cases e
noncomputable def K9(pr:PTA):PTE:=λρ Q=>pr ρ λas ρ1=>match avD as with
 | some ds=>ds.length<=1000000/\Q (.own ds) ρ1
 | _=>False
noncomputable def La(pr:PTA):PTE:=λρ Q=>pr ρ λas ρ1=>match avD as with
 | some ds=>ds.length<=1000000/\Q (.dat (.tup ds)) ρ1
 | _=>False
def eB(ha:LAs K tr pr):LE K (Ks tr) (K9 pr):=λA ρ σ H Q Q' R q k =>
 ha A ρ σ H _ _ R q λvs H1 as ρ1 q1 f1 R1 o1=>by
  split at q1
  .rename_i ds e1;have fs:=o1.avD e1;refine⟨sz _ (by rw [fs.length];exact q1.1),λp hp=>k _ _ (.own ds) ρ1 q1.2 (f1.trans (Fr.new hp)) ?_⟩;have g:Gr H1 (upd H1 p (.lst vs)):=Gr.new hp;exact (uL.out (p:=.own ds) R1 g ⟨p,vs,rfl,hp,aY,fs.keeps (aI.fresh hp)⟩).h0 λb z=>f1.dm b z
  .exact q1.elim
def j7(ha:LAs K tr pr):LE K (Bo tr) (La pr):=λA ρ σ H Q Q' R q k =>
 ha A ρ σ H _ _ R q λvs H1 as ρ1 q1 f1 R1 o1=>by
  split at q1
  .rename_i ds e1;have fs:=o1.avD e1;refine⟨sz _ (by rw [fs.length];exact q1.1),λp hp=>k _ _ (.dat (.tup ds)) ρ1 q1.2 (f1.trans (Fr.new hp)) ⟨R1.grow hp,?_⟩⟩;exact .tup (R1.oo hp) aY (fs.keeps (Fr.new hp).keeps)
  .exact q1.elim
noncomputable def pB(pe:PTE):PTT:=λρ Q=>pe ρ λp ρ1=>match p with
 | .dat (.bl b)=>Q b ρ1
 | _=>False
def sy(h:LE K ta pe):LT K (tB ta) (pB pe):=λA ρ σ H Q Q' R q k=>h A ρ σ H _ _ R q λv H1 p ρ1 q1 f1 o1=>by
 split at q1
 .rename_i b;obtain⟨R1,f⟩:=o1;cases f;exact⟨b,rfl,k b H1 ρ1 q1 f1 R1⟩
 .exact q1.elim
def iT(h:LE K ta pe):LT K (uz ta) (pB pe):=sy h
noncomputable def Lb(a b:PTT):PTT:=λρ Q=>a ρ λc ρ1=>il c (b ρ1 Q) (Q false ρ1)
noncomputable def pOr(a b:PTT):PTT:=λρ Q=>a ρ λc ρ1=>il c (Q true ρ1) (b ρ1 Q)
noncomputable def Ju(a:PTT):PTT:=λρ Q=>a ρ λc ρ1=>Q (!c) ρ1
variable {tta ttb:TT}{pta ptb:PTT}
def zt(ha:LT K tta pta)(hb:LT K ttb ptb):LT K (Kh tta ttb) (Lb pta ptb):=λA ρ σ H Q Q' R q k=>ha A ρ σ H _ _ R q λc H1 ρ1 q1 f1 R1=>by
 cases c with
 | true=>exact hb A ρ1 σ H1 _ _ R1 q1 λb H2 ρ2 q2 f2 R2=>k b H2 ρ2 q2 (f1.trans f2) R2
 | false=>exact k false H1 ρ1 q1 f1 R1
def zu(ha:LT K tta pta)(hb:LT K ttb ptb):LT K (tOr tta ttb) (pOr pta ptb):=λA ρ σ H Q Q' R q k=>ha A ρ σ H _ _ R q λc H1 ρ1 q1 f1 R1=>by
 cases c with
 | false=>exact hb A ρ1 σ H1 _ _ R1 q1 λb H2 ρ2 q2 f2 R2=>k b H2 ρ2 q2 (f1.trans f2) R2
 | true=>exact k true H1 ρ1 q1 f1 R1
def e6(ha:LT K tta pta):LT K (IW tta) (Ju pta):=λA ρ σ H Q Q' R q k=>ha A ρ σ H _ _ R q λc H1 ρ1 q1 f1 R1=>k _ H1 ρ1 q1 f1 R1
noncomputable def Jv(a b:PTE):PTE:=λρ Q=>a ρ λp ρ1=>match p with
 | .dat (.bl c)=>il c (b ρ1 Q) (Q (.dat (.bl false)) ρ1)
 | _=>False
noncomputable def Lc(a b:PTE):PTE:=λρ Q=>a ρ λp ρ1=>match p with
 | .dat (.bl c)=>il c (Q (.dat (.bl true)) ρ1) (b ρ1 Q)
 | _=>False
noncomputable def Jw(a:PTE):PTE:=λρ Q=>a ρ λp ρ1=>match p with
 | .dat (.bl c)=>Q (.dat (.bl (!c))) ρ1
 | _=>False
variable {pe':PTE}
def hX(ha:LE K ta pe)(hb:LE K tb pe'):LE K (F4 ta tb) (Jv pe pe'):=λA ρ σ H Q Q' R q k=>ha A ρ σ H _ _ R q λv H1 p ρ1 q1 f1 o1=>by
 split at q1
 .rename_i c;obtain⟨R1,f⟩:=o1;cases f;refine⟨c,rfl,?_⟩
  cases c with
  | true=>exact hb A ρ1 σ H1 _ _ R1 q1 λb H2 p2 ρ2 q2 f2 o2=>k b H2 p2 ρ2 q2 (f1.trans f2) (o2.h0 λb z=>f1.dm b z)
  | false=>exact k _ H1 _ ρ1 q1 f1 ⟨R1,.bl false⟩
 .exact q1.elim
def Jx(ha:LE K ta pe)(hb:LE K tb pe'):LE K (Ki ta tb) (Lc pe pe'):=λA ρ σ H Q Q' R q k=>ha A ρ σ H _ _ R q λv H1 p ρ1 q1 f1 o1=>by
 split at q1
 .rename_i c;obtain⟨R1,f⟩:=o1;cases f;refine⟨c,rfl,?_⟩
  cases c with
  | false=>exact hb A ρ1 σ H1 _ _ R1 q1 λb H2 p2 ρ2 q2 f2 o2=>k b H2 p2 ρ2 q2 (f1.trans f2) (o2.h0 λb z=>f1.dm b z)
  | true=>exact k _ H1 _ ρ1 q1 f1 ⟨R1,.bl true⟩
 .exact q1.elim
def zw(ha:LE K ta pe):LE K (F8 ta) (Jw pe):=λA ρ σ H Q Q' R q k=>ha A ρ σ H _ _ R q λv H1 p ρ1 q1 f1 o1=>by
 split at q1
 .rename_i c;obtain⟨R1,f⟩:=o1;cases f;exact⟨c,rfl,k _ H1 _ ρ1 q1 f1 ⟨R1,.bl (!c)⟩⟩
 .exact q1.elim
noncomputable def pIf(t:PTT)(a b:PTE):PTE:=λρ Q=>t ρ λc ρ1=>il c (a ρ1 Q) (b ρ1 Q)
def Jy(ht:LT K tta pta)(ha:LE K ta pe)(hb:LE K tb pe'):LE K (tIf tta ta tb) (pIf pta pe pe'):=λA ρ σ H Q Q' R q k=>ht A ρ σ H _ _ R q λc H1 ρ1 q1 f1 R1=>by
 cases c with
 | true=>exact ha A ρ1 σ H1 _ _ R1 q1 λb H2 p2 ρ2 q2 f2 o2=>k b H2 p2 ρ2 q2 (f1.trans f2) (o2.h0 λb z=>f1.dm b z)
 | false=>exact hb A ρ1 σ H1 _ _ R1 q1 λb H2 p2 ρ2 q2 f2 o2=>k b H2 p2 ρ2 q2 (f1.trans f2) (o2.h0 λb z=>f1.dm b z)
abbrev F2:=D->D->(PV->Prop)->Prop
noncomputable def fI0(g:Int->Int->D):F2
 | .int i,.int j,Q=>Q (.dat (g i j))
 | _,_,_=>False
noncomputable def fI(C:Int->Int->Prop)(g:Int->Int->D):F2
 | .int i,.int j,Q=>C i j/\Q (.dat (g i j))
 | _,_,_=>False
def BJ{g:Int->Int->V}{g':Int->Int->D}(h:∀i j O H,FV K O H (g i j) (g' i j)):LO K (rI0 g) (fI0 g'):=by
 intro O H x y a b Q Q' dom fx fy q k;unfold fI0 at q
 split at q
 .rename_i i j;exact⟨i,j,fx.int,fy.int,k _ H _ q (Gr.refl _) (h i j _ _)⟩
 .exact q.elim
def IP{C:Int->Int->Prop}{g:Int->Int->V}{g':Int->Int->D}(h:∀i j O H,FV K O H (g i j) (g' i j)):LO K (rI C g) (fI C g'):=by
 intro O H x y a b Q Q' dom fx fy q k;unfold fI at q
 split at q
 .rename_i i j;exact⟨i,j,fx.int,fy.int,q.1,k _ H _ q.2 (Gr.refl _) (h i j _ _)⟩
 .exact q.elim
def dL{p:Addr}(hp:H p=none)(f:FVs K O H xs ds):uL K O H (upd H p (.lst xs)) (.own ds) (.ref p) :=
 ⟨p,xs,rfl,hp,aY,f.keeps (aI.fresh hp)⟩
def mY{p:Addr}(dom:∀b,O b->H b≠none)(hp:H p=none)(f:FVs K O H xs ds):uL K O H (upd H p (.tup xs)) (.dat (.tup ds)) (.ref p) :=
 .tup (λz=>dom p z hp) aY (f.keeps λb o n e=>⟨n,by rw [aC (bc e hp)];exact e⟩)
noncomputable def Jz:R2:=λx y H Q=>∃i j,x=.str (S i)/\y=.str (S j)/\i.length+j.length<=sizeLine/\Q (.str (S (i++j))) H
noncomputable def Ey(K:b_):R2:=λx y H Q=>rI0 (λi j=>.int (i+j)) x y H Q\/Jz x y H Q\/GP K x y H Q\/Go K x y H Q
def JA(K:b_)(e:X.K=K):OpR X (binaryOp .Add) (Ey K):=by
 subst e;exact OpR.or Gd (OpR.or Eh (OpR.or En D8))
noncomputable def JB:F2
 | .int i,.int j,Q=>Q (.dat (.int (i+j)))
 | .str a,.str b,Q=>a.length+b.length<=1000000/\Q (.dat (.str (a++b)))
 | .lst a,.lst b,Q=>a.length+b.length<=1000000/\Q (.own (a++b))
 | .scr a,.lst b,Q=>a.length+b.length<=1000000/\Q (.own (a.map .int++b))
 | .tup a,.tup b,Q=>a≠[]/\a.length+b.length<=1000000/\Q (.dat (.tup (a++b)))
 | _,_,_=>False
def CS:LO K (Ey K) JB:=by
 intro O H x y a b Q Q' dom fx fy q k;unfold JB at q
 split at q
 .rename_i i j;exact .inl ⟨i,j,fx.int,fy.int,k _ H _ q (Gr.refl _) (.int _)⟩
 .rename_i i j;exact .inr (.inl ⟨i,j,fx.str.1,fy.str.1,sz _ q.1,k _ H _ q.2 (Gr.refl _) (.str _ (by rw [length_append];exact q.1))⟩)
 .rename_i i j;obtain⟨a,xs,rfl,e1,f1⟩:=fx.lst;obtain⟨b,ys,rfl,e2,f2⟩:=fy.lst;exact .inr (.inr (.inl ⟨a,b,xs,ys,rfl,rfl,SqL.of e1,SqL.of e2,sz _ (by rw [f1.length,f2.length];exact q.1),λp hp=>k _ _ _ q.2 (Gr.new hp) (dL hp (f1.append f2))⟩))
 .rename_i i j;obtain⟨a,rfl,e1⟩:=fx.scr;obtain⟨b,ys,rfl,e2,f2⟩:=fy.lst;exact .inr (.inr (.inl ⟨a,b,_,ys,rfl,rfl,e1,SqL.of e2,sz _ (by rw [length_map,f2.length];exact q.1),λp hp=>k _ _ _ q.2 (Gr.new hp) (dL hp ((FVs.of_ints i).append f2))⟩))
 .rename_i i j;obtain⟨a,xs,rfl,n1,e1,f1⟩:=fx.tup;obtain⟨b,ys,rfl,n2,e2,f2⟩:=fy.tup;have l1:=f1.length;have l2:=f2.length
  refine .inr (.inr (.inr ⟨a,b,xs,ys,rfl,rfl,SqT.of e1,SqT.of e2,λz=>q.1 ?_,sz _ (by rw [l1,l2];exact q.2.1),λz=>?_,λ_ p hp=>k _ _ _ q.2.2 (Gr.new hp) (mY dom hp (f1.append f2))⟩))
  .exact LW.mp (by rw [<- l1,z];rfl)
  .have:j=[]:=LW.mp (by rw [<- l2,z];rfl);subst this;exact k _ H _ q.2.2 (Gr.refl _) (by rw [Eo];exact .tup n1 e1 f1)
 .exact q.elim
def j8:LO K (rI0 λi j=>.int (i - j)) (fI0 λi j=>.int (i - j)):=BJ λ_ _ _ _=>.int _
def mZ:LO K (rI (λ_ j=>0<j) λi j=>.int (i % j)) (fI (λ_ j=>0<j) λi j=>.int (i % j)):=IP λ_ _ _ _=>.int _
def m5:LO K (rI I0 λi j=>.int (i / j)) (fI (λ_ j=>0<j/\j<1073741824) λi j=>.int (i / j)):=IP λ_ _ _ _=>.int _
noncomputable def JC:R2:=λx y H Q=>∃l n,x=.str (S l)/\y=.int n/\-1000000<=n/\n<=1000000/\n.toNat*l.length<=sizeLine/\Q (.str (S (sx l n))) H
noncomputable def BK:R2:=λx y H Q=>rI Bh (λi j=>.int (i*j)) x y H Q\/JC x y H Q\/Kx x y H Q
def mf:OpR X (binaryOp .Mult) BK:=OpR.or Gf (OpR.or xK Gw)
noncomputable def JD:F2
 | .int i,.int j,Q=>((-(2^64)<i/\i<2^64)\/(-(2^64)<j/\j<2^64))/\Q (.dat (.int (i*j)))
 | .str a,.int n,Q=>(-1000000<=n/\n<=1000000/\n.toNat*a.length<=1000000)/\Q (.dat (.str (sx a n)))
 | .lst a,.int n,Q=>(-1000000<=n/\n<=1000000/\a.length*n.toNat<=1000000)/\Q (.own (sx a n))
 | _,_,_=>False
theorem FVs.rep(f:FVs K O H xs ds):∀n,FVs K O H (q_ n xs).flatten (q_ n ds).flatten
 | 0=>.nil
 | n+1=>by rw [replicate_succ,replicate_succ,flatten_cons,flatten_cons];exact f.append (f.rep n)
def hZ:LO K BK JD:=by
 intro O H x y a b Q Q' dom fx fy q k;unfold JD at q
 split at q
 .rename_i i j;exact .inl ⟨i,j,fx.int,fy.int,q.1,k _ H _ q.2 (Gr.refl _) (.int _)⟩
 .rename_i i j;exact .inr (.inl ⟨i,j,fx.str.1,fy.int,q.1.1,q.1.2.1,sz _ q.1.2.2,k _ H _ q.2 (Gr.refl _) (.str _ (by rw [gf];exact q.1.2.2))⟩)
 .rename_i i j;obtain⟨a,xs,rfl,e1,f1⟩:=fx.lst;exact .inr (.inr ⟨a,j,xs,rfl,fy.int,e1,by omega,by omega,sz _ (by rw [f1.length];exact q.1.2.2),λp hp=>k _ _ _ q.2 (Gr.new hp) (dL hp (f1.rep _))⟩)
 .exact q.elim
noncomputable def KA:R2:=λx y H Q=>rI0 (λi j=>.bl (decide (i<j))) x y H Q\/∃i j,x=.str i/\y=.str j/\Q (.bl (decide (i.cps.toList<j.cps.toList))) H
noncomputable def IQ:R2:=λx y H Q=>rI0 (λi j=>.bl (decide (i<=j))) x y H Q\/∃i j,x=.str i/\y=.str j/\Q (.bl (!decide (j.cps.toList<i.cps.toList))) H
def Ez:OpR X (compareOp .Lt) KA:=OpR.or Jc yH
def CT:OpR X (compareOp .LtE) IQ:=OpR.or Jd yZ
noncomputable def fLt:F2
 | .int i,.int j,Q=>Q (.dat (.bl (decide (i<j))))
 | .str i,.str j,Q=>Q (.dat (.bl (decide (i<j))))
 | _,_,_=>False
noncomputable def fLe:F2
 | .int i,.int j,Q=>Q (.dat (.bl (decide (i<=j))))
 | .str i,.str j,Q=>Q (.dat (.bl (!decide (j<i))))
 | _,_,_=>False
def uN:LO K KA fLt:=by
 intro O H x y a b Q Q' dom fx fy q k;unfold fLt at q
 split at q
 .rename_i i j;exact .inl ⟨i,j,fx.int,fy.int,k _ H _ q (Gr.refl _) (.bl _)⟩
 .rename_i i j;exact .inr ⟨_,_,fx.str.1,fy.str.1,k _ H _ q (Gr.refl _) (.bl _)⟩
 .exact q.elim
def sX:LO K IQ fLe:=by
 intro O H x y a b Q Q' dom fx fy q k;unfold fLe at q
 split at q
 .rename_i i j;exact .inl ⟨i,j,fx.int,fy.int,k _ H _ q (Gr.refl _) (.bl _)⟩
 .rename_i i j;exact .inr ⟨_,_,fx.str.1,fy.str.1,k _ H _ q (Gr.refl _) (.bl _)⟩
 .exact q.elim
def mh:LO K (rI0 λi j=>.bl (decide (j<i))) (fI0 λi j=>.bl (decide (j<i))):=BJ λ_ _ _ _=>.bl _
def zx:LO K (rI0 λi j=>.bl (decide (j<=i))) (fI0 λi j=>.bl (decide (j<=i))):=BJ λ_ _ _ _=>.bl _
mutual
noncomputable def D.py:D->NE
 | .non=>.none|.bl b=>.bool b|.int i=>.int i|.str l=>.str (S l)|.ty _=>.none
 | .lst ds=>.list (D.pys ds)|.tup ds=>.tuple (D.pys ds)|.scr ns=>.list (ns.map .int)|.dic _ _=>.none|.fdc _ _=>.none|.obj _ _ _=>.none|.exc _ _ _=>.none
noncomputable def D.pys:List D->List NE
 | []=>[]
 | d::r=>d.py::D.pys r
end
mutual
noncomputable def D.plain:D->Bool
 | .non=>true|.bl _=>true|.int _=>true|.str _=>true|.ty _=>false
 | .lst ds=>D.plains ds|.tup ds=>D.plains ds|.scr _=>true|.dic _ _=>false|.fdc _ _=>false|.obj _ _ _=>false|.exc _ _ _=>false
noncomputable def D.plains:List D->Bool
 | []=>true
 | d::r=>d.plain && D.plains r
end
mutual
theorem FV.dv{O:Addr->Prop}{H:Hp}:∀{v:V}{d:D},FV K O H v d->d.plain=true->DV K H v d.py
 | _,_,.non,_=>.non
 | _,_,.bl b,_=>.bl b
 | _,_,.int i,_=>.int i
 | _,_,.str l h,_=>.str (S l)
 | _,_,.ty n,p=>nomatch p
 | _,_,.scr s,_=>.lst s.sq (DVs.ints _)
 | _,_,.lst n e f,p=>.lst (SqL.of e) (FVs.dvs f p)
 | _,_,.tup n e f,p=>.tup (SqT.of e) (FVs.dvs f p)
 | _,_,.dic _ _ _ _,p=>nomatch p
 | _,_,.fdc _ _ _ _,p=>nomatch p
 | _,_,.obj _ _ _ _,p=>nomatch p
 | _,_,.exc0 _ _,p=>nomatch p
 | _,_,.exc1 _ _ _ _ _ _,p=>nomatch p
theorem FVs.dvs{O:Addr->Prop}{H:Hp}:∀{vs:List V}{ds:List D},FVs K O H vs ds->D.plains ds=true->DVs K H vs (D.pys ds)
 | _,_,.nil,_=>.nil
 | _,_,.cons a b,p=>by
  have p:(_ && _)=true:=p;rw [and_eq_true] at p;exact .cons (FV.dv a p.1) (FVs.dvs b p.2)
end
def FVc.dv{d:D}(h:FVc K O H v d)(p:d.plain=true):DV K H v d.py:=by
 rcases h with h|⟨a,xs,ds',rfl,rfl,e3,f⟩|⟨a,dx,c,fs,ns,ds',e1,rfl,_⟩|⟨a,kvs,ks,ds',e1,rfl,_⟩
 .exact h.dv p
 .exact .lst (SqL.of e3) (f.dvs p)
 .cases p
 .cases p
noncomputable def GW(K:b_)(neg:Bool):R2:=λx y H Q=>rI0 (λi j=>.bl (if neg then !decide (i=j) else decide (i=j))) x y H Q\/(∃i j,x=.str (S i)/\y=.str (S j)/\Q (.bl (if neg then !decide (i=j) else decide (i=j))) H)\/Jj K neg x y H Q
def Ld(K:b_)(e:X.K=K)(hu:X.A.units+64<cLine):OpR X (compareOp .Eq) (GW K false):=by
 subst e;exact OpR.or GI (OpR.or GG (GD hu))
def Le(K:b_)(e:X.K=K)(hu:X.A.units+64<cLine):OpR X (compareOp .NotEq) (GW K true):=by
 subst e;exact OpR.or GJ (OpR.or GH (GE hu))
noncomputable def CU(a b:D):Prop:=a.plain=true/\b.plain=true/\MI a.py=true/\MI b.py=true
def deq(a b:D):Bool:=N8 a.py b.py
noncomputable def fEq:F2
 | .int i,.int j,Q=>Q (.dat (.bl (decide (i=j))))
 | .str i,.str j,Q=>Q (.dat (.bl (decide (i=j))))
 | a,b,Q=>CU a b/\Q (.dat (.bl (deq a b)))
noncomputable def fNe:F2
 | .int i,.int j,Q=>Q (.dat (.bl (!decide (i=j))))
 | .str i,.str j,Q=>Q (.dat (.bl (!decide (i=j))))
 | a,b,Q=>CU a b/\Q (.dat (.bl (!deq a b)))
def JE:LO K (GW K false) fEq:=by
 intro O H x y a b Q Q' dom fx fy q k;unfold fEq at q
 split at q
 .rename_i i j;exact .inl ⟨i,j,fx.int,fy.int,k _ H _ q (Gr.refl _) (.bl _)⟩
 .rename_i i j;exact .inr (.inl ⟨i,j,fx.str.1,fy.str.1,k _ H _ q (Gr.refl _) (.bl _)⟩)
 .exact .inr (.inr ⟨_,_,fx.dv q.1.1,fy.dv q.1.2.1,q.1.2.2.1,q.1.2.2.2,k _ H _ q.2 (Gr.refl _) (.bl _)⟩)
def JF:LO K (GW K true) fNe:=by
 intro O H x y a b Q Q' dom fx fy q k;unfold fNe at q
 split at q
 .rename_i i j;exact .inl ⟨i,j,fx.int,fy.int,k _ H _ q (Gr.refl _) (.bl _)⟩
 .rename_i i j;exact .inr (.inl ⟨i,j,fx.str.1,fy.str.1,k _ H _ q (Gr.refl _) (.bl _)⟩)
 .exact .inr (.inr ⟨_,_,fx.dv q.1.1,fy.dv q.1.2.1,q.1.2.2.1,q.1.2.2.2,k _ H _ q.2 (Gr.refl _) (.bl _)⟩)
noncomputable def D.fl:D->Bool
 | .non=>true|.bl _=>true|.int _=>true|.str _=>true
 | _=>false
noncomputable def eqF:D->D->Bool
 | .non,.non=>true
 | .bl a,.bl b=>a == b
 | .bl a,.int b=>(if a then 1 else 0) == b
 | .int a,.bl b=>a == (if b then 1 else 0)
 | .int a,.int b=>a == b
 | .str a,.str b=>a == b
 | _,_=>false
noncomputable def inD(x:D)(xs:List D):Bool:=xs.any λy=>eqF y x
def FV.fl{d:D}(h:FV K O H v d)(f:d.fl=true):oY v=true:=by cases h <;> first|rfl|cases f
def GX(a b:List Nat):(S a == S b)=(a == b):=by
 by_cases h:a=b
 .subst h;rw [beq_self_eq_true,beq_self_eq_true]
 .rw [beq_eq_false_iff_ne.mpr h,beq_eq_false_iff_ne.mpr (K6 h)]
def FV.eqF{w:V}{d e:D}(h:FV K O H v d)(f:d.fl=true)(h':FV K O H w e)(f':e.fl=true):eqV v w=L2.eqF d e:=by
 cases h <;> first|(cases f;done)|(cases h' <;> first|(cases f';done)|rfl|exact GX _ _)
theorem FVs.inD{d:D}(h:FV K O H v d)(f:d.fl=true):∀{xs:List V}{ds:List D},FVs K O H xs ds->ds.all D.fl=true->xs.all oY=true/\inV v xs=L2.inD d ds
 | _,_,.nil,_=>⟨rfl,rfl⟩
 | _,_,.cons a b,g=>by
  rw [all_cons,and_eq_true] at g;obtain⟨i1,i2⟩:=b.inD h f g.2;refine⟨by rw [all_cons,a.fl g.1,i1];rfl,?_⟩;unfold inV L2.inD at i2 ⊢;rw [any_cons,any_cons,i2,a.eqF g.1 h f]
noncomputable def fIn(neg:Bool):F2
 | a,.lst ds,Q=>(a.fl=true/\ds.all D.fl=true)/\Q (.dat (.bl (if neg then !inD a ds else inD a ds)))
 | a,.tup ds,Q=>(a.fl=true/\ds.all D.fl=true)/\Q (.dat (.bl (if neg then !inD a ds else inD a ds)))
 | _,_,_=>False
def FVc.fl{d:D}(h:FVc K O H v d)(f:d.fl=true):FV K O H v d:=h.fv (λ_ z=>by rw [z] at f;cases f) (λ_ _ _ z=>by rw [z] at f;cases f) (λ_ _ z=>by rw [z] at f;cases f)
def Lf(K:b_)(e:X.K=K):OpR X (compareOp .In) (rIn K false):=by subst e;exact yQ
def EA(K:b_)(e:X.K=K):OpR X (compareOp .NotIn) (rIn K true):=by subst e;exact sH
def GY{neg:Bool}:LO K (rIn K neg) (fIn neg):=by
 intro O H x y a b Q Q' dom fx fy q k;unfold fIn at q
 split at q
 .obtain⟨p,xs,rfl,e1,f1⟩:=fy.lst;obtain⟨g1,g2⟩:=f1.inD (fx.fl q.1.1) q.1.1 q.1.2;exact⟨p,xs,rfl,.inl (SqL.of e1),(fx.fl q.1.1).fl q.1.1,g1,by rw [g2];exact k _ H _ q.2 (Gr.refl _) (.bl _)⟩
 .obtain⟨p,xs,rfl,n1,e1,f1⟩:=fy.tup;obtain⟨g1,g2⟩:=f1.inD (fx.fl q.1.1) q.1.1 q.1.2;exact⟨p,xs,rfl,.inr (SqT.of e1),(fx.fl q.1.1).fl q.1.1,g1,by rw [g2];exact k _ H _ q.2 (Gr.refl _) (.bl _)⟩
 .exact q.elim
noncomputable def lQ(K:b_):R2:=λx y H Q=>Ku K x y H Q\/Kv K x y H Q\/GF x y H Q
def dM(K:b_)(e:X.K=K):IxR X (lQ K):=by
 subst e;exact IxR.or Eb (IxR.or Gp Eg)
noncomputable def fIx:F2
 | .lst ds,.int i,Q=>∃d,atI ds i=some d/\Q (.dat d)
 | .tup ds,.int i,Q=>∃d,atI ds i=some d/\Q (.dat d)
 | .scr ns,.int i,Q=>∃d,atI ns i=some d/\Q (.dat (.int d))
 | .str l,.int i,Q=>∃c,atI l i=some c/\Q (.dat (.str [c]))
 | _,_,_=>False
variable {vs:List V}
def FVs.atI{i:Int}{d:D}(f:FVs K O H vs ds)(h:L2.atI ds i=some d):∃v,L2.atI vs i=some v/\FV K O H v d:=by
 unfold L2.atI at h ⊢;rw [f.length]
 cases e:ixN ds.length i with
 | none=>rw [e] at h;cases h
 | some j=>rw [e] at h;exact f.getD h
def bz:LO K (lQ K) fIx:=by
 intro O H x y a b Q Q' dom fx fy q k;unfold fIx at q
 split at q
 .obtain⟨d,hd,q⟩:=q;obtain⟨p,xs,rfl,e1,f1⟩:=fx.lst;obtain⟨v,hv,fv⟩:=f1.atI hd;exact .inl ⟨p,xs,_,v,rfl,fy.int,SqL.of e1,hv,k _ H _ q (Gr.refl _) fv⟩
 .obtain⟨d,hd,q⟩:=q;obtain⟨p,xs,rfl,n1,e1,f1⟩:=fx.tup;obtain⟨v,hv,fv⟩:=f1.atI hd;exact .inr (.inl ⟨p,xs,_,v,rfl,fy.int,SqT.of e1,hv,k _ H _ q (Gr.refl _) fv⟩)
 .obtain⟨d,hd,q⟩:=q;obtain⟨p,rfl,e1⟩:=fx.scr;exact .inl ⟨p,_,_,_,rfl,fy.int,e1,Ei hd,k _ H _ q (Gr.refl _) (.int d)⟩
 .obtain⟨c,hc,q⟩:=q;exact .inr (.inr ⟨_,_,c,fx.str.1,fy.int,sz _ fx.str.2,hc,k _ H _ q (Gr.refl _) (.str _ (by show 1<=1000000;decide))⟩)
 .exact q.elim
end L2
namespace L2
open PySem PySem.Spec PyProof.Rows _root_.HT
variable {prog:tj}{w:World}{A:A_}{E:Value->d_->Prop}{s:d_}{lo hi:Option Int}{Q:Value->d_->Prop}
def kS{t sl:Addr}{items:Array Value}{vl vu:Value}(ht:IsTup s.heap t items)(hs:s.heap.IsSliceOf sl vl vu .none)(pl:Oz vl lo)(pu:Oz vu hi)(hw:sIx items.size 0 lo=0/\sIx items.size items.size hi=items.size)(h:Q (.ref t) s):wpAny (model prog w) A (getItem (.ref t) (.ref sl)) Q E s:=by
 obtain⟨os,hos,hcs,hds⟩:=id hs;have hTs:s.TypeIs (.ref sl) "slice":=⟨os,hos,hcs⟩
 unfold getItem
 try with_reducible refine Lu ?_
 first|refine cy (g_ ?_)|skip
 refine cy (wpAny_sequenceKey ht.typeIs (by decide) ?_)
 refine cy (LB (name:=MX "__getitem__") ht.typeIs J_
  (LY J_ ht.typeIs entry_tuple_getitem ?_ (args_tuple_getitem _ _)))
 show wpAny _ _ (N5 (.ref t) >>= _) _ _ s;refine cy (tupleItemsOf_ ht ?_);refine cy (NT hTs ?_);rw [if_pos (by decide)];refine cy (g9 hs pl pu ?_)
 have hyes:(((sIx items.size 0 lo:Nat):Int) == 0 && (1:Int) == 1 && (sIx items.size items.size hi - sIx items.size 0 lo) == items.size)=true:=by
  rw [hw.1,hw.2,MZ];simp
 show wpAny _ _ (if (((sIx items.size 0 lo:Nat):Int) == 0 && (1:Int) == 1 && (sIx items.size items.size hi - sIx items.size 0 lo) == items.size)=true then _ else _) _ _ s;rw [if_pos hyes];refine cy (m:=Builtin.Tuple.tupleIsExact _) (cy (NT ht.typeIs (g_ ?_)));rw [if_pos (by decide)]
 first
  | exact cy (m:=rule _) (g_ (g_ ⟨_,rfl,g_ h⟩))
  | exact g_ ⟨_,rfl,g_ h⟩
  | exact cy (N9 (g_ ⟨_,rfl,g_ h⟩))
noncomputable def GZ(K:b_):V->Option Int->Option Int->Hp->VK->Prop:=λx lo hi H Q=>∃a xs,x=.ref a/\SqT K H a xs/\(sIx xs.length 0 lo=0/\sIx xs.length xs.length hi=xs.length)/\Q (.ref a) H
variable {X:Cx}
def EB:SlR X (GZ X.K):=by
 intro pins s σ H x v vl vu lo hi sl Q I rx hs pl pu h;obtain⟨a,xs,rfl,hx,hw,q⟩:=h;cases rx;obtain⟨its,r,ht,hz⟩:=I.tuple hx;have hlen:its.toArray.size=xs.length:=by rw [size_toArray];exact r.length.symm
 refine⟨"tuple",_,J_.lookup,ht.typeIs,?_⟩;exact kS ht hs pl pu (by rw [hlen];exact hw) ⟨.ref a,H,I,rfl,q⟩
end L2
namespace L2
open PySem PySem.Spec PyProof.Rows
variable {pa pb pc:PA1}
noncomputable def zy(f f':F2)(pa pb pc:PA1):PTE:=λρ Q=>pa ρ λx ρ1=>pb ρ1 λy ρ2=>op2 f ρ2 x y λp ρ3=>match p with
 | .dat (.bl k)=>il k (pc ρ3 λz ρ4=>op2 f' ρ4 y z Q) (Q (.dat (.bl false)) ρ3)
 | _=>False
variable {K:b_}{ta tb tc:TE}{r r':R2}
def qQ{f f':F2}(o:LO K r f)(o':LO K r' f')(ha:LA1 K ta pa)(hb:LA1 K tb pb)(hc:LA1 K tc pc):LE K (ww r r' ta tb tc) (zy f f' pa pb pc):=λA ρ σ H Q Q' R q k =>
 ha A ρ σ H _ _ R q λv H1 a ρ1 q1 f1 R1 o1=>hb A ρ1 σ H1 _ _ R1 q1 λw H2 b ρ2 q2 f2 R2 o2=>by
  unfold op2 at q2
  split at q2
  .rename_i da db e1 e2;refine o _ H2 v w da db _ _ R2.dom2 (R2.cont (o1.keeps f2.keeps) e1) (R2.cont o2 e2) q2 λz H3 p q3 g ov=>?_;dsimp only at q3
   split at q3
   .rename_i c;cases ov;refine⟨c,rfl,?_⟩;have R3:=R2.gr g
    cases c with
    | true =>
     refine hc A ρ2 σ H3 _ _ R3 q3 λu H4 cc ρ4 q4 f4 R4 o4=>?_
     try unfold op2 at q4
     split at q4
     .rename_i dc dd e3 e4;have o2':AOk K (OO A ρ4 σ) σ H4 b w:=(o2.keeps (g.fr (ρ:=ρ2) (σ:=σ)).keeps).keeps f4.keeps;exact o' _ H4 w u _ _ _ _ R4.dom2 (R4.cont o2' e3) (R4.cont o4 e4) q4 λz H5 p q5 g5 ov=>k z H5 p ρ4 q5 ((((f1.trans f2).trans g.fr).trans f4).trans g5.fr) ((ov.out R4 g5).h0 λb z=>f4.dm b ((g.fr (ρ:=ρ2) (σ:=σ)).dm b (f2.dm b (f1.dm b z))))
     .exact q4.elim
    | false=>exact k _ H3 _ ρ2 q3 ((f1.trans f2).trans g.fr) ⟨R3,.bl false⟩
   .exact q3.elim
  .exact q2.elim
abbrev PTO:=PSt->(Option Int->PSt->Prop)->Prop
noncomputable def LPo(K:b_)(t:TO)(p:PTO):Prop:=∀(A:Addr->Prop) (ρ:PSt) (σ:St) (H:Hp) (Q:Option Int->PSt->Prop) (Q':Option Int->Hp->Prop),Rel K A ρ σ H->p ρ Q ->
 (∀b H' ρ',Q b ρ'->Fr ρ σ H ρ' H'->Rel K A ρ' σ H'->Q' b H')->t σ H Q'
def G0:PTO:=λρ Q=>Q none ρ
variable {pe:PTE}
noncomputable def G1(pe:PTE):PTO:=λρ Q=>pe ρ λp ρ1=>match p with
 | .dat (.int i)=>Q (some i) ρ1
 | _=>False
def bn:LPo K mO G0:=λA ρ σ H Q Q' R q k=>k none H ρ q (Fr.refl _ _ _) R
def aZ(h:LE K ta pe):LPo K (uA ta) (G1 pe):=λA ρ σ H Q Q' R q k=>h A ρ σ H _ _ R q λv H1 p ρ1 q1 f1 o1=>by
 split at q1
 .rename_i i;obtain⟨R1,f⟩:=o1;cases f;exact⟨i,rfl,k _ H1 ρ1 q1 f1 R1⟩
 .exact q1.elim
noncomputable def EC(K:b_):V->Option Int->Option Int->Hp->VK->Prop:=λx lo hi H Q=>Kw K x lo hi H Q\/Ky x lo hi H Q\/Kt K x lo hi H Q\/GZ K x lo hi H Q
variable {X:Cx}
def mC(K:b_)(e:X.K=K):SlR X (EC K):=by
 subst e;exact SlR.or Ec (SlR.or GB (SlR.or Gn EB))
noncomputable def fSl:D->Option Int->Option Int->(PV->Prop)->Prop
 | .lst ds,lo,hi,Q=>Q (.own (dg ds lo hi))
 | .scr ns,lo,hi,Q=>Q (.own ((dg ns lo hi).map .int))
 | .str l,lo,hi,Q=>Q (.dat (.str (dg l lo hi)))
 | .tup ds,lo,hi,Q=>Q (.dat (.tup (dg ds lo hi)))
 | _,_,_,_=>False
variable {O:Addr->Prop}{H:Hp}{xs:List V}{ds:List D}
def FVs.cut(f:FVs K O H xs ds)(lo hi:Option Int):FVs K O H (dg xs lo hi) (dg ds lo hi):=by
 unfold dg;rw [f.length];exact (f.drop _).take _
noncomputable def G2(pa:PA1)(pl ph:PTO):PTE:=λρ Q=>pa ρ λx ρ1=>pl ρ1 λlo ρ2=>ph ρ2 λhi ρ3=>match cont ρ3 x with
 | some d=>fSl d lo hi λp=>Q p ρ3
 | _=>False
variable {α:Type}{lo hi:Option Int}{n:Nat}
def ED{ds:List α}(h:n=ds.length)(hw:HT.sIx n 0 lo=0/\HT.sIx n n hi=n):dg ds lo hi=ds:=by
 subst h;unfold dg;rw [hw.1,hw.2,drop_zero,MZ,take_length]
def lsl{x:V}{d:D}{Q:PV->Prop}{Q':VK}(dom:∀b,O b->H b≠none)(fx:FVc K O H x d)(q:fSl d lo hi Q)(k:∀v H' p,Q p->Gr H H'->uL K O H H' p v->Q' v H'):EC K x lo hi H Q':=by
 unfold fSl at q
 split at q
 .obtain⟨a,xs,rfl,e1,f1⟩:=fx.lst;exact .inl ⟨a,xs,rfl,SqL.of e1,λp hp=>k _ _ _ q (Gr.new hp) (dL hp (f1.cut _ _))⟩
 .obtain⟨a,rfl,e1⟩:=fx.scr;exact .inl ⟨a,_,rfl,e1,λp hp=>k _ _ _ q (Gr.new hp) (dL hp (by rw [yW,Bz];exact FVs.of_ints _))⟩
 .exact .inr (.inl ⟨_,fx.str.1,sz _ fx.str.2,k _ H _ q (Gr.refl _) (.str _ (p_ (br _ _ _) fx.str.2))⟩)
 .obtain⟨a,xs,rfl,n1,e1,f1⟩:=fx.tup
  by_cases hw:HT.sIx xs.length 0 lo=0/\HT.sIx xs.length xs.length hi=xs.length
  .refine .inr (.inr (.inr ⟨a,xs,rfl,SqT.of e1,hw,k _ H _ q (Gr.refl _) ?_⟩));rw [ED f1.length hw];exact .tup n1 e1 f1
  .exact .inr (.inr (.inl ⟨a,xs,rfl,SqT.of e1,hw,λp hp=>k _ _ _ q (Gr.new hp) (mY dom hp (f1.cut _ _))⟩))
 .exact q.elim
def bh{tl th:TO}{pl ph:PTO}(ha:LA1 K ta pa)(hl:LPo K tl pl)(hh:LPo K th ph):LE K (tSl (EC K) ta tl th) (G2 pa pl ph):=λA ρ σ H Q Q' R q k =>
 ha A ρ σ H _ _ R q λv H1 a ρ1 q1 f1 R1 o1=>hl A ρ1 σ H1 _ _ R1 q1 λlo H2 ρ2 q2 f2 R2=>hh A ρ2 σ H2 _ _ R2 q2 λhi H3 ρ3 q3 f3 R3=>by
  split at q3
  .rename_i d e1;exact lsl R3.dom2 (R3.cont (o1.keeps (f2.trans f3).keeps) e1) q3 λz H4 p q4 g ov=>k z H4 p ρ3 q4 (((f1.trans f2).trans f3).trans g.fr) ((ov.out R3 g).h0 λb z=>f3.dm b (f2.dm b (f1.dm b z)))
  .exact q3.elim
abbrev FN:=List D->(PV->Prop)->Prop
noncomputable def mj(K:b_):List V->Hp->VK->Prop:=λxs H Q=>(∃l,xs=[.str (S l)]/\l.length<=sizeLine/\Q (.int l.length) H)\/Jp K xs H Q\/Jq K xs H Q\/∃p kvs,xs=[.ref p]/\Rd H p (.dK kvs)/\Q (.int kvs.length) H
def bj(K:b_)(e:X.K=K):bK X (.builtin "len") (mj K):=by
 subst e;exact bK.or y8 (bK.or y9 (bK.or za zi))
noncomputable def BL:FN
 | [.str l],Q=>Q (.dat (.int l.length))
 | [.lst l],Q=>Q (.dat (.int l.length))
 | [.tup l],Q=>Q (.dat (.int l.length))
 | [.scr l],Q=>Q (.dat (.int l.length))
 | [.dic ks _],Q=>Q (.dat (.int ks.length))
 | _,_=>False
def aH:LC K (mj K) BL:=by
 intro O H xs as Q Q' dom fs q k;unfold BL at q
 split at q
 .cases fs with|cons a b=>cases b;rw [a.str.1];exact .inl ⟨_,rfl,sz _ a.str.2,k _ H _ q (Gr.refl _) (.int _)⟩
 .cases fs with
  | cons a b =>
   cases b;obtain⟨p,ys,rfl,e1,f1⟩:=a.lst;exact .inr (.inl ⟨p,ys,rfl,SqL.of e1,by rw [f1.length];exact k _ H _ q (Gr.refl _) (.int _)⟩)
 .cases fs with
  | cons a b =>
   cases b;obtain⟨p,ys,rfl,n1,e1,f1⟩:=a.tup;exact .inr (.inr (.inl ⟨p,ys,rfl,SqT.of e1,by rw [f1.length];exact k _ H _ q (Gr.refl _) (.int _)⟩))
 .cases fs with
  | cons a b =>
   cases b;obtain⟨p,rfl,e1⟩:=a.scr;exact .inr (.inl ⟨p,_,rfl,e1,by rw [length_map];exact k _ H _ q (Gr.refl _) (.int _)⟩)
 .cases fs with
  | cons a b =>
   cases b;obtain⟨p,kvs,rfl,e,m,f⟩:=a.dic;subst m;exact .inr (.inr (.inr ⟨_,_,rfl,.inl e,k _ H _ q (Gr.refl _) (by rw [length_map];exact .int _)⟩))
 .exact q.elim
inductive Kd where
 | int|bool|str|list|tuple|dict
noncomputable def Kd.nm:Kd->String
 | .int=>"int"|.bool=>"bool"|.str=>"str"|.list=>"list"|.tuple=>"tuple"|.dict=>"dict"
noncomputable def isK:Kd->D->Bool
 | .int,.int _=>true
 | .int,.bl _=>true
 | .bool,.bl _=>true
 | .str,.str _=>true
 | .list,.lst _=>true
 | .tuple,.tup _=>true
 | .dict,.dic _ _=>true
 | _,_=>false
noncomputable def D.sort:D->Bool
 | .obj _ _ _=>false
 | .exc _ _ _=>false
 | .fdc _ _=>false
 | .scr _=>false
 | .ty _=>false
 | _=>true
variable {v:V}
def FVc.ty{d:D}(h:FVc K O H v d)(s:d.sort=true):∃t,sw K H v t/\∀k:Kd,Mn K t (.type k.nm)=some (isK k d):=by
 rcases h with h|⟨a,xs,ds',rfl,rfl,e3,f⟩|⟨a,dx,c,fs,ns,ds',rfl,rfl,_⟩|⟨a,kvs,ks,ds',rfl,rfl,e3,_⟩
 .cases h with
  | non=>exact⟨_,.non,λk=>by cases k <;> rfl⟩
  | bl b=>exact⟨_,.bl b,λk=>by cases k <;> rfl⟩
  | int i=>exact⟨_,.int i,λk=>by cases k <;> rfl⟩
  | str l h=>exact⟨_,.str _,λk=>by cases k <;> rfl⟩
  | ty n=>cases s
  | scr _=>cases s
  | lst n e f=>exact⟨_,.lst e,λk=>by cases k <;> rfl⟩
  | tup n e f=>exact⟨_,.tup e,λk=>by cases k <;> rfl⟩
  | dic n e m f=>exact⟨_,.dK e,λk=>by cases k <;> rfl⟩
  | fdc _ _ _ _=>cases s
  | obj _ _ _ _=>cases s
  | exc0 _ _=>cases s
  | exc1 _ _ _ _ _ _=>cases s
 .exact⟨_,.lst e3,λk=>by cases k <;> rfl⟩
 .cases s
 .exact⟨_,.dK e3,λk=>by cases k <;> rfl⟩
def zA(K:b_)(e:X.K=K):bK X (.builtin "isinstance") (Kz K):=by subst e;exact uE
noncomputable def KB(k:Kd)(pa:PA1):PTE:=λρ Q=>pa ρ λx ρ1=>match cont ρ1 x with
 | some d=>il d.sort (Q (.dat (.bl (isK k d))) ρ1) False
 | _=>False
def sY(k:Kd)(ha:LA1 K ta pa):LE K (tCB (Kz K) (aG ta (aG (tC (.ty k.nm)) cP))) (KB k pa):=λA ρ σ H Q Q' R q kk =>
 ha A ρ σ H _ _ R q λv H1 a ρ1 q1 f1 R1 o1=>by
  split at q1
  .rename_i d e1
   cases hs:d.sort with
   | false=>rw [hs] at q1;exact q1.elim
   | true =>
    rw [hs] at q1;obtain⟨t,ty,hk⟩:=(R1.cont o1 e1).ty hs;exact⟨v,k.nm,t,isK k d,rfl,ty,hk k,kk _ H1 _ ρ1 q1 f1 ⟨R1,.bl _⟩⟩
  .exact q1.elim
noncomputable def KC(K:b_):List V->Hp->VK->Prop:=λxs H Q=>∃(x:V) (p:Addr) (ts:List String) (t:Value) (b:Bool),xs=[x,.ref p]/\sw K H x t/\H p=some (.tup (ts.map V.ty))/\Ny K t (ts.map Mj)=some b/\Q (.bl b) H
def JG(K:b_)(e:X.K=K):bK X (.builtin "isinstance") (KC K):=by subst e;exact sW
noncomputable def Lg(k l:Kd)(pa:PA1):PTE:=λρ Q=>pa ρ λx ρ1=>match cont ρ1 x with
 | some d=>il d.sort (Q (.dat (.bl (isK k d || isK l d))) ρ1) False
 | _=>False
variable {O':Addr->Prop}{H':Hp}
def FVc.keeps{d:D}(k:aI O H O' H')(g:Gr H H')(h:FVc K O H v d):FVc K O' H' v d:=by
 rcases h with h|⟨a,xs,ds',e1,e2,e3,f⟩|⟨a,dx,c,fs,ns,ds',e1,e2,e3,m,f⟩|⟨a,kvs,ks,ds',e1,e2,e3,m,f⟩
 .exact .inl (h.keeps k)
 .exact .inr (.inl ⟨a,xs,ds',e1,e2,g _ _ e3,f.keeps k⟩)
 .exact .inr (.inr (.inl ⟨a,dx,c,fs,ns,ds',e1,e2,g _ _ e3,m,f.keeps k⟩))
 .exact .inr (.inr (.inr ⟨a,kvs,ks,ds',e1,e2,g _ _ e3,m,f.keeps k⟩))
def G3(k l:Kd)(hkl:∀t b c,Mn K t (.type k.nm)=some b->Mn K t (.type l.nm)=some c->Ny K t [.type k.nm,.type l.nm]=some (b || c))(ha:LA1 K ta pa):LE K (tCB (KC K) (aG ta (aG (Bo (aG (tC (.ty k.nm)) (aG (tC (.ty l.nm)) cP))) cP))) (Lg k l pa):=λA ρ σ H Q Q' R q kk =>
 ha A ρ σ H _ _ R q λv H1 a ρ1 q1 f1 R1 o1=>by
  split at q1
  .rename_i d e1
   cases hs:d.sort with
   | false=>rw [hs] at q1;exact q1.elim
   | true =>
    rw [hs] at q1;refine⟨by show 2<=sizeLine;decide,λp hp=>?_⟩;have g:Gr H1 (upd H1 p (.tup [V.ty k.nm,V.ty l.nm])):=Gr.new hp;obtain⟨t,ty,hk⟩:=((R1.cont o1 e1).keeps (g.fr (ρ:=ρ1) (σ:=σ)).keeps g).ty hs;exact⟨v,p,[k.nm,l.nm],t,_,rfl,ty,aY,hkl _ _ _ (hk k) (hk l),kk _ _ _ ρ1 q1 (f1.trans g.fr) ⟨R1.gr g,.bl _⟩⟩
  .exact q1.elim
structure G4 where
 nx:PSt->Prop
 rt:PV->PSt->Prop
 bk:PSt->Prop:=λ_=>False
 ct:PSt->Prop:=λ_=>False
abbrev PTS:=G4->PSt->Prop
structure gn (fx:List (Nat×V)) (R:Addr->Prop) (H0:Hp) (ρ:PSt) (σ:St) (H:Hp):Prop where
 kp:∀b o,¬ R b->H0 b=some o->H b=some o
 dm:∀b,H0 b≠none->H b≠none
 ow:∀b,Wr ρ σ b->R b\/H0 b=none
 fx:∀p∈fx,σ[p.1]?=some (some p.2)
variable {fx:List (Nat×V)}{R:Addr->Prop}{H0:Hp}{ρ ρ':PSt}{σ:St}
def gn.fr(F:gn fx R H0 ρ σ H)(f:Fr ρ σ H ρ' H'):gn fx R H0 ρ' σ H' :=
 ⟨λb o n e=>f.kp b o (λw=>(F.ow b w).elim n (λz=>by rw [z] at e;cases e)) (F.kp b o n e),λb z=>f.dm b (F.dm b z),λb w=>F.ow b (f.ow b w),F.fx⟩
def gn.start(hfx:∀p∈fx,σ[p.1]?=some (some p.2)):gn fx (Wr ρ σ) H ρ σ H:=⟨λ_ _ _ h=>h,λ_ h=>h,λ_ h=>.inl h,hfx⟩
variable {A:Addr->Prop}{ρ1:PSt}{H1:Hp}
def gn.keepsR{σ1:St}(F:gn fx R H1 ρ σ H)(hR:∀b,R b->OO A ρ1 σ1 b):aI (OO A ρ1 σ1) H1 (OO A ρ σ) H:=λb o n e=>by
 refine⟨λz=>?_,F.kp b o (λz=>n (hR b z)) e⟩
 rcases z with z|z
 .exact n (.inl z)
 .rcases F.ow b z with z|z
  .exact n (hR b z)
  .rw [z] at e;cases e
def gn.keeps{σ1:St}(F:gn fx (Wr ρ1 σ1) H1 ρ σ H):aI (OO A ρ1 σ1) H1 (OO A ρ σ) H:=F.keepsR λb z=>.inr z
def gn.trans{fx':List (Nat×V)}{σ1:St}(F:gn fx R H0 ρ1 σ1 H1)(G:gn fx' (Wr ρ1 σ1) H1 ρ σ H)(hfx:∀p∈fx,σ[p.1]?=some (some p.2)):gn fx R H0 ρ σ H:=by
 refine⟨λb o n e=>G.kp b o (λw=>(F.ow b w).elim n (λz=>by rw [z] at e;cases e)) (F.kp b o n e),λb z=>G.dm b (F.dm b z),λb w=>?_,hfx⟩
 rcases G.ow b w with z|z
 .exact F.ow b z
 .refine .inr ?_
  cases e:H0 b with
  | none=>rfl
  | some o=>exact absurd z (F.dm b (by rw [e];exact nofun))
variable {i:Nat}
def Out.put{p:PV}(h:Out K A ρ σ H0 H p v):Rel K A (ρ.set i (some p)) (σ.set i (some v)) H/\∀b,Wr (ρ.set i (some p)) (σ.set i (some v)) b->Wr ρ σ b\/H0 b=none:=by
 have get:∀(j:Nat) (q:PV),(ρ.set i (some p))[j]?=some (some q)->(j=i/\q=p/\i<ρ.length)\/(j≠i/\ρ[j]?=some (some q)):=λj q e=>by
  by_cases z:i=j
  .subst z
   by_cases hi:i<ρ.length
   .rw [s_ hi] at e;cases e;exact .inl ⟨rfl,rfl,hi⟩
   .rw [u_ (by rw [LK];omega)] at e;cases e
  .rw [o_ z] at e;exact .inr ⟨λq=>z q.symm,e⟩
 cases p with
 | dat d =>
  obtain⟨R1,f⟩:=h
  have ow:∀b,Wr (ρ.set i (some (.dat d))) (σ.set i (some v)) b->Wr ρ σ b:=λb ⟨j,r,e1,o1,s1⟩=>by
   rcases get j r e1 with ⟨_,rfl,_⟩|⟨n,e⟩
   .cases o1
   .rw [o_ (λz=>n z.symm)] at s1;exact⟨j,r,e,o1,s1⟩
  have k:aI (OO A ρ σ) H (OO A (ρ.set i (some (.dat d))) (σ.set i (some v))) H:=aI.less λb z=>z.imp id (ow b)
  refine⟨⟨by rw [LK,LK];exact R1.len,λj r e1=>?_,λj l p1 q1 v' e1 e2 o1 o2 s1 s2=>?_,R1.dom,λb z w=>R1.sep b z (ow b w)⟩,λb w=>.inl (ow b w)⟩
  .rcases get j r e1 with ⟨rfl,rfl,hi⟩|⟨n,e⟩
   .exact⟨v,s_ (by rw [<- R1.len];exact hi),f.keeps k⟩
   .obtain⟨u,s,r'⟩:=R1.get j r e;exact⟨u,by rw [o_ (λz=>n z.symm)];exact s,r'.keeps k λ_ _ _=>rfl⟩
  .rcases get j p1 e1 with ⟨_,rfl,_⟩|⟨n1,e1⟩
   .cases o1
   .rcases get l q1 e2 with ⟨_,rfl,_⟩|⟨n2,e2⟩
    .cases o2
    .rw [o_ (λz=>n1 z.symm)] at s1;rw [o_ (λz=>n2 z.symm)] at s2;exact R1.dj j l p1 q1 v' e1 e2 o1 o2 s1 s2
 | own ds =>
  obtain⟨a,xs,rfl,na,hn,e0,R1,f⟩:=h
  have ow:∀b,Wr (ρ.set i (some (.own ds))) (σ.set i (some (.ref a))) b->Wr ρ σ b\/b=a:=λb ⟨j,r,e1,o1,s1⟩=>by
   rcases get j r e1 with ⟨rfl,rfl,hi⟩|⟨n,e⟩
   .rw [s_ (by rw [<- R1.len];exact hi)] at s1;cases s1;exact .inr rfl
   .rw [o_ (λz=>n z.symm)] at s1;exact .inl ⟨j,r,e,o1,s1⟩
  have k:aI (OO (dJ A a) ρ σ) H (OO A (ρ.set i (some (.own ds))) (σ.set i (some (.ref a)))) H:=aI.less λb z=>by
   rcases z with z|z
   .exact .inl (.inl z)
   .rcases ow b z with z|z
    .exact .inr z
    .exact .inl (.inr z)
  refine⟨⟨by rw [LK,LK];exact R1.len,λj r e1=>?_,λj l p1 q1 v' e1 e2 o1 o2 s1 s2=>?_,λb z=>R1.dom b (.inl z),λb z w=>?_⟩,λb w=>(ow b w).imp id λz=>by rw [z];exact hn⟩
  .rcases get j r e1 with ⟨rfl,rfl,hi⟩|⟨n,e⟩
   .exact⟨_,s_ (by rw [<- R1.len];exact hi),a,xs,rfl,e0,f.keeps k⟩
   .obtain⟨u,s,r'⟩:=R1.get j r e;exact⟨u,by rw [o_ (λz=>n z.symm)];exact s,r'.keeps k λ_ _ _=>rfl⟩
  .rcases get j p1 e1 with ⟨rfl,rfl,hi⟩|⟨n1,e1'⟩
   .rw [s_ (by rw [<- R1.len];exact hi)] at s1;cases s1
    rcases get l q1 e2 with ⟨rfl,rfl,_⟩|⟨n2,e2⟩
    .rfl
    .rw [o_ (λz=>n2 z.symm)] at s2;exact absurd ⟨l,q1,e2,o2,s2⟩ (R1.sep a (.inr rfl))
   .rw [o_ (λz=>n1 z.symm)] at s1
    rcases get l q1 e2 with ⟨rfl,rfl,hi⟩|⟨n2,e2⟩
    .rw [s_ (by rw [<- R1.len];exact hi)] at s2;cases s2;exact absurd ⟨j,p1,e1',o1,s1⟩ (R1.sep a (.inr rfl))
    .rw [o_ (λz=>n2 z.symm)] at s2;exact R1.dj j l p1 q1 v' e1' e2 o1 o2 s1 s2
  .rcases ow b w with w|w
   .exact R1.sep b (.inl z) w
   .rw [w] at z;exact na z
 | ins c ns ds =>
  obtain⟨a,dx,fs,rfl,na,hn,e0,m,R1,f⟩:=h
  have ow:∀b,Wr (ρ.set i (some (.ins c ns ds))) (σ.set i (some (.ref a))) b->Wr ρ σ b\/b=a:=λb ⟨j,r,e1,o1,s1⟩=>by
   rcases get j r e1 with ⟨rfl,rfl,hi⟩|⟨n,e⟩
   .rw [s_ (by rw [<- R1.len];exact hi)] at s1;cases s1;exact .inr rfl
   .rw [o_ (λz=>n z.symm)] at s1;exact .inl ⟨j,r,e,o1,s1⟩
  have k:aI (OO (dJ A a) ρ σ) H (OO A (ρ.set i (some (.ins c ns ds))) (σ.set i (some (.ref a)))) H:=aI.less λb z=>by
   rcases z with z|z
   .exact .inl (.inl z)
   .rcases ow b z with z|z
    .exact .inr z
    .exact .inl (.inr z)
  refine⟨⟨by rw [LK,LK];exact R1.len,λj r e1=>?_,λj l p1 q1 v' e1 e2 o1 o2 s1 s2=>?_,λb z=>R1.dom b (.inl z),λb z w=>?_⟩,λb w=>(ow b w).imp id λz=>by rw [z];exact hn⟩
  .rcases get j r e1 with ⟨rfl,rfl,hi⟩|⟨n,e⟩
   .exact⟨_,s_ (by rw [<- R1.len];exact hi),a,dx,fs,rfl,e0,m,f.keeps k⟩
   .obtain⟨u,s,r'⟩:=R1.get j r e;exact⟨u,by rw [o_ (λz=>n z.symm)];exact s,r'.keeps k λ_ _ _=>rfl⟩
  .rcases get j p1 e1 with ⟨rfl,rfl,hi⟩|⟨n1,e1'⟩
   .rw [s_ (by rw [<- R1.len];exact hi)] at s1;cases s1
    rcases get l q1 e2 with ⟨rfl,rfl,_⟩|⟨n2,e2⟩
    .rfl
    .rw [o_ (λz=>n2 z.symm)] at s2;exact absurd ⟨l,q1,e2,o2,s2⟩ (R1.sep a (.inr rfl))
   .rw [o_ (λz=>n1 z.symm)] at s1
    rcases get l q1 e2 with ⟨rfl,rfl,hi⟩|⟨n2,e2⟩
    .rw [s_ (by rw [<- R1.len];exact hi)] at s2;cases s2;exact absurd ⟨j,p1,e1',o1,s1⟩ (R1.sep a (.inr rfl))
    .rw [o_ (λz=>n2 z.symm)] at s2;exact R1.dj j l p1 q1 v' e1' e2 o1 o2 s1 s2
  .rcases ow b w with w|w
   .exact R1.sep b (.inl z) w
   .rw [w] at z;exact na z
 | odc ks ds =>
  obtain⟨a,kvs,rfl,na,hn,e0,m,R1,f⟩:=h
  have ow:∀b,Wr (ρ.set i (some (.odc ks ds))) (σ.set i (some (.ref a))) b->Wr ρ σ b\/b=a:=λb ⟨j,r,e1,o1,s1⟩=>by
   rcases get j r e1 with ⟨rfl,rfl,hi⟩|⟨n,e⟩
   .rw [s_ (by rw [<- R1.len];exact hi)] at s1;cases s1;exact .inr rfl
   .rw [o_ (λz=>n z.symm)] at s1;exact .inl ⟨j,r,e,o1,s1⟩
  have k:aI (OO (dJ A a) ρ σ) H (OO A (ρ.set i (some (.odc ks ds))) (σ.set i (some (.ref a)))) H:=aI.less λb z=>by
   rcases z with z|z
   .exact .inl (.inl z)
   .rcases ow b z with z|z
    .exact .inr z
    .exact .inl (.inr z)
  refine⟨⟨by rw [LK,LK];exact R1.len,λj r e1=>?_,λj l p1 q1 v' e1 e2 o1 o2 s1 s2=>?_,λb z=>R1.dom b (.inl z),λb z w=>?_⟩,λb w=>(ow b w).imp id λz=>by rw [z];exact hn⟩
  .rcases get j r e1 with ⟨rfl,rfl,hi⟩|⟨n,e⟩
   .exact⟨_,s_ (by rw [<- R1.len];exact hi),a,kvs,rfl,e0,m,f.keeps k⟩
   .obtain⟨u,s,r'⟩:=R1.get j r e;exact⟨u,by rw [o_ (λz=>n z.symm)];exact s,r'.keeps k λ_ _ _=>rfl⟩
  .rcases get j p1 e1 with ⟨rfl,rfl,hi⟩|⟨n1,e1'⟩
   .rw [s_ (by rw [<- R1.len];exact hi)] at s1;cases s1
    rcases get l q1 e2 with ⟨rfl,rfl,_⟩|⟨n2,e2⟩
    .rfl
    .rw [o_ (λz=>n2 z.symm)] at s2;exact absurd ⟨l,q1,e2,o2,s2⟩ (R1.sep a (.inr rfl))
   .rw [o_ (λz=>n1 z.symm)] at s1
    rcases get l q1 e2 with ⟨rfl,rfl,hi⟩|⟨n2,e2⟩
    .rw [s_ (by rw [<- R1.len];exact hi)] at s2;cases s2;exact absurd ⟨j,p1,e1',o1,s1⟩ (R1.sep a (.inr rfl))
    .rw [o_ (λz=>n2 z.symm)] at s2;exact R1.dj j l p1 q1 v' e1' e2 o1 o2 s1 s2
  .rcases ow b w with w|w
   .exact R1.sep b (.inl z) w
   .rw [w] at z;exact na z
abbrev PTG:=PV->PSt->(PSt->Prop)->Prop
abbrev CV:=List D->PSt->(PSt->Prop)->Prop
noncomputable def LG(K:b_)(fs:List Nat)(g:TG)(pg:PTG):Prop:=∀(fx:List (Nat×V)) (A R:Addr->Prop) (H0:Hp) (ρ:PSt) (σ:St) (H:Hp) (p:PV) (v:V) (Q:PSt->Prop) (Q':St->Hp->Prop),fx.map G_=fs->gn fx R H0 ρ σ H->Out K A ρ σ H0 H p v->pg p ρ Q ->
 (∀ρ' σ' H',Q ρ'->Rel K A ρ' σ' H'->gn fx R H0 ρ' σ' H'->Q' σ' H')->g v σ H Q'
noncomputable def LGs(K:b_)(fs:List Nat)(g:TGs)(pg:CV):Prop:=∀(fx:List (Nat×V)) (A R:Addr->Prop) (H0:Hp) (ρ:PSt) (σ:St) (H:Hp) (ds:List D) (vs:List V) (Q:PSt->Prop) (Q':St->Hp->Prop),fx.map G_=fs->gn fx R H0 ρ σ H->Rel K A ρ σ H->FVs K (OO A ρ σ) H vs ds->pg ds ρ Q ->
 (∀ρ' σ',Q ρ'->Rel K A ρ' σ' H->gn fx R H0 ρ' σ' H->(∀b,Wr ρ' σ' b->Wr ρ σ b)->Q' σ' H)->g vs σ H Q'
noncomputable def LGd(K:b_)(fs:List Nat)(g:TG)(pg:PTG):Prop:=∀(fx:List (Nat×V)) (A R:Addr->Prop) (H0:Hp) (ρ:PSt) (σ:St) (H:Hp) (d:D) (v:V) (Q:PSt->Prop) (Q':St->Hp->Prop),fx.map G_=fs->gn fx R H0 ρ σ H->Rel K A ρ σ H->FV K (OO A ρ σ) H v d->pg (.dat d) ρ Q ->
 (∀ρ' σ',Q ρ'->Rel K A ρ' σ' H->gn fx R H0 ρ' σ' H->(∀b,Wr ρ' σ' b->Wr ρ σ b)->Q' σ' H)->g v σ H Q'
noncomputable def dS(i:Nat):PTG:=λp ρ Q=>Q (ρ.set i (some p))
noncomputable def EE:CV:=λds ρ Q=>match ds with|[]=>Q ρ|_=>False
noncomputable def wL(g:PTG)(gs:CV):CV:=λds ρ Q=>match ds with|d::r=>g (.dat d) ρ λρ1=>gs r ρ1 Q|[]=>False
section
variable {fs:List Nat}
def gn.put{p:PV}(hf:fx.map G_=fs)(hi:fs.contains i=false)(F:gn fx R H0 ρ σ H)(ow:∀b,Wr (ρ.set i (some p)) (σ.set i (some v)) b->Wr ρ σ b\/H0 b=none):gn fx R H0 (ρ.set i (some p)) (σ.set i (some v)) H :=
 ⟨F.kp,F.dm,λb w=>(ow b w).elim (F.ow b) .inr,λq hq=>by
  have:q.1≠i:=λz=>by
   have h1:i∈fs:=by rw [<- hf,<- z];exact ON hq
   rw [M1.mpr h1] at hi;cases hi
  rw [o_ (λz=>this z.symm)];exact F.fx q hq⟩
def zB(hi:fs.contains i=false):LG K fs (aU i) (dS i):=λfx A R H0 ρ σ H p v Q Q' hf F o q k=>k _ _ _ q o.put.1 (F.put hf hi o.put.2)
def cj:LGs K fs yq EE:=λfx A R H0 ρ σ H ds vs Q Q' hf F r fv q k=>by
 unfold EE at q
 split at q
 .cases fv;exact⟨rfl,k _ _ q r F λ_ h=>h⟩
 .exact q.elim
def e7(hi:fs.contains i=false):LGd K fs (aU i) (dS i):=λfx A R H0 ρ σ H d v Q Q' hf F r fv q k=>by
 have o:Out K A ρ σ H0 H (.dat d) v:=⟨r,fv⟩
 have ow:∀b,Wr (ρ.set i (some (.dat d))) (σ.set i (some v)) b->Wr ρ σ b:=λb ⟨j,p,e1,o1,s1⟩=>by
  by_cases z:i=j
  .subst z
   by_cases hl:i<ρ.length
   .rw [s_ hl] at e1;cases e1;cases o1
   .rw [u_ (by rw [LK];omega)] at e1;cases e1
  .rw [o_ z] at e1 s1;exact⟨j,p,e1,o1,s1⟩
 exact k _ _ q o.put.1 (F.put hf hi o.put.2) ow
variable {g:TG}
def aK{pg:PTG}{gs:TGs}{pgs:CV}(hg:LGd K fs g pg)(h:LGs K fs gs pgs):LGs K fs (eV g gs) (wL pg pgs):=λfx A R H0 ρ σ H ds vs Q Q' hf F r fv q k=>by
 unfold wL at q
 split at q
 .cases fv with
  | cons a b =>
   exact⟨_,_,rfl,hg fx A R H0 ρ σ H _ _ _ _ hf F r a q λρ1 σ1 q1 r1 F1 w1=>h fx A R H0 ρ1 σ1 H _ _ _ _ hf F1 r1 (b.keeps (aI.less λb z=>z.imp id (w1 b))) q1 λρ2 σ2 q2 r2 F2 w2=>k ρ2 σ2 q2 r2 F2 λb z=>w1 b (w2 b z)⟩
 .exact q.elim
end
noncomputable def LS(K:b_)(fs:List Nat)(ts:TS)(ps:PTS):Prop:=∀(fx:List (Nat×V)) (A R:Addr->Prop) (H0:Hp) (ρ:PSt) (σ:St) (H:Hp) (D:G4) (D':Fy),fx.map G_=fs->Rel K A ρ σ H->gn fx R H0 ρ σ H->ps D ρ ->
 (∀ρ' σ' H',D.nx ρ'->Rel K A ρ' σ' H'->gn fx R H0 ρ' σ' H'->D'.nx σ' H') ->
 (∀v p ρ' σ' H',D.rt p ρ'->Out K A ρ' σ' H0 H' p v->gn fx R H0 ρ' σ' H'->D'.rt v H') ->
 (∀ρ' σ' H',D.bk ρ'->Rel K A ρ' σ' H'->gn fx R H0 ρ' σ' H'->D'.bk σ' H') ->
 (∀ρ' σ' H',D.ct ρ'->Rel K A ρ' σ' H'->gn fx R H0 ρ' σ' H'->D'.ct σ' H')->ts D' σ H
def zC:PTS:=λD ρ=>D.nx ρ
noncomputable def iX(a b:PTS):PTS:=λD ρ=>a { D with nx:=b D } ρ
noncomputable def sZ(pe:PTE):PTS:=λD ρ=>pe ρ λ_ ρ1=>D.nx ρ1
def BM(pe:PTE):PTS:=λD ρ=>pe ρ D.rt
noncomputable def JH(t:PTT)(a b:PTS):PTS:=λD ρ=>t ρ λc ρ1=>il c (a D ρ1) (b D ρ1)
def zD:PTS:=λ_ _=>False
noncomputable def G5(pe:PTE)(g:PTG):PTS:=λD ρ=>pe ρ λp ρ1=>g p ρ1 D.nx
noncomputable def G6(a:PTS):PTS:=λD ρ=>∃J:PSt->Prop,a { D with nx:=J } ρ/\∀ρ',J ρ'->D.nx ρ'
section
variable {fs:List Nat}
def bb:LS K fs Ga zC:=λfx A R H0 ρ σ H D D' hf r F q k1 k2 k3 k4=>k1 _ _ _ q r F
def dw:LS K fs CH zD:=λfx A R H0 ρ σ H D D' hf r F q k1 k2 k3 k4=>q
variable {ta tb:TS}{pa pb:PTS}
def ao(ha:LS K fs ta pa)(hb:LS K fs tb pb):LS K fs (Kj ta tb) (iX pa pb):=λfx A R H0 ρ σ H D D' hf r F q k1 k2 k3 k4 =>
 ha fx A R H0 ρ σ H _ _ hf r F q (λρ1 σ1 H1 q1 r1 F1=>hb fx A R H0 ρ1 σ1 H1 _ _ hf r1 F1 q1 k1 k2 k3 k4) k2 k3 k4
variable {te:TE}
def eC(h:LE K te pe):LS K fs (Gb te) (sZ pe):=λfx A R H0 ρ σ H D D' hf r F q k1 k2 k3 k4=>h A ρ σ H _ _ r q λv H1 p ρ1 q1 f1 o1=>k1 _ _ _ q1 o1.frz.1 (F.fr f1)
def aA(h:LE K te pe):LS K fs (Kk te) (BM pe):=λfx A R H0 ρ σ H D D' hf r F q k1 k2 k3 k4=>h A ρ σ H _ _ r q λv H1 p ρ1 q1 f1 o1=>k2 v p ρ1 σ H1 q1 (o1.h0 F.dm) (F.fr f1)
variable {tt:TT}{pt:PTT}
def cw(ht:LT K tt pt)(ha:LS K fs ta pa)(hb:LS K fs tb pb):LS K fs (Kl tt ta tb) (JH pt pa pb):=λfx A R H0 ρ σ H D D' hf r F q k1 k2 k3 k4=>ht A ρ σ H _ _ r q λc H1 ρ1 q1 f1 r1=>by
 cases c with
 | true=>exact ha fx A R H0 ρ1 σ H1 D D' hf r1 (F.fr f1) q1 k1 k2 k3 k4
 | false=>exact hb fx A R H0 ρ1 σ H1 D D' hf r1 (F.fr f1) q1 k1 k2 k3 k4
variable {g:TG}
def aB{pg:PTG}(h:LE K te pe)(hg:LG K fs g pg):LS K fs (DS te g) (G5 pe pg):=λfx A R H0 ρ σ H D D' hf r F q k1 k2 k3 k4=>h A ρ σ H _ _ r q λv H1 p ρ1 q1 f1 o1 =>
 hg fx A R H0 ρ1 σ H1 p v _ _ hf (F.fr f1) (o1.h0 F.dm) q1 k1
def kT(h:LS K fs ta pa):LS K fs (GN ta) (G6 pa):=λfx A R H0 ρ σ H D D' hf r F q k1 k2 k3 k4=>by
 obtain⟨J,q1,q2⟩:=q;refine⟨λσ' H'=>∃ρ',J ρ'/\Rel K A ρ' σ' H'/\gn fx R H0 ρ' σ' H',?_,λσ' H' ⟨ρ',j,r',F'⟩=>k1 ρ' σ' H' (q2 ρ' j) r' F'⟩;exact h fx A R H0 ρ σ H _ _ hf r F q1 (λρ' σ' H' j r' F'=>⟨ρ',j,r',F'⟩) k2 k3 k4
end
noncomputable def gu(K:b_)(tl:TE):TI:=λσ H R=>tl σ H λx H1=>(∃k a xs,x=.ref a/\Sq k K H1 a xs/\R (Itk k K a) H1)\/∃l,x=.str (S l)/\R (Its (ii l)) H1
variable {tg:Expr}
def EF{l:Expr}{tl:TE}(hl:PE X l tl):PI X tg l (gu X.K tl):=by
 intro pins s σ H R I h;refine thn (hl pins s σ H _ I h) λv s1 ⟨x,H1,I1,r1,q1⟩=>?_
 have fin:∀b∈[s1.heap.objs.size],uw X pins H1 b:=λb hb=>by
  have e:b=s1.heap.objs.size:=by simpa using hb
  subst e;exact I1.fpOk (e_ _) (I1.hok.fresh (e_ _))
 rcases q1 with ⟨k,a,xs,e,hq,q⟩|⟨l,e,q⟩
 .subst e;cases r1
  cases k with
  | false =>
   obtain⟨its,rv,p,hz⟩:=I1.list hq;refine MS p.isList ?_;exact⟨s1.heap.objs.size,[s1.heap.objs.size],_,_,H1,rfl,I1.kept (t':=s1.toks) λb o e=>f_ _ e,yB a _,⟨_,k_ _ rfl,rfl,rfl⟩,fin,q⟩
  | true =>
   obtain⟨its,rv,p,hz⟩:=I1.tuple hq;refine wpAny_pyIter_tuple (show s1.heap.IsTuple a its.toArray from p) ?_;exact⟨s1.heap.objs.size,[s1.heap.objs.size],_,_,H1,rfl,I1.kept (t':=s1.toks) λb o e=>f_ _ e,xx a _,⟨_,k_ _ rfl,rfl,rfl⟩,fin,q⟩
 .subst e;obtain⟨t,rfl⟩:=r1
  have hv:∀i v,i<(S l).cps.size->SignAt (S l) i v->∃x,(ii l)[i]?=some x/\cZ x v:=λi v _ ⟨c,u,hc,e⟩=>by
   subst e;have hc':l[i]?=some c:=by simpa [S] using hc
   exact⟨.str (S [c]),by unfold ii;rw [h_,hc'];rfl,u,rfl⟩
  have hsc:∀i v,SignAt (S l) i v->∀a,v≠.ref a:=λi v ⟨c,u,hc,e⟩ a z=>by subst e;cases z
  have hn:(ii l).length=(S l).cps.size:=by rw [kP];simp [S]
  have hobj:∀ty i (h:Heap),h.IsStrIter s1.heap.objs.size ty (S l) t i->∃o,h.get? s1.heap.objs.size=some o/\∀v,o.data≠.cell v:=λty i h ⟨o,ho,_,hd⟩=>⟨o,ho,λv z=>by rw [hd] at z;cases z⟩
  have hfr:∀ty i (h h':Heap),h.IsStrIter s1.heap.objs.size ty (S l) t i->(∀b∈[s1.heap.objs.size],∀o,h.get? b=some o->h'.get? b=some o)->h'.IsStrIter s1.heap.objs.size ty (S l) t i:=λty i h h' ⟨o,ho,r⟩ k=>⟨o,k _ (by simp) o ho,r⟩
  cases ha:(S l).cps.all (·<128)
  .refine wpAny_pyIter_wide ha ⟨s1.heap.objs.size,[s1.heap.objs.size],_,Its (ii l),H1,rfl,I1.kept (t':=s1.toks) λb o e=>f_ _ e,
    mS (λA hA=>Walks.strWide hA _ (S l) t) hn hv hsc (hobj _) (hfr _) (λA i s Q E st q=>wpAny_pyIter_striter_wide st q),⟨_,k_ _ rfl,rfl,rfl⟩,fin,q⟩
  .refine wpAny_pyIter_ascii ha ⟨s1.heap.objs.size,[s1.heap.objs.size],_,Its (ii l),H1,rfl,I1.kept (t':=s1.toks) λb o e=>f_ _ e,
    mS (λA hA=>Walks.strAscii hA _ (S l) t) hn hv hsc (hobj _) (hfr _) (λA i s Q E st q=>wpAny_pyIter_striter_ascii st q),⟨_,k_ _ rfl,rfl,rfl⟩,fin,q⟩
def bp(K:b_)(e:X.K=K){l:Expr}{tl:TE}(hl:PE X l tl):PI X tg l (gu K tl):=by subst e;exact EF hl
abbrev PTI:=PSt->(Nat->(Nat->D)->PSt->Prop)->Prop
noncomputable def Wlk(K:b_)(O:Addr->Prop)(H:Hp)(J:It)(n:Nat)(it:Nat->D):Prop:=∀(O':Addr->Prop) (H':Hp),aI O H O' H'->(∀b,O' b->H' b≠none) ->
 (∀k,k<n->J.go k H'/\∀x H'',J.yld k H' x H''->Gr H' H''/\FV K O' H'' x (it k))/\J.stop n H'
noncomputable def LI(K:b_)(wi:TI)(pi:PTI):Prop:=∀(A:Addr->Prop) (ρ:PSt) (σ:St) (H:Hp) (Q:Nat->(Nat->D)->PSt->Prop) (Q':It->Hp->Prop),Rel K A ρ σ H->pi ρ Q ->
 (∀J H' n it ρ',Q n it ρ'->Fr ρ σ H ρ' H'->Rel K A ρ' σ H'->Wlk K (OO A ρ' σ) H' J n it->Q' J H')->wi σ H Q'
noncomputable def itD(ds:List D)(k:Nat):D:=ds.getD k .non
variable {k:Nat}
def i4{d:D}(h:ds[k]?=some d):itD ds k=d:=by unfold itD;rw [cn,h];rfl
noncomputable def JI:D->Option (Nat×(Nat->D))
 | .lst ds=>some (ds.length,itD ds)
 | .tup ds=>some (ds.length,itD ds)
 | .scr ns=>some (ns.length,λk=>.int (ns.getD k 0))
 | .str l=>some (l.length,λk=>.str [l.getD k 0])
 | _=>none
noncomputable def xP(pe:PTE):PTI:=λρ Q=>pe ρ λp ρ1=>match JI p.d with
 | some (n,it)=>Q n it ρ1
 | none=>False
variable {it:Nat->D}
def FV.row{d:D}(h:FV K O H v d)(e:JI d=some (n,it)):
  (∃k a xs,v=.ref a/\xs.length=n/\(∀O' H',aI O H O' H'->Sq k K H' a xs/\∀j x,xs[j]?=some x->FV K O' H' x (it j)))\/∃l,v=.str (S l)/\l.length=n/\(∀k,it k=.str [l.getD k 0]):=by
 cases h with
 | lst nn e0 f =>
  cases e;refine .inl ⟨false,_,_,rfl,f.length,λO' H' k=>⟨SqL.of (k _ _ nn e0).2,λj x hx=>?_⟩⟩;obtain⟨d,hd,fd⟩:=f.get hx;rw [i4 hd];exact fd.keeps k
 | tup nn e0 f =>
  cases e;refine .inl ⟨true,_,_,rfl,f.length,λO' H' k=>⟨SqT.of (k _ _ nn e0).2,λj x hx=>?_⟩⟩;obtain⟨d,hd,fd⟩:=f.get hx;rw [i4 hd];exact fd.keeps k
 | scr s =>
  cases e;refine .inl ⟨false,_,_,rfl,length_map _,λO' H' k=>⟨(s.keeps k).sq,λj x hx=>?_⟩⟩;obtain⟨z,hz,rfl⟩:=By hx;show FV K O' H' (V.int z) (D.int (List.getD _ j 0));rw [cn,hz];exact .int z
 | str l hl=>cases e;exact .inr ⟨l,rfl,rfl,λ_=>rfl⟩
 | non=>cases e
 | bl b=>cases e
 | int i=>cases e
 | ty n=>cases e
 | dic _ _ _ _=>cases e
 | fdc _ _ _ _=>cases e
 | obj _ _ _ _=>cases e
 | exc0 _ _=>cases e
 | exc1 _ _ _ _ _ _=>cases e
variable {te:TE}
def bq(h:LE K te pe):LI K (gu K te) (xP pe):=λA ρ σ H Q Q' R q k=>h A ρ σ H _ _ R q λv H1 p ρ1 q1 f1 o1=>by
 obtain⟨R1,fv⟩:=o1.frz
 split at q1
 .rename_i n it e
  rcases fv.row e with ⟨b,a,xs,rfl,hl,hr⟩|⟨l,rfl,hl,hi⟩
  .refine .inl ⟨b,a,xs,rfl,(hr _ H1 (λb o n h=>⟨n,h⟩)).1,k _ H1 n it ρ1 q1 f1 R1 λO' H' kk dom=>?_⟩;obtain⟨sq,hx⟩:=hr O' H' kk
   cases b with
   | false =>
    refine⟨λj hj=>⟨⟨xs,_,sq,cx (by rw [hl];exact hj)⟩,λx H'' ⟨e,y⟩=>?_⟩,⟨xs,sq,by rw [hl];exact e_ _⟩⟩;subst e;exact⟨Gr.refl _,hx j x (y xs sq)⟩
   | true =>
    refine⟨λj hj=>⟨⟨xs,_,sq,cx (by rw [hl];exact hj)⟩,λx H'' ⟨e,y⟩=>?_⟩,⟨xs,sq,by rw [hl];exact e_ _⟩⟩;subst e;exact⟨Gr.refl _,hx j x (y xs sq)⟩
  .refine .inr ⟨l,rfl,k _ H1 n it ρ1 q1 f1 R1 λO' H' kk dom=>?_⟩;refine⟨λj hj=>⟨by show j<(ii l).length;rw [kP,hl];exact hj,λx H'' ⟨e,y⟩=>?_⟩,by show (ii l).length=n;rw [kP,hl]⟩;subst e;obtain⟨c,hc,rfl⟩:=xL y;rw [hi,cn,hc];exact⟨Gr.refl _,.str _ (by show 1<=1000000;decide)⟩
 .exact q1.elim
variable {pa:PTA}
noncomputable def Lh(pa:PTA):PTI:=λρ Q=>pa ρ λas ρ1=>match as with
 | [.v (.int j)]=>(-(2^60)<=j/\j<2^60)/\Q j.toNat (λk=>.int (k:Int)) ρ1
 | _=>False
noncomputable def Li(pa:PTA):PTI:=λρ Q=>pa ρ λas ρ1=>match as with
 | [.v (.int i),.v (.int j),.v (.int (-1))]=>(-(2^60)<=i/\i<2^60/\-(2^60)<=j/\j<2^60)/\Q (i - j).toNat (λk=>.int (i - (k:Int))) ρ1
 | _=>False
def JJ{lo:Int}(h:∀k:Nat,it k=.int (lo+k)):Wlk K O H (Itr lo n) n it:=λO' H' _ _ =>
 ⟨λj hj=>⟨hj,λx H'' ⟨e,y⟩=>by subst e y;rw [h];exact⟨Gr.refl _,.int _⟩⟩,e_ _⟩
def JK{lo:Int}:Wlk K O H (Its (qK lo n)) n (λk=>.int (lo - (k:Int))):=λO' H' _ _ =>
 ⟨λj hj=>⟨by show j<(qK lo n).length;rw [mT];exact hj,λx H'' ⟨e,y⟩=>by subst e;rw [(y6 y).2];exact⟨Gr.refl _,.int _⟩⟩,mT _ _⟩
variable {ta:TA}
def ml(h:LAs K ta pa):LI K (oX ta) (Lh pa):=λA ρ σ H Q Q' R q k=>h A ρ σ H _ _ R q λvs H1 as ρ1 q1 f1 R1 o1=>by
 split at q1
 .rename_i j
  cases o1 with
  | cons a b =>
   cases b;cases a;exact⟨j,rfl,by omega,by omega,k _ H1 _ _ ρ1 q1.2 f1 R1 (JJ λk=>by rw [O7])⟩
 .exact q1.elim
def G7(h:LAs K ta pa):LI K (GC ta) (Li pa):=λA ρ σ H Q Q' R q k=>h A ρ σ H _ _ R q λvs H1 as ρ1 q1 f1 R1 o1=>by
 split at q1
 .rename_i i j
  cases o1 with
  | cons a b =>
   cases b with
   | cons c d =>
    cases d with
    | cons e f =>
     cases f;cases a;cases c;cases e;exact⟨i,j,rfl,q1.1,k _ H1 _ _ ρ1 q1.2 f1 R1 JK⟩
 .exact q1.elim
noncomputable def rowD:D->Option (List D)
 | .lst ds=>some ds
 | .tup ds=>some ds
 | .scr ns=>some (ns.map .int)
 | _=>none
def FV.rowD{d:D}(h:FV K O H v d)(e:L2.rowD d=some ds):
  ∃k a xs,v=.ref a/\xs.length=ds.length/\(∀O' H',aI O H O' H'->Sq k K H' a xs/\FVs K O' H' xs ds):=by
 cases h with
 | lst nn e0 f=>cases e;exact⟨false,_,_,rfl,f.length,λO' H' k=>⟨SqL.of (k _ _ nn e0).2,f.keeps k⟩⟩
 | tup nn e0 f=>cases e;exact⟨true,_,_,rfl,f.length,λO' H' k=>⟨SqT.of (k _ _ nn e0).2,f.keeps k⟩⟩
 | scr s=>cases e;exact⟨false,_,_,rfl,by rw [length_map,length_map],λO' H' k=>⟨(s.keeps k).sq,FVs.of_ints _⟩⟩
 | str l hl=>cases e
 | non=>cases e
 | bl b=>cases e
 | int i=>cases e
 | ty n=>cases e
 | dic _ _ _ _=>cases e
 | fdc _ _ _ _=>cases e
 | obj _ _ _ _=>cases e
 | exc0 _ _=>cases e
 | exc1 _ _ _ _ _ _=>cases e
noncomputable def G8(pa:PTA):PTI:=λρ Q=>pa ρ λas ρ1=>match as with
 | [.v a,.v b]=>(match rowD a,rowD b with
  | some xs,some ys=>Q (min xs.length ys.length) (λk=>.tup [itD xs k,itD ys k]) ρ1
  | _,_=>False)
 | _=>False
noncomputable def G9(pa:PTA):PTI:=λρ Q=>pa ρ λas ρ1=>match as with
 | [.v a]=>(match rowD a with
  | some xs=>Q xs.length (λk=>.tup [.int (k:Int),itD xs k]) ρ1
  | _=>False)
 | _=>False
def zE(h:LAs K ta pa):LI K (zp K ta) (G8 pa):=λA ρ σ H Q Q' R q k=>h A ρ σ H _ _ R q λvs H1 as ρ1 q1 f1 R1 o1=>by
 split at q1
 .rename_i da db
  cases o1 with
  | cons o1 o2 =>
   cases o2 with
   | cons o2 o3 =>
    cases o3
    split at q1
    .rename_i xs ys ex ey;obtain⟨b1,a1,us,rfl,l1,w1⟩:=FV.rowD (show FV K _ H1 _ da from o1) ex;obtain⟨b2,a2,ws,rfl,l2,w2⟩:=FV.rowD (show FV K _ H1 _ db from o2) ey;have t1:=w1 _ H1 (λb o n h=>⟨n,h⟩);have t2:=w2 _ H1 (λb o n h=>⟨n,h⟩);refine⟨b1,b2,a1,a2,rfl,⟨us,ws,t1.1,t2.1⟩,k _ H1 _ _ ρ1 q1 f1 R1 λO' H' kk dom=>?_⟩;obtain⟨s1,g1⟩:=w1 O' H' kk;obtain⟨s2,g2⟩:=w2 O' H' kk;refine⟨λj hj=>?_,⟨us,ws,s1,s2,by omega⟩⟩
     have h1:j<us.length:=by omega
     have h2:j<ws.length:=by omega
     refine⟨⟨us,ws,_,_,s1,s2,cx h1,cx h2⟩,λx H'' ⟨T,u,w,hT,e,y1,y2,e2⟩=>?_⟩;subst e e2;obtain⟨d1,hd1,fd1⟩:=g1.get (y1 us s1);obtain⟨d2,hd2,fd2⟩:=g2.get (y2 ws s2);have e1:itD xs j=d1:=by unfold itD;rw [cn,hd1];rfl
     have e2:itD ys j=d2:=by unfold itD;rw [cn,hd2];rfl
     rw [e1,e2];have kk2:aI O' H' O' (upd H' T (.tup [u,w])):=λb o n e=>⟨n,by rw [aC (bc e hT)];exact e⟩
     exact⟨Gr.new hT,.tup (λz=>dom T z hT) aY (.cons (fd1.keeps kk2) (.cons (fd2.keeps kk2) .nil))⟩
    .exact q1.elim
 .exact q1.elim
def m7(h:LAs K ta pa):LI K (zl K ta) (G9 pa):=λA ρ σ H Q Q' R q k=>h A ρ σ H _ _ R q λvs H1 as ρ1 q1 f1 R1 o1=>by
 split at q1
 .rename_i da
  cases o1 with
  | cons o1 o3 =>
   cases o3
   split at q1
   .rename_i xs ex;obtain⟨b1,a1,us,rfl,l1,w1⟩:=FV.rowD (show FV K _ H1 _ da from o1) ex;have t1:=w1 _ H1 (λb o n h=>⟨n,h⟩);refine⟨b1,a1,rfl,⟨us,t1.1⟩,k _ H1 _ _ ρ1 q1 f1 R1 λO' H' kk dom=>?_⟩;obtain⟨s1,g1⟩:=w1 O' H' kk;refine⟨λj hj=>?_,⟨us,s1,by omega⟩⟩;have h1:j<us.length:=by omega
    refine⟨⟨us,_,s1,cx h1⟩,λx H'' ⟨T,u,hT,e,y1,e2⟩=>?_⟩;subst e e2;obtain⟨d1,hd1,fd1⟩:=g1.get (y1 us s1);have e1:itD xs j=d1:=by unfold itD;rw [cn,hd1];rfl
    rw [e1];have kk2:aI O' H' O' (upd H' T (.tup [.int (j:Int),u])):=λb o n e=>⟨n,by rw [aC (bc e hT)];exact e⟩
    exact⟨Gr.new hT,.tup (λz=>dom T z hT) aY (.cons (.int _) (.cons (fd1.keeps kk2) .nil))⟩
   .exact q1.elim
 .exact q1.elim
noncomputable def JL(pi:PTI)(g:PTG)(pb:PTS):PTS:=λD ρ=>pi ρ λn it ρ1=>∃I:Nat->PSt->Prop,I 0 ρ1/\(∀k ρ d,k<n->d=it k->I k ρ->g (.dat d) ρ λρ2=>pb { D with nx:=I (k+1),ct:=I (k+1),bk:=D.nx } ρ2)/\∀ρ,I n ρ->D.nx ρ
noncomputable def EG(pt:PTT)(pb:PTS):PTS:=λD ρ=>∃I:Nat->PSt->Prop,(∃m,I m ρ)/\∀m ρ,I m ρ->pt ρ λb ρ1=>il b (pb { D with nx:=λρ'=>∃m',m'<m/\I m' ρ',ct:=λρ'=>∃m',m'<m/\I m' ρ',bk:=D.nx } ρ1) (D.nx ρ1)
section
variable {fs:List Nat}{wi:TI}{pi:PTI}{g:TG}{pg:PTG}{tb:TS}{pb:PTS}
def eE(hi:LI K wi pi)(hg:LGd K fs g pg)(hb:LS K fs tb pb):LS K fs (Ko wi g tb) (JL pi pg pb):=λfx A R H0 ρ σ H D D' hf r F q k1 k2 k3 k4=>hi A ρ σ H _ _ r q λJ H1 n it ρ1 q1 f1 r1 W=>by
 obtain⟨I,i0,turn,after⟩:=q1;have F1:=F.fr f1;refine⟨λi m σ' H'=>i+m=n/\∃ρ',I i ρ'/\Rel K A ρ' σ' H'/\gn fx (Wr ρ1 σ) H1 ρ' σ' H',⟨n,M2 n,ρ1,i0,r1,gn.start F1.fx⟩,λi m σ' H' ⟨him,ρ',iv,r',F'⟩=>?_⟩;obtain⟨go,stop⟩:=W _ H' F'.keeps r'.dom2
 by_cases hk:i<n
 .obtain⟨g1,g2⟩:=go i hk;refine .inr ⟨g1,λσ'' H''=>∃ρ'',I (i+1) ρ''/\Rel K A ρ'' σ'' H''/\gn fx (Wr ρ1 σ) H1 ρ'' σ'' H'',λσ'' H'' z=>⟨m - 1,by omega,by omega,z⟩,λx H'' y=>?_⟩;obtain⟨gr,fv⟩:=g2 x H'' y;refine hg fx A (Wr ρ1 σ) H1 ρ' σ' H'' _ x _ _ hf (F'.fr gr.fr) (r'.gr gr) fv (turn i ρ' _ hk rfl iv) λρ2 σ2 q2 r2 F2 _=>?_;refine hb fx A (Wr ρ1 σ) H1 ρ2 σ2 H'' _ _ hf r2 F2 q2 (λρ3 σ3 H3 q3 r3 F3=>⟨ρ3,q3,r3,F3⟩) (λv p ρ3 σ3 H3 q3 o3 F3=>k2 v p ρ3 σ3 H3 q3 (o3.h0 F1.dm) (F1.trans F3 F3.fx)) (λρ3 σ3 H3 q3 r3 F3=>k1 ρ3 σ3 H3 q3 r3 (F1.trans F3 F3.fx)) (λρ3 σ3 H3 q3 r3 F3=>⟨ρ3,q3,r3,F3⟩)
 .have e:i=n:=by omega
  subst e;exact .inl ⟨stop,k1 ρ' σ' H' (after ρ' iv) r' (F1.trans F' F'.fx)⟩
variable {tt:TT}{pt:PTT}
def qR(ht:LT K tt pt)(hb:LS K fs tb pb):LS K fs (CJ tt tb) (EG pt pb):=λfx A R H0 ρ σ H D D' hf r F q k1 k2 k3 k4=>by
 obtain⟨I,⟨m0,i0⟩,turn⟩:=q;refine⟨λm σ' H'=>∃ρ',I m ρ'/\Rel K A ρ' σ' H'/\gn fx R H0 ρ' σ' H',⟨m0,ρ,i0,r,F⟩,λm σ' H' ⟨ρ',iv,r',F'⟩=>?_⟩;refine ht A ρ' σ' H' _ _ r' (turn m ρ' iv) λb H1 ρ1 q1 f1 r1=>?_
 cases b with
 | true =>
  refine⟨λσ'' H''=>∃ρ'' m',m'<m/\I m' ρ''/\Rel K A ρ'' σ'' H''/\gn fx R H0 ρ'' σ'' H'',λσ'' H'' ⟨ρ'',m',h1,h2⟩=>⟨m',h1,ρ'',h2⟩,?_⟩;exact hb fx A R H0 ρ1 σ' H1 _ _ hf r1 (F'.fr f1) q1 (λρ3 σ3 H3 ⟨m',h1,h2⟩ r3 F3=>⟨ρ3,m',h1,h2,r3,F3⟩) k2 k1 (λρ3 σ3 H3 ⟨m',h1,h2⟩ r3 F3=>⟨ρ3,m',h1,h2,r3,F3⟩)
 | false=>exact k1 ρ1 σ' H1 q1 r1 (F'.fr f1)
end
noncomputable def bA(ix:List (Option Nat))(ρ:PSt):PSt:=ix.map λo=>match o with
 | none=>none
 | some j=>match ρ[j]? with
  | some v=>v
  | none=>none
noncomputable def eW:List (Option Nat)->PSt->PSt->PSt
 | some j::ix,ρ,t::τ=>eW ix (ρ.set j t) τ
 | none::ix,ρ,_::τ=>eW ix ρ τ
 | _,ρ,_=>ρ
noncomputable def CW:List (Option Nat)->Bool
 | []=>true
 | none::r=>CW r
 | some j::r=>!r.contains (some j) && CW r
theorem mD:∀(ix:List (Option Nat)) (ρ τ:PSt),(eW ix ρ τ).length=ρ.length
 | [],ρ,τ=>by unfold eW;rfl
 | some j::ix,ρ,t::τ=>by show (eW ix (ρ.set j t) τ).length=_;rw [mD ix,LK]
 | none::ix,ρ,t::τ=>by show (eW ix ρ τ).length=_;exact mD ix ρ τ
 | some j::ix,ρ,[]=>by unfold eW;rfl
 | none::ix,ρ,[]=>by unfold eW;rfl
theorem j9:∀(ix:List (Option Nat)) (ρ τ:PSt) (j:Nat),some j∉ix->(eW ix ρ τ)[j]?=ρ[j]?
 | [],ρ,τ,j,_=>by unfold eW;rfl
 | some i::ix,ρ,t::τ,j,h=>by
  show (eW ix (ρ.set i t) τ)[j]?=_;rw [j9 ix _ τ j (λz=>h (m_ _ z)),o_ (λz=>h (by rw [z];exact mem_cons_self ..))]
 | none::ix,ρ,t::τ,j,h=>by show (eW ix ρ τ)[j]?=_;exact j9 ix ρ τ j λz=>h (m_ _ z)
 | some i::ix,ρ,[],j,_=>by unfold eW;rfl
 | none::ix,ρ,[],j,_=>by unfold eW;rfl
theorem qS:∀(ix:List (Option Nat)) (ρ τ:PSt) (j k:Nat),CW ix=true->ix[k]?=some (some j)->k<τ.length->j<ρ.length->(eW ix ρ τ)[j]?=τ[k]?
 | some i::ix,ρ,t::τ,j,k,h,e,hk,hj=>by
  have h:(!ix.contains (some i) && CW ix)=true:=h;rw [and_eq_true] at h;show (eW ix (ρ.set i t) τ)[j]?=_
  cases k with
  | zero =>
   have e:some (some i)=some (some j):=e;cases e
   have hn:some i∉ix:=λz=>by
    have:=h.1;rw [M1.mpr z] at this;cases this
   rw [j9 ix _ τ i hn,s_ hj];rfl
  | succ k =>
   have e:ix[k]?=some (some j):=by simpa using e
   rw [qS ix _ τ j k h.2 e (by simpa using hk) (by rw [LK];exact hj)];simp
 | none::ix,ρ,t::τ,j,k,h,e,hk,hj=>by
  show (eW ix ρ τ)[j]?=_
  cases k with
  | zero=>cases e
  | succ k =>
   have e:ix[k]?=some (some j):=by simpa using e
   rw [qS ix _ τ j k h e (by simpa using hk) hj];simp
 | [],ρ,τ,j,k,h,e,hk,hj=>by simp at e
 | some i::ix,ρ,[],j,k,h,e,hk,hj=>absurd hk (Mg _)
 | none::ix,ρ,[],j,k,h,e,hk,hj=>absurd hk (Mg _)
theorem mE:∀{ix:List (Option Nat)}{k l j:Nat},CW ix=true->ix[k]?=some (some j)->ix[l]?=some (some j)->k=l
 | some i::ix,k,l,j,h,e1,e2=>by
  have h:(!ix.contains (some i) && CW ix)=true:=h;rw [and_eq_true] at h
  have no:∀m,ix[m]?≠some (some i):=λm z=>by
   have:=h.1;rw [M1.mpr (y_ z)] at this;cases this
  cases k with
  | zero =>
   have e1:some (some i)=some (some j):=e1;cases e1
   cases l with
   | zero=>rfl
   | succ l=>exact absurd (by simpa using e2) (no l)
  | succ k =>
   cases l with
   | zero =>
    have e2:some (some i)=some (some j):=e2;cases e2;exact absurd (by simpa using e1) (no k)
   | succ l=>rw [mE (k:=k) (l:=l) h.2 (by simpa using e1) (by simpa using e2)]
 | none::ix,k,l,j,h,e1,e2=>by
  cases k with
  | zero=>cases e1
  | succ k =>
   cases l with
   | zero=>cases e2
   | succ l=>rw [mE (ix:=ix) (k:=k) (l:=l) (j:=j) h (by simpa using e1) (by simpa using e2)]
 | [],k,l,j,h,e1,e2=>by simp at e1
variable {ix:List (Option Nat)}
def cC{p:PV}(h:(bA ix ρ)[k]?=some (some p)):∃j,ix[k]?=some (some j)/\ρ[j]?=some (some p):=by
 unfold bA at h;rw [h_] at h
 cases e:ix[k]? with
 | none=>rw [e] at h;cases h
 | some o =>
  rw [e] at h
  cases o with
  | none=>cases h
  | some j =>
   refine⟨j,rfl,?_⟩;have h:some (match ρ[j]? with|some v=>v|none=>none)=some (some p):=h
   cases e2:ρ[j]? with
   | none=>rw [e2] at h;cases h
   | some v=>rw [e2] at h;exact h
variable {j:Nat}
def cG(h:ix[k]?=some (some j))(e:σ[j]?=some (some v)):(sP ix σ)[k]?=some (some v):=by
 unfold sP;rw [h_,h];show some (match σ[j]? with|some v=>v|none=>none)=some (some v);rw [e]
variable {o:HO}
def Rel.amb{a:Addr}(R:Rel K A ρ σ H)(ha:A a):Rel K A ρ σ (upd H a o):=by
 have k:aI (OO A ρ σ) H (OO A ρ σ) (upd H a o):=λb u n e=>⟨n,by rw [aC (λz=>n (by rw [z];exact .inl ha))];exact e⟩
 refine⟨R.len,λi q e=>?_,R.dj,λb z=>?_,R.sep⟩
 .obtain⟨v,s,r⟩:=R.get i q e;refine⟨v,s,r.keeps k λow b eb=>?_⟩;rw [aC];intro z;subst z eb;exact R.sep b ha ⟨i,q,e,ow,s⟩
 .by_cases z':b=a
  .rw [z',aY];exact nofun
  .rw [aC z'];exact R.dom b z
noncomputable def Ha(ix:List (Option Nat))(ρ:PSt):Bool:=ix.all λo=>match o with|none=>true|some j=>(match ρ[j]? with|some (some _)=>true|_=>false)
structure o0 (ix:List (Option Nat)) (ρ1:PSt) (n:Nat) (it:Nat->D) (g:PTG) (pt:PTT) (pe:PTE) (Q:PKt):Prop where
 ex:∃I:Nat->List D->PSt->Prop,I 0 [] (bA ix ρ1) /\
  (∀k ys τ d,k<n->d=it k->I k ys τ->g (.dat d) τ λτ2=>pt τ2 λok τ3=>il ok (pe τ3 λp τ4=>I (k+1) (ys++[p.d]) τ4) (I (k+1) ys τ3))/\∀ys τ,I n ys τ->Q (.own ys) (eW ix ρ1 τ)
noncomputable def uO(ix:List (Option Nat))(pi:PTI)(g:PTG)(pt:PTT)(pe:PTE):PTE:=λρ Q=>pi ρ λn it ρ1=>Ha ix ρ1=true/\n<=1000000/\o0 ix ρ1 n it g pt pe Q
def zF:PTT:=λρ Q=>Q true ρ
def bu:LT K fK zF:=λA ρ σ H Q Q' R q k=>k true H ρ q (Fr.refl _ _ _) R
noncomputable def zG(ix:List (Option Nat)):List Nat:=(c_ ix.length).filter λk=>(ix.getD k none).isSome
variable {g:TG}
def aO{wi:TI}{pi:PTI}{pg:PTG}{tts:TT}{pt:PTT}(hix:CW ix=true)(hi:LI K wi pi)(hg:∀fs:List Nat,(∀k∈fs,k∈zG ix)->LGd K fs g pg)(ht:LT K tts pt)(he:LE K te pe):
  LE K (qN ix wi g tts te) (uO ix pi pg pt pe):=λA ρ σ H Q Q' R q k=>hi A ρ σ H _ _ R q λJ H1 n it ρ1 q1 f1 R1 W D hD=>by
 obtain⟨hcap,hn,⟨I,i0,turn,after⟩⟩:=q1
 let τρ0:=bA ix ρ1
 let τσ0:=sP ix σ
 let Ai:Addr->Prop:=λb=>A b\/b=D\/(Wr ρ1 σ b/\¬ Wr τρ0 τσ0 b)
 let H0':=upd H1 D (.lst [])
 have wsub:∀b,Wr τρ0 τσ0 b->Wr ρ1 σ b:=λb ⟨m,p,e,o,s⟩=>by
  obtain⟨j,h1,h2⟩:=cC e;obtain⟨v,hv,_⟩:=R1.get j p h2;have:=cG h1 hv;rw [s] at this;cases this;exact⟨j,p,h2,o,hv⟩
 have nD:¬ Wr ρ1 σ D:=λz=>R1.wr z hD
 have oosub:∀b,OO Ai τρ0 τσ0 b->OO A ρ1 σ b\/b=D:=λb z=>by
  rcases z with (z|z|z)|z
  .exact .inl (.inl z)
  .exact .inr z
  .exact .inl (.inr z.1)
  .exact .inl (.inr (wsub b z))
 have kD:aI (OO A ρ1 σ) H1 (OO Ai τρ0 τσ0) H0':=λb o nn e=>by
  refine⟨λz=>?_,?_⟩
  .rcases oosub b z with z|z
   .exact nn z
   .rw [z,hD] at e;cases e
  .rw [show H0' b=H1 b from aC (bc e hD)];exact e
 have Ri:Rel K Ai τρ0 τσ0 H0':=by
  refine⟨by show (bA ix ρ1).length=(sP ix σ).length;unfold bA sP;rw [length_map,length_map],λm p e=>?_,λm l p q v e1 e2 o1 o2 s1 s2=>?_,λb z=>?_,λb z w=>?_⟩
  .obtain⟨j,h1,h2⟩:=cC e;obtain⟨v,hv,r⟩:=R1.get j p h2;refine⟨v,cG h1 hv,r.keeps kD λow a ea=>?_⟩;subst ea;exact aC (λz=>nD (by rw [<- z];exact⟨j,p,h2,ow,hv⟩))
  .obtain⟨j,h1,h2⟩:=cC e1;obtain⟨j',h3,h4⟩:=cC e2;obtain⟨v1,hv1,_⟩:=R1.get j p h2;obtain⟨v2,hv2,_⟩:=R1.get j' q h4;have t1:=cG h1 hv1;have t2:=cG h3 hv2;rw [s1] at t1;rw [s2] at t2;cases t1;cases t2;have:=R1.dj j j' p q _ h2 h4 o1 o2 hv1 hv2;subst this;exact mE hix h1 h3
  .rcases z with z|z|z
   .intro e
    by_cases zz:b=D
    .exact R1.dom b z (by rw [zz];exact hD)
    .rw [show H0' b=H1 b from aC zz] at e;exact R1.dom b z e
   .rw [z];show upd H1 D _ D≠none;rw [aY];exact nofun
   .intro e;rw [show H0' b=H1 b from aC (λzz=>nD (by rw [<- zz];exact z.1))] at e;exact R1.wr z.1 e
  .rcases z with z|z|z
   .exact R1.sep b z (wsub b w)
   .rw [z] at w;exact nD (wsub D w)
   .exact z.2 w
 let fxi:List (Nat×V):=(zG ix).filterMap λm=>match (τσ0[m]?) with|some (some v)=>some (m,v)|_=>none
 have hfx:∀p∈fxi,τσ0[p.1]?=some (some p.2):=λp hp=>by
  obtain⟨m,hm,e⟩:=Mw.mp hp
  split at e
  .rename_i v ev;cases e;exact ev
  .cases e
 have hfs:∀m∈fxi.map G_,m∈zG ix:=λm hm=>by
  obtain⟨p,hp,rfl⟩:=Lv.mp hm;obtain⟨m',hm',e⟩:=Mw.mp hp
  split at e
  .cases e;exact hm'
  .cases e
 have hgi:=hg (fxi.map G_) hfs
 have fxget:∀(m j:Nat) (v:V),ix[m]?=some (some j)->σ[j]?=some (some v)->(m,v)∈fxi:=λm j v h1 h2=>by
  refine Mw.mpr ⟨m,?_,?_⟩
  .unfold zG;refine D_.mpr ⟨mem_range.mpr (i_.mp h1).1,?_⟩;rw [cn,h1];rfl
  .show (match (sP ix σ)[m]? with|some (some v)=>some (m,v)|_=>none)=_;rw [cG h1 h2]
 let Rr:Addr->Prop:=λb=>Wr τρ0 τσ0 b\/b=D
 have hRr:∀b,Rr b->OO Ai τρ0 τσ0 b:=λb z=>z.elim (λz=>.inr z) (λz=>.inl (.inr (.inl z)));have F0:gn fxi Rr H0' τρ0 τσ0 H0':=⟨λ_ _ _ h=>h,λ_ h=>h,λb w=>.inl (.inl w),hfx⟩
 refine⟨λi m τ H2=>i+m=n/\∃ys τρ xs,I i ys τρ/\ys.length<=i/\Rel K Ai τρ τ H2/\gn fxi Rr H0' τρ τ H2/\H2 D=some (.lst xs)/\FVs K (OO Ai τρ τ) H2 xs ys/\∀b,Wr τρ τ b->Wr τρ0 τσ0 b,
  ⟨n,M2 n,[],τρ0,[],i0,e_ _,Ri,F0,aY,.nil,λ_ h=>h⟩,λi m τ H2 ⟨him,ys,τρ,xs,iv,hy,r2,F2,eD,fD,hw⟩=>?_⟩
 have kk:aI (OO A ρ1 σ) H1 (OO Ai τρ τ) H2:=λb o nn e=>(F2.keepsR hRr) b o (kD b o nn e).1 (kD b o nn e).2;obtain⟨go,stop⟩:=W _ H2 kk r2.dom2
 by_cases hk:i<n
 .obtain⟨g1,g2⟩:=go i hk;refine .inr ⟨g1,λx H3 y=>?_⟩;obtain⟨gr,fv⟩:=g2 x H3 y;have AiD:Ai D:=.inr (.inl rfl);refine hgi fxi Ai Rr H0' τρ τ H3 _ x _ _ rfl (F2.fr gr.fr) (r2.gr gr) fv (turn i ys τρ _ hk rfl iv) λτρ2 τ2 q2 r3 F3 w3=>?_;refine ht Ai τρ2 τ2 H3 _ _ r3 q2 λok H5 τρ3 q3 f5 r5=>?_;have F5:=F3.fr f5;have fD5:FVs K (OO Ai τρ3 τ2) H5 xs ys:=((fD.keeps (gr.fr (ρ:=τρ) (σ:=τ)).keeps).keeps (aI.less λb z=>z.imp id (w3 b))).keeps f5.keeps
  have eD5:H5 D=some (.lst xs):=f5.kp D _ (r3.sep D AiD) (gr D _ eD)
  cases ok with
  | true =>
   refine he Ai τρ3 τ2 H5 _ _ r5 q3 λv H6 p τρ4 q4 f6 o6=>?_;obtain⟨r6,fv6⟩:=o6.frz;have F6:=F5.fr f6;have eD6:H6 D=some (.lst xs):=f6.kp D _ (r5.sep D AiD) eD5;have kw:aI (OO Ai τρ4 τ2) H6 (OO Ai τρ4 τ2) (upd H6 D (.lst (xs++[v]))):=λb o nn e=>⟨nn,by rw [aC (λz=>nn (by rw [z];exact .inl AiD))];exact e⟩
   refine⟨xs,eD6,?_,m - 1,by omega,by omega,ys++[p.d],τρ4,xs++[v],q4,by rw [length_append];show _+1<=_;omega,r6.amb AiD,⟨λb o nn e=>?_,λb z=>?_,F6.ow,F6.fx⟩,aY,((fD5.keeps f6.keeps).append (.cons fv6 .nil)).keeps kw,λb z=>hw b (w3 b (f5.ow b (f6.ow b z)))⟩
   .have:xs.length=ys.length:=fD.length;exact u1 (by omega:xs.length<1000000) (sz _ (e_ _))
   .rw [aC (λz=>nn (.inr z))];exact F6.kp b o nn e
   .by_cases zz:b=D
    .rw [zz,aY];exact nofun
    .rw [aC zz];exact F6.dm b z
  | false=>exact⟨m - 1,by omega,by omega,ys,τρ3,xs,q3,by omega,r5,F5,eD5,fD5,λb z=>hw b (w3 b (f5.ow b z))⟩
 .have e:i=n:=by omega
  subst e;refine .inl ⟨stop,?_⟩;have q':=after ys τρ iv
  have cap:∀(m j:Nat),ix[m]?=some (some j)->∃p v,ρ1[j]?=some (some p)/\σ[j]?=some (some v)/\τ[m]?=some (some v):=λm j e=>by
   have h1:=MU.mp hcap _ (y_ e);have h1:(match ρ1[j]? with|some (some _)=>true|_=>false)=true:=h1
   split at h1
   .rename_i p ep;obtain⟨v,hv,_⟩:=R1.get j p ep;exact⟨p,v,ep,hv,F2.fx _ (fxget m j v e hv)⟩
   .cases h1
  have get':∀(j:Nat) (p:PV),(eW ix ρ1 τρ)[j]?=some (some p)->(∃m v,ix[m]?=some (some j)/\σ[j]?=some (some v)/\τ[m]?=some (some v)/\τρ[m]?=some (some p))\/(some j∉ix/\ρ1[j]?=some (some p)):=λj p e=>by
   by_cases hj:some j∈ix
   .obtain⟨m,hm,em⟩:=ME hj;have em':ix[m]?=some (some j):=by rw [cx hm,em]
    obtain⟨p0,v,h1,h2,h3⟩:=cap m j em';rw [qS ix ρ1 τρ j m hix em' (by rw [r2.len];exact (i_.mp h3).1) (i_.mp h1).1] at e;exact .inl ⟨m,v,em',h2,h3,e⟩
   .rw [j9 ix ρ1 τρ j hj] at e;exact .inr ⟨hj,e⟩
  have nocap:∀(j:Nat) (p:PV) (b:Addr),some j∉ix->ρ1[j]?=some (some p)->p.isOwn=true->σ[j]?=some (some (.ref b))->¬ Wr τρ0 τσ0 b:=λj p b hj e o s ⟨m,q,e1,o1,s1⟩=>by
   obtain⟨j',h1,h2⟩:=cC e1;obtain⟨v,hv,_⟩:=R1.get j' q h2;have:=cG h1 hv;rw [s1] at this;cases this;have:=R1.dj j j' p q _ e h2 o o1 s hv;subst this;exact hj (y_ h1)
  have w':∀b,Wr (eW ix ρ1 τρ) σ b->Wr τρ τ b\/(Wr ρ1 σ b/\¬ Wr τρ0 τσ0 b):=λb ⟨j,p,e,o,s⟩=>by
   rcases get' j p e with ⟨m,v,h1,h2,h3,h4⟩|⟨hj,h1⟩
   .rw [s] at h2;cases h2;exact .inl ⟨m,p,h4,o,h3⟩
   .exact .inr ⟨⟨j,p,h1,o,s⟩,nocap j p b hj h1 o s⟩
  have oo':∀b,OO (dJ A D) (eW ix ρ1 τρ) σ b->OO Ai τρ τ b:=λb z=>by
   rcases z with (z|z)|z
   .exact .inl (.inl z)
   .exact .inl (.inr (.inl z))
   .rcases w' b z with z|z
    .exact .inr z
    .exact .inl (.inr (.inr z))
  have kp1:∀b o,¬ Wr τρ0 τσ0 b->b≠D->H1 b=some o->H2 b=some o:=λb o n1 n2 e=>F2.kp b o (λz=>z.elim n1 n2) (by rw [show H0' b=H1 b from aC n2];exact e);have k1:aI (OO A ρ1 σ) H1 (OO (dJ A D) (eW ix ρ1 τρ) σ) H2:=λb o nn e=>⟨λz=>(kk b o nn e).1 (oo' b z),(kk b o nn e).2⟩
  have AiD:Ai D:=.inr (.inl rfl)
  have R':Rel K (dJ A D) (eW ix ρ1 τρ) σ H2:=by
   refine⟨by rw [mD];exact R1.len,λj p e=>?_,λj l p q v e1 e2 o1 o2 s1 s2=>?_,λb z=>?_,λb z w=>?_⟩
   .rcases get' j p e with ⟨m,v,h1,h2,h3,h4⟩|⟨hj,h1⟩
    .obtain⟨v',hv',r⟩:=r2.get m p h4;rw [h3] at hv';cases hv';exact⟨v,h2,r.keeps (aI.less oo') λ_ _ _=>rfl⟩
    .obtain⟨v,hv,r⟩:=R1.get j p h1;refine⟨v,hv,r.keeps k1 λow a ea=>?_⟩;subst ea;obtain⟨a',u,e1,e2⟩:=r.ref ow;cases e1;rw [e2];exact kp1 a u (nocap j p a hj h1 ow hv) (λz=>by rw [z,hD] at e2;cases e2) e2
   .rcases get' j p e1 with ⟨m,v1,h1,h2,h3,h4⟩|⟨hj,h1⟩
    .rw [s1] at h2;cases h2
     rcases get' l q e2 with ⟨m',v2,g1,g2,g3,g4⟩|⟨hl,g1⟩
     .rw [s2] at g2;cases g2;have:=r2.dj m m' p q _ h4 g4 o1 o2 h3 g3;subst this;rw [h1] at g1;cases g1;rfl
     .exfalso;obtain⟨v',hv',r⟩:=r2.get m p h4;rw [h3] at hv';cases hv';obtain⟨a,u,ea,_⟩:=r.ref o1;subst ea;exact nocap l q a hl g1 o2 s2 (hw a ⟨m,p,h4,o1,h3⟩)
    .rcases get' l q e2 with ⟨m',v2,g1,g2,g3,g4⟩|⟨hl,g1⟩
     .rw [s2] at g2;cases g2;exfalso;obtain⟨v',hv',r⟩:=r2.get m' q g4;rw [g3] at hv';cases hv';obtain⟨a,u,ea,_⟩:=r.ref o2;subst ea;exact nocap j p a hj h1 o1 s1 (hw a ⟨m',q,g4,o2,g3⟩)
     .exact R1.dj j l p q v h1 g1 o1 o2 s1 s2
   .rcases z with z|z
    .exact r2.dom b (.inl z)
    .rw [z,eD];exact nofun
   .rcases w' b w with w|w
    .rcases z with z|z
     .exact r2.sep b (.inl z) w
     .rw [z] at w;exact r2.sep D AiD w
    .rcases z with z|z
     .exact R1.sep b z w.1
     .rw [z] at w;exact nD w.1
  have f2:Fr ρ1 σ H1 (eW ix ρ1 τρ) H2:=by
   refine⟨λb o nn e=>kp1 b o (λz=>nn (wsub b z)) (λz=>by rw [z,hD] at e;cases e) e,λb z=>F2.dm b ?_,λb z=>?_⟩
   .intro e
    by_cases zz:b=D
    .exact z (by rw [zz];exact hD)
    .rw [show H0' b=H1 b from aC zz] at e;exact z e
   .rcases w' b z with z|z
    .exact wsub b (hw b z)
    .exact z.1
  have hD0:H D=none:=by
   cases e:H D with
   | none=>rfl
   | some o=>exact absurd hD (f1.dm D (by rw [e];exact nofun))
  exact k _ H2 (.own ys) _ q' (f1.trans f2) ⟨D,xs,rfl,λz=>R1.dom D z hD,hD0,eD,R',fD.keeps (aI.less oo')⟩
variable {A':Addr->Prop}
def Rel.step(R:Rel K A ρ σ H){p q:PV}{a:Addr}(e:ρ[i]?=some (some p))(ow:p.isOwn=true)(ow':q.isOwn=true)(es:σ[i]?=some (some (.ref a)))(kp:∀b o,b≠a->H b=some o->H' b=some o)(ha:H' a≠none)(h1:∀b,A b->A' b)(h2:∀b,A' b->A b\/H b=none)(dom':∀b,A' b->H' b≠none)(new:RS K (OO A' ρ σ) H' q (.ref a)):Rel K A' (ρ.set i (some q)) σ H'/\Fr ρ σ H (ρ.set i (some q)) H':=by
 have hi:i<ρ.length:=(i_.mp e).1;have wa:Wr ρ σ a:=⟨i,p,e,ow,es⟩
 have weq:∀b,Wr (ρ.set i (some q)) σ b ↔ Wr ρ σ b:=λb=>by
  constructor
  .rintro⟨j,r,e1,o1,s1⟩
   by_cases z:i=j
   .subst z;exact⟨i,p,e,ow,s1⟩
   .rw [o_ z] at e1;exact⟨j,r,e1,o1,s1⟩
  .rintro⟨j,r,e1,o1,s1⟩
   by_cases z:i=j
   .subst z;exact⟨i,q,s_ hi,ow',s1⟩
   .exact⟨j,r,by rw [o_ z];exact e1,o1,s1⟩
 have oeq:OO A' (ρ.set i (some q)) σ=OO A' ρ σ:=funext λb=>propext (or_congr Iff.rfl (weq b));have kp1:∀b u,¬ Wr ρ σ b->H b=some u->H' b=some u:=λb u n h=>kp b u (λz=>n (by rw [z];exact wa)) h
 have k:aI (OO A ρ σ) H (OO A' ρ σ) H':=λb u n h=>by
  refine⟨λz=>?_,kp1 b u (λz=>n (.inr z)) h⟩
  rcases z with z|z
  .rcases h2 b z with z|z
   .exact n (.inl z)
   .rw [z] at h;cases h
  .exact n (.inr z)
 have dm:∀b,H b≠none->H' b≠none:=λb n=>by
  by_cases z:b=a
  .rw [z];exact ha
  .cases eb:H b with
   | none=>exact absurd eb n
   | some o=>rw [kp b o z eb];exact nofun
 refine⟨⟨by rw [LK];exact R.len,λj r e1=>?_,λj l p1 q1 v e1 e2 o1 o2 s1 s2=>?_,dom',λb z w=>?_⟩,⟨kp1,dm,λb w=>(weq b).mp w⟩⟩
 .rw [oeq]
  by_cases z:i=j
  .subst z;rw [s_ hi] at e1;cases e1;exact⟨_,es,new⟩
  .rw [o_ z] at e1;obtain⟨v,s,rr⟩:=R.get j r e1;refine⟨v,s,rr.keeps k λow2 b eb=>?_⟩;obtain⟨b',u,e3,e4⟩:=rr.ref ow2;rw [eb] at e3;cases e3;rw [e4];refine kp b u (λzz=>?_) e4;subst zz;rw [eb] at s;exact z (R.dj i j p r _ e e1 ow ow2 es s)
 .have ex:∀(m:Nat) (x:PV),(ρ.set i (some q))[m]?=some (some x)->x.isOwn=true->∃y:PV,ρ[m]?=some (some y)/\y.isOwn=true:=λm x em ox=>by
   by_cases z:i=m
   .subst z;exact⟨p,e,ow⟩
   .rw [o_ z] at em;exact⟨x,em,ox⟩
  obtain⟨y1,g1,g2⟩:=ex j p1 e1 o1;obtain⟨y2,g3,g4⟩:=ex l q1 e2 o2;exact R.dj j l y1 y2 v g1 g3 g2 g4 s1 s2
 .rcases h2 b z with z|z
  .exact R.sep b z ((weq b).mp w)
  .exact R.wr ((weq b).mp w) z
def Rel.lstw(R:Rel K A ρ σ H){es:List D}{a:Addr}{ys:List V}(e:ρ[i]?=some (some (.own ds)))(es':σ[i]?=some (some (.ref a)))(f:FVs K (OO A ρ σ) H ys es):
  Rel K A (ρ.set i (some (.own es))) σ (upd H a (.lst ys))/\Fr ρ σ H (ρ.set i (some (.own es))) (upd H a (.lst ys)):=by
 have wa:OO A ρ σ a:=.inr ⟨i,_,e,rfl,es'⟩;exact R.write (q:=.own es) e rfl rfl es' ⟨a,ys,rfl,aY,f.keeps λb u n h=>⟨n,by rw [aC (λz=>n (by rw [z];exact wa))];exact h⟩⟩
def Rel.ownAt(R:Rel K A ρ σ H)(e:ρ[i]?=some (some (.own ds))):∃a xs,σ[i]?=some (some (.ref a))/\H a=some (.lst xs)/\FVs K (OO A ρ σ) H xs ds:=by
 obtain⟨v,s,a,xs,rfl,g,f⟩:=R.get i _ e;exact⟨a,xs,s,g,f⟩
noncomputable def KD(i:Nat)(pe:PTE):PTE:=λρ Q=>match ρ[i]? with
 | some (some (.own _))=>pe ρ λp ρ1=>(match ρ1[i]? with
  | some (some (.own ds))=>ds.length<1000000/\Q (.dat .non) (ρ1.set i (some (.own (ds++[p.d]))))
  | _=>False)
 | _=>False
noncomputable def Hb(i:Nat)(pe pk:PTE):PTS:=λD ρ=>pe ρ λp ρ1=>(match ρ1[i]? with
 | some (some (.own _))=>pk ρ1 λkp ρ2=>(match ρ2[i]?,kp with
  | some (some (.own ds)),.dat (.int k)=>∃j,ixN ds.length k=some j/\D.nx (ρ2.set i (some (.own (ds.set j p.d))))
  | _,_=>False)
 | _=>False)
section
def tm(h:LE K te pe):LE K (tBM K "list" yR (aF i) (aG te cP)) (KD i pe):=λA ρ σ H Q Q' R q k=>by
 unfold KD at q
 split at q
 .rename_i ds0 e0;obtain⟨a0,xs0,s0,g0,f0⟩:=R.ownAt e0;refine⟨_,s0,.inl ⟨rfl,xs0,SqL.of g0⟩,h A ρ σ H _ _ R q λv H1 p ρ1 q1 f1 o1=>?_⟩;obtain⟨R1,fv⟩:=o1.frz
  split at q1
  .rename_i ds e1;obtain⟨a,xs,s,g,f⟩:=R1.ownAt e1;rw [s0] at s;cases s;obtain⟨R2,f2⟩:=R1.lstw e1 s0 (f.append (.cons fv .nil));exact⟨a0,xs,v,rfl,rfl,g,u1 (by rw [f.length];exact q1.1) (sz _ (e_ _)),k _ _ _ _ q1.2 (f1.trans f2) ⟨R2,.non⟩⟩
  .exact q1.elim
 .exact q.elim
variable {tk:TE}{pk:PTE}{fs:List Nat}
def zH(h:LE K te pe)(hk:LE K tk pk):LS K fs (DS te (Kn (aF i) tk Gs)) (Hb i pe pk):=λfx A R H0 ρ σ H D D' hf r F q k1 k2 k3 k4=>h A ρ σ H _ _ r q λv H1 p ρ1 q1 f1 o1=>by
 obtain⟨R1,fv⟩:=o1.frz
 split at q1
 .rename_i ds0 e0;obtain⟨a0,xs0,s0,g0,f0⟩:=R1.ownAt e0;refine⟨_,s0,hk A ρ1 σ H1 _ _ R1 q1 λw H2 kp ρ2 q2 f2 o2=>?_⟩
  split at q2
  .rename_i ds j e2;obtain⟨n,hn,q2⟩:=q2;obtain⟨R2,fw⟩:=o2;cases fw;obtain⟨a,xs,s,g,f⟩:=R2.ownAt e2;rw [s0] at s;cases s;obtain⟨R3,f3⟩:=R2.lstw e2 s0 (FVs.set (fv.keeps f2.keeps) n f);exact⟨a0,xs,j,n,rfl,rfl,g,by rw [f.length];exact hn,k1 _ _ _ q2 R3 (((F.fr f1).fr f2).fr f3)⟩
  .exact q2.elim
 .exact q1.elim
end
noncomputable def spP(K:b_)(c:FN):Sp:=λvs H Q _=>∃(O:Addr->Prop) (ds:List D) (Qc:PV->Prop),(∀b,O b->H b≠none)/\FVs K O H vs ds/\c ds Qc/\∀r,Qc r->∀v H',Gr H H'->uL K O H H' r v->Q v H'
noncomputable def i5(c:FN)(pr:PTA):PTE:=λρ Q=>pr ρ λas ρ1=>match avD as with
 | some ds=>c ds λr=>Q r ρ1
 | none=>False
variable {N:List Str}{vs:List V}
def m8(h:vs[i]?=some v):(start N vs)[i]?=some (some v):=by
 unfold start;rw [L_ (by rw [length_map];exact (i_.mp h).1),h_,h];rfl
noncomputable def dC(n:Nat)(ps:List PV):PSt:=ps.map some++q_ (n - ps.length) none
def fP{ps:List PV}{p:PV}(h:(dC n ps)[i]?=some (some p)):ps[i]?=some p:=by
 unfold dC at h
 by_cases hi:i<ps.length
 .rw [L_ (by rw [length_map];exact hi),h_] at h
  cases e:ps[i]? with
  | none=>rw [e] at h;cases h
  | some q=>rw [e] at h;cases h;rfl
 .rw [LP (by rw [length_map];omega)] at h;have:=y_ h;rw [M_] at this;cases this.2
variable {tr:TA}{pr:PTA}
def ar{c:FN}(h:LAs K tr pr):LE K (df (spP K c) [] E0 tr) (i5 c pr):=λA ρ σ H Q Q' R q k=>h A ρ σ H _ _ R q λvs H1 as ρ1 q1 f1 R1 o1=>by
 split at q1
 .rename_i ds e;rw [Eo];exact⟨OO A ρ1 σ,ds,_,R1.dom2,o1.avD e,q1,λr qr v H' g ov=>k v H' r ρ1 qr (f1.trans g.fr) ((ov.out R1 g).h0 f1.dm)⟩
 .exact q1.elim
def Out.outV{p:PV}(h:Out K O ρ σ H H' p v):uL K O H H' p v:=by
 cases p with
 | dat d=>exact h.2.keeps (aI.less λb z=>.inl z)
 | own ds =>
  obtain⟨a,xs,e1,na,e2,e3,R,f⟩:=h;exact⟨a,xs,e1,e2,e3,f.keeps (aI.less λb z=>.inl z)⟩
 | ins c ns ds =>
  obtain⟨a,dx,fs,e1,na,e2,e3,m,R,f⟩:=h;exact⟨a,dx,fs,e1,e2,e3,m,f.keeps (aI.less λb z=>.inl z)⟩
 | odc ks ds =>
  obtain⟨a,kvs,e1,na,e2,e3,m,R,f⟩:=h;exact⟨a,kvs,e1,e2,e3,m,f.keeps (aI.less λb z=>.inl z)⟩
variable {ts:TS}{ps:PTS}
def fnP{c:FN}(hl:LS K [] ts ps)(hn:∀ds Q,c ds Q->ds.length<=N.length)(hc:∀ds Q,c ds Q->ps { nx:=λ_=>Q (.dat .non),rt:=λp _=>Q p } (dC N.length (ds.map .dat))){Q:VK}{E:XK}(h:spP K c vs H Q E):ts { nx:=λ_ H'=>Q .non H',rt:=Q } (start N vs) H:=by
 obtain⟨O,ds,Qc,dom,fv,hq,k⟩:=h
 have nw:∀(ρ:PSt) (b:Addr),ρ=dC N.length (ds.map .dat)->¬ Wr ρ (start N vs) b:=λρ b e ⟨i,p,e1,o1,s1⟩=>by
  rw [e] at e1;have:=fP e1;rw [h_] at this
  cases e2:ds[i]? with
  | none=>rw [e2] at this;cases this
  | some d=>rw [e2] at this;cases this;cases o1
 have lenv:=fv.length;have hle:=hn ds Qc hq
 have R0:Rel K O (dC N.length (ds.map .dat)) (start N vs) H:=by
  refine⟨?_,λi p e=>?_,λi j p q v e1 e2 o1 o2 s1 s2=>?_,dom,λb _ w=>nw _ b rfl w⟩
  .unfold dC start;rw [length_append,length_append,length_map,length_map,length_map,length_replicate,length_replicate,lenv]
  .have:=fP e;rw [h_] at this
   cases e2:ds[i]? with
   | none=>rw [e2] at this;cases this
   | some d =>
    rw [e2] at this;cases this;obtain⟨v,hv,f⟩:=fv.getD e2;exact⟨v,m8 hv,f.keeps (aI.less λb z=>z.elim id λw=>absurd w (nw _ b rfl))⟩
  .have:=fP e1;rw [h_] at this
   cases e3:ds[i]? with
   | none=>rw [e3] at this;cases this
   | some d=>rw [e3] at this;cases this;cases o1
 refine hl [] O (λ_=>False) H _ _ H _ _ rfl R0 ⟨λ_ _ _ h=>h,λ_ h=>h,λb w=>absurd w (nw _ b rfl),λp hp=>nomatch hp⟩ (hc ds Qc hq) (λρ' σ' H' q r F=>?_) (λv p ρ' σ' H' q o F=>?_) (λ_ _ _ z=>z.elim) (λ_ _ _ z=>z.elim)
 .exact k _ q .non H' (λb o e=>F.kp b o id e) .non
 .exact k _ q v H' (λb o e=>F.kp b o id e) o.outV
abbrev FR:=PV->List D->(PV->PV->Prop)->Prop
noncomputable def spR(K:b_)(c:FR):Sp:=λvs H Q _=>∃(A:Addr->Prop) (a:Addr) (p:PV) (ws:List V) (ds:List D) (Qc:PV->PV->Prop),vs=.ref a::ws/\p.isOwn=true/\(∀b,A b->H b≠none)/\¬ A a/\RS K (dJ A a) H p (.ref a)/\FVs K (dJ A a) H ws ds/\c p ds Qc /\
 ∀r p',Qc r p'->p'.isOwn=true->∀v H',(∀b o,b≠a->H b=some o->H' b=some o)->H' a≠none->RS K (dJ A a) H' p' (.ref a)->uL K (dJ A a) H H' r v->(∀a',v=.ref a'->r.isOwn=true->RS K (dJ (dJ A a) a') H' p' (.ref a))->Q v H'
noncomputable def CY(c:FR)(i:Nat)(pr:PTA):PTE:=λρ Q=>match ρ[i]? with
 | some (some _)=>pr ρ λas ρ1=>(match ρ1[i]?,avD as with
  | some (some p),some ds=>p.isOwn=true/\c p ds λr p'=>Q r (ρ1.set i (some p'))
  | _,_=>False)
 | _=>False
def aM{c:FR}(h:LAs K tr pr):LE K (df (spR K c) [] E0 (aG (aF i) tr)) (CY c i pr):=λA ρ σ H Q Q' R q k=>by
 unfold CY at q
 split at q
 .rename_i p0 e0;obtain⟨v0,s0,_⟩:=R.get i p0 e0;refine⟨v0,s0,h A ρ σ H _ _ R q λvs H1 as ρ1 q1 f1 R1 o1=>?_⟩
  split at q1
  .rename_i p ds e1 ed;obtain⟨ow,q1⟩:=q1;obtain⟨v1,s1,rs⟩:=R1.get i p e1;rw [s0] at s1;cases s1;obtain⟨a,u,rfl,ea⟩:=rs.ref ow;rw [Eo];have wa:Wr ρ1 σ a:=⟨i,p,e1,ow,s0⟩
   have oeq:dJ (λb=>(OO A ρ1 σ b)/\b≠a) a=OO A ρ1 σ:=funext λb=>propext ⟨λz=>z.elim (λz=>z.1) (λz=>by rw [z];exact .inr wa),λz=>by
    by_cases e:b=a
    .exact .inr e
    .exact .inl ⟨z,e⟩⟩
   refine⟨λb=>(OO A ρ1 σ b)/\b≠a,a,p,vs,ds,_,rfl,ow,λb z=>R1.dom2 b z.1,λz=>z.2 rfl,by rw [oeq];exact rs,by rw [oeq];exact o1.avD ed,q1,λr p' qr ow' v H' kp ha rs' ov hx=>?_⟩;rw [oeq] at rs' ov hx
   have domA:∀b,A b->H' b≠none:=λb z=>by
    have:b≠a:=λe=>R1.sep b z (by rw [e];exact wa)
    cases eb:H1 b with
    | none=>exact absurd eb (R1.dom b z)
    | some o=>rw [kp b o this eb];exact nofun
   cases r with
   | dat d =>
    obtain⟨R2,f2⟩:=R1.step (A':=A) e1 ow ow' s0 kp ha (λ_ h=>h) (λ_ h=>.inl h) domA rs';exact k v H' _ _ qr (f1.trans f2) ⟨R2,FV.keeps (aI.less λb z=>z.imp id (f2.ow b)) ov⟩
   | own es =>
    obtain⟨a',xs,rfl,n1,e2,f⟩:=ov;have hx:=hx a' rfl rfl;have na:a'≠a:=λe=>by rw [e,ea] at n1;cases n1
    have oo2:∀b,OO (dJ A a') ρ1 σ b ↔ dJ (OO A ρ1 σ) a' b:=λb=>⟨λz=>by
     rcases z with (z|z)|z
     .exact .inl (.inl z)
     .exact .inr z
     .exact .inl (.inr z),λz=>by
     rcases z with (z|z)|z
     .exact .inl (.inl z)
     .exact .inr z
     .exact .inl (.inr z)⟩
    have oo2':OO (dJ A a') ρ1 σ=dJ (OO A ρ1 σ) a':=funext λb=>propext (oo2 b)
    obtain⟨R2,f2⟩:=R1.step (A':=dJ A a') e1 ow ow' s0 kp ha (λ_ h=>.inl h) (λb z=>z.imp id λz=>by rw [z];exact n1) (λb z=>z.elim (domA b) λz=>by rw [z,e2];exact nofun) (by rw [oo2'];exact hx)
    .refine k _ H' (.own es) _ qr (f1.trans f2) ⟨a',xs,rfl,λz=>R1.dom a' z n1,?_,e2,R2,f.keeps (aI.less λb z=>?_)⟩
     .cases eb:H a' with
      | none=>rfl
      | some o=>exact absurd n1 (f1.dm a' (by rw [eb];exact nofun))
     .rw [<- oo2'];exact z.imp id (f2.ow b)
   | ins c ns es =>
    obtain⟨a',dx,fs,rfl,n1,e2,m,f⟩:=ov;have hx:=hx a' rfl rfl
    have oo2':OO (dJ A a') ρ1 σ=dJ (OO A ρ1 σ) a':=funext λb=>propext ⟨λz=>by
     rcases z with (z|z)|z
     .exact .inl (.inl z)
     .exact .inr z
     .exact .inl (.inr z),λz=>by
     rcases z with (z|z)|z
     .exact .inl (.inl z)
     .exact .inr z
     .exact .inl (.inr z)⟩
    obtain⟨R2,f2⟩:=R1.step (A':=dJ A a') e1 ow ow' s0 kp ha (λ_ h=>.inl h) (λb z=>z.imp id λz=>by rw [z];exact n1) (λb z=>z.elim (domA b) λz=>by rw [z,e2];exact nofun) (by rw [oo2'];exact hx)
    .refine k _ H' (.ins c ns es) _ qr (f1.trans f2) ⟨a',dx,fs,rfl,λz=>R1.dom a' z n1,?_,e2,m,R2,f.keeps (aI.less λb z=>?_)⟩
     .cases eb:H a' with
      | none=>rfl
      | some o=>exact absurd n1 (f1.dm a' (by rw [eb];exact nofun))
     .rw [<- oo2'];exact z.imp id (f2.ow b)
   | odc ks es =>
    obtain⟨a',kvs,rfl,n1,e2,m,f⟩:=ov;have hx:=hx a' rfl rfl
    have oo2':OO (dJ A a') ρ1 σ=dJ (OO A ρ1 σ) a':=funext λb=>propext ⟨λz=>by
     rcases z with (z|z)|z
     .exact .inl (.inl z)
     .exact .inr z
     .exact .inl (.inr z),λz=>by
     rcases z with (z|z)|z
     .exact .inl (.inl z)
     .exact .inr z
     .exact .inl (.inr z)⟩
    obtain⟨R2,f2⟩:=R1.step (A':=dJ A a') e1 ow ow' s0 kp ha (λ_ h=>.inl h) (λb z=>z.imp id λz=>by rw [z];exact n1) (λb z=>z.elim (domA b) λz=>by rw [z,e2];exact nofun) (by rw [oo2'];exact hx)
    .refine k _ H' (.odc ks es) _ qr (f1.trans f2) ⟨a',kvs,rfl,λz=>R1.dom a' z n1,?_,e2,m,R2,f.keeps (aI.less λb z=>?_)⟩
     .cases eb:H a' with
      | none=>rfl
      | some o=>exact absurd n1 (f1.dm a' (by rw [eb];exact nofun))
     .rw [<- oo2'];exact z.imp id (f2.ow b)
  .exact q1.elim
 .exact q.elim
noncomputable def FC(Q:PV->PV->Prop)(r:PV)(ρ:PSt):Prop:=match ρ[0]? with
 | some (some p)=>p.isOwn=true/\Q r p
 | _=>False
def fnR{c:FR}(hl:LS K [0] ts ps)(hn:∀p ds Q,c p ds Q->ds.length+1<=N.length)(hc:∀p ds Q,p.isOwn=true->c p ds Q->ps { nx:=FC Q (.dat .non),rt:=FC Q } (dC N.length (p::ds.map .dat))){Q:VK}{E:XK}(h:spR K c vs H Q E):ts { nx:=λ_ H'=>Q .non H',rt:=Q } (start N vs) H:=by
 obtain⟨A,a,p,ws,ds,Qc,rfl,ow,dom,na,rs,fv,hq,k⟩:=h;have s0:(start N (V.ref a::ws))[0]?=some (some (.ref a)):=m8 rfl;have b0:(dC N.length (p::ds.map .dat))[0]?=some (some p):=rfl
 have wr:∀b,Wr (dC N.length (p::ds.map .dat)) (start N (.ref a::ws)) b->b=a:=λb ⟨i,q,e1,o1,s1⟩=>by
  have:=fP e1
  cases i with
  | zero=>rw [s0] at s1;cases s1;rfl
  | succ i =>
   rw [Nh,h_] at this
   cases e2:ds[i]? with
   | none=>rw [e2] at this;cases this
   | some d=>rw [e2] at this;cases this;cases o1
 have wa:Wr (dC N.length (p::ds.map .dat)) (start N (.ref a::ws)) a:=⟨0,p,b0,ow,s0⟩
 have oeq:OO A (dC N.length (p::ds.map .dat)) (start N (.ref a::ws))=dJ A a:=funext λb=>propext ⟨λz=>z.imp id (wr b),λz=>z.imp id λz=>by rw [z];exact wa⟩;have lenv:=fv.length;have hle:=hn p ds Qc hq
 have R0:Rel K A (dC N.length (p::ds.map .dat)) (start N (.ref a::ws)) H:=by
  refine⟨?_,λi q e=>?_,λi j q1 q2 v e1 e2 o1 o2 s1 s2=>?_,dom,λb z w=>?_⟩
  .unfold dC start;simp only [length_append,length_map,length_replicate,length_cons,lenv]
  .have:=fP e;rw [oeq]
   cases i with
   | zero=>cases this;exact⟨_,s0,rs⟩
   | succ i =>
    rw [Nh,h_] at this
    cases e2:ds[i]? with
    | none=>rw [e2] at this;cases this
    | some d =>
     rw [e2] at this;cases this;obtain⟨v,hv,f⟩:=fv.getD e2;exact⟨v,m8 (by rw [Nh];exact hv),f⟩
  .have own0:∀(i:Nat) (q:PV),(dC N.length (p::ds.map .dat))[i]?=some (some q)->q.isOwn=true->i=0:=λi q e o=>by
    have:=fP e
    cases i with
    | zero=>rfl
    | succ i =>
     rw [Nh,h_] at this
     cases e2:ds[i]? with
     | none=>rw [e2] at this;cases this
     | some d=>rw [e2] at this;cases this;cases o
   rw [own0 i q1 e1 o1,own0 j q2 e2 o2]
  .rw [wr b w] at z;exact na z
 have fin:∀(v:V) (r:PV) (ρ':PSt) (σ':St) (H':Hp),FC Qc r ρ'->Out K A ρ' σ' H H' r v->gn [(0,.ref a)] (λb=>b=a) H ρ' σ' H'->Q v H':=λv r ρ' σ' H' q o F=>by
  unfold FC at q
  split at q
  .rename_i p' e';obtain⟨ow',q⟩:=q;have sa:=F.fx (0,.ref a) (LR.mpr rfl);have wa':Wr ρ' σ' a:=⟨0,p',e',ow',sa⟩
   have kpa:∀b o,b≠a->H b=some o->H' b=some o:=λb o n e=>F.kp b o n e
   cases r with
   | dat d =>
    obtain⟨R1,f1⟩:=o;obtain⟨v1,s1,rs1⟩:=R1.get 0 p' e';rw [sa] at s1;cases s1;have less:∀b,dJ A a b->OO A ρ' σ' b:=λb z=>z.imp id λz=>by rw [z];exact wa'
    exact k _ p' q ow' v H' kpa (R1.wr wa') (rs1.keeps (aI.less less) λ_ _ _=>rfl) (f1.keeps (aI.less less)) (λ_ _ z=>nomatch z)
   | own es =>
    obtain⟨a',xs,rfl,n1,n2,e3,R1,f1⟩:=o;obtain⟨v1,s1,rs1⟩:=R1.get 0 p' e';rw [sa] at s1;cases s1
    have less:∀b,dJ (dJ A a) a' b->OO (dJ A a') ρ' σ' b:=λb z=>by
     rcases z with (z|z)|z
     .exact .inl (.inl z)
     .exact .inr (by rw [z];exact wa')
     .exact .inl (.inr z)
    exact k _ p' q ow' _ H' kpa (R1.wr wa') (rs1.keeps (aI.less λb z=>less b (.inl z)) λ_ _ _=>rfl) ⟨a',xs,rfl,n2,e3,f1.keeps (aI.less less)⟩ (λa'' e _=>by cases e;exact rs1.keeps (aI.less less) λ_ _ _=>rfl)
   | ins c ns es =>
    obtain⟨a',dx,fs,rfl,n1,n2,e3,m,R1,f1⟩:=o;obtain⟨v1,s1,rs1⟩:=R1.get 0 p' e';rw [sa] at s1;cases s1
    have less:∀b,dJ (dJ A a) a' b->OO (dJ A a') ρ' σ' b:=λb z=>by
     rcases z with (z|z)|z
     .exact .inl (.inl z)
     .exact .inr (by rw [z];exact wa')
     .exact .inl (.inr z)
    exact k _ p' q ow' _ H' kpa (R1.wr wa') (rs1.keeps (aI.less λb z=>less b (.inl z)) λ_ _ _=>rfl) ⟨a',dx,fs,rfl,n2,e3,m,f1.keeps (aI.less less)⟩ (λa'' e _=>by cases e;exact rs1.keeps (aI.less less) λ_ _ _=>rfl)
   | odc ks es =>
    obtain⟨a',kvs,rfl,n1,n2,e3,m,R1,f1⟩:=o;obtain⟨v1,s1,rs1⟩:=R1.get 0 p' e';rw [sa] at s1;cases s1
    have less:∀b,dJ (dJ A a) a' b->OO (dJ A a') ρ' σ' b:=λb z=>by
     rcases z with (z|z)|z
     .exact .inl (.inl z)
     .exact .inr (by rw [z];exact wa')
     .exact .inl (.inr z)
    exact k _ p' q ow' _ H' kpa (R1.wr wa') (rs1.keeps (aI.less λb z=>less b (.inl z)) λ_ _ _=>rfl) ⟨a',kvs,rfl,n2,e3,m,f1.keeps (aI.less less)⟩ (λa'' e _=>by cases e;exact rs1.keeps (aI.less less) λ_ _ _=>rfl)
  .exact q.elim
 refine hl [(0,.ref a)] A (λb=>b=a) H _ _ H _ _ rfl R0 ⟨λ_ _ _ h=>h,λ_ h=>h,λb w=>.inl (wr b w),λq hq=>by rw [LR.mp hq];exact s0⟩ (hc p ds Qc ow hq) (λρ' σ' H' q r F=>fin .non (.dat .non) ρ' σ' H' q ⟨r,.non⟩ F) (λv p ρ' σ' H' q o F=>fin v p ρ' σ' H' q o F) (λ_ _ _ z=>z.elim) (λ_ _ _ z=>z.elim)
noncomputable def KE:FN:=λas Q=>∃ns:List Int,as=[.scr ns]/\ns.length<=63/\Q (.dat (.bl true))
def EH{Q:VK}{E:XK}(h:xM K vs H Q E):spP K KE vs H Q E:=by
 obtain⟨a,ns,rfl,hS,h63,q⟩:=h
 refine⟨λ_=>False,[.scr ns],λr=>r=.dat (.bl true),nofun,.cons (.scr ?_) .nil,⟨ns,rfl,h63,rfl⟩,λr e v H' g o=>?_⟩
 .rcases hS with h|h
  .exact .inl ⟨id,h⟩
  .exact .inr h
 .subst e;cases o;exact q H'
noncomputable def KF:List V->Hp->VK->Prop:=λxs H Q=>∃i,xs=[.int i]/\Q (.int (if i<0 then -i else i)) H
noncomputable def Hc:List V->Hp->VK->Prop:=λxs H Q=>∃i j,xs=[.int i,.int j]/\Q (.int (if j<i then j else i)) H
noncomputable def Hd:List V->Hp->VK->Prop:=λxs H Q=>∃i j,xs=[.int i,.int j]/\Q (.int (if j > i then j else i)) H
def JM:bK X (.builtin "abs") KF:=Bl
def zI(hc:X.calm=true):bK X (.builtin "min") Hc:=yJ hc
def He(hc:X.calm=true):bK X (.builtin "max") Hd:=yI hc
noncomputable def KG:FN
 | [.int i],Q=>Q (.dat (.int (if i<0 then -i else i)))
 | _,_=>False
noncomputable def Hf:FN
 | [.int i,.int j],Q=>Q (.dat (.int (if j<i then j else i)))
 | _,_=>False
noncomputable def Hg:FN
 | [.int i,.int j],Q=>Q (.dat (.int (if j > i then j else i)))
 | _,_=>False
def Hh:LC K KF KG:=by
 intro O H xs as Q Q' dom fs q k;unfold KG at q
 split at q
 .cases fs with|cons a b=>cases b;rw [a.int];exact⟨_,rfl,k _ H _ q (Gr.refl _) (.int _)⟩
 .exact q.elim
def uP:LC K Hc Hf:=by
 intro O H xs as Q Q' dom fs q k;unfold Hf at q
 split at q
 .cases fs with
  | cons a b=>cases b with|cons b c=>cases c;rw [a.int,b.int];exact⟨_,_,rfl,k _ H _ q (Gr.refl _) (.int _)⟩
 .exact q.elim
def EI:LC K Hd Hg:=by
 intro O H xs as Q Q' dom fs q k;unfold Hg at q
 split at q
 .cases fs with
  | cons a b=>cases b with|cons b c=>cases c;rw [a.int,b.int];exact⟨_,_,rfl,k _ H _ q (Gr.refl _) (.int _)⟩
 .exact q.elim
noncomputable def Hi(K:b_):List V->Hp->VK->Prop:=λxs H Q=>∃(p:Addr) (ns:List Int),xs=[.ref p]/\SqL K H p (ns.map V.int)/\0<ns.length/\∀m:Int,m∈ns->(∀a∈ns,m<=a)->Q (.int m) H
noncomputable def Hj(K:b_):List V->Hp->VK->Prop:=λxs H Q=>∃(p:Addr) (ns:List Int),xs=[.ref p]/\SqL K H p (ns.map V.int)/\Q (.int ns.sum) H
noncomputable def KH(K:b_):List V->Hp->VK->Prop:=λxs H Q=>∃(p:Addr) (bs:List Bool),xs=[.ref p]/\SqL K H p (bs.map V.bl)/\Q (.bl (bs.all id)) H
noncomputable def KI(K:b_):List V->Hp->VK->Prop:=λxs H Q=>∃(p:Addr) (bs:List Bool),xs=[.ref p]/\SqL K H p (bs.map V.bl)/\Q (.bl (bs.any id)) H
def Hk(K:b_)(e:X.K=K)(hc:X.calm=true):bK X (.builtin "min") (Hi K):=by subst e;exact zm hc
def zJ(K:b_)(e:X.K=K)(hc:X.calm=true):bK X (.builtin "sum") (Hj K):=by subst e;exact zn hc
def zK(K:b_)(e:X.K=K)(hc:X.calm=true):bK X (.builtin "all") (KH K):=by subst e;exact BF hc
def JN(K:b_)(e:X.K=K)(hc:X.calm=true):bK X (.builtin "any") (KI K):=by subst e;exact BG hc
noncomputable def Hl:FN
 | [.lst ds],Q=>∃ns:List Int,ds=ns.map .int/\0<ns.length/\∀m:Int,m∈ns->(∀a∈ns,m<=a)->Q (.dat (.int m))
 | _,_=>False
noncomputable def BN:FN
 | [.lst ds],Q=>∃ns:List Int,ds=ns.map .int/\Q (.dat (.int ns.sum))
 | _,_=>False
noncomputable def JO:FN
 | [.lst ds],Q=>∃bs:List Bool,ds=bs.map .bl/\Q (.dat (.bl (bs.all id)))
 | _,_=>False
noncomputable def KJ:FN
 | [.lst ds],Q=>∃bs:List Bool,ds=bs.map .bl/\Q (.dat (.bl (bs.any id)))
 | _,_=>False
def EJ:LC K (Hi K) Hl:=by
 intro O H xs as Q Q' dom fs q k;unfold Hl at q
 split at q
 .obtain⟨ns,rfl,h0,q⟩:=q
  cases fs with
  | cons a b =>
   cases b;obtain⟨p,ys,rfl,e1,f1⟩:=a.lst;rw [f1.ints] at e1;exact⟨p,ns,rfl,SqL.of e1,h0,λm hm hle=>k _ H _ (q m hm hle) (Gr.refl _) (.int _)⟩
 .exact q.elim
def uQ:LC K (Hj K) BN:=by
 intro O H xs as Q Q' dom fs q k;unfold BN at q
 split at q
 .obtain⟨ns,rfl,q⟩:=q
  cases fs with
  | cons a b =>
   cases b;obtain⟨p,ys,rfl,e1,f1⟩:=a.lst;rw [f1.ints] at e1;exact⟨p,ns,rfl,SqL.of e1,k _ H _ q (Gr.refl _) (.int _)⟩
 .exact q.elim
def tq:LC K (KH K) JO:=by
 intro O H xs as Q Q' dom fs q k;unfold JO at q
 split at q
 .obtain⟨ns,rfl,q⟩:=q
  cases fs with
  | cons a b =>
   cases b;obtain⟨p,ys,rfl,e1,f1⟩:=a.lst;rw [f1.bls] at e1;exact⟨p,ns,rfl,SqL.of e1,k _ H _ q (Gr.refl _) (.bl _)⟩
 .exact q.elim
def Hm:LC K (KI K) KJ:=by
 intro O H xs as Q Q' dom fs q k;unfold KJ at q
 split at q
 .obtain⟨ns,rfl,q⟩:=q
  cases fs with
  | cons a b =>
   cases b;obtain⟨p,ys,rfl,e1,f1⟩:=a.lst;rw [f1.bls] at e1;exact⟨p,ns,rfl,SqL.of e1,k _ H _ q (Gr.refl _) (.bl _)⟩
 .exact q.elim
noncomputable def EK(K:b_):List V->Hp->VK->Prop:=λxs H Q=>∃p ys,xs=[.ref p]/\((SqL K H p ys/\∀l,H l=none->Q (.ref l) (upd H l (.tup ys)))\/(SqT K H p ys/\Q (.ref p) H))
def dN(K:b_)(e:X.K=K):bK X (.type "tuple") (EK K):=by subst e;exact qI
def CZ(K:b_)(e:X.K=K):bK X (.type "list") (zq K):=by subst e;exact sJ
noncomputable def lR:FN
 | [.lst ds],Q=>Q (.dat (.tup ds))
 | [.tup ds],Q=>Q (.dat (.tup ds))
 | [.scr ns],Q=>Q (.dat (.tup (ns.map .int)))
 | _,_=>False
noncomputable def EL:FN
 | [.lst ds],Q=>Q (.own ds)
 | [.tup ds],Q=>Q (.own ds)
 | [.scr ns],Q=>Q (.own (ns.map .int))
 | _,_=>False
def cH:LC K (EK K) lR:=by
 intro O H xs as Q Q' dom fs q k;unfold lR at q
 split at q
 .cases fs with
  | cons a b =>
   cases b;obtain⟨p,ys,rfl,e1,f1⟩:=a.lst;exact⟨p,ys,rfl,.inl ⟨SqL.of e1,λl hl=>k _ _ _ q (Gr.new hl) (mY dom hl f1)⟩⟩
 .cases fs with
  | cons a b =>
   cases b;obtain⟨p,ys,rfl,n1,e1,f1⟩:=a.tup;exact⟨p,ys,rfl,.inr ⟨SqT.of e1,k _ H _ q (Gr.refl _) (.tup n1 e1 f1)⟩⟩
 .cases fs with
  | cons a b =>
   cases b;obtain⟨p,rfl,e1⟩:=a.scr;exact⟨p,_,rfl,.inl ⟨e1,λl hl=>k _ _ _ q (Gr.new hl) (mY dom hl (FVs.of_ints _))⟩⟩
 .exact q.elim
def zL:LC K (zq K) EL:=by
 intro O H xs as Q Q' dom fs q k;unfold EL at q
 split at q
 .cases fs with
  | cons a b =>
   cases b;obtain⟨p,ys,rfl,e1,f1⟩:=a.lst;exact⟨p,ys,rfl,.inl (SqL.of e1),λl hl=>k _ _ _ q (Gr.new hl) (dL hl f1)⟩
 .cases fs with
  | cons a b =>
   cases b;obtain⟨p,ys,rfl,n1,e1,f1⟩:=a.tup;exact⟨p,ys,rfl,.inr (SqT.of e1),λl hl=>k _ _ _ q (Gr.new hl) (dL hl f1)⟩
 .cases fs with
  | cons a b =>
   cases b;obtain⟨p,rfl,e1⟩:=a.scr;exact⟨p,_,rfl,.inl e1,λl hl=>k _ _ _ q (Gr.new hl) (dL hl (FVs.of_ints _))⟩
 .exact q.elim
noncomputable def uo(i:Int)(n:Nat):List D:=(c_ n).map λ(k:Nat)=>D.int (i+(k:Int))
noncomputable def mkL(tup:Bool)(ds:List D):PV:=match tup with|true=>.dat (.tup ds)|false=>.own ds
noncomputable def Hn(tup:Bool)(pr:PTA):PTE:=λρ Q=>pr ρ λas ρ1=>match as with
 | [.v (.int j)]=>(0<=j/\j<=1000000)/\Q (mkL tup (uo 0 j.toNat)) ρ1
 | _=>False
def Ho(i:Int)(n:Nat):FVs K O H (uH i 1 n) (uo i n):=by
 have e:∀l:List Nat,FVs K O H (l.map λ(k:Nat)=>V.int (i+k*1)) (l.map λ(k:Nat)=>D.int (i+(k:Int))):=λl=>by
  induction l with
  | nil=>exact .nil
  | cons a r ih=>exact .cons (by show FV K O H (V.int (i+(a:Int)*1)) (D.int (i+(a:Int)));rw [show i+(a:Int)*1=i+(a:Int) by omega];exact .int _) ih
 exact e _
def qd{i j:Int}(h:i<=j):LX i j 1=(((j - i).toNat:Nat):Int):=by
 unfold LX;rw [if_pos (by decide)];simp only [ediv_one];split <;> omega
def xQ{i j:Int}(h0:-1000000<=i)(h1:i<=j)(h2:j<=1000000):M5 i j 1=true:=by
 unfold M5;rw [qd h1];simp only [NU,and_eq_true,or_eq_true,decide_eq_true_eq,beq_iff_eq,show (1:Int) > 0 by decide,if_true];omega
noncomputable def mkO(tup:Bool):List V->HO:=match tup with|true=>.tup|false=>.lst
def Hr{p:Addr}(tup:Bool)(dom:∀b,O b->H b≠none)(hp:H p=none)(f:FVs K O H xs ds):uL K O H (upd H p (mkO tup xs)) (mkL tup ds) (.ref p):=by
 cases tup with
 | true=>exact mY dom hp f
 | false=>exact dL hp f
def qT(tup:Bool)(h:LAs K tr pr):LE K (tCB (Jk K (mkO tup)) (aG (λσ H Q=>tr σ H λvs H1=>∃j:Int,vs=[.int j]/\∀p,H1 p=none->Q (.ref p) (upd H1 p (CQ p 0 j 1))) cP)) (Hn tup pr):=λA ρ σ H Q Q' R q k=>h A ρ σ H _ _ R q λvs H1 as ρ1 q1 f1 R1 o1=>by
 split at q1
 .rename_i j
  cases o1 with
  | cons a b =>
   cases b;cases a;refine⟨j,rfl,λp hp=>⟨p,0,j,1,j.toNat,rfl,aY,xQ (by decide) q1.1.1 q1.1.2,by rw [qd q1.1.1,Int.sub_zero],by omega,λl hl=>?_⟩⟩;have g:Gr H1 (upd H1 p (CQ p 0 j 1)):=Gr.new hp;have R2:=R1.gr g;have g2:Gr (upd H1 p (CQ p 0 j 1)) (upd (upd H1 p (CQ p 0 j 1)) l (mkO tup (uH 0 1 j.toNat))):=Gr.new hl;exact k _ _ _ ρ1 q1.2 (f1.trans (g.fr.trans g2.fr)) ((uL.out R2 g2 (Hr tup R2.dom2 hl (Ho 0 _))).h0 λb z=>(g.fr (ρ:=ρ1) (σ:=σ)).dm b (f1.dm b z))
 .exact q1.elim
def zM(K:b_)(e:X.K=K)(hc:X.calm=true):bK X (.type "list") (Jk K (mkO false)):=by subst e;exact xO hc
abbrev FM:=List Nat->List D->(PV->Prop)->Prop
noncomputable def LM(K:b_)(r:V->List V->Hp->VK->Prop)(f:FM):Prop:=∀(O:Addr->Prop) (H:Hp) (l:List Nat) (xs:List V) (as:List D) (Q:PV->Prop) (Q':VK),(∀b,O b->H b≠none)->l.length<=1000000->FB K O H xs as->f l as Q ->
 (∀v H' p,Q p->Gr H H'->uL K O H H' p v->Q' v H')->r (.str (S l)) xs H Q'
noncomputable def pSM(f:FM)(pe:PTE)(pr:PTA):PTE:=λρ Q=>pe ρ λp ρ1=>match p with
 | .dat (.str l)=>pr ρ1 λas ρ2=>(match conts ρ2 as with
  | some ds=>f l ds λr=>Q r ρ2
  | none=>False)
 | _=>False
variable {ta:TE}
def uR{r:V->List V->Hp->VK->Prop}{f:FM}(o:LM K r f)(he:LE K ta pe)(hr:LAs K tr pr):LE K (tBM K "str" r ta tr) (pSM f pe pr):=λA ρ σ H Q Q' R q k=>he A ρ σ H _ _ R q λv H1 p ρ1 q1 f1 o1=>by
 split at q1
 .rename_i l;obtain⟨R1,fv⟩:=o1
  cases fv with
  | str _ hl =>
   refine⟨rfl,hr A ρ1 σ H1 _ _ R1 q1 λvs H2 as ρ2 q2 f2 R2 o2=>?_⟩
   split at q2
   .rename_i ds e;exact o _ H2 l vs ds _ _ R2.dom2 hl (R2.conts o2 e) q2 λz H3 p q3 g ov=>k z H3 p ρ2 q3 ((f1.trans f2).trans g.fr) ((ov.out R2 g).h0 λb z=>f2.dm b (f1.dm b z))
   .exact q2.elim
 .exact q1.elim
noncomputable def Hs:V->List V->Hp->VK->Prop:=λx xs H Q=>∃a b,x=.str (S a)/\xs=[.str (S b)]/\Q (.bl (decide (b <:+ a))) H
noncomputable def C1:V->List V->Hp->VK->Prop:=λx xs H Q=>∃a b,x=.str (S a)/\xs=[.str (S b)]/\Q (.int (fnd a b 0)) H
noncomputable def C2:V->List V->Hp->VK->Prop:=λx xs H Q=>∃a b i,x=.str (S a)/\xs=[.str (S b),.int i]/\0<=i/\Q (.int (fnd a b i.toNat)) H
def EM:MtR X "str.endswith" Hs:=uF
def qU:MtR X "str.find" C1:=BD
def BO:MtR X "str.find" C2:=BE
noncomputable def Ht:FM
 | a,[.str b],Q=>Q (.dat (.bl (decide (b <:+ a))))
 | _,_,_=>False
noncomputable def C3:FM
 | a,[.str b],Q=>Q (.dat (.int (fnd a b 0)))
 | _,_,_=>False
noncomputable def C4:FM
 | a,[.str b,.int i],Q=>0<=i/\Q (.dat (.int (fnd a b i.toNat)))
 | _,_,_=>False
def EN:LM K Hs Ht:=by
 intro O H l xs as Q Q' dom hl fs q k;unfold Ht at q
 split at q
 .cases fs with|cons a b=>cases b;rw [a.str.1];exact⟨_,_,rfl,rfl,k _ H _ q (Gr.refl _) (.bl _)⟩
 .exact q.elim
def qV:LM K C1 C3:=by
 intro O H l xs as Q Q' dom hl fs q k;unfold C3 at q
 split at q
 .cases fs with|cons a b=>cases b;rw [a.str.1];exact⟨_,_,rfl,rfl,k _ H _ q (Gr.refl _) (.int _)⟩
 .exact q.elim
def BP:LM K C2 C4:=by
 intro O H l xs as Q Q' dom hl fs q k;unfold C4 at q
 split at q
 .cases fs with|cons a b=>cases b with|cons b c=>cases c;rw [a.str.1,b.int];exact⟨_,_,_,rfl,rfl,q.1,k _ H _ q.2 (Gr.refl _) (.int _)⟩
 .exact q.elim
noncomputable def e8(f:Str):List Str->Option Nat
 | []=>none
 | n::r=>if n=f then some 0 else (e8 f r).map (·+1)
theorem tu{f:Str}:∀{fs:List (Str×V)}{k:Nat},e8 f (fs.map G_)=some k->fs.lookup f=(fs.map Mt)[k]?
 | [],k,h=>by cases h
 | (n,v)::r,k,h=>by
  unfold e8 at h;rw [map_cons] at h;simp only at h;rw [L6]
  by_cases e:n=f
  .rw [if_pos e] at h;cases h;rw [show (f == n)=true by rw [e];exact beq_self_eq_true _];rfl
  .rw [if_neg e] at h;rw [show (f == n)=false from beq_eq_false_iff_ne.mpr λz=>e z.symm]
   cases e2:e8 f (r.map G_) with
   | none=>rw [e2] at h;cases h
   | some j=>rw [e2] at h;cases h;show MT f r=_;rw [tu e2];simp
theorem m9{f:Str}:∀{fs:List (Str×V)},e8 f (fs.map G_)=none->fs.lookup f=none
 | [],h=>rfl
 | (n,v)::r,h=>by
  unfold e8 at h;rw [map_cons] at h;simp only at h;rw [L6]
  by_cases e:n=f
  .rw [if_pos e] at h;cases h
  .rw [if_neg e] at h;rw [show (f == n)=false from beq_eq_false_iff_ne.mpr λz=>e z.symm]
   cases e2:e8 f (r.map G_) with
   | none=>exact m9 e2
   | some j=>rw [e2] at h;cases h
theorem qW{f:Str}:∀{fs:List (Str×V)},e8 f (fs.map G_)=none->p7 f v fs=fs++[(f,v)]
 | [],h=>rfl
 | (n,x)::r,h=>by
  unfold e8 at h;rw [map_cons] at h;simp only at h
  by_cases e:n=f
  .rw [if_pos e] at h;cases h
  .rw [if_neg e] at h
   cases e2:e8 f (r.map G_) with
   | none=>unfold p7;rw [if_neg e,qW e2];rfl
   | some j=>rw [e2] at h;cases h
def FVc.obj{c:Str}{ns:List Str}(h:FVc K O H v (.obj c ns ds)):∃a dx fs,v=.ref a/\H a=some (.ins (bw K c) dx fs)/\fs.map G_=ns/\FVs K O H (fs.map Mt) ds:=by
 rcases h with h|⟨a,xs,ds',e1,e2,e3,f⟩|⟨a,dx,c,fs,ns,ds',e1,e2,e3,m,f⟩|⟨a,kvs,ks,ds',e1,e2,_⟩
 .cases h with
  | obj n e m f=>exact⟨_,_,_,rfl,e,m,f⟩
 .cases e2
 .cases e2;exact⟨a,dx,fs,e1,e3,m,f⟩
 .cases e2
variable {pa:PA1}
noncomputable def wM(c0:Str)(ns0:List Str)(k:Nat)(pa:PA1):PTE:=λρ Q=>pa ρ λx ρ1=>match cont ρ1 x with
 | some (.obj c ns ds)=>(c=c0/\ns=ns0)/\∃d,ds[k]?=some d/\Q (.dat d) ρ1
 | _=>False
def bD{c0 f:Str}{ns0:List Str}(hc:Cls K (bw K c0))(hn:c8 K (bw K c0) f)(hk:e8 f ns0=some i)(h:LA1 K ta pa):LE K (p8 K ta f) (wM c0 ns0 i pa):=λA ρ σ H Q Q' R q k=>h A ρ σ H _ _ R q λv H1 a ρ1 q1 f1 R1 o1=>by
 split at q1
 .rename_i c ns ds e;obtain⟨⟨rfl,rfl⟩,d,hd,q1⟩:=q1;obtain⟨a,dx,fs,rfl,e1,m,f⟩:=(R1.cont o1 e).obj;obtain⟨v,hv,fv⟩:=f.getD hd;exact⟨a,_,dx,fs,v,rfl,e1,hc,hn,by rw [tu (k:=i) (by rw [m];exact hk)];exact hv,k v H1 _ ρ1 q1 f1 ⟨R1,fv⟩⟩
 .exact q1.elim
noncomputable def im(c0:Str)(ns0:List Str)(f:Str)(i:Nat)(pe:PTE):PTS:=λD ρ=>pe ρ λp ρ1=>match ρ1[i]? with
 | some (some (.ins c ns ds))=>(c=c0/\ns=ns0/\ns0.length<1000)/\D.nx (ρ1.set i (some (.ins c0 (ns0++[f]) (ds++[p.d]))))
 | _=>False
def fh{fs':List Nat}{c0 f:Str}{ns0:List Str}(hc:Cls K (bw K c0))(hn:c8 K (bw K c0) f)(hk:e8 f ns0=none)(h:LE K ta pe):LS K fs' (Kr K (aF i) ta f) (im c0 ns0 f i pe):=λfx A R H0 ρ σ H D D' hf r F q k1 k2 k3 k4=>h A ρ σ H _ _ r q λv H1 p ρ1 q1 f1 o1=>by
 obtain⟨R1,fv⟩:=o1.frz
 split at q1
 .rename_i c ns ds e;obtain⟨⟨rfl,rfl,hl⟩,q1⟩:=q1;obtain⟨w,s,a,dx,fs,rfl,g,m,ff⟩:=R1.get i _ e;have hk':e8 f (fs.map G_)=none:=by rw [m];exact hk
  have wa:OO A ρ1 σ a:=.inr ⟨i,_,e,rfl,s⟩;have kw:∀o,aI (OO A ρ1 σ) H1 (OO A ρ1 σ) (upd H1 a o):=λo b u n h=>⟨n,by rw [aC (λz=>n (by rw [z];exact wa))];exact h⟩
  obtain⟨R2,f2⟩:=R1.write (o:=.ins (bw K c) dx (p7 f v fs)) (q:=.ins c (ns++[f]) (ds++[p.d])) e rfl rfl s ⟨a,dx,p7 f v fs,rfl,aY,by rw [qW hk',map_append,m];rfl,by rw [qW hk',map_append];exact (ff.append (.cons fv .nil)).keeps (kw _)⟩;refine⟨_,s,a,_,dx,fs,rfl,g,hc,hn,?_,k1 _ _ _ q1 R2 ((F.fr f1).fr f2)⟩;have:fs.length=ns.length:=by rw [<- m,length_map]
  omega
 .exact q1.elim
noncomputable def JP(c0:Str)(c:FR)(pr:PTA):PTE:=λρ Q=>pr ρ λas ρ1=>match avD as with
 | some ds=>c (.ins c0 [] []) ds λr p'=>(match r,p' with
  | .dat .non,.ins c1 ns es=>c1=c0/\Q (.ins c1 ns es) ρ1
  | _,_=>False)
 | none=>False
def ng{c0:Str}{c:FR}(h:LAs K tr pr):LE K (Bp (bw K c0) (spR K c) [] E0 tr) (JP c0 c pr):=λA ρ σ H Q Q' R q k=>h A ρ σ H _ _ R q λvs H1 as ρ1 q1 f1 R1 o1=>by
 split at q1
 .rename_i ds e;intro x dx hx hdx hne;rw [Eo]
  let H2:=upd (upd H1 dx (.own x)) x (.ins (bw K c0) dx [])
  have g2:Gr H1 H2:=λb o z=>by
   show upd (upd H1 dx (.own x)) x _ b=_;rw [aC (bc z hx),aC (bc z hdx)];exact z
  have nx:¬ OO A ρ1 σ x:=R1.oo hx
  have keep2:aI (OO A ρ1 σ) H1 (dJ (OO A ρ1 σ) x) H2:=λb o n z=>by
   refine⟨λy=>?_,g2 b o z⟩
   rcases y with y|y
   .exact n y
   .rw [y,hx] at z;cases z
  refine⟨OO A ρ1 σ,x,.ins c0 [] [],vs,ds,_,rfl,rfl,λb z=>(g2.fr (ρ:=ρ1) (σ:=σ)).dm b (R1.dom2 b z),nx,⟨x,dx,[],rfl,aY,rfl,.nil⟩,(o1.avD e).keeps keep2,q1,λr p' qr ow' v H' kp ha rs ov _=>?_⟩
  split at qr
  .obtain⟨rfl,qr⟩:=qr;cases ov;refine⟨rfl,?_⟩;obtain⟨a',dx',fs,ea,e2,m,f⟩:=rs;cases ea;have g:Gr H1 H':=λb o z=>kp b o (bc z hx) (g2 b o z)
   have hx0:H x=none:=by
    cases eb:H x with
    | none=>rfl
    | some o=>exact absurd hx (f1.dm x (by rw [eb];exact nofun))
   refine k _ H' _ ρ1 qr (f1.trans g.fr) ⟨x,dx',fs,rfl,λz=>nx (.inl z),hx0,e2,m,R1.grA g hx (by rw [e2];exact nofun),f.keeps (aI.less λb z=>?_)⟩
   rcases z with (z|z)|z
   .exact .inl (.inl z)
   .exact .inr z
   .exact .inl (.inr z)
  .exact qr.elim
 .exact q1.elim
noncomputable def Hu(c0:Str)(ns0:List Str)(c:FN)(pe:PTE)(pr:PTA):PTE:=λρ Q=>pe ρ λp ρ1=>match p.d with
 | .obj c1 ns ds=>(c1=c0/\ns=ns0)/\pr ρ1 λas ρ2=>(match avD as with
  | some es=>c (.obj c1 ns ds::es) λr=>Q r ρ2
  | none=>False)
 | _=>False
def wN{c0 m:Str}{ns0:List Str}{c:FN}(hm:e8 m ns0=none)(he:LE K ta pe)(hr:LAs K tr pr):LE K (D5 (bw K c0) m (spP K c) [] E0 ta tr) (Hu c0 ns0 c pe pr):=λA ρ σ H Q Q' R q k=>he A ρ σ H _ _ R q λv H1 p ρ1 q1 f1 o1=>by
 obtain⟨R1,fv⟩:=o1.frz
 split at q1
 .rename_i c1 ns ds e;rw [e] at fv;obtain⟨⟨rfl,rfl⟩,q1⟩:=q1;obtain⟨a,dx,fs,rfl,e1,mm,f⟩:=FVc.obj (.inl fv);refine⟨a,dx,fs,rfl,e1,m9 (by rw [mm];exact hm),hr A ρ1 σ H1 _ _ R1 q1 λvs H2 as ρ2 q2 f2 R2 o2=>?_⟩
  split at q2
  .rename_i es e3;rw [Eo];exact⟨OO A ρ2 σ,_::es,_,R2.dom2,.cons (fv.keeps f2.keeps) (o2.avD e3),q2,λr qr v H' g ov=>k v H' r ρ2 qr ((f1.trans f2).trans g.fr) ((ov.out R2 g).h0 λb z=>f2.dm b (f1.dm b z))⟩
  .exact q2.elim
 .exact q1.elim
abbrev xR:R2:=rI0 λi j=>.int (i - j)
abbrev Hv:R2:=rI (λ_ j=>0<j) λi j=>.int (i % j)
abbrev Hw:R2:=rI I0 λi j=>.int (i / j)
abbrev JQ:R2:=rI0 λi j=>.bl (decide (j<i))
abbrev JR:R2:=rI0 λi j=>.bl (decide (j<=i))
abbrev Hx:V->Hp->VK->Prop:=rU λi=>.int (-i)
abbrev fGt:F2:=fI0 λi j=>.bl (decide (j<i))
noncomputable def KL:D->(PV->Prop)->Prop
 | .int i,Q=>Q (.dat (.int (-i)))
 | _,_=>False
def qX:OpR X (binaryOp .Sub) xR:=Ge
def uS:OpR X (binaryOp .Mod) Hv:=Gg
def tw:OpR X (binaryOp .FloorDiv) Hw:=DX
def yr:OpR X (compareOp .Gt) JQ:=Je
def Hy:OpR X (compareOp .GtE) JR:=Jf
def zN:LU K Hx KL:=by
 intro O H x a Q Q' dom fx q k;unfold KL at q
 split at q
 .rename_i i;exact⟨i,fx.int,k _ H _ q (Gr.refl _) (.int _)⟩
 .exact q.elim
variable {es:List Expr}{pos:Pos}
def kc{ct:Nat}{tp:Pos}(K:b_)(e:X.K=K){a:Expr}{ta:TA}{p:Pos}(hg:Gl X "enumerate")(hm:X.mg "enumerate"=none)(ha:PA X [a] ta)(hs:starEach [a] X.env=[(false,eval a X.env)]:=by rfl):
  PI X (.Tuple es ct tp) (.Call (.Name "enumerate" p) [a] [] pos) (zl K ta):=by subst e;exact Et hg hm ha hs
def uT{ct:Nat}{tp:Pos}(K:b_)(e:X.K=K){a b:Expr}{ta:TA}{p:Pos}(hg:Gl X "zip")(hm:X.mg "zip"=none)(ha:PA X [a,b] ta)(hs:starEach [a,b] X.env=[(false,eval a X.env),(false,eval b X.env)]:=by rfl)(hs2:starEach [b] X.env=[(false,eval b X.env)]:=by rfl):
  PI X (.Tuple es ct tp) (.Call (.Name "zip" p) [a,b] [] pos) (zp K ta):=by subst e;exact Eu hg hm ha hs hs2
def dH{fs:List Nat}(h:∀k∈fs,k∈zG ix)(hi:(zG ix).contains i=false):fs.contains i=false:=by
 cases e:fs.contains i with
 | false=>rfl
 | true =>
  have:=h i (M1.mp e);rw [M1.mpr this] at hi;cases hi
def o5(t:Value)(b c:Bool)(h1:Mn K t (.type "list")=some b)(h2:Mn K t (.type "tuple")=some c):Ny K t [.type "list",.type "tuple"]=some (b || c):=by
 simp only [Ny,h1,h2];cases b <;> cases c <;> rfl
noncomputable def Hz(c:FN)(es:List D)(pr:PTA):PTE:=λρ Q=>pr ρ λas ρ1=>match avD as with
 | some ds=>c (ds++es) λr=>Q r ρ1
 | none=>False
def BQ{c:FN}{vs0:List V}(hd:∀{O:Addr->Prop}{H:Hp},FVs K O H vs0 ds)(h:LAs K tr pr):LE K (df (spP K c) vs0 E0 tr) (Hz c ds pr):=λA ρ σ H Q Q' R q k=>h A ρ σ H _ _ R q λvs H1 as ρ1 q1 f1 R1 o1=>by
 split at q1
 .rename_i es e;exact⟨OO A ρ1 σ,_,_,R1.dom2,(o1.avD e).append hd,q1,λr qr v H' g ov=>k v H' r ρ1 qr (f1.trans g.fr) ((ov.out R1 g).h0 f1.dm)⟩
 .exact q1.elim
def JS{c:FN}(hn:∀ds Q,c ds Q->ds.length=n){Q:VK}{E:XK}(h:spP K c vs H Q E):vs.length=n:=by
 obtain⟨O,ds,Qc,_,f,hq,_⟩:=h;rw [f.length];exact hn ds Qc hq
def JT{c:FR}(hn:∀p ds Q,c p ds Q->ds.length+1=n){Q:VK}{E:XK}(h:spR K c vs H Q E):vs.length=n:=by
 obtain⟨A,a,p,ws,ds,Qc,rfl,_,_,_,_,f,hq,_⟩:=h;rw [length_cons,f.length];exact hn p ds Qc hq
abbrev IR(pp:PTS)(n:Nat)(ds:List D)(Q:PV->Prop):Prop:=pp { nx:=λ_=>Q (.dat .non),rt:=λp _=>Q p } (dC n (ds.map .dat))
abbrev JU(pp:PTS)(n:Nat)(p:PV)(ds:List D)(Q:PV->PV->Prop):Prop:=pp { nx:=FC Q (.dat .non),rt:=FC Q } (dC n (p::ds.map .dat))
end L2
namespace L2
variable {K:b_}{k:Nat}
def Cal.imp{P:PySem.Program}{w:PySem.World}{mg:PySem.Str->Option PySem.Value}{base:PySem.Heap}{x:PySem.Str}{ps:List PySem.Str}{sp sp':Sp}(C:Cal P w K mg base k x ps sp)(h:∀vs H Q E,sp' vs H Q E->sp vs H Q E):Cal P w K mg base k x ps sp':=by
 obtain⟨f,fd,F,r⟩:=C.ex;exact⟨f,fd,F.imp h,r⟩
end L2
namespace L2
open PySem PySem.Spec PyProof.Rows
variable {ix:List (Option Nat)}{ρ1:PSt}{n:Nat}{it:Nat->D}{pe:PTE}
def cfm{g:PTG}{pt:PTT}{Q:PKt}(T:PSt->Prop)(f:Nat->Option D)(h0:T (bA ix ρ1))(hs:∀k τ d,k<n->d=it k->T τ->∀(K1:D->PSt->Prop) (K2:PSt->Prop),(∀d τ',f k=some d->T τ'->K1 d τ')->(∀τ',f k=none->T τ'->K2 τ')->g (.dat d) τ λτ2=>pt τ2 λok τ3=>il ok (pe τ3 λp τ4=>K1 p.d τ4) (K2 τ3))(hq:∀τ,T τ->Q (.own ((c_ n).filterMap f)) (eW ix ρ1 τ)):
  o0 ix ρ1 n it g pt pe Q:=by
 refine⟨λk ys τ=>ys=(c_ k).filterMap f/\T τ,⟨rfl,h0⟩,λk ys τ dd hk ed ⟨e,t⟩=>?_,λys τ ⟨e,t⟩=>by rw [e];exact hq τ t⟩
 have r:(c_ (k+1)).filterMap f=(c_ k).filterMap f++(f k).toList:=by
  rw [range_succ,filterMap_append]
  cases e:f k with
  | none=>rw [show [k].filterMap f=[] by simp [e]];rfl
  | some d=>rw [show [k].filterMap f=[d] by simp [e]];rfl
 refine hs k τ dd hk ed t (λd τ'=>(ys++[d]=(c_ (k+1)).filterMap f/\T τ')) (λτ'=>(ys=(c_ (k+1)).filterMap f/\T τ')) (λd τ' h t'=>⟨?_,t'⟩) (λτ' h t'=>⟨?_,t'⟩)
 .rw [r,e,h];rfl
 .rw [r,e,h];simp
def yt{g:PTG}{Q:PKt}(T:PSt->Prop)(f:Nat->D)(h0:T (bA ix ρ1))(hs:∀k τ d,k<n->d=it k->T τ->∀K1:D->PSt->Prop,(∀τ',T τ'->K1 (f k) τ')->g (.dat d) τ λτ2=>pe τ2 λp τ4=>K1 p.d τ4)(hq:∀τ,T τ->Q (.own ((c_ n).map f)) (eW ix ρ1 τ)):
  o0 ix ρ1 n it g zF pe Q:=by
 refine cfm T (λk=>some (f k)) h0 (λk τ d hk ed t K1 K2 k1 k2=>?_) λτ t=>?_
 .exact hs k τ d hk ed t K1 λτ' t'=>k1 _ τ' rfl t'
 .have:(c_ n).filterMap (λk=>some (f k))=(c_ n).map f:=by rw [<- filterMap_eq_map];rfl
  rw [this];exact hq τ t
variable {β:Type}
def jr(f:Nat->β)(l:List Nat):(c_ l.length).map (λk=>f (l.getD k 0))=l.map f:=by
 apply Nz;intro i;rw [h_,h_]
 by_cases h:i<l.length
 .rw [H_ h];show some (f (l.getD i 0))=_;rw [cn,cx h];rfl
 .rw [u_ (by rw [length_range];omega),u_ (by omega)];rfl
noncomputable def pw(ws:List (List Nat))(k:Nat):List Nat:=ws.getD k []
variable {ws:List (List Nat)}{k:Nat}
def bR(h:k<ws.length):ws[k]?=some (pw ws k):=by unfold pw;rw [cn,cx h];rfl
def bN(h:k<ws.length):pw ws k∈ws:=y_ (bR h)
def jt(h:k<(ws.map D.str).length):itD (ws.map D.str) k=.str (pw ws k):=i4 (by rw [h_,bR (by rwa [length_map] at h)];rfl)
def bV{i:Int}(h:k<ws.length)(e:i=(k:Int)):atI (ws.map D.str) i=some (.str (pw ws k)):=c9 (j:=k) (by rw [h_,bR h];rfl) e
variable {l:List Nat}
def tD(h:k<l.length):l.take (k+1)=l.take k++[l.getD k 0]:=by
 rw [O4,cn,cx h];rfl
noncomputable def Pc(m:Nat)(w:List Nat):Prop:=0<w.length/\w.length<=m/\Lts w
noncomputable def Pcs(m:Nat)(ws:List (List Nat)):Prop:=∀w∈ws,Pc m w
noncomputable def ltB(c:Nat):Bool:=decide (97<=c) && decide (c<=122)
noncomputable def BR:D->Int->Int->Bool
 | .str l,a,b=>(decide (a<=(l.length:Int)) && decide ((l.length:Int)<=b)) && l.all ltB
 | _,_,_=>false
def qY(l:List Nat)(a b:Int):BR (.str l) a b=((decide (a<=(l.length:Int)) && decide ((l.length:Int)<=b)) && l.all ltB):=rfl
noncomputable def JV:D->Nat
 | .str l=>l.length
 | _=>0
def EO:l.all ltB=true ↔ Lts l:=by
 rw [MU];unfold Lts ltB
 constructor
 .intro h c hc;have:=h c hc;rw [and_eq_true,decide_eq_true_eq,decide_eq_true_eq] at this;exact this
 .intro h c hc;rw [and_eq_true,decide_eq_true_eq,decide_eq_true_eq];exact h c hc
def zO{w:List Nat}:BR (.str w) 1 60=true ↔ Pc 60 w:=by
 unfold BR Pc;rw [and_eq_true,and_eq_true,decide_eq_true_eq,decide_eq_true_eq,EO]
 constructor
 .rintro⟨⟨h1,h2⟩,h3⟩;exact⟨by omega,by omega,h3⟩
 .rintro⟨h1,h2,h3⟩;exact⟨⟨by omega,by omega⟩,h3⟩
def lS(ls:List Nat):(ls.map λc=>[c]).flatten=ls:=by
 induction ls with
 | nil=>rfl
 | cons c r ih=>rw [map_cons,flatten_cons,ih];rfl
def BS(ls:List Nat):ls.map (λc=>D.str [c])=(ls.map λc=>[c]).map D.str:=by rw [map_map];rfl
def uU(i j:Nat):(!decide (([j]:List Nat)<[i]))=decide (i<=j):=by
 by_cases h:i<=j
 .rw [decide_eq_true h]
  have:¬ ([j]:List Nat)<[i]:=by
   rw [Mh]
   rintro (z|⟨_,z⟩)
   .omega
   .exact absurd z (List.lt_irrefl _)
  rw [decide_eq_false this];rfl
 .rw [decide_eq_false h]
  have:([j]:List Nat)<[i]:=by
   rw [Mh];exact .inl (by omega)
  rw [decide_eq_true this];rfl
theorem qZ:∀ns:List Int,D.pys (ns.map .int)=ns.map OB
 | []=>rfl
 | n::r=>by rw [map_cons,map_cons,<- qZ r];rfl
theorem qe:∀ns:List Int,D.plains (ns.map .int)=true
 | []=>rfl
 | n::r=>by rw [map_cons];show (true && D.plains (r.map .int))=true;rw [qe r];rfl
noncomputable def Sh(d:D):Prop:=d.plain=true/\MI d.py=true
def CU.of{a b:D}(h:Sh a)(h':Sh b):CU a b:=⟨h.1,h'.1,h.2,h'.2⟩
def Sh.lstI(ns:List Int):Sh (.lst (ns.map .int)):=⟨qe ns,by show MI (.list (D.pys _))=true;rw [qZ];exact (ze.list (zg ns)).shaped (by decide)⟩
variable {α:Type}
def q0(c:α)(n:Nat):sx [c] (n:Int)=q_ n c:=by
 unfold sx;rw [toNat_natCast]
 induction n with
 | zero=>rfl
 | succ n ih=>rw [replicate_succ,flatten_cons,ih];rfl
noncomputable def o7(sep:List Nat):List (List Nat)->List Nat
 | []=>[]
 | [w]=>w
 | w::v::r=>w++sep++o7 sep (v::r)
theorem zP(sep:List Nat):∀ws:List (List Nat),PySem.Str.join (S sep) (ws.map S)=S (o7 sep ws)
 | []=>rfl
 | [w]=>rfl
 | w::v::r=>by
  show S w++S sep++PySem.Str.join (S sep) ((v::r).map S)=S (w++sep++o7 sep (v::r));rw [zP sep (v::r),Bx,Bx]
theorem tE(sep:List Nat):∀ws:List (List Nat),(o7 sep ws).length<=ws.flatten.length+ws.length*sep.length
 | []=>K_ _
 | [w]=>by show w.length<=_;rw [flatten_cons,flatten_nil,Eo];omega
 | w::v::r=>by
  have ih:=tE sep (v::r);show (w++sep++o7 sep (v::r)).length<=_;rw [flatten_cons,length_append,length_append,length_append];rw [length_cons (as:=v::r),succ_mul];omega
variable {K:b_}
noncomputable def C5(K:b_):V->List V->Hp->VK->Prop:=λx xs H Q=>∃(p:Addr) (sep:List Nat) (ws:List (List Nat)),x=.str (S sep)/\xs=[.ref p]/\SqL K H p (ws.map tx)/\ws.flatten.length+ws.length*sep.length<=1000000/\Q (.str (S (o7 sep ws))) H
variable {X:Cx}
def wO(K:b_)(e:X.K=K):MtR X "str.join" (C5 K):=by
 subst e;intro pins s σ H x xs v us Q I rx rs h;obtain⟨p,sep,ws,rfl,rfl,hS,hz,q⟩:=h;obtain⟨t,rfl⟩:=rx;obtain⟨u,rfl,ru⟩:=ie rs;cases (show u=n_ p from ru);obtain⟨its,rv,pl,_⟩:=I.list hS
 refine join_list pl.isList (by simpa using zo rv) ?_ λt' k=>?_
 .rw [map_map,fL]
  have e1:(ws.map ((λy:Str=>y.length) ∘ S)).sum=ws.flatten.length:=by
   rw [length_flatten];exact congrArg List.sum (MD λw _=>fL w)
  rw [e1];simp only [length_map];omega
 .refine⟨.str (S (o7 sep ws)),H,I.tok _,⟨t',?_⟩,q⟩;rw [<- zP];exact congrArg (λz=>NY z t') (StrLaws.glued_eq_join _ _)
noncomputable def C6:FM
 | [],[.lst ds],Q=>∃ws:List (List Nat),ds=ws.map .str/\ws.flatten.length<=1000000/\Q (.dat (.str ws.flatten))
 | c::sep,[.lst ds],Q=>∃ws:List (List Nat),ds=ws.map .str/\ws.flatten.length+ws.length*(c::sep).length<=1000000/\Q (.dat (.str (o7 (c::sep) ws)))
 | _,_,_=>False
theorem tF:∀ws:List (List Nat),o7 [] ws=ws.flatten
 | []=>rfl
 | [w]=>by show w=w++[];rw [Eo]
 | w::v::r=>by show w++[]++o7 [] (v::r)=_;rw [tF (v::r),Eo];rfl
def wP:LM K (C5 K) C6:=by
 intro O H l xs as Q Q' dom hl fs q k;unfold C6 at q
 split at q
 .obtain⟨ws,rfl,hw,q⟩:=q
  cases fs with
  | cons a b =>
   cases b;obtain⟨p,ys,rfl,e1,f1⟩:=a.lst;rw [f1.strs] at e1;refine⟨p,[],ws,rfl,rfl,SqL.of e1,by rw [length_nil,mul_zero];exact hw,?_⟩;rw [tF];exact k _ H _ q (Gr.refl _) (.str _ hw)
 .obtain⟨ws,rfl,hw,q⟩:=q
  cases fs with
  | cons a b =>
   cases b;obtain⟨p,ys,rfl,e1,f1⟩:=a.lst;rw [f1.strs] at e1;exact⟨p,_,ws,rfl,rfl,SqL.of e1,hw,k _ H _ q (Gr.refl _) (.str _ (p_ (tE _ _) hw))⟩
 .exact q.elim
noncomputable def zQ(neg:Bool):R2:=λx y H Q=>∃a b,x=.ref a/\y=.ref b/\H a=some (.dK [])/\H b=some (.dK [])/\Q (.bl (!neg)) H
def BU(hu:X.A.units+64<cLine):OpR X (compareOp .Eq) (zQ false):=by
 intro pins s σ H x y v u Q I rx ry ⟨a,b,e1,e2,h1,h2,q⟩;subst e1 e2;cases rx;cases ry;obtain⟨_,y1,vs,r1,p1⟩:=(show cf X.prog X.w H s.heap a (.dK []) from I.hok a _ h1)
 obtain⟨_,y2,ws,r2,p2⟩:=(show cf X.prog X.w H s.heap b (.dK []) from I.hok b _ h2)
 cases r1;cases r2;exact PySem.W.keq_eq (r:=true) y1 y2 p1 p2 (by omega) (λ_=>.nil) ⟨.bl true,H,I,rfl,q⟩
def BV(hu:X.A.units+64<cLine):OpR X (compareOp .NotEq) (zQ true):=by
 intro pins s σ H x y v u Q I rx ry ⟨a,b,e1,e2,h1,h2,q⟩;subst e1 e2;cases rx;cases ry;obtain⟨_,y1,vs,r1,p1⟩:=(show cf X.prog X.w H s.heap a (.dK []) from I.hok a _ h1)
 obtain⟨_,y2,ws,r2,p2⟩:=(show cf X.prog X.w H s.heap b (.dK []) from I.hok b _ h2)
 cases r1;cases r2;exact PySem.W.keq_ne (r:=true) y1 y2 p1 p2 (by omega) (λ_=>.nil) ⟨.bl false,H,I,rfl,q⟩
noncomputable def zR(K:b_)(neg:Bool):R2:=λx y H Q=>GW K neg x y H Q\/zQ neg x y H Q
def ju(K:b_)(e:X.K=K)(hu:X.A.units+64<cLine):OpR X (compareOp .Eq) (zR K false):=OpR.or (Ld K e hu) (BU hu)
def zS(K:b_)(e:X.K=K)(hu:X.A.units+64<cLine):OpR X (compareOp .NotEq) (zR K true):=OpR.or (Le K e hu) (BV hu)
noncomputable def KM:F2
 | .dic [] [],.dic [] [],Q=>Q (.dat (.bl true))
 | a,b,Q=>fEq a b Q
noncomputable def KN:F2
 | .dic [] [],.dic [] [],Q=>Q (.dat (.bl false))
 | a,b,Q=>fNe a b Q
variable {O:Addr->Prop}{H:Hp}{v:V}
def FVc.dic0(h:FVc K O H v (.dic [] [])):∃a,v=.ref a/\H a=some (.dK []):=by
 obtain⟨a,kvs,rfl,e,m,f⟩:=h.dic
 cases kvs with
 | nil=>exact⟨a,rfl,e⟩
 | cons x r=>cases m
def eF:LO K (zR K false) KM:=by
 intro O H x y a b Q Q' dom fx fy q k;unfold KM at q
 split at q
 .obtain⟨a,rfl,e1⟩:=fx.dic0;obtain⟨b,rfl,e2⟩:=fy.dic0;exact .inr ⟨a,b,rfl,rfl,e1,e2,k _ H _ q (Gr.refl _) (.bl _)⟩
 .exact .inl (JE O H x y _ _ Q Q' dom fx fy q k)
def tG:LO K (zR K true) KN:=by
 intro O H x y a b Q Q' dom fx fy q k;unfold KN at q
 split at q
 .obtain⟨a,rfl,e1⟩:=fx.dic0;obtain⟨b,rfl,e2⟩:=fy.dic0;exact .inr ⟨a,b,rfl,rfl,e1,e2,k _ H _ q (Gr.refl _) (.bl _)⟩
 .exact .inl (JF O H x y _ _ Q Q' dom fx fy q k)
noncomputable def HA:D->Bool
 | .int _=>true
 | _=>false
noncomputable def JW:D->Bool
 | .lst _=>true
 | .tup _=>true
 | _=>false
noncomputable def EQ(K:b_):List V->Hp->VK->Prop:=λxs H Q=>∃(p:Addr) (ns:List Int),xs=[.ref p]/\SqL K H p (ns.map V.int)/\0<ns.length/\∀m:Int,m∈ns->(∀a∈ns,a<=m)->Q (.int m) H
def HB(K:b_)(e:X.K=K)(hc:X.calm=true):bK X (.builtin "max") (EQ K):=by
 subst e;intro pins s σ H xs us Q I r h;obtain⟨p,ns,rfl,hS,hne,q⟩:=h;obtain⟨u,rfl,ru⟩:=ie r;cases (show u=n_ p from ru);obtain⟨its,rv,pl,hz⟩:=I.list hS;have hi:=dZ rv;have hl:=pl.isList;obtain⟨ys,e⟩:=hi.allInts.items;have hns:ns=ys.toList.map (·.1):=by rw [<- hi.numsOf,<- nums_intItems,<- e]
 have hsz:0<ys.size:=by
  have h3:=hne;rw [hns,length_map,we] at h3;exact h3
 rw [e] at hl;refine max_intList (by exact I.ok.hd hc) hl hsz λv h' tk hv hk=>?_;obtain⟨t,rfl⟩:=intItems_at hv;obtain⟨h1,h2⟩:=argBest_gt (numAt ys) (ys.size - 1)
 refine⟨.int _,H,I.kept (t':=tk) hk,⟨t,rfl⟩,q _ ?_ λa ha=>?_⟩
 .rw [hns,numAt_eq];exact getD_mem (by rw [length_map,we];omega)
 .rw [hns] at ha;obtain⟨j,hj,rfl⟩:=mem_getD ha;rw [length_map,we] at hj;rw [<- numAt_eq];exact h2 j (by omega)
noncomputable def HC:FN
 | [.lst ds],Q=>∃ns:List Int,ds=ns.map .int/\0<ns.length/\∀m:Int,m∈ns->(∀a∈ns,a<=m)->Q (.dat (.int m))
 | _,_=>False
def ER:LC K (EQ K) HC:=by
 intro O H xs as Q Q' dom fs q k;unfold HC at q
 split at q
 .obtain⟨ns,rfl,h0,q⟩:=q
  cases fs with
  | cons a b =>
   cases b;obtain⟨p,ys,rfl,e1,f1⟩:=a.lst;rw [f1.ints] at e1;exact⟨p,ns,rfl,SqL.of e1,h0,λm h1 h2=>k _ H _ (q m h1 h2) (Gr.refl _) (.int _)⟩
 .exact q.elim
noncomputable def HD(K:b_):List V->Hp->VK->Prop:=λxs H Q=>∃(p:Addr) (ns:List Int),xs=[.ref p]/\SqL K H p (ns.map V.int)/\ns.length<64/\∀ns':List Int,ns'.Perm ns->ns'.Pairwise (·<=·)->∀q,H q=none->Q (.ref q) (upd H q (.lst (ns'.map V.int)))
def ES(K:b_)(e:X.K=K):bK X (.builtin "sorted") (HD K):=by
 subst e;intro pins s σ H xs us Q I r h;obtain⟨p,ns,rfl,hS,hne,q⟩:=h;obtain⟨u,rfl,ru⟩:=ie r;cases (show u=n_ p from ru);obtain⟨its,rv,pl,hz⟩:=I.list hS;have hi:=dZ rv;have hlen:its.length=ns.length:=by have:=rv.length;rw [length_map] at this;exact this.symm
 refine sorted_ints pl.isList hi (by omega) λout ns' ho hp hs=>?_;obtain⟨e,he⟩:=sortedAll_at s.heap its out;have hle:s.heap.objs.size<=s.heap.objs.size+1:=le_succ _;refine⟨.ref (s.heap.objs.size+1),_,I.laid (a:=s.heap.objs.size+1) (o:=.lst (ns'.map V.int)) (t':=s.toks) (λb o z=>sortedAll_old z) hle ?_,rfl,q ns' hp hs _ (I.hok.fresh hle)⟩;refine⟨?_,out.toList,e,jZ ho,he⟩;rw [length_map,hp.length_eq]
 exact sz _ (by omega)
noncomputable def C7(i:Nat)(pe:PTE):PTE:=λρ Q=>match ρ[i]? with
 | some (some (.own _))=>pe ρ λp ρ1=>(match ρ1[i]?,p with
  | some (some (.own ds)),.dat (.int j)=>∃k d,(ixN ds.length j=some k/\ds.length<=1000000)/\ds[k]?=some d/\Q (.dat d) (ρ1.set i (some (.own (ds.eraseIdx k))))
  | _,_=>False)
 | _=>False
theorem FVs.eraseIdx:∀{xs:List V}{ds:List D} (k:Nat),FVs K O H xs ds->FVs K O H (xs.eraseIdx k) (ds.eraseIdx k)
 | _,_,_,.nil=>.nil
 | _,_,0,.cons a b=>b
 | _,_,k+1,.cons a b=>.cons a (FVs.eraseIdx k b)
variable {te:TE}{i:Nat}
def BW(h:LE K te pe):LE K (tBM K "list" CP (aF i) (aG te cP)) (C7 i pe):=λA ρ σ H Q Q' R q k=>by
 unfold C7 at q
 split at q
 .rename_i ds0 e0;obtain⟨a0,xs0,s0,g0,f0⟩:=R.ownAt e0;refine⟨_,s0,.inl ⟨rfl,xs0,SqL.of g0⟩,h A ρ σ H _ _ R q λv H1 p ρ1 q1 f1 o1=>?_⟩;obtain⟨R1,fv⟩:=o1.frz
  split at q1
  .rename_i ds j e1;obtain⟨a,xs,s,g,f⟩:=R1.ownAt e1;rw [s0] at s;cases s;obtain⟨m,d,⟨hm,hl⟩,hd,q1⟩:=q1;obtain⟨w,hw,fw⟩:=f.getD hd;cases (show FV K _ H1 v (.int j) from fv);obtain⟨t1,t2,t3,t4⟩:=uB hm;obtain⟨R2,f2⟩:=R1.lstw (es:=ds.eraseIdx m) (ys:=xs.eraseIdx m) e1 s0 (f.eraseIdx m);have hx:xs.length=ds.length:=f.length;exact⟨a0,xs,j,m,w,rfl,rfl,g,by omega,by omega,by rw [hx];exact t1,hw,k _ _ _ _ q1 (f1.trans f2) ⟨R2,(fw.keeps f2.keeps)⟩⟩
  .exact q1.elim
 .exact q.elim
abbrev lc2(elt t1 i1:Expr)(f1:List Expr)(t2 i2:Expr)(f2:List Expr)(scope:Scope)(pos:Pos):Expr:=.ListComp elt [⟨t1,i1,f1,0⟩,⟨t2,i2,f2,0⟩] scope pos
noncomputable def xS(e i2:Expr)(acc:Value)(env:Env):Sem Unit:=do
 let x <- eval i2 env
 standAt i2.pos
 let x <- foldedSetIterable i2 env x
 let _ <- runOwn (.compStart e 1 (<- holding [x] (pyIter x)) acc env) env
noncomputable def zT(elt:Expr)(acc:Value)(env:Env):Sem Unit:=do let _ <- call (.builtin "list.append") [acc,<- eval elt env]
theorem xT(elt t1 i1:Expr)(f1:List Expr)(t2 i2:Expr)(f2:List Expr)(scope:Scope)(pos:Pos)(it acc:Value)(env:Env):
  compTurn (lc2 elt t1 i1 f1 t2 i2 f2 scope pos) 0 it acc env=(do
   standAt i1.pos
   match <- pyNext it with
   | none=>pure (.done .next)
   | some v =>
    letOwnedTupleGo t1 it v
    assign t1 env v
    let mut ok:=true
    for c in f1 do
     if ok then ok <- isTrue c env (eval c env)
    if ok then
     let x <- eval i2 env
     standAt i2.pos
     let x <- foldedSetIterable i2 env x
     let _ <- runOwn (.compStart (lc2 elt t1 i1 f1 t2 i2 f2 scope pos) 1 (<- holding [x] (pyIter x)) acc env) env
    again (.compLoop (lc2 elt t1 i1 f1 t2 i2 f2 scope pos) 0 it acc env)):=by rfl
def xU(e i2:Expr)(acc:Value)(env:Env)(k:Sem α):(eval i2 env >>= λx=>standAt i2.pos >>= λ_=>foldedSetIterable i2 env x >>= λx=>holding [x] (pyIter x) >>= λit=>runOwn (.compStart e 1 it acc env) env >>= λ_=>k)=(xS e i2 acc env >>= λ_=>k):=by
 unfold xS;simp only [bind_assoc,pure_bind]
theorem xV(elt t1 i1:Expr)(f1:List Expr)(t2 i2:Expr)(f2:List Expr)(scope:Scope)(pos:Pos)(it acc:Value)(env:Env):
  compTurn (lc2 elt t1 i1 f1 t2 i2 f2 scope pos) 1 it acc env=(do
   standAt i2.pos
   match <- pyNext it with
   | none=>pure (.done .next)
   | some v =>
    letOwnedTupleGo t2 it v
    assign t2 env v
    let mut ok:=true
    for c in f2 do
     if ok then ok <- isTrue c env (eval c env)
    if ok then
     (zT elt acc env)
    again (.compLoop (lc2 elt t1 i1 f1 t2 i2 f2 scope pos) 1 it acc env)):=by rfl
variable {prog:tj}{w:World}{A:A_}{R:Result->d_->Prop}{s:d_}{scope:Scope}{pos:Pos}{env:Env}
theorem o8{elt t1 i1 t2 i2:Expr}{f1 f2:List Expr}{it acc:Value}(I:Nat->d_->Prop)(turn:∀n s,I n s->wpAny (model prog w) A (pyNext it) (λr s₁=>match r with
   | none=>R (.ok .next) s₁
   | some v=>wpAny (model prog w) A (letOwnedTupleGo t1 it v) (λ_ s₂=>wpAny (model prog w) A (assign t1 env v) (λ_ s₃ =>
     wpAny (model prog w) A (forIn f1 true λc r=>if r=true then do let ok <- isTrue c env (eval c env);pure (LV ok) else pure (LV r)) (λok s₄ =>
      if ok=true then wpAny (model prog w) A (xS (lc2 elt t1 i1 f1 t2 i2 f2 scope pos) i2 acc env) (λ_ s₆=>∃m,m<n/\I m s₆) (λ_ _=>False) s₄
      else ∃m,m<n/\I m s₄) (λ_ _=>False) s₃) (λ_ _=>False) s₂) (λ_ _=>False) s₁) (λ_ _=>False) s)(n:Nat)(h:I n s):
  codeAny (model prog w) A (.compLoop (lc2 elt t1 i1 f1 t2 i2 f2 scope pos) 0 it acc env) R s:=by
 refine codeAny_loop rfl I (λn s hI=>?_) n h;show wpAny _ A ((compTurn (lc2 elt t1 i1 f1 t2 i2 f2 scope pos) 0 it acc env).onRaise (λx=>do noteFrame x env;theTreesLotGoes x)) _ _ s;refine wpAny_noted ?_;rw [xT];refine cy (Me (cy (Lr (turn n s hI) (λr s₁ h₁=>?_) λ_ _ h'=>h'.elim)))
 cases r with
 | none=>exact g_ h₁
 | some v =>
  refine cy (Lr h₁ (λ_ s₂ h₂=>?_) λ_ _ h'=>h'.elim);refine cy (Lr h₂ (λ_ s₃ h₃=>cy (Lr h₃ (λok s₄ h₄=>?_) λ_ _ h'=>h'.elim)) λ_ _ h'=>h'.elim)
  cases ok with
  | false=>exact g_ ⟨rfl,h₄⟩
  | true =>
   have e:=xU (lc2 elt t1 i1 f1 t2 i2 f2 scope pos) i2 acc env (again (.compLoop (lc2 elt t1 i1 f1 t2 i2 f2 scope pos) 0 it acc env));show wpAny _ _ (eval i2 env >>= λx=>standAt i2.pos >>= λ_=>foldedSetIterable i2 env x >>= λx=>holding [x] (pyIter x) >>= λit'=>runOwn (.compStart (lc2 elt t1 i1 f1 t2 i2 f2 scope pos) 1 it' acc env) env >>= λ_=>again (.compLoop (lc2 elt t1 i1 f1 t2 i2 f2 scope pos) 0 it acc env)) _ _ _
   rw [e];exact cy (Lr h₄ (λ_ s₆ h₆=>g_ ⟨rfl,h₆⟩) λ_ _ h'=>h'.elim)
theorem o9{elt t1 i1 t2 i2:Expr}{f1 f2:List Expr}{it acc:Value}(I:Nat->d_->Prop)(turn:∀n s,I n s->wpAny (model prog w) A (pyNext it) (λr s₁=>match r with
   | none=>R (.ok .next) s₁
   | some v=>wpAny (model prog w) A (letOwnedTupleGo t2 it v) (λ_ s₂=>wpAny (model prog w) A (assign t2 env v) (λ_ s₃ =>
     wpAny (model prog w) A (forIn f2 true λc r=>if r=true then do let ok <- isTrue c env (eval c env);pure (LV ok) else pure (LV r)) (λok s₄ =>
      if ok=true then wpAny (model prog w) A (zT elt acc env) (λ_ s₆=>∃m,m<n/\I m s₆) (λ_ _=>False) s₄
      else ∃m,m<n/\I m s₄) (λ_ _=>False) s₃) (λ_ _=>False) s₂) (λ_ _=>False) s₁) (λ_ _=>False) s)(n:Nat)(h:I n s):
  codeAny (model prog w) A (.compLoop (lc2 elt t1 i1 f1 t2 i2 f2 scope pos) 1 it acc env) R s:=by
 refine codeAny_loop rfl I (λn s hI=>?_) n h;show wpAny _ A ((compTurn (lc2 elt t1 i1 f1 t2 i2 f2 scope pos) 1 it acc env).onRaise (λx=>do noteFrame x env;theTreesLotGoes x)) _ _ s;refine wpAny_noted ?_;rw [xV];refine cy (Me (cy (Lr (turn n s hI) (λr s₁ h₁=>?_) λ_ _ h'=>h'.elim)))
 cases r with
 | none=>exact g_ h₁
 | some v =>
  refine cy (Lr h₁ (λ_ s₂ h₂=>?_) λ_ _ h'=>h'.elim);refine cy (Lr h₂ (λ_ s₃ h₃=>cy (Lr h₃ (λok s₄ h₄=>?_) λ_ _ h'=>h'.elim)) λ_ _ h'=>h'.elim)
  cases ok with
  | false=>exact g_ ⟨rfl,h₄⟩
  | true=>exact cy (Lr h₄ (λ_ s₆ h₆=>g_ ⟨rfl,h₆⟩) λ_ _ h'=>h'.elim)
def kd{elt t1 i1 t2 i2:Expr}{f1 f2:List Expr}{it acc:Value}(h0:codeAny (model prog w) A (.compLoop (lc2 elt t1 i1 f1 t2 i2 f2 scope pos) 1 it acc env) R s)(h:wpAny (model prog w) A (pyIter it) (λit' s'=>codeAny (model prog w) A (.compLoop (lc2 elt t1 i1 f1 t2 i2 f2 scope pos) 1 it' acc env) R s')
   (notedBy (model prog w) A env λx s'=>R (.error x) s') s):
  codeAny (model prog w) A (.compStart (lc2 elt t1 i1 f1 t2 i2 f2 scope pos) 1 it acc env) R s:=by
 refine codeAny_of_tree ?_;show wpAny _ _ ((compStart (lc2 elt t1 i1 f1 t2 i2 f2 scope pos) 1 it acc env).onRaise (λx=>do noteFrame x env;standAt theWindowsPlace)) _ _ s;refine wpAny_notedAt ?_;unfold compStart;show wpAny _ _ (ask >>= _) _ _ s;refine cy (wpAny_askSetting (wpAny_ite ?_))
 split
 .first
   | exact cy (g_ (g_ (r_ rfl h0)))
   | exact g_ (r_ rfl h0)
 .first
   | exact cy (N9 (cy (Me (cy (Lr h (λit' s' h'=>g_ (r_ rfl h')) λ_ _ x=>x)))))
abbrev TB:=St->Hp->(St->Hp->Prop)->Prop
noncomputable def PB(Y:Cx)(emit:Sem Unit)(tb:TB):Prop:=∀(pins:List (Addr×Obj)) (s:d_) (τ:St) (H:Hp) (N:St->Hp->Prop),Inv Y pins τ H s->tb τ H N ->
 wpAny (model Y.prog Y.w) Y.A emit (λ_ s'=>∃τ' H',Inv Y pins τ' H' s'/\N τ' H') (λ_ _=>False) s
noncomputable def BX(te:TE)(D:Addr):TB:=λτ H N=>te τ H λv H6=>∃ys,H6 D=some (.lst ys)/\ys.length<sizeLine/\N τ (upd H6 D (.lst (ys++[v])))
noncomputable def BY(wi:TI)(g:TG)(tts:TT)(tb:TB):TB:=λτ H N=>wi τ H λJ H6=>∃W:Nat->Nat->St->Hp->Prop,(∃n,W 0 n τ H6)/\∀j n τ3 H7,W j n τ3 H7 ->
 (J.stop j H7/\N τ3 H7)\/(J.go j H7/\∀y H8,J.yld j H7 y H8->g y τ3 H8 λτ4 H9=>tts τ4 H9 λok H10=>if ok=true then tb τ4 H10 (λτ5 H11=>∃n',n'<n/\W (j+1) n' τ5 H11) else ∃n',n'<n/\W (j+1) n' τ4 H10)
noncomputable def wQ(ix:List (Option Nat))(wi:TI)(g:TG)(tts:TT)(tb:Addr->TB):TE:=λσ H Q=>wi σ H λJ H1=>∀D,H1 D=none->∃W:Nat->Nat->St->Hp->Prop,(∃m,W 0 m (sP ix σ) (upd H1 D (.lst [])))/\∀i m τ H2,W i m τ H2 ->
 (J.stop i H2/\Q (.ref D) H2)\/(J.go i H2/\∀x H3,J.yld i H2 x H3->g x τ H3 λτ2 H4=>tts τ2 H4 λok H5=>if ok=true then tb D τ2 H5 (λτ6 H6=>∃m',m'<m/\W (i+1) m' τ6 H6)
  else ∃m',m'<m/\W (i+1) m' τ2 H5)
section
variable {Y:Cx}{elt:Expr}{D:Addr}
def zU(hx:Y.xe=λ_ _=>False)(he:PE Y elt te):PB Y (zT elt (.ref D) Y.env) (BX te D):=by
 intro pins s τ H N I h;have h1:=he pins s τ H _ I h;rw [hx] at h1;unfold zT;refine cy (thn h1 λv s1 ⟨x,H1,I1,r1,ys,hD,hz,q⟩=>?_);have h2:=en (X:=Y) pins s1 τ H1 (.ref D) [x] (.ref D) [v] (λ_ H'=>N τ H') I1 rfl (.cons r1 .nil) ⟨D,ys,x,rfl,rfl,hD,hz,q⟩;rw [hx] at h2;exact cy (thn h2 λ_ s2 ⟨_,H2,I2,_,q2⟩=>g_ ⟨τ,H2,I2,q2⟩)
variable {t1 i1 t2 i2:Expr}{f1 f2:List Expr}{wi:TI}{g:TG}{tts:TT}{tb:TB}
def zV(hx:Y.xe=λ_ _=>False)(hc:Y.calm=true)(hi:PI Y t2 i2 wi)(hg:PG Y t2 g)(ht:PIf Y f2 tts)(hb:PB Y (zT elt (.ref D) Y.env) tb)(hs:∀x,foldedSetIterable i2 Y.env x=pure x:=by intro _;rfl):
  PB Y (xS (lc2 elt t1 i1 f1 t2 i2 f2 scope pos) i2 (.ref D) Y.env) (BY wi g tts tb):=by
 intro pins s τ H N I h;have h1:=hi pins s τ H _ I h;rw [hx] at h1;unfold xS;refine cy (thn h1 λv s1 h1=>cy (Me (cy (OM (hs v) (cy (Lu (thn h1 λitv s2 h2=>cy (wpAny_runOwn ?_))))))));obtain⟨it,fp,tn,J,H2,e,I2,T,st2,f2',W,⟨m0,w0⟩,turn⟩:=h2;subst e;have stat:∀{H':Hp},(∀b∈fp,H' b=none)->∀b∈fp,uw Y pins H' b:=λhn b hb=>⟨hn b hb,(f2' b hb).2⟩
 have loop:∀s3:d_,Inv Y pins τ H2 s3->tn 0 s3.heap->codeAny (model Y.prog Y.w) Y.A (.compLoop (lc2 elt t1 i1 f1 t2 i2 f2 scope pos) 1 (.ref it) (.ref D) Y.env)
   (λr s'=>match r with|.ok f=>wpAny (model Y.prog Y.w) Y.A (pure ()) (λ_ s'=>∃τ' H',Inv Y pins τ' H' s'/\N τ' H') (λ_ _=>False) s'|.error e=>cameBackBy (model Y.prog Y.w) Y.A Y.env (λ_ _=>False) e s') s3:=by
  intro s3 I3 st3;refine o9 (λn s'=>∃i τ' H',Inv Y pins τ' H' s'/\tn i s'.heap/\(∀b∈fp,H' b=none)/\W i n τ' H') ?_ m0 ⟨0,τ,H2,I3,st3,λb hb=>(f2' b hb).1,w0⟩;rintro n s5 ⟨i,τ5,H5,I5,st5,fr5,w5⟩
  rcases turn i n τ5 H5 w5 with ⟨stop,qn⟩|⟨go,step⟩
  .refine thn (T.done Y rfl rfl rfl hc i pins s5 τ5 H5 (λ_ _=>False) I5 (stat fr5) st5 stop) λr s6 ⟨hr,I6⟩=>?_;subst hr;exact g_ ⟨τ5,H5,I6,qn⟩
  .refine thn (T.item Y rfl rfl rfl hc i pins s5 τ5 H5 (λ_ _=>False) I5 (stat fr5) st5 go) λr s6 ⟨u,hr,h6⟩=>?_;subst hr;refine thn h6 λ_ s7 ⟨x,H7,I7,r7,y7,st7,fr7⟩=>?_;have I7':=I7.pinned (stat fr7) (T.obj _ _ st7)
   have again:∀{s8:d_}{τ8:St}{H8:Hp},Inv Y (pins++mI fp s7.heap) τ8 H8 s8->(∃m',m'<n/\W (i+1) m' τ8 H8) ->
     ∃m,m<n/\∃i τ' H',Inv Y pins τ' H' s8/\tn i s8.heap/\(∀b∈fp,H' b=none)/\W i m τ' H':=λ{s8 τ8 H8} I8 ⟨m',hm,w8⟩=>by
    refine⟨m',hm,i+1,τ8,H8,I8.unpinned,T.keep _ _ _ st7 λb hb o e=>(I8.pin (b,o) (tf _ (tf _ (cM hb e)))).1,λb hb=>?_,w8⟩;obtain⟨o,e,d⟩:=T.obj _ _ st7 b hb;exact (I8.pin (b,o) (tf _ (tf _ (cM hb e)))).2.1
   have h8:=hg _ s7 τ5 H7 x u _ I7' r7 (step x H7 y7);rw [hx] at h8;refine thn h8 λ_ s8 ⟨τ8,H8,I8,q8⟩=>?_;have h9:=ht _ s8 τ8 H8 _ I8 q8;rw [hx] at h9;refine thn h9 λokb s9 ⟨H9,I9,q9⟩=>?_
   cases okb with
   | false =>
    rw [if_neg l_] at q9;rw [if_neg l_];exact again I9 q9
   | true =>
    rw [if_pos rfl] at q9;rw [if_pos rfl];exact thn (hb _ s9 τ8 H9 _ I9 q9) λ_ s10 ⟨τ10,H10,I10,q10⟩=>again I10 q10
 exact kd (loop _ I2 st2) (T.self Y.A 0 _ _ _ st2 (loop _ I2 st2))
end
variable {elt t1 i1 t2 i2:Expr}{f1 f2:List Expr}{N':List Str}{wi:TI}{g:TG}{tts:TT}{tb:Addr->TB}{pins:List (Addr×Obj)}{σ:St}
def qf{use:Option (Value->Sem Unit)}{Qf:Value->d_->Prop}{p':Pos}{Q:VK}(hc:X.calm=true)(ok:wC X.env X.N scope N' ix)(hi:PI X t1 i1 wi)(blk:∀s H fp pn D,PG (aT X N' scope s H fp pn) t1 g/\PIf (aT X N' scope s H fp pn) f1 tts/\PB (aT X N' scope s H fp pn) (xS (lc2 elt t1 i1 f1 t2 i2 f2 scope pos) i2 (.ref D) (qL scope s.heap.objs.size X.env)) (tb D))(hs:∀x,foldedSetIterable i1 X.env x=pure x)(I:Inv X pins σ H s)(hw:wQ ix wi g tts tb σ H Q)(fin:∀D C H' s',Inv X pins σ H' s'->Q (.ref D) H'->(∃m,s'.heap.Ns C m)->H' C=none->X.s₀.heap.objs.size<=C->C≠X.env.locals->(∀x c,X.env.cells.lookup x=some c->c≠C)->C∉X.fs->(∀p∈X.pn++pins,p.1≠C) ->
   compPost (model X.prog X.w) X.A X.xe use Qf (.ref D) C (.ok .next) s'):
  wpAny (model X.prog X.w) X.A (comprehension (lc2 elt t1 i1 f1 t2 i2 f2 scope pos) scope X.env p' (newList []) false (eval i1 X.env) use) Qf X.xe s:=by
 have hclos:closureFor scope X.env=pure (jq X.env scope.names []):=hG λy hy e=>I.ok.has y.1 (ok.free y hy e).1;refine wpAny_comprehension_free (use:=use) rfl hs hclos ok.kind ok.loc (thn (hi pins s σ H _ I hw) λv s1 h1=>thn h1 λitv s2 h2=>?_);obtain⟨it,fp,tn,J,H2,e,I2,T,st2,fq2,hW⟩:=h2;subst e;obtain⟨W,⟨m0,w0⟩,turn⟩:=hW s2.heap.objs.size (I2.hok.fresh (e_ _))
 have hfl:∀b∈fp,b<s2.heap.objs.size:=λb hb=>by
  obtain⟨o,e,_⟩:=T.obj 0 _ st2 b hb;exact pj e
 refine L4 ?_
 have I3:Inv X pins σ (upd H2 s2.heap.objs.size (.lst [])) { s2 with heap:=s2.heap.push { cls:=.type "list",dict:=none,data:=.seq ([]:List Value).toArray } } :=
  I2.laid (t':=s2.toks) (λb o e=>f_ _ e) (e_ _) (show cf X.prog X.w _ _ _ (.lst []) from ⟨K_ _,[],0,.nil,k_ _ rfl⟩)
 have st3:tn 0 (s2.heap.push { cls:=.type "list",dict:=none,data:=.seq ([]:List Value).toArray }):=T.keep 0 _ _ st2 λb _ o e=>f_ _ e;have f3:∀b∈fp,uw X pins (upd H2 s2.heap.objs.size (.lst [])) b:=λb hb=>⟨by rw [aC (F_ (hfl b hb))];exact (fq2 b hb).1,(fq2 b hb).2⟩
 have hfl3:∀b∈fp,b<(s2.heap.push { cls:=.type "list",dict:=none,data:=.seq ([]:List Value).toArray }).objs.size:=λb hb=>by rw [Lw];exact MM (hfl b hb)
 generalize hs3:({ s2 with heap:=s2.heap.push { cls:=.type "list",dict:=none,data:=.seq ([]:List Value).toArray } }:d_)=s3 at I3 ⊢;have eh3:s3.heap=s2.heap.push { cls:=.type "list",dict:=none,data:=.seq ([]:List Value).toArray }:=by rw [<- hs3]
 rw [<- eh3] at st3 hfl3;generalize hH3:upd H2 s2.heap.objs.size (.lst [])=H3 at I3 f3 w0;generalize hD:s2.heap.objs.size=D at *;refine eA ?_;have I4:=wE ok I3 f3 hfl3;obtain⟨hg,ht,he⟩:=blk s3 H3 fp pins D;have st4:tn 0 (pushCells (s3.heap.push { cls:=.type "dict",data:=.dict #[] }) scope.names):=T.keep 0 _ _ st3 λb _ o e=>NP _ _ b o (f_ _ e)
 have stat:∀{H':Hp},(∀b∈fp,H' b=none)->∀b∈fp,uw (aT X N' scope s3 H3 fp pins) [] H' b:=λhn b hb=>by
  refine⟨hn b hb,F_ (hfl3 b hb),I4.ok.exfs b hb,.inl hb,(I4.ok.exf b hb).2,λp hp=>?_⟩;have hp':p∈X.pn++pins:=by simpa [aT] using hp
  exact (fq2 b hb).2.2.2.2.2 p hp'
 have loop:∀(s4:d_),Inv (aT X N' scope s3 H3 fp pins) [] (sP ix σ) H3 s4->tn 0 s4.heap ->
   codeAny (model X.prog X.w) X.A (.compLoop (lc2 elt t1 i1 f1 t2 i2 f2 scope pos) 0 (.ref it) (.ref D) (qL scope s3.heap.objs.size X.env)) (compPost (model X.prog X.w) X.A X.xe use Qf (.ref D) s3.heap.objs.size) s4:=by
  intro s4 I4 st4;refine o8 (λn s'=>∃i τ H',Inv (aT X N' scope s3 H3 fp pins) [] τ H' s'/\tn i s'.heap/\(∀b∈fp,H' b=none)/\W i n τ H') ?_ m0 ⟨0,_,H3,I4,st4,λb hb=>(f3 b hb).1,w0⟩;rintro n s5 ⟨i,τ,H5,I5,st5,fr5,w5⟩
  rcases turn i n τ H5 w5 with ⟨stop,qn⟩|⟨go,step⟩
  .refine thn (T.done (aT X N' scope s3 H3 fp pins) rfl rfl rfl hc i [] s5 τ H5 (λ_ _=>False) I5 (stat fr5) st5 stop) λr s6 ⟨hr,I6⟩=>?_;subst hr;have I7:Inv X pins σ H5 s6:=I3.call' (ch:=fp) I6.os I6.base I6.hok I6.bare λb hb=>⟨(fq2 b hb).2.2.2.1,(fq2 b hb).2.1,(fq2 b hb).2.2.2.2.1,(fq2 b hb).2.2.2.2.2⟩
   obtain⟨m6,hn6,_⟩:=I6.loc
   refine fin D s3.heap.objs.size H5 s6 I7 qn ⟨m6,hn6⟩ I6.free ?_ ?_ ?_ ?_ ?_
   .exact I3.sz
   .exact N1 I3.lt
   .intro x c e z;obtain⟨v,q⟩:=I3.cell x c e;have:=q.lt;rw [z] at this;exact E_ _ this
   .exact I3.nofs (e_ _)
   .intro p hp z;have:=pj (I3.pin p hp).1;rw [z] at this;exact E_ _ this
  .refine thn (T.item (aT X N' scope s3 H3 fp pins) rfl rfl rfl hc i [] s5 τ H5 (λ_ _=>False) I5 (stat fr5) st5 go) λr s6 ⟨u,hr,h6⟩=>?_;subst hr;refine thn h6 λ_ s7 ⟨x,H7,I7,r7,y7,st7,fr7⟩=>?_;have I7':=I7.pinned (stat fr7) (T.obj _ _ st7)
   have again:∀{s8:d_}{τ8:St}{H8:Hp},Inv (aT X N' scope s3 H3 fp pins) ([]++mI fp s7.heap) τ8 H8 s8->(∃m',m'<n/\W (i+1) m' τ8 H8) ->
     ∃m,m<n/\∃i τ H',Inv (aT X N' scope s3 H3 fp pins) [] τ H' s8/\tn i s8.heap/\(∀b∈fp,H' b=none)/\W i m τ H':=λ{s8 τ8 H8} I8 ⟨m',hm,w8⟩=>by
    refine⟨m',hm,i+1,τ8,H8,I8.unpinned,T.keep _ _ _ st7 λb hb o e=>(I8.pin (b,o) (tf _ (tf _ (cM hb e)))).1,λb hb=>?_,w8⟩;obtain⟨o,e,d⟩:=T.obj _ _ st7 b hb;exact (I8.pin (b,o) (tf _ (tf _ (cM hb e)))).2.1
   refine thn (hg _ s7 τ H7 x u _ I7' r7 (step x H7 y7)) λ_ s8 ⟨τ8,H8,I8,q8⟩=>?_;refine thn (ht _ s8 τ8 H8 _ I8 q8) λokb s9 ⟨H9,I9,q9⟩=>?_
   cases okb with
   | false =>
    rw [if_neg l_] at q9;rw [if_neg l_];exact again I9 q9
   | true =>
    rw [if_pos rfl] at q9;rw [if_pos rfl];refine thn (he _ s9 τ8 H9 _ I9 q9) λ_ s10 ⟨τ10,H10,I10,q10⟩=>?_;exact again I10 q10
 exact codeAny_compStart_list (loop _ I4 st4) (T.self X.A 0 _ _ _ st4 (loop _ I4 st4))
def BZ{wi2:TI}{g2:TG}{tts2:TT}(N':List Str)(ix:List (Option Nat))(hc:X.calm=true)(hi:PI X t1 i1 wi)(blk:∀s H fp pn,PG (aT X N' scope s H fp pn) t1 g/\PIf (aT X N' scope s H fp pn) f1 tts/\PI (aT X N' scope s H fp pn) t2 i2 wi2/\PG (aT X N' scope s H fp pn) t2 g2/\PIf (aT X N' scope s H fp pn) f2 tts2/\PE (aT X N' scope s H fp pn) elt te)(chk:kR X.env.scope X.N scope N' ix=true)(hs:∀x,foldedSetIterable i1 X.env x=pure x:=by intro _;rfl)(hs2:∀(env:Env) x,foldedSetIterable i2 env x=pure x:=by intro _ _;rfl):
  PE X (.ListComp elt [⟨t1,i1,f1,0⟩,⟨t2,i2,f2,0⟩] scope pos) (wQ ix wi g tts λD=>BY wi2 g2 tts2 (BX te D)):=by
 intro pins s σ H Q I hw;rw [eval_ListComp]
 refine qf (use:=none) hc (j5 chk) hi (λs H fp pn D=>?_) hs I hw λD C H' s' I' q hm hn h1 h2 h3 h4 h5=>?_
 .obtain⟨b1,b2,b3,b4,b5,b6⟩:=blk s H fp pn;exact⟨b1,b2,zV (Y:=aT X N' scope s H fp pn) rfl hc b3 b4 b5 (zU rfl b6) (hs2 _)⟩
 .obtain⟨m,hm⟩:=hm;refine⟨m,hm,λh' sb=>⟨.ref D,H',?_,rfl,q⟩⟩;exact I'.turned (t':=s'.toks) (λb o hb e=>(sb.2 b hb).trans e) hn h2 (.inr h1) h3 h5
variable {H1:Hp}
def kpt{O1 O2:Addr->Prop}{H2:Hp}(a:aI O H O1 H1)(b:aI O1 H1 O2 H2):aI O H O2 H2:=λc o n e=>b c o (a c o n e).1 (a c o n e).2
structure HE (ix:List (Option Nat)) (ρ1:PSt) (n:Nat) (it:Nat->D) (g:PTG) (pt:PTT) (pi2:PTI) (g2:PTG) (pt2:PTT) (pe:PTE) (Q:PKt):Prop where
 ex:∃I:Nat->List D->PSt->Prop,I 0 [] (bA ix ρ1) /\
  (∀k ys τ d,k<n->d=it k->I k ys τ->g (.dat d) τ λτ2=>pt τ2 λok τ3=>il ok (pi2 τ3 λn2 it2 τ4=>∃I2:Nat->List D->PSt->Prop,I2 0 ys τ4 /\
   (∀j zs τ d,j<n2->d=it2 j->I2 j zs τ->g2 (.dat d) τ λτ5=>pt2 τ5 λok τ6=>il ok (pe τ6 λp τ7=>zs.length<1000000/\I2 (j+1) (zs++[p.d]) τ7) (I2 (j+1) zs τ6))/\∀zs τ,I2 n2 zs τ->I (k+1) zs τ) (I (k+1) ys τ3)) /\
  ∀ys τ,I n ys τ->Q (.own ys) (eW ix ρ1 τ)
noncomputable def HF(ix:List (Option Nat))(pi:PTI)(g:PTG)(pt:PTT)(pi2:PTI)(g2:PTG)(pt2:PTT)(pe:PTE):PTE:=λρ Q=>pi ρ λn it ρ1=>Ha ix ρ1=true/\HE ix ρ1 n it g pt pi2 g2 pt2 pe Q
def wR{wi2:TI}{pi pi2:PTI}{g2:TG}{pg pg2:PTG}{tts2:TT}{pt pt2:PTT}(hix:CW ix=true)(hi:LI K wi pi)(hg:∀fs:List Nat,(∀k∈fs,k∈zG ix)->LGd K fs g pg)(ht:LT K tts pt)(hi2:LI K wi2 pi2)(hg2:∀fs:List Nat,(∀k∈fs,k∈zG ix)->LGd K fs g2 pg2)(ht2:LT K tts2 pt2)(he:LE K te pe):
  LE K (wQ ix wi g tts λD=>BY wi2 g2 tts2 (BX te D)) (HF ix pi pg pt pi2 pg2 pt2 pe):=λA ρ σ H Q Q' R q k=>hi A ρ σ H _ _ R q λJ H1 n it ρ1 q1 f1 R1 W D hD=>by
 obtain⟨hcap,⟨I,i0,turn,after⟩⟩:=q1
 let τρ0:=bA ix ρ1
 let τσ0:=sP ix σ
 let Ai:Addr->Prop:=λb=>A b\/b=D\/(Wr ρ1 σ b/\¬ Wr τρ0 τσ0 b)
 let H0':=upd H1 D (.lst [])
 have wsub:∀b,Wr τρ0 τσ0 b->Wr ρ1 σ b:=λb ⟨m,p,e,o,s⟩=>by
  obtain⟨j,h1,h2⟩:=cC e;obtain⟨v,hv,_⟩:=R1.get j p h2;have:=cG h1 hv;rw [s] at this;cases this;exact⟨j,p,h2,o,hv⟩
 have nD:¬ Wr ρ1 σ D:=λz=>R1.wr z hD
 have oosub:∀b,OO Ai τρ0 τσ0 b->OO A ρ1 σ b\/b=D:=λb z=>by
  rcases z with (z|z|z)|z
  .exact .inl (.inl z)
  .exact .inr z
  .exact .inl (.inr z.1)
  .exact .inl (.inr (wsub b z))
 have kD:aI (OO A ρ1 σ) H1 (OO Ai τρ0 τσ0) H0':=λb o nn e=>by
  refine⟨λz=>?_,?_⟩
  .rcases oosub b z with z|z
   .exact nn z
   .rw [z,hD] at e;cases e
  .rw [show H0' b=H1 b from aC (bc e hD)];exact e
 have Ri:Rel K Ai τρ0 τσ0 H0':=by
  refine⟨by show (bA ix ρ1).length=(sP ix σ).length;unfold bA sP;rw [length_map,length_map],λm p e=>?_,λm l p q v e1 e2 o1 o2 s1 s2=>?_,λb z=>?_,λb z w=>?_⟩
  .obtain⟨j,h1,h2⟩:=cC e;obtain⟨v,hv,r⟩:=R1.get j p h2;refine⟨v,cG h1 hv,r.keeps kD λow a ea=>?_⟩;subst ea;exact aC (λz=>nD (by rw [<- z];exact⟨j,p,h2,ow,hv⟩))
  .obtain⟨j,h1,h2⟩:=cC e1;obtain⟨j',h3,h4⟩:=cC e2;obtain⟨v1,hv1,_⟩:=R1.get j p h2;obtain⟨v2,hv2,_⟩:=R1.get j' q h4;have t1:=cG h1 hv1;have t2:=cG h3 hv2;rw [s1] at t1;rw [s2] at t2;cases t1;cases t2;have:=R1.dj j j' p q _ h2 h4 o1 o2 hv1 hv2;subst this;exact mE hix h1 h3
  .rcases z with z|z|z
   .intro e
    by_cases zz:b=D
    .exact R1.dom b z (by rw [zz];exact hD)
    .rw [show H0' b=H1 b from aC zz] at e;exact R1.dom b z e
   .rw [z];show upd H1 D _ D≠none;rw [aY];exact nofun
   .intro e;rw [show H0' b=H1 b from aC (λzz=>nD (by rw [<- zz];exact z.1))] at e;exact R1.wr z.1 e
  .rcases z with z|z|z
   .exact R1.sep b z (wsub b w)
   .rw [z] at w;exact nD (wsub D w)
   .exact z.2 w
 let fxi:List (Nat×V):=(zG ix).filterMap λm=>match (τσ0[m]?) with|some (some v)=>some (m,v)|_=>none
 have hfx:∀p∈fxi,τσ0[p.1]?=some (some p.2):=λp hp=>by
  obtain⟨m,hm,e⟩:=Mw.mp hp
  split at e
  .rename_i v ev;cases e;exact ev
  .cases e
 have hfs:∀m∈fxi.map G_,m∈zG ix:=λm hm=>by
  obtain⟨p,hp,rfl⟩:=Lv.mp hm;obtain⟨m',hm',e⟩:=Mw.mp hp
  split at e
  .cases e;exact hm'
  .cases e
 have hgi:=hg (fxi.map G_) hfs;have hgi2:=hg2 (fxi.map G_) hfs
 have fxget:∀(m j:Nat) (v:V),ix[m]?=some (some j)->σ[j]?=some (some v)->(m,v)∈fxi:=λm j v h1 h2=>by
  refine Mw.mpr ⟨m,?_,?_⟩
  .unfold zG;refine D_.mpr ⟨mem_range.mpr (i_.mp h1).1,?_⟩;rw [cn,h1];rfl
  .show (match (sP ix σ)[m]? with|some (some v)=>some (m,v)|_=>none)=_;rw [cG h1 h2]
 let Rr:Addr->Prop:=λb=>Wr τρ0 τσ0 b\/b=D
 have hRr:∀b,Rr b->OO Ai τρ0 τσ0 b:=λb z=>z.elim (λz=>.inr z) (λz=>.inl (.inr (.inl z)));have F0:gn fxi Rr H0' τρ0 τσ0 H0':=⟨λ_ _ _ h=>h,λ_ h=>h,λb w=>.inl (.inl w),hfx⟩
 refine⟨λi m τ H2=>i+m=n/\∃ys τρ xs,I i ys τρ/\Rel K Ai τρ τ H2/\gn fxi Rr H0' τρ τ H2/\H2 D=some (.lst xs)/\FVs K (OO Ai τρ τ) H2 xs ys/\∀b,Wr τρ τ b->Wr τρ0 τσ0 b,
  ⟨n,M2 n,[],τρ0,[],i0,Ri,F0,aY,.nil,λ_ h=>h⟩,λi m τ H2 ⟨him,ys,τρ,xs,iv,r2,F2,eD,fD,hw⟩=>?_⟩
 have kk:aI (OO A ρ1 σ) H1 (OO Ai τρ τ) H2:=λb o nn e=>(F2.keepsR hRr) b o (kD b o nn e).1 (kD b o nn e).2;obtain⟨go,stop⟩:=W _ H2 kk r2.dom2
 by_cases hk:i<n
 .obtain⟨g1,g2⟩:=go i hk;refine .inr ⟨g1,λx H3 y=>?_⟩;obtain⟨gr,fv⟩:=g2 x H3 y;have AiD:Ai D:=.inr (.inl rfl);refine hgi fxi Ai Rr H0' τρ τ H3 _ x _ _ rfl (F2.fr gr.fr) (r2.gr gr) fv (turn i ys τρ _ hk rfl iv) λτρ2 τ2 q2 r3 F3 w3=>?_;refine ht Ai τρ2 τ2 H3 _ _ r3 q2 λok H5 τρ3 q3 f5 r5=>?_;have F5:=F3.fr f5;have fD5:FVs K (OO Ai τρ3 τ2) H5 xs ys:=((fD.keeps (gr.fr (ρ:=τρ) (σ:=τ)).keeps).keeps (aI.less λb z=>z.imp id (w3 b))).keeps f5.keeps
  have eD5:H5 D=some (.lst xs):=f5.kp D _ (r3.sep D AiD) (gr D _ eD)
  cases ok with
  | true =>
   refine hi2 Ai τρ3 τ2 H5 _ _ r5 q3 λJ2 H6 n2 it2 τρ4 q4 f6 r6 W2=>?_;obtain⟨I2,j0,turn2,after2⟩:=q4;have F6:=F5.fr f6;have eD6:H6 D=some (.lst xs):=f6.kp D _ (r5.sep D AiD) eD5;have fD6:=fD5.keeps (f6.keeps (A:=Ai));have hw6:∀b,Wr τρ4 τ2 b->Wr τρ0 τσ0 b:=λb z=>hw b (w3 b (f5.ow b (f6.ow b z)))
   refine⟨λj l τ' H'=>j+l=n2/\∃zs τρ' xs',I2 j zs τρ'/\Rel K Ai τρ' τ' H'/\gn fxi Rr H0' τρ' τ' H'/\H' D=some (.lst xs')/\FVs K (OO Ai τρ' τ') H' xs' zs/\(∀b,Wr τρ' τ' b->Wr τρ0 τσ0 b)/\aI (OO Ai τρ4 τ2) H6 (OO Ai τρ' τ') H',
    ⟨n2,M2 n2,ys,τρ4,xs,j0,r6,F6,eD6,fD6,hw6,λb o n e=>⟨n,e⟩⟩,λj l τ' H7 ⟨hjl,zs,τρ',xs',jv,r7,F7,eD7,fD7,hw7,kk7⟩=>?_⟩
   obtain⟨go2,stop2⟩:=W2 _ H7 kk7 r7.dom2
   by_cases hj:j<n2
   .obtain⟨g1',g2'⟩:=go2 j hj;refine .inr ⟨g1',λy H8 yy=>?_⟩;obtain⟨gr8,fv8⟩:=g2' y H8 yy;refine hgi2 fxi Ai Rr H0' τρ' τ' H8 _ y _ _ rfl (F7.fr gr8.fr) (r7.gr gr8) fv8 (turn2 j zs τρ' _ hj rfl jv) λτρ9 τ9 q9 r9 F9 w9=>?_;refine ht2 Ai τρ9 τ9 H8 _ _ r9 q9 λok2 H10 τρ10 q10 f10 r10=>?_;have F10:=F9.fr f10;have k1:=(gr8.fr (ρ:=τρ') (σ:=τ')).keeps (A:=Ai);have k2:aI (OO Ai τρ' τ') H8 (OO Ai τρ9 τ9) H8:=aI.less λb z=>z.imp id (w9 b)
    have k3:=f10.keeps (A:=Ai);have fD10:FVs K (OO Ai τρ10 τ9) H10 xs' zs:=fD7.keeps (kpt k1 (kpt k2 k3));have eD10:H10 D=some (.lst xs'):=f10.kp D _ (r9.sep D AiD) (gr8 D _ eD7)
    cases ok2 with
    | true =>
     refine he Ai τρ10 τ9 H10 _ _ r10 q10 λv H11 p τρ11 q11 f11 o11=>?_;obtain⟨r11,fv11⟩:=o11.frz;have F11:=F10.fr f11;have eD11:H11 D=some (.lst xs'):=f11.kp D _ (r10.sep D AiD) eD10;have kw:aI (OO Ai τρ11 τ9) H11 (OO Ai τρ11 τ9) (upd H11 D (.lst (xs'++[v]))):=λb o nn e=>⟨nn,by rw [aC (λz=>nn (by rw [z];exact .inl AiD))];exact e⟩
     refine⟨xs',eD11,?_,l - 1,by omega,by omega,zs++[p.d],τρ11,xs'++[v],q11.2,r11.amb AiD,⟨λb o nn e=>?_,λb z=>?_,F11.ow,F11.fx⟩,aY,((fD10.keeps f11.keeps).append (.cons fv11 .nil)).keeps kw,λb z=>hw7 b (w9 b (f10.ow b (f11.ow b z))),kpt kk7 (kpt k1 (kpt k2 (kpt k3 (kpt f11.keeps kw))))⟩
     .have:xs'.length=zs.length:=fD10.length;have:=q11.1;exact u1 (by omega:xs'.length<1000000) (sz _ (e_ _))
     .rw [aC (λz=>nn (.inr z))];exact F11.kp b o nn e
     .by_cases zz:b=D
      .rw [zz,aY];exact nofun
      .rw [aC zz];exact F11.dm b z
    | false=>exact⟨l - 1,by omega,by omega,zs,τρ10,xs',q10,r10,F10,eD10,fD10,λb z=>hw7 b (w9 b (f10.ow b z)),kpt kk7 (kpt k1 (kpt k2 k3))⟩
   .have e:j=n2:=by omega
    subst e;exact .inl ⟨stop2,m - 1,by omega,by omega,zs,τρ',xs',after2 zs τρ' jv,r7,F7,eD7,fD7,hw7⟩
  | false=>exact⟨m - 1,by omega,by omega,ys,τρ3,xs,q3,r5,F5,eD5,fD5,λb z=>hw b (w3 b (f5.ow b z))⟩
 .have e:i=n:=by omega
  subst e;refine .inl ⟨stop,?_⟩;have q':=after ys τρ iv
  have cap:∀(m j:Nat),ix[m]?=some (some j)->∃p v,ρ1[j]?=some (some p)/\σ[j]?=some (some v)/\τ[m]?=some (some v):=λm j e=>by
   have h1:=MU.mp hcap _ (y_ e);have h1:(match ρ1[j]? with|some (some _)=>true|_=>false)=true:=h1
   split at h1
   .rename_i p ep;obtain⟨v,hv,_⟩:=R1.get j p ep;exact⟨p,v,ep,hv,F2.fx _ (fxget m j v e hv)⟩
   .cases h1
  have get':∀(j:Nat) (p:PV),(eW ix ρ1 τρ)[j]?=some (some p)->(∃m v,ix[m]?=some (some j)/\σ[j]?=some (some v)/\τ[m]?=some (some v)/\τρ[m]?=some (some p))\/(some j∉ix/\ρ1[j]?=some (some p)):=λj p e=>by
   by_cases hj:some j∈ix
   .obtain⟨m,hm,em⟩:=ME hj;have em':ix[m]?=some (some j):=by rw [cx hm,em]
    obtain⟨p0,v,h1,h2,h3⟩:=cap m j em';rw [qS ix ρ1 τρ j m hix em' (by rw [r2.len];exact (i_.mp h3).1) (i_.mp h1).1] at e;exact .inl ⟨m,v,em',h2,h3,e⟩
   .rw [j9 ix ρ1 τρ j hj] at e;exact .inr ⟨hj,e⟩
  have nocap:∀(j:Nat) (p:PV) (b:Addr),some j∉ix->ρ1[j]?=some (some p)->p.isOwn=true->σ[j]?=some (some (.ref b))->¬ Wr τρ0 τσ0 b:=λj p b hj e o s ⟨m,q,e1,o1,s1⟩=>by
   obtain⟨j',h1,h2⟩:=cC e1;obtain⟨v,hv,_⟩:=R1.get j' q h2;have:=cG h1 hv;rw [s1] at this;cases this;have:=R1.dj j j' p q _ e h2 o o1 s hv;subst this;exact hj (y_ h1)
  have w':∀b,Wr (eW ix ρ1 τρ) σ b->Wr τρ τ b\/(Wr ρ1 σ b/\¬ Wr τρ0 τσ0 b):=λb ⟨j,p,e,o,s⟩=>by
   rcases get' j p e with ⟨m,v,h1,h2,h3,h4⟩|⟨hj,h1⟩
   .rw [s] at h2;cases h2;exact .inl ⟨m,p,h4,o,h3⟩
   .exact .inr ⟨⟨j,p,h1,o,s⟩,nocap j p b hj h1 o s⟩
  have oo':∀b,OO (dJ A D) (eW ix ρ1 τρ) σ b->OO Ai τρ τ b:=λb z=>by
   rcases z with (z|z)|z
   .exact .inl (.inl z)
   .exact .inl (.inr (.inl z))
   .rcases w' b z with z|z
    .exact .inr z
    .exact .inl (.inr (.inr z))
  have kp1:∀b o,¬ Wr τρ0 τσ0 b->b≠D->H1 b=some o->H2 b=some o:=λb o n1 n2 e=>F2.kp b o (λz=>z.elim n1 n2) (by rw [show H0' b=H1 b from aC n2];exact e);have k1:aI (OO A ρ1 σ) H1 (OO (dJ A D) (eW ix ρ1 τρ) σ) H2:=λb o nn e=>⟨λz=>(kk b o nn e).1 (oo' b z),(kk b o nn e).2⟩
  have AiD:Ai D:=.inr (.inl rfl)
  have R':Rel K (dJ A D) (eW ix ρ1 τρ) σ H2:=by
   refine⟨by rw [mD];exact R1.len,λj p e=>?_,λj l p q v e1 e2 o1 o2 s1 s2=>?_,λb z=>?_,λb z w=>?_⟩
   .rcases get' j p e with ⟨m,v,h1,h2,h3,h4⟩|⟨hj,h1⟩
    .obtain⟨v',hv',r⟩:=r2.get m p h4;rw [h3] at hv';cases hv';exact⟨v,h2,r.keeps (aI.less oo') λ_ _ _=>rfl⟩
    .obtain⟨v,hv,r⟩:=R1.get j p h1;refine⟨v,hv,r.keeps k1 λow a ea=>?_⟩;subst ea;obtain⟨a',u,e1,e2⟩:=r.ref ow;cases e1;rw [e2];exact kp1 a u (nocap j p a hj h1 ow hv) (λz=>by rw [z,hD] at e2;cases e2) e2
   .rcases get' j p e1 with ⟨m,v1,h1,h2,h3,h4⟩|⟨hj,h1⟩
    .rw [s1] at h2;cases h2
     rcases get' l q e2 with ⟨m',v2,g1,g2,g3,g4⟩|⟨hl,g1⟩
     .rw [s2] at g2;cases g2;have:=r2.dj m m' p q _ h4 g4 o1 o2 h3 g3;subst this;rw [h1] at g1;cases g1;rfl
     .exfalso;obtain⟨v',hv',r⟩:=r2.get m p h4;rw [h3] at hv';cases hv';obtain⟨a,u,ea,_⟩:=r.ref o1;subst ea;exact nocap l q a hl g1 o2 s2 (hw a ⟨m,p,h4,o1,h3⟩)
    .rcases get' l q e2 with ⟨m',v2,g1,g2,g3,g4⟩|⟨hl,g1⟩
     .rw [s2] at g2;cases g2;exfalso;obtain⟨v',hv',r⟩:=r2.get m' q g4;rw [g3] at hv';cases hv';obtain⟨a,u,ea,_⟩:=r.ref o2;subst ea;exact nocap j p a hj h1 o1 s1 (hw a ⟨m',q,g4,o2,g3⟩)
     .exact R1.dj j l p q v h1 g1 o1 o2 s1 s2
   .rcases z with z|z
    .exact r2.dom b (.inl z)
    .rw [z,eD];exact nofun
   .rcases w' b w with w|w
    .rcases z with z|z
     .exact r2.sep b (.inl z) w
     .rw [z] at w;exact r2.sep D AiD w
    .rcases z with z|z
     .exact R1.sep b z w.1
     .rw [z] at w;exact nD w.1
  have f2:Fr ρ1 σ H1 (eW ix ρ1 τρ) H2:=by
   refine⟨λb o nn e=>kp1 b o (λz=>nn (wsub b z)) (λz=>by rw [z,hD] at e;cases e) e,λb z=>F2.dm b ?_,λb z=>?_⟩
   .intro e
    by_cases zz:b=D
    .exact z (by rw [zz];exact hD)
    .rw [show H0' b=H1 b from aC zz] at e;exact z e
   .rcases w' b z with z|z
    .exact wsub b (hw b z)
    .exact z.1
  have hD0:H D=none:=by
   cases e:H D with
   | none=>rfl
   | some o=>exact absurd hD (f1.dm D (by rw [e];exact nofun))
  exact k _ H2 (.own ys) _ q' (f1.trans f2) ⟨D,xs,rfl,λz=>R1.dom D z hD,hD0,eD,R',fD.keeps (aI.less oo')⟩
section
noncomputable def C8:TIp:=λx y H Q=>rI0 (λi j=>.int (i+j)) x y H Q\/∃a b,x=.str (S a)/\y=.str (S b)/\a.length+b.length<=1000000/\Q (.str (S (a++b))) H
def ET:PIp X .Add C8:=by
 intro pins s σ H x y v u Q I rx ry q
 rcases q with q|⟨a,b,rfl,rfl,hl,q⟩
 .exact DY pins s σ H x y v u Q I rx ry q
 .obtain⟨t,rfl⟩:=rx;obtain⟨t',rfl⟩:=ry;refine PyProof.Rows.iadd_str (λt2 k=>⟨.str (S (a++b)),H,I.tok k,⟨t2,by rw [Bx]⟩,q⟩) ?_;rw [fL,fL];exact p_ hl (sz _ (e_ _))
noncomputable def ipD:D->D->(D->Prop)->Prop
 | .int a,.int b,Q=>Q (.int (a+b))
 | .str a,.str b,Q=>a.length+b.length<=1000000/\Q (.str (a++b))
 | _,_,_=>False
noncomputable def HG(i:Nat)(pe:PTE):PTS:=λE ρ=>match ρ[i]? with
 | some (some (.dat d))=>pe ρ λp ρ1=>(match ρ1[i]? with
  | some (some (.dat d'))=>d'=d/\ipD d p.d λr=>dS i (.dat r) ρ1 E.nx
  | _=>False)
 | _=>False
variable {fs:List Nat}
def HH(hi:LG K fs (aU i) (dS i))(h:LE K te pe):LS K fs (IH i te C8) (HG i pe):=λfx A R H0 ρ σ H E E' hf r F q k1 k2 k3 k4=>by
 unfold HG at q
 split at q
 .rename_i d e;obtain⟨v0,s0,rs0⟩:=r.get i _ e;refine⟨v0,s0,h A ρ σ H _ _ r q λv H1 p ρ1 q1 f1 o1=>?_⟩;obtain⟨R1,fv⟩:=o1.frz
  split at q1
  .rename_i d' e1;obtain⟨rfl,q1⟩:=q1;obtain⟨v1,s1,rs1⟩:=R1.get i _ e1;rw [s0] at s1;cases s1;have fv1:FV K (OO A ρ1 σ) H1 v0 d':=rs1;unfold ipD at q1
   split at q1
   .rename_i a b ep;rw [ep] at fv;cases fv1;cases fv;exact .inl ⟨a,b,rfl,rfl,hi fx A R H0 ρ1 σ H1 (.dat (.int (a+b))) _ _ _ hf (F.fr f1) ⟨R1,.int _⟩ q1 k1⟩
   .rename_i a b ep;rw [ep] at fv;cases fv1;cases fv;exact .inr ⟨a,b,rfl,rfl,q1.1,hi fx A R H0 ρ1 σ H1 (.dat (.str (a++b))) _ _ _ hf (F.fr f1) ⟨R1,.str _ (by rw [length_append];exact q1.1)⟩ q1.2 k1⟩
   .exact q1.elim
  .exact q1.elim
 .exact q.elim
abbrev HI:R2:=rI Kp λi j=>.int (i*2^j.toNat)
abbrev Lj:F2:=fI (λi j=>0<=j/\j<=1000000/\i.natAbs<2^64) λi j=>.int (i*2^j.toNat)
def HJ:OpR X (binaryOp .LShift) HI:=Gh
def C9:LO K HI Lj:=IP λ_ _ _ _=>.int _
abbrev JX:R2:=rI (λ_ j=>0<=j) λi j=>.int (i / 2^j.toNat)
abbrev Lk:F2:=fI (λ_ j=>0<=j) λi j=>.int (i / 2^j.toNat)
def JY:OpR X (binaryOp .RShift) JX:=Gi
def HK:LO K JX Lk:=IP λ_ _ _ _=>.int _
abbrev EU:R2:=rI0 λi j=>.int (MB i j)
abbrev JZ:F2:=fI0 λi j=>.int (MB i j)
def HL:OpR X (binaryOp .BitAnd) EU:=Gj
def EV:LO K EU JZ:=BJ λ_ _ _ _=>.int _
end
variable {E:Value->d_->Prop}
def rc{l:Addr}{vs:List Value}{Q:List Value->d_->Prop}(hl:IsTup s.heap l vs.toArray)(h:Q vs { s with heap:=(s.heap.push (seqObj "list" #[] 0)).update s.heap.objs.size (I_ (·++vs.toArray)) })(hsz:vs.length<=sizeLine:=by size_fits):
  wpAny (model prog w) A (collect (.ref l)) Q E s:=by
 obtain⟨o,ho,hc,n,hd⟩:=id hl;unfold collect;refine cy (wpAny_runValue (codeAny_builtin entry_proto_collect' ?_));show wpAny _ _ (do again (.builtin "list.__iadd__" ⟨[<- newList [],.ref l],[]⟩)) _ _ s;refine cy (Om (g_ ⟨Code.quiet_builtin _ (by decide +kernel),codeAny_builtin entry_list_iadd' ?_⟩));show wpAny _ _ (NX (.ref s.heap.objs.size) (.ref l) (.ref s.heap.objs.size)) _ _ { s with heap:=s.heap.push (seqObj "list" #[] 0) }
 unfold NX;have ho':(s.heap.push (seqObj "list" #[] 0)).get? l=some o:=f_ _ ho;refine cy (NT (T:="tuple") ⟨o,ho',hc⟩ ?_);have ht:(Mj "tuple" == Mj "tuple")=true:=by rfl
 rw [if_pos (by rw [ht];simp)];refine cy (listItems_at ho' hd ?_);refine cy (listItems_at (xs:=#[]) (n:=0) (k_ _ rfl) rfl ?_);rw [if_neg (by simp)];refine cy (On (xs:=#[]) (n:=0) (k_ _ rfl) rfl ?_ (K_ _) (by show (#[]++vs.toArray).size<=sizeLine+1;simp only [Array.size_append,size_toArray,length_nil];omega));refine g_ ?_
 show wpAny (model prog w) A (do
   let o <- load s.heap.objs.size
   match o.data with
   | .seq xs _=>pure xs.toList
   | _=>unsupported "internal:collect") Q E { s with heap:=(s.heap.push (seqObj "list" #[] 0)).update s.heap.objs.size (I_ (·++vs.toArray)) }
 refine cy (wpAny_load (get?_update_seq (k_ _ rfl) _) ?_);show wpAny _ _ (pure ((#[]:Array Value)++vs.toArray).toList) Q E _;rw [show ((#[]:Array Value)++vs.toArray).toList=vs by simp];exact g_ h
variable {ns:List Int}{Q:Value->d_->Prop}
def tH{l:Addr}{vs:List Value}(hl:IsTup s.heap l vs.toArray)(hI:Nb vs ns)(h64:vs.length<64)(h:∀(out:Array Value) (ns':List Int),Nb out.toList ns'->ns'.Perm ns->ns'.Pairwise (·<=·)->Q (.ref (s.heap.objs.size+1)) { s with heap:=sortedAll s.heap vs out }):
  wpAny (model prog w) A (call (.builtin "sorted") [.ref l]) Q E s:=by
 refine Calls.call_function_entry kind_sorted plain_sorted entry_sorted (args_sorted1 _) ?_;unfold Od.«sorted»;refine cy (m:=checkCount "sorted" 1 1 _) (g_ ?_);refine cy (rc hl ?_);refine cy (Om ?_)
 have hsz:((s.heap.push (seqObj "list" #[] 0)).update s.heap.objs.size (I_ (·++vs.toArray))).objs.size=s.heap.objs.size+1:=by
  rw [MF,size_push']
 have hoL:(((s.heap.push (seqObj "list" #[] 0)).update s.heap.objs.size (I_ (·++vs.toArray))).push (seqObj "list" vs.toArray 0)).get? (s.heap.objs.size+1)=some (seqObj "list" vs.toArray 0):=by
  rw [<- hsz];exact k_ _ rfl
 show wpAny _ _ _ _ _ { s with heap:=((s.heap.push (seqObj "list" #[] 0)).update s.heap.objs.size (I_ (·++vs.toArray))).push (seqObj "list" vs.toArray 0) };rw [hsz];refine cy (Lu (LY slot_list_sort ⟨_,hoL,rfl⟩ entry_list_sort (list_sort_tree hoL hI h64 λout ns' a1 a2 a3=>⟨_,rfl,?_⟩) (args_list_sort _)));exact g_ ⟨_,rfl,h out ns' a1 a2 a3⟩
noncomputable def Db(K:b_):List V->Hp->VK->Prop:=λxs H Q=>∃(b:Bool) (p:Addr) (ns:List Int),xs=[.ref p]/\Sq b K H p (ns.map V.int)/\ns.length<64/\∀ns':List Int,ns'.Perm ns->ns'.Pairwise (·<=·)->∀q,H q=none->Q (.ref q) (upd H q (.lst (ns'.map V.int)))
def EW(K:b_)(e:X.K=K):bK X (.builtin "sorted") (Db K):=by
 subst e;intro pins s σ H xs us Q I r h;obtain⟨b,p,ns,rfl,hS,hne,q⟩:=h;obtain⟨u,rfl,ru⟩:=ie r;cases (show u=n_ p from ru)
 cases b with
 | false=>exact ES X.K rfl pins s σ H _ _ Q I r ⟨p,ns,rfl,hS,hne,q⟩
 | true =>
  obtain⟨its,rv,pl,hz⟩:=I.tuple hS;have hi:=dZ rv;have hlen:its.length=ns.length:=by have:=rv.length;rw [length_map] at this;exact this.symm
  refine tH pl hi (by omega) λout ns' ho hp hs=>?_;obtain⟨e,he⟩:=sortedAll_at s.heap its out;have hle:s.heap.objs.size<=s.heap.objs.size+1:=le_succ _;refine⟨.ref (s.heap.objs.size+1),_,I.laid (a:=s.heap.objs.size+1) (o:=.lst (ns'.map V.int)) (t':=s.toks) (λb o z=>sortedAll_old z) hle ?_,rfl,q ns' hp hs _ (I.hok.fresh hle)⟩;refine⟨?_,out.toList,e,jZ ho,he⟩;rw [length_map,hp.length_eq];exact sz _ (by omega)
noncomputable def Dc:FN
 | [.lst ds],Q=>∃ns:List Int,ds=ns.map .int/\ns.length<64/\∀ns':List Int,ns'.Perm ns->ns'.Pairwise (·<=·)->Q (.own (ns'.map .int))
 | [.tup ds],Q=>∃ns:List Int,ds=ns.map .int/\ns.length<64/\∀ns':List Int,ns'.Perm ns->ns'.Pairwise (·<=·)->Q (.own (ns'.map .int))
 | _,_=>False
def B0:LC K (Db K) Dc:=by
 intro O H xs as Q Q' dom fs q k;unfold Dc at q
 split at q
 .obtain⟨ns,rfl,h0,q⟩:=q
  cases fs with
  | cons a b =>
   cases b;obtain⟨p,ys,rfl,e1,f1⟩:=a.lst;rw [f1.ints] at e1;exact⟨false,p,ns,rfl,SqL.of e1,h0,λns' h1 h2 p' hp'=>k _ _ _ (q ns' h1 h2) (Gr.new hp') (dL hp' (FVs.of_ints _))⟩
 .obtain⟨ns,rfl,h0,q⟩:=q
  cases fs with
  | cons a b =>
   cases b;obtain⟨p,ys,rfl,_,e1,f1⟩:=a.tup;rw [f1.ints] at e1;exact⟨true,p,ns,rfl,SqT.of e1,h0,λns' h1 h2 p' hp'=>k _ _ _ (q ns' h1 h2) (Gr.new hp') (dL hp' (FVs.of_ints _))⟩
 .exact q.elim
theorem tI{it t:Addr}{items:Array Value}(hne:t≠it):∀(n i:Nat) (s:d_) (Q:List Value->d_->Prop),s.heap.IsListIter it t i->s.heap.IsList t items->i+n<=items.size ->
  (∀h',h'.IsListIter it t (i+n)->Np it s.heap h'->Q ((items.toList.drop i).take n) { s with heap:=h' })->wpAny (model prog w) A (draw (.ref it) n) Q E s
 | 0,i,s,Q,hit,_,_,hQ=>by
  show wpAny _ _ (pure []) Q E s;exact g_ (by simpa using hQ s.heap hit (Heap.SameBut.refl ..))
 | n+1,i,s,Q,hit,ht,hle,hQ=>by
  have hlt:i<items.size:=by omega
  show wpAny _ _ (pyNext (.ref it) >>= _) Q E s;refine cy (wpAny_pyNext_list_item hit ht (x:=items[i]) (by simp [hlt]) λh₁ hit₁ hs₁=>?_);refine cy (Lu (tI hne n (i+1) _ _ hit₁ (ht.extBut hs₁.extBut hne) (by omega) λh₂ hit₂ hs₂=>g_ ?_));have hd:items.toList.drop i=items[i]::items.toList.drop (i+1):=by simp [drop_eq_getElem_cons,hlt]
  have:=hQ h₂ (by rw [show i+(n+1)=i+1+n by omega];exact hit₂) (hs₁.trans hs₂);rw [hd,take_succ_cons] at this;exact this
def mn{t:Addr}{items:Array Value}{Q:List Value->d_->Prop}(hh:A.handled=none)(ht:s.heap.IsList t items)(hQ:∀h',OL s.heap.objs.size s.heap h'->Q items.toList { s with heap:=h' }):wpAny (model prog w) A (unpackItems (.ref t) items.size none) Q E s:=by
 have hlt:t≠s.heap.objs.size:=by obtain⟨o,ho,_⟩:=ht;exact F_ (pj ho)
 unfold unpackItems
 refine cy ?_
 .unfold notIterableAtAll;refine cy (wpAny_specialOf ht.typeIs PySem.F.slot_list_iter.lookup ?_);refine g_ ?_;simp only [false_eq_true,if_false];refine cy (Lu (MS ht ?_));refine cy (Lu (tI hlt items.size 0 _ _ ⟨_,k_ _ rfl,rfl,rfl⟩ (ht.push _) (by omega) λh₁ hit₁ hs₁=>?_))
  have hall:List.take items.size (List.drop 0 items.toList)=items.toList:=by
   rw [drop_zero];exact LN (by simp)
  rw [hall];rw [if_neg (by simp)];have ht₁:h₁.IsList t items:=(ht.push _).extBut hs₁.extBut hlt;refine cy (Lu (wpAny_pyNext_list_end hh hit₁ ht₁ (by simp) λh₂ he₂=>?_));simp only [Option.isSome_none,false_eq_true,if_false];refine g_ (hQ h₂ λb o hb e=>he₂ b o hb (hs₁.extBut b o hb (f_ _ e)))
def kU{elts:List Expr}{x1}{pos:Pos}{t:Addr}{items:Array Value}{Q:Unit->d_->Prop}(hh:A.handled=none)(ht:s.heap.IsList t items)
  (hn:(assignEach elts env).length=items.size) (hstar:(assignEach elts env).findIdx? (·.1)=none)
  (h:∀h',OL s.heap.objs.size s.heap h'->wpAny (model prog w) A (assignInOrder ((assignEach elts env).map (·.2)) items.toList) Q E { s with heap:=h' }) :
  wpAny (model prog w) A (assign (.Tuple elts x1 pos) env (.ref t)) Q E s:=by
 rw [assign_Tuple];refine cy (Me ?_);unfold unpack;rw [hn,hstar];exact cy (Lu (mn hh ht h))
noncomputable def xW(K:b_)(n:Nat)(t:TGs):TG:=λv σ H Q=>∃b a xs,v=.ref a/\Sq b K H a xs/\xs.length=n/\t xs σ H Q
variable {es:List Expr}
def dD(K:b_)(eK:X.K=K){t:TGs}(hc:X.calm=true)(h:PGs X es t)(hn:(assignEach es X.env).length=n:=by rfl)(hst:(assignEach es X.env).findIdx? (·.1)=none:=by rfl):PG X (.Tuple es k pos) (xW K n t):=by
 subst eK;intro pins s σ H v u Q I r hw;obtain⟨b,a,xs,e1,hq,hl,hw⟩:=hw
 cases b with
 | true=>exact Gc hc h hn hst pins s σ H v u Q I r ⟨a,xs,e1,hq,hl,hw⟩
 | false =>
  subst e1;cases r;obtain⟨its,rv,ht,hz⟩:=I.list hq;refine kU (I.ok.hd hc) ht.isList (by simp [hn,<- hl,rv.length]) hst λh' hx=>?_;have I1:Inv X pins σ H { s with heap:=h' }:=I.kept (t':=s.toks) λb o e=>hx b o (F_ (pj e)) e;exact h pins _ σ H xs _ Q I1 (by simpa using rv) hw
noncomputable def tJ(n:Nat)(gs:CV):PTG:=λp ρ Q=>match p with|.dat (.tup ds)=>ds.length=n/\gs ds ρ Q|.dat (.lst ds)=>ds.length=n/\gs ds ρ Q|.own ds=>ds.length=n/\gs ds ρ Q|_=>False
section
variable {fs:List Nat}
def dk{gs:TGs}{pgs:CV}(h:LGs K fs gs pgs):LGd K fs (xW K n gs) (tJ n pgs):=λfx A R H0 ρ σ H d v Q Q' hf F r fv q k=>by
 unfold tJ at q
 split at q
 .rename_i e;cases e
  cases fv with
  | tup nn e f=>exact⟨true,_,_,rfl,SqT.of e,by rw [f.length];exact q.1,h fx A R H0 ρ σ H _ _ Q Q' hf F r f q.2 k⟩
 .rename_i e;cases e
  cases fv with
  | lst nn e f=>exact⟨false,_,_,rfl,SqL.of e,by rw [f.length];exact q.1,h fx A R H0 ρ σ H _ _ Q Q' hf F r f q.2 k⟩
 .rename_i e;cases e
 .exact q.elim
def wS{gs:TGs}{pgs:CV}(h:LGs K fs gs pgs):LG K fs (xW K n gs) (tJ n pgs):=λfx A R H0 ρ σ H p v Q Q' hf F o q k=>by
 unfold tJ at q
 split at q
 .obtain⟨r,fv⟩:=o
  cases fv with
  | tup nn e f=>exact⟨true,_,_,rfl,SqT.of e,by rw [f.length];exact q.1,h fx A R H0 ρ σ H _ _ Q Q' hf F r f q.2 λρ' σ' q' r' F' _=>k ρ' σ' H q' r' F'⟩
 .obtain⟨r,fv⟩:=o
  cases fv with
  | lst nn e f=>exact⟨false,_,_,rfl,SqL.of e,by rw [f.length];exact q.1,h fx A R H0 ρ σ H _ _ Q Q' hf F r f q.2 λρ' σ' q' r' F' _=>k ρ' σ' H q' r' F'⟩
 .obtain⟨r,fv⟩:=o.frz
  cases fv with
  | lst nn e f=>exact⟨false,_,_,rfl,SqL.of e,by rw [f.length];exact q.1,h fx A R H0 ρ σ H _ _ Q Q' hf F r f q.2 λρ' σ' q' r' F' _=>k ρ' σ' H q' r' F'⟩
 .exact q.elim
end
noncomputable def pd(d:D)(xs:List D):Prop:=d=.lst xs\/d=.tup xs
def Dd{d:D}{xs:List D}{Q:PV->Prop}(h:pd d xs)(q:Q (.dat (.int xs.length))):BL [d] Q:=by
 rcases h with rfl|rfl <;> exact q
def EX{d:D}{xs:List D}{Q:PV->Prop}(h:pd d xs)(q:Q (.own xs)):EL [d] Q:=by
 rcases h with rfl|rfl <;> exact q
theorem HM{d:D}{xs:List D}{F:Nat->(Nat->D)->Prop}(h:pd d xs)(q:F xs.length (itD xs)):(match JI d with|some (n,it)=>F n it|none=>False):=by
 rcases h with rfl|rfl <;> exact q
def pd.lst(xs:List D):pd (.lst xs) xs:=.inl rfl
def pd.tup(xs:List D):pd (.tup xs) xs:=.inr rfl
noncomputable def nSt:Expr->Bool
 | .Starred _ _=>false
 | _=>true
variable {e:Expr}
def jw(h:nSt e=true):starEach (e::es) env=(false,eval e env)::starEach es env:=by
 cases e <;> first|rfl|cases h
theorem iU:∀{es:List Expr},es.all nSt=true->(backTo pos (starEach es env)).any (·.1)=false
 | [],_=>rfl
 | e::es,h=>by
  rw [all_cons,and_eq_true] at h;rw [jw h.1];show (false || (backTo pos (starEach es env)).any (·.1))=false;rw [iU h.2];rfl
section
variable {t:TA}
def paC(ha:PE X e te)(hr:PA X es t)(hn:nSt e=true:=by rfl):PA X (e::es) (aG te t):=D3 ha hr (jw hn)
variable {x:Str}{ps:List Str}{sp:Sp}{p:Pos}{C:Addr}
def ak(C:Cal X.prog X.w X.K X.mg X.base k x ps sp)(hr:fJ k X.A)(ha:PA X (e::es) t)(hg:Gl X x:=by rfl)(hdb:(x == ("__debug__":Str))=false:=by decide)(hn:nSt e=true:=by rfl)(hp:es.all nSt=true:=by rfl):
  PE X (.Call (.Name x p) (e::es) [] pos) (df sp [] E0 t):=GK C hr ha hg hdb (jw hn) (iU hp)
variable {dvs:List V}
def B1(j:Nat)(C:GQ X.prog X.w X.K X.mg X.base k x ps dvs sp)(hr:fJ k X.A)(hj:j<=dvs.length)(ha:PA X (e::es) t)(hg:Gl X x:=by rfl)(hdb:(x == ("__debug__":Str))=false:=by decide)(hn:nSt e=true:=by rfl)(hp:es.all nSt=true:=by rfl):
  PE X (.Call (.Name x p) (e::es) [] pos) (df sp (dvs.drop j) E0 t):=Ep j C hr hj ha hg hdb (jw hn) (iU hp)
def ke(M:Er X.prog X.w X.K X.mg X.base k C x ps sp)(hr:fJ (k+1) X.A)(ha:PA X (e::es) t)(hg:Gl X x:=by rfl)(hdb:(x == ("__debug__":Str))=false:=by decide)(hn:nSt e=true:=by rfl)(hp:es.all nSt=true:=by rfl):
  PE X (.Call (.Name x p) (e::es) [] pos) (Bp C sp [] E0 t):=Es M hr ha hg hdb (jw hn) (iU hp)
variable {id:String}{r:List V->Hp->VK->Prop}
def ai(hc:bK X (.builtin id) r)(hg:Gl X x)(hm:X.mg x=none)(hv:bootBuiltins x=some (.builtin id))(ha:PA X (e::es) t)(hnn:x≠"__name__":=by decide)(hdb:(x == ("__debug__":Str))=false:=by decide)(hn:nSt e=true:=by rfl)(hp:es.all nSt=true:=by rfl):
  PE X (.Call (.Name x p) (e::es) [] pos) (tCB r t):=Bs hc hg hm hv ha hnn hdb (jw hn) (iU hp)
variable {T:String}
def bf(hc:bK X (.type T) r)(hg:Gl X x)(hm:X.mg x=none)(hv:bootBuiltins x=some (.type T))(ha:PA X (e::es) t)(hnn:x≠"__name__":=by decide)(hdb:(x == ("__debug__":Str))=false:=by decide)(hn:nSt e=true:=by rfl)(hp:es.all nSt=true:=by rfl):
  PE X (.Call (.Name x p) (e::es) [] pos) (tCB r t):=yP hc hg hm hv ha hnn hdb (jw hn) (iU hp)
end
noncomputable def plT:Expr->Bool
 | .Call _ _ _ _=>true
 | .Name _ _=>true
 | .Subscript _ _ _=>true
 | .Attribute _ _ _=>true
 | _=>false
def EY(h:plT e=true):∀whole,isTrue e env whole=(do let v <- whole;standAt e.pos;holding [v] (truthy v)):=by
 cases e <;> first|(intro _;rfl)|cases h
def ck{t:TE}(h:PE X e t)(hp:plT e=true:=by rfl):PT X e (tB t):=FZ h (EY hp)
noncomputable def f9(a b:List Nat):Bool:=decide (0<=fnd b a 0)
noncomputable def bB(ps:List (List Nat))(i:Nat):Bool:=!decide (pw ps i∈ps.take i) && !(ps.filter λo=>decide ((pw ps i).length<o.length)).any λo=>f9 (pw ps i) o
variable {a b:List Nat}
def jx:f9 a b=true ↔ ∃k,stA b a k=true:=by
 unfold f9
 constructor
 .intro h;have h0:fnd b a 0≠-1:=λz=>by rw [z] at h;exact absurd (of_decide_eq_true h) (by decide)
  obtain⟨k,_,_,h1,_⟩:=iR h0;exact⟨k,h1⟩
 .rintro⟨k,hk⟩
  by_cases h0:fnd b a 0=-1
  .rw [wF h0 k (K_ _)] at hk;cases hk
  .obtain⟨j,e,_⟩:=iR h0;rw [e];exact decide_eq_true (by omega)
def B2(a:List Nat):f9 a a=true:=jx.mpr ⟨0,decide_eq_true ⟨by omega,by rw [drop_zero,take_length]⟩⟩
def zW{c:List Nat}(h1:f9 a b=true)(h2:f9 b c=true):f9 a c=true:=by
 obtain⟨k1,e1⟩:=jx.mp h1;obtain⟨k2,e2⟩:=jx.mp h2;obtain⟨l1,t1⟩:=of_decide_eq_true e1;obtain⟨l2,t2⟩:=of_decide_eq_true e2;refine jx.mpr ⟨k2+k1,decide_eq_true ⟨by omega,?_⟩⟩
 have hb:b.drop k1=(c.drop (k2+k1)).take (b.length - k1):=by
  rw [<- t2,drop_take,drop_drop,t2]
 have ha:a=((c.drop (k2+k1)).take (b.length - k1)).take a.length:=by rw [<- hb,t1]
 rw [take_take,show min a.length (b.length - k1)=a.length by omega] at ha;exact ha.symm
variable {ps:List (List Nat)}
def e9:bB ps i=true ↔ pw ps i∉ps.take i/\∀o∈ps,(pw ps i).length<o.length->f9 (pw ps i) o=false:=by
 unfold bB;rw [and_eq_true,Bool.not_eq_true',Bool.not_eq_true',decide_eq_false_iff_not,any_eq_false]
 constructor
 .rintro⟨h1,h2⟩;refine⟨h1,λo ho hl=>?_⟩;have:=h2 o (D_.mpr ⟨ho,decide_eq_true hl⟩);simpa using this
 .rintro⟨h1,h2⟩;refine⟨h1,λo ho=>?_⟩;obtain⟨m1,m2⟩:=D_.mp ho;rw [h2 o m1 (of_decide_eq_true m2)];decide
def nh(hw:∀w∈ps,w.length<=60):∀(m i:Nat),i<ps.length->(61 - (pw ps i).length)*(ps.length+1)+i<=m->∃j,j<ps.length/\bB ps j=true/\f9 (pw ps i) (pw ps j)=true:=by
 intro m
 induction m with
 | zero =>
  intro i hi h;have hl:=hw _ (y_ (bR hi));have:0<(61 - (pw ps i).length)*(ps.length+1):=mul_pos (by omega) (by omega);omega
 | succ m ih =>
  intro i hi h;have hl:=hw _ (y_ (bR hi))
  by_cases hk:bB ps i=true
  .exact⟨i,hi,hk,B2 _⟩
  .by_cases h1:pw ps i∈ps.take i
   .obtain⟨i',hi'⟩:=MG.mp h1
    have hlt:i'<i:=by
     have:=(i_.mp hi').1;rw [length_take] at this;omega
    have he:pw ps i'=pw ps i:=by
     rw [Oo,if_pos hlt] at hi';have:=bR (ws:=ps) (k:=i') (by omega);rw [hi'] at this;exact (pf this).symm
    obtain⟨j,a1,a2,a3⟩:=ih i' (by omega) (by rw [he];omega);exact⟨j,a1,a2,by rw [<- he];exact a3⟩
   .have h2:∃o∈ps,(pw ps i).length<o.length/\f9 (pw ps i) o=true:=by
     apply Classical.byContradiction;intro z;refine hk (e9.mpr ⟨h1,λo ho hlo=>?_⟩)
     cases hs:f9 (pw ps i) o with
     | false=>rfl
     | true=>exact absurd ⟨o,ho,hlo,hs⟩ z
    obtain⟨o,ho,hlo,hs⟩:=h2;obtain⟨i',hi'⟩:=MG.mp ho;have hlt:i'<ps.length:=(i_.mp hi').1
    have he:pw ps i'=o:=by
     have:=bR hlt;rw [hi'] at this;exact (pf this).symm
    have hm:(61 - o.length+1)*(ps.length+1)<=(61 - (pw ps i).length)*(ps.length+1):=M0 _ (by have:=hw o ho;omega);rw [Nat.add_mul,Nat.one_mul] at hm;obtain⟨j,a1,a2,a3⟩:=ih i' hlt (by rw [he];omega);rw [he] at a3;exact⟨j,a1,a2,zW hs a3⟩
noncomputable def re(a b:List Nat)(k:Nat):Prop:=k<min a.length b.length/\b.take k <:+ a/\∀j,j<min a.length b.length->b.take j <:+ a->j<=k
variable {j:Nat}
def re.uniq(x:re a b j)(y:re a b k):j=k:=le_antisymm (y.2.2 j x.1 x.2.1) (x.2.2 k y.1 y.2.1)
noncomputable def cA(a b:List Nat):Nat:=open Classical in if h:∃k,re a b k then Classical.choose h else 0
def gv(ha:0<a.length)(hb:0<b.length):re a b (cA a b):=by
 obtain⟨k,h1,h2,h3⟩:=mX (λk=>b.take k <:+ a) (by rw [take_zero];exact N_) (min a.length b.length) (by omega);have h:∃k,re a b k:=⟨k,h1,h2,h3⟩
 unfold cA;rw [dif_pos h];exact OG h
def rf(h:re a b k):cA a b=k:=(gv (by have:=h.1;omega) (by have:=h.1;omega)).uniq h
noncomputable def a8(ps:List (List Nat)):List Nat:=(c_ ps.length).filter (bB ps)
noncomputable def De(ps:List (List Nat)):List Nat:=(c_ ps.length).filter λi=>!decide (i∈a8 ps)
noncomputable def al(ps:List (List Nat)):List (List Nat):=(a8 ps).map (pw ps)
def fQ(h:i∈a8 ps):i<ps.length:=mem_range.mp (D_.mp h).1
def kW(ps:List (List Nat)):(a8 ps).length<=ps.length:=p_ (M3 ..) (by rw [length_range];omega)
def fR{m:Nat}(h:Pcs m ps):Pcs m (al ps):=λw hw=>by
 obtain⟨i,hi,rfl⟩:=Lv.mp hw;exact h _ (bN (fQ hi))
def kX(ps:List (List Nat)):(al ps).length<=ps.length:=by unfold al;rw [length_map];exact kW ps
noncomputable def nk(ps:List (List Nat))(i:Nat):List Nat:=(a8 ps).filter λj=>f9 (pw ps i) (pw ps j)
noncomputable def wT(ps:List (List Nat))(i:Nat):Nat:=(nk ps i).headD 0
def B3(h:l.Pairwise (·<·)){m:Nat}(hm:m∈l)(hle:∀a∈l,m<=a):l.headD 0=m:=by
 cases l with
 | nil=>cases hm
 | cons x r =>
  show x=m;have h1:=hle x (mem_cons_self ..)
  rcases C_.mp hm with e|e
  .exact e.symm
  .have:=(M9.mp h).1 m e;omega
def lT(ps:List (List Nat)):(a8 ps).Pairwise (·<·):=Oh.filter _
def zX{m:Nat}(hm:m∈nk ps i)(hle:∀a∈nk ps i,m<=a):wT ps i=m:=B3 ((lT ps).filter _) hm hle
def xX(hw:∀w∈ps,w.length<=60)(hi:i<ps.length):∃j,j∈nk ps i:=by
 obtain⟨j,h1,h2,h3⟩:=nh hw _ i hi (e_ _);exact⟨j,D_.mpr ⟨D_.mpr ⟨mem_range.mpr h1,h2⟩,h3⟩⟩
noncomputable def jy(ps:List (List Nat))(i:Nat):D:=.tup [.int (i:Int),.int (wT ps i:Int),.int (fnd (pw ps (wT ps i)) (pw ps i) 0)]
noncomputable def kY(ws:List (List Nat)):D:=.tup (ws.map λw=>.tup (ws.map λv=>.int (cA w v:Int)))
noncomputable def uV(ps:List (List Nat)):Int:=((al ps).map λw=>(w.length:Int)).sum
def nD(k:Nat):D:=.int (k:Int)
noncomputable def B4:List Str:=["pieces","kept","words","left","laps","total"]
noncomputable def B5(ps:List (List Nat)):List D:=[.tup (ps.map .str),.tup ((a8 ps).map nD),.tup ((al ps).map .str),.tup ((De ps).map (jy ps)),kY (al ps),.int (uV ps)]
def zY{ks:List Nat}(h:k<(ks.map nD).length):itD (ks.map nD) k=.int ((ks.getD k 0:Nat):Int):=i4 (by
 have h:k<ks.length:=by rwa [length_map] at h
 rw [h_,cn,cx h];rfl)
theorem rg(w:List Nat):∀ws:List (List Nat),inD (.str w) (ws.map .str)=decide (w∈ws)
 | []=>by simp [inD]
 | v::r=>by
  have ih:=rg w r;unfold inD at ih ⊢;rw [map_cons,any_cons,ih];show ((v == w) || decide (w∈r))=_
  by_cases h:v=w
  .subst h;simp
  .rw [beq_eq_false_iff_ne.mpr h,Bool.false_or]
   by_cases h2:w∈r
   .rw [decide_eq_true h2,decide_eq_true (m_ _ h2)]
   .rw [decide_eq_false h2,decide_eq_false (λz=>(C_.mp z).elim (λe=>h e.symm) h2)]
theorem Df(k:Nat):∀ks:List Nat,inD (.int (k:Int)) (ks.map nD)=decide (k∈ks)
 | []=>by simp [inD]
 | v::r=>by
  have ih:=Df k r;unfold inD at ih ⊢;rw [map_cons,any_cons,ih];show (((v:Int) == (k:Int)) || decide (k∈r))=_
  by_cases h:v=k
  .subst h;simp
  .rw [show ((v:Int) == (k:Int))=false from beq_eq_false_iff_ne.mpr (by omega),Bool.false_or]
   by_cases h2:k∈r
   .rw [decide_eq_true h2,decide_eq_true (m_ _ h2)]
   .rw [decide_eq_false h2,decide_eq_false (λz=>(C_.mp z).elim (λe=>h e.symm) h2)]
def zZ(ws:List (List Nat)):(ws.map D.str).all D.fl=true:=by rw [all_map];exact MU.mpr λ_ _=>rfl
def J0(ks:List Nat):(ks.map nD).all D.fl=true:=by rw [all_map];exact MU.mpr λ_ _=>rfl
def EZ(n:Nat):uo 0 n=(c_ n).map nD:=by
 unfold uo nD;exact MD λk _=>by rw [O7]
def wU(ws:List (List Nat)):(c_ ws.length).map (pw ws)=ws:=by
 apply Nz;intro k;rw [h_]
 by_cases hk:k<ws.length
 .rw [H_ hk,bR hk];rfl
 .rw [u_ (by rw [length_range];omega),u_ (by omega)];rfl
def B6(f:List Nat->Option β)(ws:List (List Nat)):(c_ ws.length).filterMap (λk=>f (pw ws k))=ws.filterMap f:=by
 conv=>rhs;rw [<- wU ws]
 rw [NF];rfl
theorem dE(p:α->Bool)(g:α->β):∀l:List α,l.filterMap (λa=>if p a=true then some (g a) else none)=(l.filter p).map g
 | []=>rfl
 | a::r=>by
  rw [Nn,filter_cons]
  cases h:p a with
  | true=>simp [dE p g r]
  | false=>simp [dE p g r]
def B7(f:Nat->Option β)(ks:List Nat):(c_ ks.length).filterMap (λk=>f (ks.getD k 0))=ks.filterMap f:=by
 have e:(c_ ks.length).map (λk=>ks.getD k 0)=ks:=by
  have:=jr (λk=>k) ks;rw [List.map_id'] at this;exact this
 conv=>rhs;rw [<- e]
 rw [NF];rfl
def nq(n:Nat):(uo 0 n).length=n:=by unfold uo;rw [length_map,length_range]
def nr(h:j<(uo 0 n).length):itD (uo 0 n) j=.int (j:Int):=i4 (by
 rw [nq] at h;unfold uo;rw [h_,H_ h];show some (D.int (0+(j:Int)))=_;rw [O7])
def wV(a b:List Int):deq (.lst (a.map .int)) (.lst (b.map .int))=decide (a=b):=by
 unfold deq;show N8 (.list (D.pys _)) (.list (D.pys _))=_;rw [qZ,qZ];simp only [N8];exact mU a b
open PySem.Builtin PySem.Builtin.ObjectAttr
open PySem.Builtin PySem.Builtin.ObjectAttr
open PySem.Builtin PySem.Builtin.ObjectAttr
open PySem.Builtin PySem.Builtin.ObjectAttr
def z0(d:D):(PV.dat d).d=d:=rfl
def Aa(ds:List D):(PV.own ds).d=.lst ds:=rfl
def Ab(ks:List Key)(ds:List D):(PV.odc ks ds).d=.dic ks ds:=rfl
def Ac(c:Str)(ns:List Str)(ds:List D):(PV.ins c ns ds).d=.obj c ns ds:=rfl
def HN(ds:List D):mkL false ds=.own ds:=rfl
def HP(ds:List D):mkL true ds=.dat (.tup ds):=rfl
noncomputable def pkm(ρ:PSt)(j:Nat):Option PV:=match ρ[j]? with
 | some v=>v
 | none=>none
def wW(v:Option PV)(r:PSt):pkm (v::r) 0=v:=rfl
def wX(v:Option PV)(r:PSt)(n:Nat):pkm (v::r) (n+1)=pkm r n:=rfl
def tK(ρ:PSt):bA [] ρ=[]:=rfl
def qg(ix:List (Option Nat))(ρ:PSt):bA (none::ix) ρ=none::bA ix ρ:=rfl
def qh(j:Nat)(ix:List (Option Nat))(ρ:PSt):bA (some j::ix) ρ=pkm ρ j::bA ix ρ:=rfl
def tL(j:Nat)(ix:List (Option Nat))(ρ:PSt)(t:Option PV)(τ:PSt):eW (some j::ix) ρ (t::τ)=eW ix (ρ.set j t) τ:=rfl
def tM(ix:List (Option Nat))(ρ:PSt)(t:Option PV)(τ:PSt):eW (none::ix) ρ (t::τ)=eW ix ρ τ:=rfl
def wY(ρ τ:PSt):eW [] ρ τ=ρ:=rfl
noncomputable def Ll(pe:PTE):PTE:=λρ Q=>pe ρ λp ρ1=>Q (.dat p.d) ρ1
def wZ{ta:TE}(h:LE K ta pe):LE K ta (Ll pe):=λA ρ σ H Q Q' R q k=>h A ρ σ H _ Q' R q λv H' p ρ' q f o=>k v H' (.dat p.d) ρ' q f o.frz
def jA{e:α->D}{xs:List α}(h:k<xs.length):itD (xs.map e) k=e xs[k]:=i4 (by rw [h_,cx h];rfl)
def Ad(f:α->β)(xs:List α)(g:Nat->β)(h:∀k (hk:k<xs.length),g k=f xs[k]):(c_ xs.length).map g=xs.map f:=by
 apply Nz;intro i;rw [h_,h_]
 by_cases hi:i<xs.length
 .rw [H_ hi,cx hi];exact congrArg some (h i hi)
 .rw [u_ (by rw [length_range];omega),u_ (by omega)];rfl
section
variable {e:α->D}{xs:List α}{g:PTG}{pt:PTT}{Q:PKt}
def Lm(T:PSt->Prop)(f:α->Option D)(h0:T (bA ix ρ1))(hs:∀x∈xs,∀τ,T τ->∀(K1:D->PSt->Prop) (K2:PSt->Prop),(∀d τ',f x=some d->T τ'->K1 d τ')->(∀τ',f x=none->T τ'->K2 τ')->g (.dat (e x)) τ λτ2=>pt τ2 λok τ3=>il ok (pe τ3 λp τ4=>K1 p.d τ4) (K2 τ3))(hq:∀τ,T τ->Q (.own (xs.filterMap f)) (eW ix ρ1 τ)):o0 ix ρ1 (xs.map e).length (itD (xs.map e)) g pt pe Q:=by
 refine cfm T (λk=>(xs[k]?).bind f) h0 (λk τ d hk ed t K1 K2 k1 k2=>?_) λτ t=>?_
 .rw [length_map] at hk;rw [jA hk] at ed;subst ed;have eg:(xs[k]?).bind f=f xs[k]:=by rw [cx hk];rfl
  rw [eg] at k1 k2;exact hs _ (FX hk) τ t K1 K2 k1 k2
 .have e1:(c_ (xs.map e).length).filterMap (λk=>(xs[k]?).bind f)=xs.filterMap f:=by
   rw [length_map];have h1:(c_ xs.length).map (λk=>(xs[k]?).bind f)=xs.map f:=Ad f xs _ λk hk=>by rw [cx hk];rfl
   have h2:∀l:List Nat,l.filterMap (λk=>(xs[k]?).bind f)=(l.map λk=>(xs[k]?).bind f).filterMap id:=λl=>by rw [NF];rfl
   rw [h2,h1,NF];rfl
  rw [e1];exact hq τ t
def HQ(T:PSt->Prop)(f:α->D)(h0:T (bA ix ρ1))(hs:∀x∈xs,∀τ,T τ->∀K1:D->PSt->Prop,(∀τ',T τ'->K1 (f x) τ')->g (.dat (e x)) τ λτ2=>pe τ2 λp τ4=>K1 p.d τ4)(hq:∀τ,T τ->Q (.own (xs.map f)) (eW ix ρ1 τ)):o0 ix ρ1 (xs.map e).length (itD (xs.map e)) g zF pe Q:=by
 refine Lm T (λx=>some (f x)) h0 (λx hx τ t K1 K2 k1 k2=>?_) λτ t=>?_
 .exact hs x hx τ t K1 λτ' t'=>k1 _ τ' rfl t'
 .rw [show xs.filterMap (λx=>some (f x))=xs.map f by rw [<- filterMap_eq_map];rfl];exact hq τ t
def cm1(f:α->D)(hs:∀x∈xs,∀(v:Option PV) (K1:D->PSt->Prop),(∀v',K1 (f x) (v'::(bA ix ρ1).tail))->g (.dat (e x)) (v::(bA ix ρ1).tail) λτ2=>pe τ2 λp τ4=>K1 p.d τ4)(hq:∀v:Option PV,Q (.own (xs.map f)) (eW ix ρ1 (v::(bA ix ρ1).tail)))(hx:bA ix ρ1=none::(bA ix ρ1).tail:=by rfl):o0 ix ρ1 (xs.map e).length (itD (xs.map e)) g zF pe Q:=by
 refine HQ (λτ=>∃v,τ=v::(bA ix ρ1).tail) f ⟨none,hx⟩ ?_ ?_
 .rintro x hx τ ⟨v,rfl⟩ K1 k1;exact hs x hx v K1 λv'=>k1 _ ⟨v',rfl⟩
 .rintro τ ⟨v,rfl⟩;exact hq v
end
def cmR{g:PTG}{Q:PKt}(f:Nat->D)(hs:∀k,k<n->∀(v:Option PV) (K1:D->PSt->Prop),(∀v',K1 (f k) (v'::(bA ix ρ1).tail))->g (.dat (it k)) (v::(bA ix ρ1).tail) λτ2=>pe τ2 λp τ4=>K1 p.d τ4)(hq:∀v:Option PV,Q (.own ((c_ n).map f)) (eW ix ρ1 (v::(bA ix ρ1).tail)))(hx:bA ix ρ1=none::(bA ix ρ1).tail:=by rfl):o0 ix ρ1 n it g zF pe Q:=by
 refine yt (λτ=>∃v,τ=v::(bA ix ρ1).tail) f ⟨none,hx⟩ ?_ ?_
 .rintro k τ d hk rfl ⟨v,rfl⟩ K1 k1;exact hs k hk v K1 λv'=>k1 _ ⟨v',rfl⟩
 .rintro τ ⟨v,rfl⟩;exact hq v
def cfR{g:PTG}{pt:PTT}{Q:PKt}(p:Nat->Bool)(f:Nat->D)(hs:∀k,k<n->∀(v:Option PV) (K1:D->PSt->Prop) (K2:PSt->Prop),(∀v',p k=true->K1 (f k) (v'::(bA ix ρ1).tail))->(∀v',p k=false->K2 (v'::(bA ix ρ1).tail))->g (.dat (it k)) (v::(bA ix ρ1).tail) λτ2=>pt τ2 λok τ3=>il ok (pe τ3 λp τ4=>K1 p.d τ4) (K2 τ3))(hq:∀v:Option PV,Q (.own (((c_ n).filter p).map f)) (eW ix ρ1 (v::(bA ix ρ1).tail)))(hx:bA ix ρ1=none::(bA ix ρ1).tail:=by rfl):o0 ix ρ1 n it g pt pe Q:=by
 refine cfm (λτ=>∃v,τ=v::(bA ix ρ1).tail) (λk=>if p k=true then some (f k) else none) ⟨none,hx⟩ ?_ ?_
 .rintro k τ d hk rfl ⟨v,rfl⟩ K1 K2 k1 k2;exact hs k hk v K1 K2 (λv' h=>k1 _ _ (by rw [if_pos h]) ⟨v',rfl⟩) λv' h=>k2 _ (by rw [if_neg (by rw [h];decide)]) ⟨v',rfl⟩
 .rintro τ ⟨v,rfl⟩;rw [dE];exact hq v
section
variable {e:α->D}{xs:List α}{g:PTG}{pb:PTS}{nx bk:PSt->Prop}{rt:PV->PSt->Prop}
def IS(J:List α->PSt->Prop)(h0:J [] ρ1)(hs:∀pre x suf ρ,xs=pre++x::suf->J pre ρ->g (.dat (e x)) ρ λρ2=>pb { nx:=J (pre++[x]),rt:=rt,bk:=bk,ct:=J (pre++[x]) } ρ2)(hq:∀ρ,J xs ρ->nx ρ):
  ∃I:Nat->PSt->Prop,I 0 ρ1/\(∀k ρ d,k<(xs.map e).length->d=itD (xs.map e) k->I k ρ->g (.dat d) ρ λρ2=>pb { nx:=I (k+1),rt:=rt,bk:=bk,ct:=I (k+1) } ρ2)/\∀ρ,I (xs.map e).length ρ->nx ρ:=by
 refine⟨λk ρ=>J (xs.take k) ρ,by show J (xs.take 0) ρ1;rw [take_zero];exact h0,λk ρ d hk ed hJ=>?_,λρ h=>hq ρ (by have h:J (xs.take (xs.map e).length) ρ:=h;rw [length_map,take_length] at h;exact h)⟩;rw [length_map] at hk;rw [jA hk] at ed;subst ed;have ht:xs.take (k+1)=xs.take k++[xs[k]]:=by rw [O4,cx hk];rfl
 show g _ ρ λρ2=>pb { nx:=J (xs.take (k+1)),rt:=rt,bk:=bk,ct:=J (xs.take (k+1)) } ρ2;rw [ht];exact hs _ _ (xs.drop (k+1)) ρ (by rw [getElem_cons_drop,Lz]) hJ
def KO(J:List α->PSt->Prop)(h0:J [] ρ1)(hs:∀pre x suf ρ,xs=pre++x::suf->J pre ρ->g (.dat (.tup [.int (pre.length:Int),e x])) ρ λρ2=>pb { nx:=J (pre++[x]),rt:=rt,bk:=bk,ct:=J (pre++[x]) } ρ2)(hq:∀ρ,J xs ρ->nx ρ)(hit:∀k,it k=.tup [.int (k:Int),itD (xs.map e) k]:=by intro k;rfl):
  ∃I:Nat->PSt->Prop,I 0 ρ1/\(∀k ρ d,k<(xs.map e).length->d=it k->I k ρ->g (.dat d) ρ λρ2=>pb { nx:=I (k+1),rt:=rt,bk:=bk,ct:=I (k+1) } ρ2)/\∀ρ,I (xs.map e).length ρ->nx ρ:=by
 refine⟨λk ρ=>J (xs.take k) ρ,by show J (xs.take 0) ρ1;rw [take_zero];exact h0,λk ρ d hk ed hJ=>?_,λρ h=>hq ρ (by have h:J (xs.take (xs.map e).length) ρ:=h;rw [length_map,take_length] at h;exact h)⟩;rw [length_map] at hk;rw [hit,jA hk] at ed;subst ed;have ht:xs.take (k+1)=xs.take k++[xs[k]]:=by rw [O4,cx hk];rfl
 show g _ ρ λρ2=>pb { nx:=J (xs.take (k+1)),rt:=rt,bk:=bk,ct:=J (xs.take (k+1)) } ρ2;rw [ht];have hl:(xs.take k).length=k:=by rw [length_take];omega
 have:=hs (xs.take k) xs[k] (xs.drop (k+1)) ρ (by rw [getElem_cons_drop,Lz]) hJ;rw [hl] at this;exact this
end
def nt(f:α->Int)(xs:List α):xs.map (λx=>D.int (f x))=(xs.map f).map D.int:=by rw [map_map];rfl
def uW(f:α->List Nat)(xs:List α):xs.map (λx=>D.str (f x))=(xs.map f).map D.str:=by rw [map_map];rfl
variable {t:List Nat}
def jB{w:List Nat}:stA t w k=true ↔ ∃a b,t=a++w++b/\a.length=k:=by
 unfold stA;rw [decide_eq_true_eq]
 constructor
 .rintro⟨h1,h2⟩;refine⟨t.take k,t.drop (k+w.length),?_,by rw [length_take];omega⟩
  have h3:t.drop k=w++t.drop (k+w.length):=by
   conv=>lhs;rw [<- Lz w.length (t.drop k),h2,drop_drop]
  rw [append_assoc,<- h3,Lz]
 .rintro⟨a,b,rfl,rfl⟩;refine⟨by rw [length_append,length_append];omega,?_⟩;rw [append_assoc,drop_left,take_left]
def dF:f9 a b=true ↔ a <:+: b:=by
 rw [jx]
 constructor
 .rintro⟨k,hk⟩;obtain⟨u,v,e,_⟩:=jB.mp hk;exact⟨u,v,e.symm⟩
 .rintro⟨u,v,e⟩;exact⟨u.length,jB.mpr ⟨u,v,e.symm,rfl⟩⟩
def uX:f9 a b=true ↔ 0<=fnd b a 0:=by unfold f9;exact decide_eq_true_iff
def B8:f9 a b=false ↔ fnd b a 0<0:=by
 unfold f9;rw [decide_eq_false_iff_not];omega
def B9(h:re a b k)(ht:a <:+ t):b <:+ t++b.drop k:=by
 obtain⟨u,hu⟩:=List.IsSuffix.trans h.2.1 ht;refine⟨u,?_⟩;rw [<- hu,append_assoc,Lz]
def Ae(f:α->β)(xs:List α)(i:Nat):(xs.map f).eraseIdx i=(xs.eraseIdx i).map f:=by
 rw [eraseIdx_eq_take_drop_succ,eraseIdx_eq_take_drop_succ,map_append,map_take,map_drop]
def Af{js:List α}(h:i<js.length):(js.eraseIdx i++[js[i]]).Perm js:=by
 rw [eraseIdx_eq_take_drop_succ,append_assoc];have e:js=js.take i++(js[i]::js.drop (i+1)):=by rw [getElem_cons_drop,Lz]
 conv=>rhs;rw [e]
 exact List.Perm.append_left _ (perm_append_singleton _ _)
def Ln(h:i<n):ixN n (i:Int)=some i:=by
 unfold ixN;rw [if_pos (by omega),if_pos (by omega),toNat_natCast]
end L2
namespace L2
open PySem PySem.W PyProof.Rows
variable {n:Nat}{r:Nat->Nat}{cmp:Nat->Nat->(Bool->d_->Prop)->d_->Prop}{s:d_}
noncomputable def Ans(n:Nat)(r:Nat->Nat)(cmp:Nat->Nat->(Bool->d_->Prop)->d_->Prop)(s:d_):Prop :=
 ∀(i j:Nat) (C:Bool->d_->Prop),i<n->j<n->C (decide (r i<r j)) s->cmp i j C s
noncomputable def kk(r:Nat->Nat)(p:Array Nat)(i:Nat):Nat:=r (p.getD i 0)
noncomputable def Pm(n:Nat)(p:Array Nat):Prop:=p.toList.Perm (c_ n)
variable {p:Array Nat}
def Pm.size(h:Pm n p):p.size=n:=by
 have:=List.Perm.length_eq h;rw [we,length_range] at this;exact this
variable {i:Nat}
def Pm.lt(h:Pm n p)(hi:i<n):p.getD i 0<n:=by
 have hs:=h.size;have e:p.getD i 0=p[i]'(by omega):=by simp [Array.getD,hs,hi]
 rw [e];exact mem_range.mp (h.mem_iff.mp (Array.getElem_mem_toList (by omega)))
def gy(i:Nat):p.getD i 0=(p[i]?).getD 0:=by
 simp [Array.getD_eq_getD_getElem?]
def Pm.rev(h:Pm n p)(i j:Nat):Pm n (kas_rev p i j):=by
 have:=(mirror_perm p i j ((j - i) / 2))
 exact (Oa.mp this).trans h
def Pm.bub(h:Pm n p)(i j:Nat):Pm n (bubble p i j):=(Oa.mp (bubble_perm p i j)).trans h
variable {j:Nat}
def Ag(hj:j<=p.size)(k:Nat):kk r (kas_rev p i j) k=if i<=k/\k<j then kk r p (i+j - 1 - k) else kk r p k:=by
 unfold kk kas_rev;rw [gy,gy,gy,getElem?_mirror_all hj];split <;> rfl
variable {k:Nat}
def Dg{d:Nat}(hs:k<p.size)(hd:d<=k)(i:Nat):kk r (bubble p k d) i=if i=k - d then kk r p k else if k - d<i/\i<=k then kk r p (i - 1) else kk r p i:=by
 unfold kk;rw [gy,gy,gy,gy,getElem?_bubble hs d hd]
 repeat' split
 all_goals rfl
noncomputable def Up(r:Nat->Nat)(p:Array Nat)(k:Nat):Prop:=∀i j,i<=j->j<k->kk r p i<=kk r p j
noncomputable def Dn(r:Nat->Nat)(p:Array Nat)(k:Nat):Prop:=∀i j,i<=j->j<k->kk r p j<=kk r p i
def Up.succ(h:Up r p k)(h1:1<=k)(g:kk r p (k - 1)<=kk r p k):Up r p (k+1):=λi j hij hj=>by
 rcases Ly j k with z|z
 .exact h i j hij z
 .have:j=k:=by omega
  subst this
  rcases Ly i j with y|y
  .exact p_ (h i (j - 1) (by omega) (by omega)) g
  .have:i=j:=by omega
   rw [this];exact e_ _
def Dn.succ(h:Dn r p k)(h1:1<=k)(g:kk r p k<=kk r p (k - 1)):Dn r p (k+1):=λi j hij hj=>by
 rcases Ly j k with z|z
 .exact h i j hij z
 .have:j=k:=by omega
  subst this
  rcases Ly i j with y|y
  .exact p_ g (h i (j - 1) (by omega) (by omega))
  .have:i=j:=by omega
   rw [this];exact e_ _
def Dn.up(h:Dn r p k)(hk:k<=p.size):Up r (kas_rev p 0 k) k:=λi j hij hj=>by
 rw [Ag hk,Ag hk,if_pos ⟨by omega,by omega⟩,if_pos ⟨by omega,by omega⟩];exact h _ _ (by omega) (by omega)
def rh{a m:Nat}(hm:m<=p.size)(hb:∀k,a<=k->k<m->kk r p k=kk r p (m - 1))(k:Nat):kk r (kas_rev p a m) k=kk r p k:=by
 rw [Ag hm]
 split
 .rename_i h;rw [hb k h.1 h.2,hb _ (by omega) (by omega)]
 .rfl
def Dn.same{p':Array Nat}(h:Dn r p k)(e:∀i,kk r p' i=kk r p i):Dn r p' k:=λi j hij hj=>by rw [e,e];exact h i j hij hj
variable {α:Type}{c:Bool}
def qi{T₁ T₂:KasT α}{Q:α->d_->Prop}(h1:c=true->T₁.kasWp cmp Q s)(h2:c=false->T₂.kasWp cmp Q s):(if c=true then T₁ else T₂).kasWp cmp Q s:=by
 cases c with
 | true=>exact h1 rfl
 | false=>exact h2 rfl
theorem Ah(A:Ans n r cmp s)(hp:Pm n p){G:Nat->d_->Prop}:∀(f m:Nat),1<=m->m+f<=n->Up r p m ->
  (∀m',m<=m'->m'<=m+f->Up r p m'->(m'=m+f\/(m'<m+f/\kk r p m'<kk r p (m' - 1)))->G m' s)->(kas_asc p f m).kasWp cmp G s
 | 0,m,h1,hf,hu,k=>k m (e_ _) (e_ _) hu (.inl rfl)
 | f+1,m,h1,hf,hu,k=>by
  show cmp (p.getD m 0) (p.getD (m - 1) 0) (λc s'=>(if c=true then KasT.ret m else kas_asc p f (m+1)).kasWp cmp G s') s
  refine A _ _ _ (hp.lt (by omega)) (hp.lt (by omega)) (qi (λe=>?_) λe=>?_)
  .exact k m (e_ _) (by omega) hu (.inr ⟨by omega,of_decide_eq_true e⟩)
  .have e':¬ (kk r p m<kk r p (m - 1)):=of_decide_eq_false e;exact Ah A hp f (m+1) (by omega) (by omega) (hu.succ h1 (by omega)) λm' a b c d=>k m' (by omega) (by omega) c (by omega)
noncomputable def Blk(r:Nat->Nat)(p:Array Nat)(m q:Nat):Prop:=q+1<=m/\∀k,m - (q+1)<=k->k<m->kk r p k=kk r p (m - 1)
theorem rj(A:Ans n r cmp s){G:Array Nat×Nat×Nat->d_->Prop}:∀(f:Nat) (p:Array Nat) (m q:Nat),Pm n p->m+f<=n->Dn r p m->Blk r p m q ->
  (∀p' m' q',Pm n p'->m<=m'->m'<=n->Dn r p' m'->Blk r p' m' q'->G (p',m',q') s)->(kas_desc f p m q).kasWp cmp G s
 | 0,p,m,q,hp,hf,hd,hb,k=>k p m q hp (e_ _) (by omega) hd hb
 | f+1,p,m,q,hp,hf,hd,hb,k=>by
  have hb1:=hb.1;have hs:=hp.size
  show cmp (p.getD m 0) (p.getD (m - 1) 0) (λc s'=>(if c=true then (if q > 0 then kas_desc f (kas_rev p (m - (q+1)) m) (m+1) 0 else kas_desc f p (m+1) 0)
   else .ask (p.getD (m - 1) 0) (p.getD m 0) λd=>if d=true then .ret (p,m,q) else kas_desc f p (m+1) (q+1)).kasWp cmp G s') s
  refine A _ _ _ (hp.lt (by omega)) (hp.lt (by omega)) (qi (λe=>?_) λe=>?_)
  .have e':kk r p m<kk r p (m - 1):=of_decide_eq_true e;have B:∀p':Array Nat,Blk r p' (m+1) 0:=λp'=>⟨by omega,λk h1 h2=>by rw [show k=m+1 - 1 by omega]⟩
   split
   .have same:=rh (r:=r) (p:=p) (a:=m - (q+1)) (m:=m) (by omega) hb.2;refine rj A f _ (m+1) 0 (hp.rev _ _) (by omega) ((hd.same same).succ (by omega) (by rw [same,same];omega)) (B _) λp' m' q' a b c d e=>k p' m' q' a (by omega) c d e
   .exact rj A f p (m+1) 0 hp (by omega) (hd.succ (by omega) (by omega)) (B _) λp' m' q' a b c d e=>k p' m' q' a (by omega) c d e
  .have e':¬ (kk r p m<kk r p (m - 1)):=of_decide_eq_false e;show cmp (p.getD (m - 1) 0) (p.getD m 0) (λd s'=>(if d=true then KasT.ret (p,m,q) else kas_desc f p (m+1) (q+1)).kasWp cmp G s') s
   refine A _ _ _ (hp.lt (by omega)) (hp.lt (by omega)) (qi (λg=>?_) λg=>?_)
   .exact k p m q hp (e_ _) (by omega) hd hb
   .have g':¬ (kk r p (m - 1)<kk r p m):=of_decide_eq_false g;refine rj A f p (m+1) (q+1) hp (by omega) (hd.succ (by omega) (by omega)) ⟨by omega,λk h1 h2=>?_⟩ λp' m' q' a b c d e=>k p' m' q' a (by omega) c d e
    rcases Ly k m with z|z
    .rw [hb.2 k (by omega) z,add_sub_cancel];omega
    .rw [show k=m+1 - 1 by omega]
def Aj(A:Ans n r cmp s){G:Nat×Array Nat->d_->Prop}{m:Nat}(h1:1<=m)(hm:m<=n)(hp:Pm n p)(hd:Dn r p m)(k:∀m' p',1<=m'->m'<=n->Pm n p'->Up r p' m'->G (m',p') s):(kas_tail3 m n p).kasWp cmp G s:=by
 unfold kas_tail3;rw [Nc];exact Ah A (hp.rev 0 m) (n - m) m h1 (by omega) (hd.up (by rw [hp.size];exact hm)) λm' a b c _=>k m' _ (by omega) (by omega) (hp.rev 0 m) c
def nu(A:Ans n r cmp s){G:Nat×Array Nat->d_->Prop}{m:Nat}(hm:m<n)(hp:Pm n p)(hd:Dn r p (m+1))(k:∀m' p',1<=m'->m'<=n->Pm n p'->Up r p' m'->G (m',p') s):(kas_descPart m n p).kasWp cmp G s:=by
 unfold kas_descPart;rw [Nc];refine rj A (n - (m+1)) p (m+1) 0 hp (by omega) hd ⟨by omega,λk h1 h2=>by rw [show k=m+1 - 1 by omega]⟩ λp' m' q' a b c d e=>?_
 try dsimp only
 split
 .have same:=rh (r:=r) (p:=p') (a:=m' - (q'+1)) (m:=m') (by rw [a.size];exact c) e.2;exact Aj A (by omega) c (a.rev _ _) (d.same same) k
 .exact Aj A (by omega) c a d k
def Ca(A:Ans n r cmp s){G:Nat×Array Nat->d_->Prop}(hn:1<=n)(hp:Pm n p)(k:∀m' p',1<=m'->m'<=n->Pm n p'->Up r p' m'->G (m',p') s):(kas_count n p).kasWp cmp G s:=by
 unfold kas_count;rw [Nc];refine Ah A hp (n - 1) 1 (e_ _) (by omega) (λi j _ hj=>by rw [show i=0 by omega,show j=0 by omega];exact e_ _) λm a b c d=>?_
 try dsimp only
 refine qi (λ_=>k m p a (by omega) hp c) λe=>?_
 have hm:m<n:=by
  have:m≠n:=λz=>by rw [z] at e;simp at e
  omega
 have dd:kk r p m<kk r p (m - 1):=by rcases d with d|d <;> omega
 split
 .rename_i g;show cmp (p.getD 0 0) (p.getD (m - 1) 0) (λc s'=>(if c=true then KasT.ret (m,p) else kas_descPart m n (kas_rev p 0 m)).kasWp cmp G s') s;refine A _ _ _ (hp.lt (by omega)) (hp.lt (by omega)) (qi (λ_=>k m p a (by omega) hp c) λe2=>?_);have e2':¬ (kk r p 0<kk r p (m - 1)):=of_decide_eq_false e2;have hs:=hp.size
  have all:∀i,0<=i->i<m->kk r p i=kk r p (m - 1):=λi _ hi=>by
   have h1:=c 0 i (by omega) hi;have h2:=c i (m - 1) (by omega) (by omega);omega
  have same:=rh (r:=r) (p:=p) (a:=0) (m:=m) (by omega) all;refine nu A hm (hp.rev _ _) (Dn.succ (λi j hij hj=>?_) a (by rw [same,same];omega)) k;rw [same,same,all i (by omega) (by omega),all j (by omega) (by omega)];exact e_ _
 .refine nu A hm hp (Dn.succ (λi j _ hj=>?_) a (by omega)) k;rw [show i=0 by omega,show j=0 by omega];exact e_ _
theorem rk(A:Ans n r cmp s){G:Nat->d_->Prop}(hk:k<n)(hp:Pm n p)(hu:Up r p k)(g:∀l,l<=k->(∀i,i<l->kk r p i<=kk r p k)->(∀i,l<=i->i<k->kk r p k<kk r p i)->G l s):∀(f l h:Nat),h - l<=f->l<=h->h<=k->(∀i,i<l->kk r p i<=kk r p k)->(∀i,h<=i->i<k->kk r p k<kk r p i)->(kas_place p k f l h).kasWp cmp G s
 | 0,l,h,hf,hl,hh,a,b=>g l (by omega) a λi h1 h2=>b i (by omega) h2
 | f+1,l,h,hf,hl,hh,a,b=>by
  unfold kas_place
  split
  .exact g l (by omega) a λi h1 h2=>b i (by omega) h2
  .show cmp (p.getD k 0) (p.getD ((l+h) / 2) 0) (λc s'=>(if c=true then kas_place p k f l ((l+h) / 2) else kas_place p k f ((l+h) / 2+1) h).kasWp cmp G s') s
   refine A _ _ _ (hp.lt (by omega)) (hp.lt (by omega)) (qi (λe=>?_) λe=>?_)
   .have e':kk r p k<kk r p ((l+h) / 2):=of_decide_eq_true e;refine rk A hk hp hu g f l _ (by omega) (by omega) (by omega) a λi h1 h2=>?_;have:=hu _ i h1 h2;omega
   .have e':¬ (kk r p k<kk r p ((l+h) / 2)):=of_decide_eq_false e;refine rk A hk hp hu g f _ h (by omega) (by omega) hh (λi h1=>?_) b;have:=hu i ((l+h) / 2) (by omega) (by omega);omega
theorem Dh(A:Ans n r cmp s){G:Array Nat->d_->Prop}(g:∀p,Pm n p->Up r p n->G p s):∀(f:Nat) (p:Array Nat) (k:Nat),Pm n p->k+f=n->Up r p k->(kas_bin f p k).kasWp cmp G s
 | 0,p,k,hp,hf,hu=>g p hp (by rw [show n=k by omega];exact hu)
 | f+1,p,k,hp,hf,hu=>by
  show ((kas_place p k k 0 k).bind λl=>kas_bin f (bubble p k (k - l)) (k+1)).kasWp cmp G s;rw [Nc];refine rk A (by omega) hp hu (λl hl a b=>?_) k 0 k (by omega) (by omega) (e_ _) (λi h=>by omega) λi h1 h2=>by omega
  refine Dh A g f _ (k+1) (hp.bub _ _) (by omega) λi j hij hj=>?_;have hs:=hp.size;rw [Dg (by omega) (by omega),Dg (by omega) (by omega),show k - (k - l)=l by omega]
  split
  .rename_i h1
   split
   .exact e_ _
   .split
    .exact le_of_lt (b _ (by omega) (by omega))
    .omega
  .rename_i h1
   split
   .rename_i h2;rw [if_neg (by omega)];rw [if_pos ⟨by omega,by omega⟩];exact hu _ _ (by omega) (by omega)
   .rename_i h2
    split
    .exact a i (by omega)
    .split
     .exact hu _ _ (by omega) (by omega)
     .exact hu _ _ (by omega) (by omega)
def E1(A:Ans n r cmp s)(hn:1<=n){G:Array Nat->d_->Prop}(g:∀p,Pm n p->Up r p n->G p s):(kas_sort n).kasWp cmp G s:=by
 unfold kas_sort;rw [Nc];refine Ca A hn (show Pm n (List.toArray (c_ n)) from OP _) λm p h1 h2 hp hu=>?_
 try dsimp only
 split
 .rw [show max m 1=m by omega];exact Dh A g (n - m) p m hp (by omega) hu
 .exact g p hp (by rw [show n=m by omega];exact hu)
end L2
namespace L2
open PySem PySem.Spec PyProof.Rows
noncomputable def lxB:List Int->List Int->Bool
 | [],[]=>false
 | [],_::_=>true
 | _::_,[]=>false
 | x::xs,y::ys=>if x=y then lxB xs ys else decide (x<y)
def w4{x y:Int}{xs ys:List Int}:lxB (x::xs) (y::ys)=true ↔ x<y\/(x=y/\lxB xs ys=true):=by
 show (if x=y then lxB xs ys else decide (x<y))=true ↔ _
 split
 .rename_i h;subst h;simp
 .rename_i h;simp [h]
theorem Di:∀xs:List Int,lxB xs xs=false
 | []=>rfl
 | x::xs=>by show (if x=x then lxB xs xs else _)=false;rw [if_pos rfl];exact Di xs
theorem HR:∀{xs ys zs:List Int},lxB xs ys=true->lxB ys zs=true->lxB xs zs=true
 | [],[],_,h,_=>by cases h
 | [],_::_,[],_,h=>by cases h
 | [],_::_,_::_,_,_=>rfl
 | _::_,[],_,h,_=>by cases h
 | _::_,_::_,[],_,h=>by cases h
 | x::xs,y::ys,z::zs,h1,h2=>by
  rw [w4] at h1 h2 ⊢
  rcases h1 with a|⟨rfl,a⟩
  .rcases h2 with b|⟨rfl,b⟩
   .left;omega
   .left;exact a
  .rcases h2 with b|⟨rfl,b⟩
   .left;exact b
   .right;exact⟨rfl,HR a b⟩
theorem Dj:∀{xs ys:List Int},lxB xs ys=false->lxB ys xs=false->xs=ys
 | [],[],_,_=>rfl
 | [],_::_,h,_=>by cases h
 | _::_,[],_,h=>by cases h
 | x::xs,y::ys,h1,h2=>by
  have a:¬ (x<y\/(x=y/\lxB xs ys=true)):=λz=>by rw [w4.mpr z] at h1;cases h1
  have b:¬ (y<x\/(y=x/\lxB ys xs=true)):=λz=>by rw [w4.mpr z] at h2;cases h2
  have e:x=y:=by omega
  subst e
  have a':lxB xs ys=false:=by
   cases g:lxB xs ys with
   | false=>rfl
   | true=>exact absurd (.inr ⟨rfl,g⟩) a
  have b':lxB ys xs=false:=by
   cases g:lxB ys xs with
   | false=>rfl
   | true=>exact absurd (.inr ⟨rfl,g⟩) b
  rw [Dj a' b']
theorem Dk{α:Type}{p q:α->Bool}:∀{l:List α},(∀x∈l,p x=true->q x=true)->l.countP p<=l.countP q
 | [],_=>e_ _
 | a::l,h=>by
  have ih:=Dk (l:=l) λx hx=>h x (m_ _ hx);rw [OQ,OQ];have:=h a (mem_cons_self ..)
  cases e:p a with
  | false=>simp only [false_eq_true,if_false];omega
  | true=>rw [this e];simp only [if_true];omega
variable {α:Type}
theorem Dl{p q:α->Bool}{y:α}(hp:p y=false)(hq:q y=true):∀{l:List α},y∈l->(∀x∈l,p x=true->q x=true)->l.countP p<l.countP q
 | [],hy,_=>by cases hy
 | a::l,hy,h=>by
  have h':∀x∈l,p x=true->q x=true:=λx hx=>h x (m_ _ hx);rw [OQ,OQ]
  rcases C_.mp hy with rfl|z
  .have:=Dk h';rw [hp,hq];simp only [false_eq_true,if_false,if_true];omega
  .have ih:=Dl hp hq z h';have:=h a (mem_cons_self ..)
   cases e:p a with
   | false=>simp only [false_eq_true,if_false];omega
   | true=>rw [this e];simp only [if_true];omega
noncomputable def rkL(rows:List (List Int))(i:Nat):Nat:=rows.countP λr=>lxB r (rows.getD i [])
variable {i j:Nat}
def Dm{rows:List (List Int)}(hi:i<rows.length)(hj:j<rows.length):lxB (rows.getD i []) (rows.getD j [])=decide (rkL rows i<rkL rows j):=by
 have mem:∀{i},i<rows.length->rows.getD i []∈rows:=λ{i} h=>by
  rw [cn,cx h];exact FX h
 have one:∀{i j},i<rows.length->lxB (rows.getD i []) (rows.getD j [])=true->rkL rows i<rkL rows j:=λ{i j} hi e =>
  Dl (p:=λr=>lxB r (rows.getD i [])) (q:=λr=>lxB r (rows.getD j [])) (y:=rows.getD i []) (Di _) e (mem hi) λx _ hx=>HR (ys:=rows.getD i []) hx e
 cases e:lxB (rows.getD i []) (rows.getD j []) with
 | true=>rw [decide_eq_true (one hi e)]
 | false =>
  symm;refine decide_eq_false ?_
  cases g:lxB (rows.getD j []) (rows.getD i []) with
  | true=>have:=one hj g;omega
  | false =>
   have z:=Dj e g;unfold rkL;rw [z];exact E_ _
noncomputable def E2(h:Heap)(a:Addr)(r:List Int):Prop:=r≠[]/\∃o xs n,h.get? a=some o/\o.cls=.type "tuple"/\o.data=.seq xs n/\Nb xs.toList r
variable {ns:List Int}
def nv{vs:List Value}(h:Nb vs ns):vs.length=ns.length:=by
 induction h with
 | nil=>rfl
 | cons n t _ ih=>rw [length_cons,length_cons,ih]
variable {prog:tj}{w:World}{A:A_}{s:d_}
theorem Do{b:Bool}{Q:Bool->d_->Prop}:∀{us vs:List Value}{xs ys:List Int}{i:Nat}{fin:Bool},Nb us xs->Nb vs ys->fin=decide (xs.length<ys.length)->Q (lxB xs ys) s->PySem.W.KatLex prog w A b fin Q (us.zip vs) i s
 | _,_,_,_,i,fin,.nil,.nil,hf,h=>by subst hf;exact h
 | _,_,_,_,i,fin,.nil,.cons n t _,hf,h=>by
  subst hf;show Q (decide (0<_+1)) s;rw [decide_eq_true (succ_pos _)];exact h
 | _,_,_,_,i,fin,.cons n t _,.nil,hf,h=>by
  subst hf;show Q (decide (_+1<0)) s;rw [decide_eq_false (Mg _)];exact h
 | _,_,n::xs,m::ys,i,fin,.cons _ t a,.cons _ u c,hf,h=>by
  rw [zip_cons_cons];refine PySem.W.kat_cons (wpAny_eqBool_int ?_)
  refine PySem.W.kat_go (λe=>PySem.W.kat_yes ?_) λe=>PySem.W.kat_no ?_
  .have e':n=m:=by simpa using e
   refine Do a c ?_ ?_
   .rw [hf,length_cons,length_cons];exact decide_eq_decide.mpr (by omega)
   .have:lxB (n::xs) (m::ys)=lxB xs ys:=if_pos e';rw [this] at h;exact h
  .have e':¬ n=m:=by simpa using e
   have:lxB (n::xs) (m::ys)=decide (n<m):=if_neg e';rw [this] at h
   cases g:(b && i == 0) with
   | true=>exact oneLt_int h
   | false=>exact PySem.W.kat_one _ _ (lt_int h)
def HS{x y:Addr}{r q:List Int}{vs:List Value}{b:Bool}{C:Bool->d_->Prop}(hx:vs.getD i L0=.ref x)(hy:vs.getD j L0=.ref y)(tx:E2 s.heap x r)(ty:E2 s.heap y q)(h:C (lxB r q) s):
  PySem.W.kas_ask prog w A (tuples' b) vs i j C s:=by
 obtain⟨_,o,xs,n,e1,_,d1,i1⟩:=tx;obtain⟨_,o2,ys,n2,e2,_,d2,i2⟩:=ty;unfold PySem.W.kas_ask;rw [hx,hy];refine PySem.W.kat_lt e1 d1 e2 d2 (Do i1 i2 ?_ h);rw [<- nv i1,<- nv i2,we,we]
theorem Ak{h:Heap}:∀{prs:List (Addr×List Int)},(∀pr∈prs,E2 h pr.1 pr.2)->∃fs:List Value,fs.length=prs.length/\(∀v∈fs,∃i t,v=NC i t)/\PySem.W.KatTups h (prs.map λpr=>n_ pr.1) fs
 | [],_=>⟨[],rfl,nofun,trivial⟩
 | pr::prs,hh=>by
  obtain⟨fs,hl,hi,ht⟩:=Ak (prs:=prs) λq hq=>hh q (m_ _ hq);obtain⟨ne,o,xs,n,e,c,d,ia⟩:=hh pr (mem_cons_self ..);obtain⟨a,l⟩:=pr;dsimp only at ne e ia;obtain⟨xl⟩:=xs;have ia:Nb xl l:=ia
  match xl,l,ia,ne,d with
  | _,_,.nil,ne,_=>exact absurd rfl ne
  | .int i t::vs,_,.cons _ _ r,_,d =>
   refine⟨.int i t::fs,by rw [length_cons,length_cons,hl],λv hv=>?_,PySem.W.KatTups.cons e c d (by simp) ht⟩
   rcases C_.mp hv with rfl|hv
   .exact⟨i,t,rfl⟩
   .exact hi v hv
variable {E:Value->d_->Prop}{n:Nat}
def rm{a:Addr}{prs:List (Addr×List Int)}{P:Fin->d_->Prop}(ho:s.heap.get? a=some (seqObj "list" (prs.map λpr=>n_ pr.1).toArray n))(ht:∀pr∈prs,E2 s.heap pr.1 pr.2)(h64:prs.length<64)(h:∀prs':List (Addr×List Int),prs'.Perm prs->prs'.Pairwise (λx y=>lxB y.2 x.2=false)->P (.done (.ret .none)) { s with heap:=sortedHeap s.heap a (prs.map λpr=>n_ pr.1) (prs'.map λpr=>n_ pr.1).toArray }):
  wpAny (model prog w) A (Od.«list.sort» ⟨[.ref a],[]⟩) P E s:=by
 rw [list_sort_plain];have ha:a<s.heap.objs.size:=pj ho;generalize hvs:(prs.map λpr=>n_ pr.1)=vs at ho h;have hlen:vs.length=prs.length:=by rw [<- hvs,length_map]
 refine cy (listItems_at ho rfl ?_);refine cy (On ho rfl ?_ (by rw [size_toArray,L5];omega) (K_ _));obtain⟨e1,ho1⟩:∃e1,(s.heap.update a (I_ λ_=>#[])).get? a=some (seqObj "list" #[] e1):=⟨_,get?_update_seq ho (λ_=>#[])⟩
 refine cy (seqEpoch_at ho1 rfl ?_);refine cy (wpAny_newTuple ?_ (by show vs.length<=_;rw [L5];omega));refine cy (Om ?_ (K_ _));refine Lu ?_
 have keep:∀b o,b≠a->s.heap.get? b=some o->(((s.heap.update a (I_ λ_=>#[])).push (seqObj "tuple" vs.toArray 0)).push (seqObj "list" #[] 0)).get? b=some o:=λb o hb q=>by
  have hlt:b<s.heap.objs.size:=pj q;rw [Mu _ _ _ (by rw [size_push',MF];exact F_ (MM hlt)),Mu _ _ _ (by rw [MF];exact F_ hlt),Heap.get?_update_ne _ _ _ _ hb];exact q
 have ht':∀pr∈prs,E2 (((s.heap.update a (I_ λ_=>#[])).push (seqObj "tuple" vs.toArray 0)).push (seqObj "list" #[] 0)) pr.1 pr.2:=λpr hpr=>by
  obtain⟨ne,o,xs,m,e,c,d,ia⟩:=ht pr hpr;refine⟨ne,o,xs,m,keep _ _ (λz=>?_) e,c,d,ia⟩;rw [z,ho] at e;rw [<- pf e] at c;exact absurd (show Mj "list"=Mj "tuple" from c) (by decide)
 have ho6:(((s.heap.update a (I_ λ_=>#[])).push (seqObj "tuple" vs.toArray 0)).push (seqObj "list" #[] 0)).get? a=some (seqObj "list" #[] e1):=by
  rw [Mu _ _ _ (by rw [size_push',MF];exact F_ (MM ha)),Mu _ _ _ (by rw [MF];exact F_ ha)];exact ho1
 show wpAny (model prog w) A _ P E { s with heap:=((s.heap.update a (I_ λ_=>#[])).push (seqObj "tuple" vs.toArray 0)).push (seqObj "list" #[] 0) };dsimp only;have hsz:vs.toArray.size=vs.length:=by simp
 by_cases h2:vs.toArray.size<2
 .rw [if_pos h2,if_pos h2];refine cy (g_ ?_);rw [StateT.run_pure];refine cy (g_ ?_);dsimp only;refine cy (seqEpoch_at ho6 rfl ?_);refine cy (On ho6 rfl ?_ (K_ _) (by rw [Array.size_map];show (pairsOf vs).size<=_;rw [pairsOf_size,L5];omega));simp only [bne_self_eq_false,false_eq_true,if_false];refine g_ ?_
  have q:=h prs (OP _) (by
   match prs,hlen with
   | [],_=>exact .nil
   | [x],_=>exact .cons (λ_ z=>by cases z) .nil
   | _::_::_,hl=>rw [hsz] at h2;rw [hl] at h2;simp only [length_cons] at h2;omega)
  rw [hvs] at q
  have e:(arrOf (SortSt.mk' general' (vs.toArray.zip vs.toArray) #[] 7 none)).map (·.2)=vs.toArray:=by
   show (vs.toArray.zip vs.toArray).map (·.2)=vs.toArray;apply Array.toList_inj.mp;rw [Array.toList_map,Array.toList_zip];exact map_snd_zip (e_ _)
  rw [<- e] at q;exact q
 .rw [if_neg h2,if_neg h2];obtain⟨fs,fl,fi,ft⟩:=Ak ht';rw [hvs] at ft
  refine cy (PySem.W.kat_kind (T:=.type "int") ft (by omega) (λv hv=>?_) rfl ?_)
  .obtain⟨i,t,rfl⟩:=fi v hv;exact PySem.W.Looks.of_pure rfl
  refine cy (Lr (PySem.W.kat_run (ks:=vs) (vs:=vs) (Q:=λst' s'=>∃p:Array Nat,Pm vs.length p/\Up (rkL (prs.map (·.2))) p vs.length/\arrOf st'=p.map (PySem.W.kas_item (vs.toArray.zip vs.toArray))/\failedOf st'=none/\s'={ s with heap:=((s.heap.update a (I_ λ_=>#[])).push (seqObj "tuple" vs.toArray 0)).push (seqObj "list" #[] 0) })
   (G:=λp s'=>Pm vs.length p/\Up (rkL (prs.map (·.2))) p vs.length/\s'={ s with heap:=((s.heap.update a (I_ λ_=>#[])).push (seqObj "tuple" vs.toArray 0)).push (seqObj "list" #[] 0) })
   rfl (by omega) (by omega) (λp' st' s' a1 a2 a3 a4=>⟨p',a4.1,a4.2.1,a2,a3,a4.2.2⟩) (E1 (r:=rkL (prs.map (·.2))) (λi j C hi hj hC=>?_) (by omega) λp hp hu=>⟨hp,hu,rfl⟩)) ?_ λ_ _ e=>e)
  .rw [hlen] at hi hj
   have gx:∀{i},i<prs.length->vs.getD i L0=.ref (prs.getD i (0,[])).1/\E2 (((s.heap.update a (I_ λ_=>#[])).push (seqObj "tuple" vs.toArray 0)).push (seqObj "list" #[] 0)) (prs.getD i (0,[])).1 ((prs.map (·.2)).getD i []):=λ{i} hi=>by
    have e:prs.getD i (0,[])=prs[i]:=by rw [cn,cx hi];rfl
    refine⟨?_,?_⟩
    .rw [e,<- hvs,cn,h_,cx hi];rfl
    .have:=ht' prs[i] (FX hi);rw [e,cn,h_,cx hi];exact this
   obtain⟨x1,x2⟩:=gx hi;obtain⟨y1,y2⟩:=gx hj;refine HS x1 y1 x2 y2 ?_;rw [Dm (by rw [length_map];exact hi) (by rw [length_map];exact hj)];exact hC
  .rintro⟨⟨⟩,st'⟩ s' ⟨p,hp,hu,har,hf,rfl⟩;dsimp only;have hout:=PySem.W.kat_snds (ks:=vs) (vs:=vs) rfl har;rw [hout];refine cy (seqEpoch_at ho6 rfl ?_);refine cy (On ho6 rfl ?_ (K_ _) (by rw [size_toArray,length_map,we,hp.size,L5];omega));rw [hf];simp only [bne_self_eq_false,false_eq_true,if_false];refine g_ ?_;have hlt:∀i∈p.toList,i<prs.length:=λi hi=>by rw [<- hlen];exact mem_range.mp (hp.mem_iff.mp hi)
   have eall:(c_ prs.length).map (λi=>prs.getD i (0,[]))=prs:=by
    apply Nz;intro i;rw [h_]
    rcases Ly i prs.length with z|z
    .rw [H_ z,cx z];show some (prs.getD i (0,[]))=_;rw [cn,cx z];rfl
    .rw [u_ (by rw [length_range];exact z),u_ z];rfl
   have q:=h (p.toList.map λi=>prs.getD i (0,[])) (by
    have:=List.Perm.map (λi=>prs.getD i (0,[])) (show p.toList.Perm (c_ prs.length) from hlen ▸ hp);rw [eall] at this;exact this) (by
    rw [NA,MV];intro i j hi hj hij;rw [we] at hi hj;have hs:=hp.size;have hh:=hu i j (le_of_lt hij) (by omega);have k1:kk (rkL (prs.map (·.2))) p i=rkL (prs.map (·.2)) p.toList[i]:=by unfold kk;simp [Array.getD,hi]
    have k2:kk (rkL (prs.map (·.2))) p j=rkL (prs.map (·.2)) p.toList[j]:=by unfold kk;simp [Array.getD,hj]
    rw [k1,k2] at hh;have li:=hlt p.toList[i] (FX _);have lj:=hlt p.toList[j] (FX _)
    have g:∀{k},k<prs.length->(prs.getD k (0,[])).2=(prs.map (·.2)).getD k []:=λ{k} hk=>by
     rw [cn,cn,h_,cx hk];rfl
    rw [g li,g lj,Dm (by rw [length_map];exact lj) (by rw [length_map];exact li)];exact decide_eq_false (by omega))
   have e:((p.toList.map λi=>prs.getD i (0,[])).map λpr=>n_ pr.1)=p.toList.map λi=>vs.getD i L0:=by
    rw [map_map];refine MD λi hi=>?_;have:=hlt i hi;rw [<- hvs];show n_ (prs.getD i (0,[])).1=_;rw [cn,cn,h_,cx this];rfl
   rw [e] at q;exact q
variable {Q:Value->d_->Prop}
def uY{l:Addr}{prs:List (Addr×List Int)}(hl:s.heap.IsList l (prs.map λpr=>n_ pr.1).toArray)(ht:∀pr∈prs,E2 s.heap pr.1 pr.2)(h64:prs.length<64)(h:∀prs':List (Addr×List Int),prs'.Perm prs->prs'.Pairwise (λx y=>lxB y.2 x.2=false)->Q (.ref (s.heap.objs.size+1)) { s with heap:=sortedAll s.heap (prs.map λpr=>n_ pr.1) (prs'.map λpr=>n_ pr.1).toArray }):
  wpAny (model prog w) A (call (.builtin "sorted") [.ref l]) Q E s:=by
 refine Calls.call_function_entry kind_sorted plain_sorted entry_sorted (args_sorted1 _) ?_;unfold Od.«sorted»;have hlen:(prs.map λpr=>n_ pr.1).length=prs.length:=length_map _;refine cy (m:=checkCount "sorted" 1 1 _) (g_ ?_);refine cy (collect_list hl ?_ (by rw [L5];omega));refine cy (Om ?_ (by rw [L5];omega))
 have hsz:((s.heap.push (seqObj "list" #[] 0)).update s.heap.objs.size (I_ (·++(prs.map λpr=>n_ pr.1).toArray))).objs.size=s.heap.objs.size+1:=by
  rw [MF,size_push']
 have hoL:(((s.heap.push (seqObj "list" #[] 0)).update s.heap.objs.size (I_ (·++(prs.map λpr=>n_ pr.1).toArray))).push (seqObj "list" (prs.map λpr=>n_ pr.1).toArray 0)).get? (s.heap.objs.size+1)=some (seqObj "list" (prs.map λpr=>n_ pr.1).toArray 0):=by
  rw [<- hsz];exact k_ _ rfl
 have keep:∀b o,s.heap.get? b=some o->(((s.heap.push (seqObj "list" #[] 0)).update s.heap.objs.size (I_ (·++(prs.map λpr=>n_ pr.1).toArray))).push (seqObj "list" (prs.map λpr=>n_ pr.1).toArray 0)).get? b=some o:=λb o q=>by
  have hlt:b<s.heap.objs.size:=pj q;rw [Mu _ _ _ (by rw [hsz];exact F_ (MM hlt)),Heap.get?_update_ne _ _ _ _ (F_ hlt),Mu _ _ _ (F_ hlt)];exact q
 show wpAny _ _ _ _ _ { s with heap:=((s.heap.push (seqObj "list" #[] 0)).update s.heap.objs.size (I_ (·++(prs.map λpr=>n_ pr.1).toArray))).push (seqObj "list" (prs.map λpr=>n_ pr.1).toArray 0) };rw [hsz]
 refine cy (Lu (LY slot_list_sort ⟨_,hoL,rfl⟩ entry_list_sort (rm hoL (λpr hpr=>?_) h64 λprs' a1 a2=>⟨_,rfl,?_⟩) (args_list_sort _)))
 .obtain⟨ne,o,xs,m,e,c⟩:=ht pr hpr;exact⟨ne,o,xs,m,keep _ _ e,c⟩
 .exact g_ ⟨_,rfl,h prs' a1 a2⟩
abbrev A9(r:List Int):D:=.tup (r.map .int)
variable {K:b_}
noncomputable def Al(K:b_):List V->Hp->VK->Prop:=λxs H Q=>∃(p:Addr) (prs:List (Addr×List Int)),xs=[.ref p]/\SqL K H p (prs.map λpr=>V.ref pr.1)/\(∀pr∈prs,SqT K H pr.1 (pr.2.map V.int)/\pr.2≠[])/\prs.length<64 /\
 ∀prs':List (Addr×List Int),prs'.Perm prs->prs'.Pairwise (λx y=>lxB y.2 x.2=false)->∀q,H q=none->Q (.ref q) (upd H q (.lst (prs'.map λpr=>V.ref pr.1)))
theorem Dp:∀{prs:List (Addr×List Int)}{us:List Value},bP (prs.map λpr=>V.ref pr.1) us->us=prs.map λpr=>n_ pr.1
 | [],_,.nil=>rfl
 | pr::prs,_,.cons r t=>by
  rw [map_cons,Dp t,show _=n_ pr.1 from r]
theorem tN:∀prs:List (Addr×List Int),bP (prs.map λpr=>V.ref pr.1) (prs.map λpr=>n_ pr.1)
 | []=>.nil
 | pr::prs=>.cons (show cZ (V.ref pr.1) (n_ pr.1) from rfl) (tN prs)
variable {X:Cx}
def E3(K:b_)(e:X.K=K):bK X (.builtin "sorted") (Al K):=by
 subst e;intro pins s σ H xs us Q I r h;obtain⟨p,prs,rfl,hS,ht,h64,q⟩:=h;obtain⟨u,rfl,ru⟩:=ie r;cases (show u=n_ p from ru);obtain⟨its,rv,pl,hz⟩:=I.list hS;have hv:=Dp rv;subst hv
 refine uY pl.isList (λpr hpr=>?_) h64 λprs' hp hs=>?_
 .obtain⟨sq,ne⟩:=ht pr hpr;obtain⟨its,rv,⟨o,e,c,n,d⟩,_⟩:=I.tuple sq;exact⟨ne,o,_,n,e,c,d,dZ rv⟩
 .obtain⟨e,he⟩:=sortedAll_at s.heap (prs.map λpr=>n_ pr.1) (prs'.map λpr=>n_ pr.1).toArray;have hle:s.heap.objs.size<=s.heap.objs.size+1:=le_succ _;refine⟨.ref (s.heap.objs.size+1),_,I.laid (a:=s.heap.objs.size+1) (o:=.lst (prs'.map λpr=>V.ref pr.1)) (t':=s.toks) (λb o z=>sortedAll_old z) hle ?_,rfl,q prs' hp hs _ (I.hok.fresh hle)⟩;refine⟨?_,_,e,tN prs',he⟩;rw [length_map,hp.length_eq]
  exact sz _ (by omega)
noncomputable def Dq:FN
 | [.lst ds],Q=>∃rows:List (List Int),ds=rows.map A9/\(rows.length<64/\∀r∈rows,r≠[])/\∀rows':List (List Int),rows'.Perm rows->rows'.Pairwise (λa b=>lxB b a=false)->Q (.own (rows'.map A9))
 | _,_=>False
theorem w6{O:Addr->Prop}{H:Hp}:∀{rows:List (List Int)}{ys:List V},FVs K O H ys (rows.map A9)->∃prs:List (Addr×List Int),ys=prs.map (λpr=>V.ref pr.1)/\prs.map (·.2)=rows/\∀pr∈prs,¬ O pr.1/\H pr.1=some (.tup (pr.2.map V.int))
 | [],_,.nil=>⟨[],rfl,rfl,nofun⟩
 | r::rows,_,.cons a b=>by
  obtain⟨prs,h1,h2,h3⟩:=w6 (rows:=rows) b
  cases a with
  | tup n e f =>
   rw [f.ints] at e;refine⟨(_,r)::prs,by rw [h1];rfl,by rw [<- h2];rfl,λpr hp=>?_⟩
   rcases C_.mp hp with rfl|hp
   .exact⟨n,e⟩
   .exact h3 pr hp
variable {O:Addr->Prop}{H:Hp}
theorem xa:∀{prs:List (Addr×List Int)},(∀pr∈prs,¬ O pr.1/\H pr.1=some (.tup (pr.2.map V.int)))->FVs K O H (prs.map λpr=>V.ref pr.1) ((prs.map (·.2)).map A9)
 | [],_=>.nil
 | pr::prs,h=>.cons (.tup (h pr (mem_cons_self ..)).1 (h pr (mem_cons_self ..)).2 (FVs.of_ints _)) (xa λq hq=>h q (m_ _ hq))
def Cb:LC K (Al K) Dq:=by
 intro O H xs as Q Q' dom fs q k;unfold Dq at q
 split at q
 .obtain⟨rows,rfl,h0,q⟩:=q
  cases fs with
  | cons a b =>
   cases b;obtain⟨p,ys,rfl,e1,f1⟩:=a.lst;obtain⟨prs,rfl,rfl,h3⟩:=w6 f1;rw [length_map] at h0;refine⟨p,prs,rfl,SqL.of e1,λpr hp=>⟨SqT.of (h3 pr hp).2,h0.2 _ (ON hp)⟩,h0.1,λprs' h1 h2 p' hp'=>k _ _ _ (q (prs'.map (·.2)) (h1.map _) (by rw [NA];exact h2)) (Gr.new hp') (dL hp' (xa λpr hp=>h3 pr (h1.mem_iff.mp hp)))⟩
 .exact q.elim
def rn{P:List α->Prop}(h0:P [])(h1:∀l a,P l->P (l++[a]))(l:List α):P l:=by
 have go:∀r:List α,P r.reverse:=λr=>by
  induction r with
  | nil=>exact h0
  | cons a r ih=>rw [reverse_cons];exact h1 _ _ ih
 have:=go l.reverse
 rwa [reverse_reverse] at this
noncomputable def glT(ws:List (List Nat)):Nat->List Nat->List Nat
 | _,[]=>[]
 | i,j::r=>(pw ws j).drop (cA (pw ws i) (pw ws j))++glT ws j r
noncomputable def glN(ws:List (List Nat)):List Nat->List Nat
 | []=>[]
 | j::r=>pw ws j++glT ws j r
noncomputable def E4(ws:List (List Nat)):Nat->List Nat->Nat
 | _,[]=>0
 | i,j::r=>cA (pw ws i) (pw ws j)+E4 ws j r
noncomputable def J1(ws:List (List Nat)):List Nat->Nat
 | []=>0
 | j::r=>E4 ws j r
theorem xb(ws:List (List Nat))(j:Nat):∀(i:Nat) (r:List Nat) (l:Nat),glT ws i (r++[l]++[j])=glT ws i (r++[l])++(pw ws j).drop (cA (pw ws l) (pw ws j))
 | i,[],l=>by
  show (pw ws l).drop _++((pw ws j).drop _++[])=(pw ws l).drop _++[]++_;rw [Eo,Eo]
 | i,a::r,l=>by
  show (pw ws a).drop _++glT ws a (r++[l]++[j])=(pw ws a).drop _++glT ws a (r++[l])++_;rw [xb ws j a r l,append_assoc]
def mF(ws:List (List Nat))(pre:List Nat)(l j:Nat):glN ws (pre++[l]++[j])=glN ws (pre++[l])++(pw ws j).drop (cA (pw ws l) (pw ws j)):=by
 cases pre with
 | nil=>show pw ws l++((pw ws j).drop _++[])=pw ws l++[]++_;rw [Eo,Eo]
 | cons a r =>
  show pw ws a++glT ws a (r++[l]++[j])=pw ws a++glT ws a (r++[l])++_;rw [xb,append_assoc]
theorem Am{ws:List (List Nat)}:∀{i:Nat}{r:List Nat},0<(pw ws i).length->(∀j∈r,0<(pw ws j).length)->(glT ws i r).length+E4 ws i r=(r.map λj=>(pw ws j).length).sum
 | i,[],_,_=>rfl
 | i,j::r,hi,h=>by
  have hj:=h j (mem_cons_self ..);have ih:=Am (i:=j) (r:=r) hj λk hk=>h k (m_ _ hk);have hl:=(gv hi hj).1;show ((pw ws j).drop _++glT ws j r).length+(cA _ _+E4 ws j r)=_;rw [length_append,length_drop,map_cons,sum_cons,<- ih];omega
variable {ws:List (List Nat)}{js:List Nat}
def An(h:∀j∈js,0<(pw ws j).length):(glN ws js).length+J1 ws js=(js.map λj=>(pw ws j).length).sum:=by
 cases js with
 | nil=>rfl
 | cons j r =>
  have:=Am (h j (mem_cons_self ..)) λk hk=>h k (m_ _ hk);show (pw ws j++glT ws j r).length+E4 ws j r=_;rw [length_append,map_cons,sum_cons,<- this];omega
def Ao:∀{pre:List Nat}{l:Nat},(∀j∈pre++[l],0<(pw ws j).length)->pw ws l <:+ glN ws (pre++[l]):=λ{pre}=>by
 induction pre using rn with
 | h0=>intro l _;exact⟨[],by show pw ws l=pw ws l++[];rw [Eo]⟩
 | h1 pre a ih =>
  intro l h;rw [mF];have ha:=h a (by simp);have hl:=h l (by simp);exact B9 (gv ha hl) (ih λj hj=>h j (Mr _ hj))
def Ap(pre suf:List Nat):glN ws pre <+: glN ws (pre++suf):=by
 induction suf using rn with
 | h0=>rw [Eo];exact prefix_refl _
 | h1 suf a ih =>
  rw [<- append_assoc]
  rcases eq_nil_or_concat (pre++suf) with e|⟨r,l,e⟩
  .have:pre=[]:=(append_eq_nil_iff.mp e).1;rw [this];exact nil_prefix
  .rw [concat_eq_append] at e;rw [e] at ih ⊢;rw [mF];exact ih.trans (prefix_append _ _)
def Dr(h:∀j∈js,0<(pw ws j).length)(hj:j∈js):pw ws j <:+: glN ws js:=by
 obtain⟨pre,suf,rfl⟩:=append_of_mem hj;have e:pre++j::suf=(pre++[j])++suf:=by simp
 rw [e] at h ⊢;exact (Ao λk hk=>h k (Mr _ hk)).isInfix.trans (Ap _ suf).isInfix
variable {t:List Nat}
def rp{a b c:Nat}(h1:a<=b)(h2:b<=c):(t.drop a).take (b - a)++(t.drop b).take (c - b)=(t.drop a).take (c - a):=by
 rw [show c - a=(b - a)+(c - b) by omega,take_add,drop_drop,show a+(b - a)=b by omega]
theorem tO{ws:List (List Nat)}{t:List Nat}{P:Nat->Nat}:∀{i:Nat}{r:List Nat},(∀j∈i::r,0<(pw ws j).length/\stA t (pw ws j) (P j)=true)->(i::r).Pairwise (λa b=>P a<P b)->(i::r).Pairwise (λa b=>¬ pw ws b <:+: pw ws a) ->
  ∃e,e<=t.length/\P i+(pw ws i).length<=e/\(glT ws i r).length<=e - (P i+(pw ws i).length)/\((glT ws i r).length=e - (P i+(pw ws i).length)->glT ws i r=(t.drop (P i+(pw ws i).length)).take (e - (P i+(pw ws i).length)))
 | i,[],h,_,_=>⟨P i+(pw ws i).length,(of_decide_eq_true (h i (mem_cons_self ..)).2).1,e_ _,K_ _,λ_=>by rw [sub_self,take_zero];rfl⟩
 | i,j::r,h,hp,ha=>by
  obtain⟨p1,p2⟩:=M9.mp hp;obtain⟨a1,a2⟩:=M9.mp ha;obtain⟨e,e1,e2,e3,e4⟩:=tO (i:=j) (r:=r) (λk hk=>h k (m_ _ hk)) p2 a2;have hij:=p1 j (mem_cons_self ..);have nij:=a1 j (mem_cons_self ..);obtain⟨i0,iS⟩:=h i (mem_cons_self ..);obtain⟨j0,jS⟩:=h j (m_ _ (mem_cons_self ..));obtain⟨iL,iE⟩:=of_decide_eq_true iS;obtain⟨jL,jE⟩:=of_decide_eq_true jS;obtain⟨k1,k2,k3⟩:=gv i0 j0
  generalize hwi:pw ws i=wi at *;generalize hwj:pw ws j=wj at *
  have hend:P i+wi.length<P j+wj.length:=by
   rcases Ly (P i+wi.length) (P j+wj.length) with z|z
   .exact z
   .refine absurd ?_ nij
    have e:wj=((wi.drop (P j - P i)).take wj.length):=by
     conv=>rhs;rw [<- iE]
     rw [drop_take,drop_drop,show P i+(P j - P i)=P j by omega,take_take,show min wj.length (wi.length - (P j - P i))=wj.length by omega,jE]
    rw [e];exact (NL _ _).isInfix.trans (OR _ _).isInfix
  have hgl:glT ws i (j::r)=wj.drop (cA wi wj)++glT ws j r:=by show (pw ws j).drop (cA (pw ws i) (pw ws j))++_=_;rw [hwi,hwj]
  have hk:P i+wi.length - P j<=cA wi wj:=by
   rcases OS (P i+wi.length - P j) with z|z
   .omega
   .refine k3 _ (by omega) ?_;refine⟨wi.take (wi.length - (P i+wi.length - P j)),?_⟩
    have e:wj.take (P i+wi.length - P j)=wi.drop (wi.length - (P i+wi.length - P j)):=by
     conv=>lhs;rw [<- jE]
     conv=>rhs;rw [<- iE]
     rw [take_take,drop_take,drop_drop]
     congr 1
     .rw [length_take,length_drop];omega
     .congr 1;rw [length_take,length_drop];omega
    rw [e,Lz]
  refine⟨e,e1,by omega,?_,λhe=>?_⟩
  .rw [hgl,length_append,length_drop];omega
  .rw [hgl,length_append,length_drop] at he;have o1:P j<=P i+wi.length:=by omega
   have o2:cA wi wj=P i+wi.length - P j:=by omega
   rw [hgl,e4 (by omega),<- rp (t:=t) (a:=P i+wi.length) (b:=P j+wj.length) (c:=e) (by omega) (by omega)];congr 1;rw [o2]
   conv=>lhs;rw [<- jE]
   rw [drop_take,drop_drop,show P j+(P i+wi.length - P j)=P i+wi.length by omega];congr 1;omega
def Aq{P:Nat->Nat}(h:∀j∈js,0<(pw ws j).length/\stA t (pw ws j) (P j)=true)(hp:js.Pairwise (λa b=>P a<P b))(ha:js.Pairwise (λa b=>¬ pw ws b <:+: pw ws a)):
  (glN ws js).length<=t.length/\((glN ws js).length=t.length->glN ws js=t):=by
 cases js with
 | nil=>exact⟨K_ _,λe=>(LW.mp e.symm).symm⟩
 | cons i r =>
  obtain⟨e,e1,e2,e3,e4⟩:=tO h hp ha;obtain⟨iL,iE⟩:=of_decide_eq_true (h i (mem_cons_self ..)).2;have hg:glN ws (i::r)=pw ws i++glT ws i r:=rfl;rw [hg,length_append];refine⟨by omega,λz=>?_⟩;have p0:P i=0:=by omega
  rw [e4 (by omega)];have el:e=t.length:=by omega
  rw [p0,drop_zero] at iE;rw [el,p0,M2];have:=rp (t:=t) (a:=0) (b:=(pw ws i).length) (c:=t.length) (K_ _) (by omega);rw [drop_zero,MZ,MZ,take_length,iE] at this;exact this
variable {a b:List Nat}
def Ar(h:a <:+: b):a.length<=b.length:=h.length_le
variable {ps:List (List Nat)}
def fS{a b:Nat}(ha:a<ps.length)(hb:b<ps.length)(ka:bB ps a=true)(kb:bB ps b=true)(h:a≠b):¬ pw ps a <:+: pw ps b:=λhi=>by
 obtain⟨a1,a2⟩:=e9.mp ka;obtain⟨b1,b2⟩:=e9.mp kb
 rcases Ly (pw ps a).length (pw ps b).length with z|z
 .have:=a2 _ (bN hb) z;rw [dF.mpr hi] at this;cases this
 .have e:pw ps a=pw ps b:=hi.eq_of_length (by have:=Ar hi;omega)
  have mem:∀{x y:Nat},x<y->y<ps.length->pw ps x=pw ps y->pw ps y∈ps.take y:=λ{x y} h1 h2 h3=>by
   rw [<- h3];refine y_ (i:=x) ?_;rw [Oo,if_pos h1];exact bR (by omega)
  rcases Ly a b with z|z
  .exact b1 (mem z hb e)
  .exact a1 (mem (by omega) ha e.symm)
def xc(h:i<(al ps).length):∃k,(a8 ps)[i]?=some k/\pw (al ps) i=pw ps k/\k<ps.length/\bB ps k=true:=by
 have hk:i<(a8 ps).length:=by unfold al at h;rwa [length_map] at h
 have hm:=FX hk;refine⟨(a8 ps)[i],cx hk,?_,fQ hm,(D_.mp hm).2⟩;unfold al pw;rw [cn,h_,cx hk];rfl
def fT(hi:i<(al ps).length)(hj:j<(al ps).length)(h:i≠j):¬ pw (al ps) i <:+: pw (al ps) j:=by
 obtain⟨a,a1,a2,a3,a4⟩:=xc hi;obtain⟨b,b1,b2,b3,b4⟩:=xc hj;rw [a2,b2];refine fS a3 b3 a4 b4 λe=>h ?_;subst e;have nd:(a8 ps).Nodup:=(lT ps).imp λh=>F_ h;have l1:=(i_.mp a1).1;exact (getElem?_inj l1 nd).mp (a1.trans b1.symm)
def Cc(hw:∀w∈ps,w.length<=60)(h:∀w∈al ps,w <:+: t){p:List Nat}(hp:p∈ps):p <:+: t:=by
 obtain⟨i,hi,rfl⟩:=ME hp;have e:pw ps i=ps[i]:=pf ((bR hi).symm.trans (cx hi));obtain⟨j,j1,j2,j3⟩:=nh hw _ i hi (e_ _);rw [e] at j3;exact (dF.mp j3).trans (h _ (Lv.mpr ⟨j,D_.mpr ⟨mem_range.mpr j1,j2⟩,rfl⟩))
variable {β:Type}
def KP(f:α->β)(xs:List α):dg (xs.map f) (some 1) none=(xs.tail).map f:=by
 rw [show (1:Int)=((1:Nat):Int) from rfl,fM,<- map_drop,drop_one]
def J3(f:α->β)(xs:List α):dg (xs.map f) none (some 1)=(xs.take 1).map f:=by
 rw [show (1:Int)=((1:Nat):Int) from rfl,dI,<- map_take]
section
variable {e:α->D}{xs:List α}{ρ1:PSt}{g:PTG}{pb:PTS}{nx bk:PSt->Prop}{rt:PV->PSt->Prop}{it:Nat->D}
def Lo(J:List α->PSt->Prop)(h0:J (xs.take 1) ρ1)(hs:∀pre a b suf ρ,xs=pre++a::b::suf->J (pre++[a]) ρ->g (.dat (.tup [e a,e b])) ρ λρ2=>pb { nx:=J (pre++[a]++[b]),rt:=rt,bk:=bk,ct:=J (pre++[a]++[b]) } ρ2)(hq:∀ρ,J xs ρ->nx ρ)(hn:n=min (xs.map e).length (xs.tail.map e).length:=by rfl)(hit:∀k,it k=.tup [itD (xs.map e) k,itD (xs.tail.map e) k]:=by intro k;rfl):
  ∃I:Nat->PSt->Prop,I 0 ρ1/\(∀k ρ d,k<n->d=it k->I k ρ->g (.dat d) ρ λρ2=>pb { nx:=I (k+1),rt:=rt,bk:=bk,ct:=I (k+1) } ρ2)/\∀ρ,I n ρ->nx ρ:=by
 rw [length_map,length_map,length_tail] at hn
 refine⟨λk ρ=>J (xs.take (k+1)) ρ,h0,λk ρ d hk ed hJ=>?_,λρ h=>hq ρ ?_⟩
 .have k1:k+1<xs.length:=by omega
  have k0:k<xs.length:=by omega
  rw [hit,jA k0,jA (by rw [length_tail];omega),getElem_tail] at ed;subst ed;have t1:xs.take (k+1)=xs.take k++[xs[k]]:=by rw [O4,cx k0];rfl
  have t2:xs.take (k+1+1)=xs.take k++[xs[k]]++[xs[k+1]]:=by rw [O4,cx k1,t1];rfl
  show g _ ρ λρ2=>pb { nx:=J (xs.take (k+1+1)),rt:=rt,bk:=bk,ct:=J (xs.take (k+1+1)) } ρ2;rw [t2];refine hs _ _ _ (xs.drop (k+1+1)) ρ ?_ (by rw [<- t1];exact hJ);rw [getElem_cons_drop,getElem_cons_drop,Lz]
 .have h:J (xs.take (n+1)) ρ:=h;rw [LN (by omega)] at h;exact h
end
section
variable {xs:List α}{ys:List β}
def As{γ:Type}(f:α->β->γ)(xs:List α)(ys:List β)(h:Nat->γ)(hh:∀k (h1:k<xs.length) (h2:k<ys.length),h k=f xs[k] ys[k]):(c_ (min xs.length ys.length)).map h=(xs.zip ys).map λp=>f p.1 p.2:=by
 apply Nz;intro i;rw [h_,h_]
 by_cases hi:i<min xs.length ys.length
 .have h1:i<xs.length:=by omega
  have h2:i<ys.length:=by omega
  rw [H_ hi,cx (by rw [length_zip];exact hi),getElem_zip];exact congrArg some (hh i h1 h2)
 .rw [u_ (by rw [length_range];omega),u_ (by rw [length_zip];omega)];rfl
variable {e:α->D}{e':β->D}{ix:List (Option Nat)}{ρ1:PSt}{g:PTG}{pe:PTE}{Q:PKt}{it:Nat->D}
def cmZ(f:α->β->D)(hs:∀a b,(a,b)∈xs.zip ys->∀(v w:Option PV) (K1:D->PSt->Prop),(∀v' w',K1 (f a b) (v'::w'::(bA ix ρ1).tail.tail))->g (.dat (.tup [e a,e' b])) (v::w::(bA ix ρ1).tail.tail) λτ2=>pe τ2 λp τ4=>K1 p.d τ4)(hq:∀v w:Option PV,Q (.own ((xs.zip ys).map λp=>f p.1 p.2)) (eW ix ρ1 (v::w::(bA ix ρ1).tail.tail)))(hx:bA ix ρ1=none::none::(bA ix ρ1).tail.tail:=by rfl)(hn:n=min (xs.map e).length (ys.map e').length:=by rfl)(hit:∀k,it k=.tup [itD (xs.map e) k,itD (ys.map e') k]:=by intro k;rfl):o0 ix ρ1 n it g zF pe Q:=by
 rw [length_map,length_map] at hn;subst hn
 by_cases h0:0<min xs.length ys.length
 .have ga:∀k,k<min xs.length ys.length->∃h1:k<xs.length,∃h2:k<ys.length,it k=.tup [e xs[k],e' ys[k]]:=λk hk=>⟨by omega,by omega,by rw [hit,jA (by omega),jA (by omega)]⟩
  have hx0:0<xs.length:=by omega
  have hy0:0<ys.length:=by omega
  refine yt (λτ=>∃v w,τ=v::w::(bA ix ρ1).tail.tail) (λk=>f (xs.getD k xs[0]) (ys.getD k ys[0])) ⟨none,none,hx⟩ ?_ ?_
  .rintro k τ d hk rfl ⟨v,w,rfl⟩ K1 k1;obtain⟨h1,h2,ek⟩:=ga k hk;rw [ek];have g1:xs.getD k xs[0]=xs[k]:=by rw [cn,cx h1];rfl
   have g2:ys.getD k ys[0]=ys[k]:=by rw [cn,cx h2];rfl
   rw [g1,g2] at k1;refine hs _ _ ?_ v w K1 λv' w'=>k1 _ ⟨v',w',rfl⟩;refine mem_iff_getElem.mpr ⟨k,by rw [length_zip];exact hk,by rw [getElem_zip]⟩
  .rintro τ ⟨v,w,rfl⟩;rw [As f xs ys _ λk h1 h2=>by rw [cn,cx h1,cn,cx h2];rfl];exact hq v w
 .refine yt (λτ=>∃v w,τ=v::w::(bA ix ρ1).tail.tail) (λ_=>.non) ⟨none,none,hx⟩ (λk τ d hk=>by omega) ?_;rintro τ ⟨v,w,rfl⟩;have e1:min xs.length ys.length=0:=by omega
  have e2:xs.zip ys=[]:=LW.mp (by rw [length_zip];exact e1);have:=hq v w;rw [e2] at this;rw [e1];exact this
end
variable {ix:List (Option Nat)}{ρ1:PSt}{pe:PTE}
def cm2{e:α->D}{xs:List α}{g:PTG}{Q:PKt}(f:α->D)(hs:∀x∈xs,∀(v w:Option PV) (K1:D->PSt->Prop),(∀v' w',K1 (f x) (v'::w'::(bA ix ρ1).tail.tail))->g (.dat (e x)) (v::w::(bA ix ρ1).tail.tail) λτ2=>pe τ2 λp τ4=>K1 p.d τ4)(hq:∀v w:Option PV,Q (.own (xs.map f)) (eW ix ρ1 (v::w::(bA ix ρ1).tail.tail)))(hx:bA ix ρ1=none::none::(bA ix ρ1).tail.tail:=by rfl):o0 ix ρ1 (xs.map e).length (itD (xs.map e)) g zF pe Q:=by
 refine HQ (λτ=>∃v w,τ=v::w::(bA ix ρ1).tail.tail) f ⟨none,none,hx⟩ ?_ ?_
 .rintro x hx τ ⟨v,w,rfl⟩ K1 k1;exact hs x hx v w K1 λv' w'=>k1 _ ⟨v',w',rfl⟩
 .rintro τ ⟨v,w,rfl⟩;exact hq v w
def At(a b:List Nat):(!(Nl (S b) (S a) 0 (S b).length 1).isEmpty)=f9 a b:=by
 have e:=uJ b a 0;unfold f9;rw [<- e]
 cases Nl (S b) (S a) 0 (S b).length 1 with
 | nil=>rfl
 | cons k r=>exact (decide_eq_true (by omega:(0:Int)<=(k:Int))).symm
noncomputable def J4(neg:Bool):R2:=λx y H Q=>∃a b,x=.str (S a)/\y=.str (S b)/\Q (.bl (if neg then !f9 a b else f9 a b)) H
def HU:OpR X (compareOp .In) (J4 false):=by
 intro pins s σ H x y v u Q I rx ry h;obtain⟨a,b,rfl,rfl,q⟩:=h;obtain⟨t,rfl⟩:=rx;obtain⟨t',rfl⟩:=ry;exact P.in_str ⟨.bl _,H,I,rfl,by rw [At];exact q⟩
def Au:OpR X (compareOp .NotIn) (J4 true):=by
 intro pins s σ H x y v u Q I rx ry h;obtain⟨a,b,rfl,rfl,q⟩:=h;obtain⟨t,rfl⟩:=rx;obtain⟨t',rfl⟩:=ry;exact P.notIn_str ⟨.bl _,H,I,rfl,by rw [At];exact q⟩
noncomputable def IT(K:b_)(neg:Bool):R2:=λx y H Q=>rIn K neg x y H Q\/J4 neg x y H Q
def J5(K:b_)(e:X.K=K):OpR X (compareOp .In) (IT K false):=OpR.or (Lf K e) HU
def xf(K:b_)(e:X.K=K):OpR X (compareOp .NotIn) (IT K true):=OpR.or (EA K e) Au
noncomputable def J6(neg:Bool):F2
 | .str a,.str b,Q=>Q (.dat (.bl (if neg then !f9 a b else f9 a b)))
 | a,.lst ds,Q=>(a.fl=true/\ds.all D.fl=true)/\Q (.dat (.bl (if neg then !inD a ds else inD a ds)))
 | a,.tup ds,Q=>(a.fl=true/\ds.all D.fl=true)/\Q (.dat (.bl (if neg then !inD a ds else inD a ds)))
 | _,_,_=>False
def Av{neg:Bool}:LO K (IT K neg) (J6 neg):=by
 intro O H x y a b Q Q' dom fx fy q k;unfold J6 at q
 split at q
 .obtain⟨rfl,_⟩:=fx.str;obtain⟨rfl,_⟩:=fy.str;exact .inr ⟨_,_,rfl,rfl,k _ H _ q (Gr.refl _) (.bl _)⟩
 .exact .inl (GY O H x y _ _ Q Q' dom fx fy q k)
 .exact .inl (GY O H x y _ _ Q Q' dom fx fy q k)
 .exact q.elim
def Aw(js:List Nat):js.map nD=(js.map λj=>((j:Nat):Int)).map D.int:=by rw [map_map];rfl
variable {k:Nat}
def Cd{i:Int}(h:k<ws.length)(e:i=(k:Int)):atI (ws.map λw=>D.tup (ws.map λv=>.int (cA w v:Int))) i=some (.tup (ws.map λv=>.int (cA (pw ws k) v:Int))) :=
 c9 (j:=k) (by rw [h_,bR h];rfl) e
def uZ{u:List Nat}{i:Int}(h:k<ws.length)(e:i=(k:Int)):atI (ws.map λv=>D.int (cA u v:Int)) i=some (.int (cA u (pw ws k):Int)) :=
 c9 (j:=k) (by rw [h_,bR h];rfl) e
def Ds{m:Nat}(hw:∀j,(pw ws j).length<=m):∀js:List Nat,(glN ws js).length<=js.length*m:=by
 have go:∀(r:List Nat) (i:Nat),(glT ws i r).length<=r.length*m:=λr=>by
  induction r with
  | nil=>intro i;exact K_ _
  | cons j r ih =>
   intro i;show ((pw ws j).drop _++glT ws j r).length<=_;rw [length_append,length_drop,length_cons,succ_mul];have:=ih j;have:=hw j;omega
 intro js
 cases js with
 | nil=>exact K_ _
 | cons j r =>
  show (pw ws j++glT ws j r).length<=_;rw [length_append,length_cons,succ_mul];have:=go r j;have:=hw j;omega
def Ce{m:Nat}(hw:∀w∈ws,w.length<=m)(j:Nat):(pw ws j).length<=m:=by
 by_cases h:j<ws.length
 .exact hw _ (bN h)
 .unfold pw;rw [cn,u_ (by omega)];exact K_ _
def Ax(ws:List (List Nat))(js:List Nat):((js.take 1).map (pw ws)).flatten=glN ws (js.take 1):=by
 cases js with
 | nil=>rfl
 | cons j r=>rfl
def HV(ha:a <:+: t)(hb:b <:+: t)(h1:¬ a <:+: b)(h2:¬ b <:+: a):fnd t a 0≠fnd t b 0:=λe=>by
 have f:∀w:List Nat,w <:+: t->∃k:Nat,fnd t w 0=(k:Int)/\stA t w k=true:=λw hw=>by
  obtain⟨k,e,_,h,_⟩:=iR (a:=t) (b:=w) (lo:=0) λz=>by have:=uX.mp (dF.mpr hw);omega
  exact⟨k,e,h⟩
 obtain⟨k,k1,k2⟩:=f a ha;obtain⟨l,l1,l2⟩:=f b hb;have e:k=l:=by omega
 subst e;obtain⟨_,ea⟩:=of_decide_eq_true k2;obtain⟨_,eb⟩:=of_decide_eq_true l2
 rcases O8 a.length b.length with z|z
 .refine h1 ?_;have:a=b.take a.length:=by rw [<- eb,take_take,show min a.length b.length=a.length by omega,ea]
  rw [this];exact (NL _ _).isInfix
 .refine h2 ?_;have:b=a.take b.length:=by rw [<- ea,take_take,show min b.length a.length=b.length by omega,eb]
  rw [this];exact (NL _ _).isInfix
def E5(hp:Pcs 60 ps)(hin:∀w∈al ps,w <:+: t)(h1:js.Perm (c_ (al ps).length))(h2:js.Pairwise (λa b=>fnd t (pw (al ps) a) 0<fnd t (pw (al ps) b) 0)):
  (glN (al ps) js).length<=t.length/\((glN (al ps) js).length=t.length->glN (al ps) js=t)/\(∀w∈al ps,w <:+: glN (al ps) js)/\((glN (al ps) js).length:Int)=uV ps - (J1 (al ps) js:Int):=by
 have hlt:∀j∈js,j<(al ps).length:=λj hj=>mem_range.mp (h1.mem_iff.mp hj);have hpos:∀j∈js,0<(pw (al ps) j).length:=λj hj=>(fR hp _ (bN (hlt j hj))).1
 have pl:∀j∈js,fnd t (pw (al ps) j) 0=((fnd t (pw (al ps) j) 0).toNat:Int)/\stA t (pw (al ps) j) (fnd t (pw (al ps) j) 0).toNat=true:=λj hj=>by
  have h0:=uX.mp (dF.mpr (hin _ (bN (hlt j hj))));obtain⟨k,e,_,h,_⟩:=iR (a:=t) (b:=pw (al ps) j) (lo:=0) λz=>by omega
  rw [e,toNat_natCast];exact⟨rfl,h⟩
 have nd:js.Nodup:=h1.nodup_iff.mpr Oi;have ap:js.Pairwise (λa b=>¬ pw (al ps) b <:+: pw (al ps) a):=nd.imp_of_mem λ{a b} ma mb ne=>fT (hlt b mb) (hlt a ma) (Na ne)
 obtain⟨s1,s2⟩:=Aq (P:=λj=>(fnd t (pw (al ps) j) 0).toNat) (λj hj=>⟨hpos j hj,(pl j hj).2⟩) (h2.imp_of_mem λ{a b} ma mb h=>by
  have e1:=(pl a ma).1;have e2:=(pl b mb).1;show (fnd t (pw (al ps) a) 0).toNat<(fnd t (pw (al ps) b) 0).toNat;omega) ap
 refine⟨s1,s2,λw hw=>?_,?_⟩
 .obtain⟨j,hj,rfl⟩:=ME hw;rw [show (al ps)[j]=pw (al ps) j from pf ((cx hj).symm.trans (bR hj))];exact Dr hpos (h1.mem_iff.mpr (mem_range.mpr hj))
 .have e:=An hpos;have e2:(js.map λj=>(pw (al ps) j).length).sum=((c_ (al ps).length).map λj=>(pw (al ps) j).length).sum:=(h1.map _).sum_nat
  have e3:(c_ (al ps).length).map (λj=>(pw (al ps) j).length)=(al ps).map NJ:=by
   conv=>rhs;rw [<- wU (al ps),map_map]
   rfl
  have e4:∀l:List (List Nat),(l.map λw=>(w.length:Int)).sum=((l.map NJ).sum:Int):=λl=>by
   induction l with
   | nil=>rfl
   | cons a r ih=>rw [map_cons,sum_cons,ih,map_cons,sum_cons];omega
  unfold uV;rw [e4,<- e3,<- e2,<- e];omega
def xg(h:k<js.length):glN ws (js.take (k+1))=glN ws (js.take k)++(pw ws (js.getD k 0)).drop (if k=0 then 0 else cA (pw ws (js.getD (k - 1) 0)) (pw ws (js.getD k 0))):=by
 have t1:js.take (k+1)=js.take k++[js.getD k 0]:=tD h
 by_cases e:k=0
 .subst e;rw [if_pos rfl,t1,take_zero,drop_zero];show pw ws _++[]=[]++pw ws _;rw [Eo,nil_append]
 .have t0:js.take k=js.take (k - 1)++[js.getD (k - 1) 0]:=by
   have:=tD (l:=js) (k:=k - 1) (by omega)
   rwa [show k - 1+1=k by omega] at this
  rw [if_neg e,t1,t0,mF]
noncomputable def ny(n:Int):Nat:=if n == 0 then 0 else n.natAbs.log2+1
noncomputable def E6:V->List V->Hp->VK->Prop:=λx xs H Q=>∃n,x=.int n/\xs=[]/\Q (.int (ny n:Nat)) H
def E7:MtR X "int.bit_length" E6:=by
 intro pins s σ H x xs v us Q I rx rs h;obtain⟨n,rfl,rfl,q⟩:=h;obtain⟨t,rfl⟩:=rx;have hus:=rs.zero;subst hus;exact call_gives F.slot_int_bit_length (typeIs_int s n t) F.entry_int_bit_length (F.args_int_bit_length_1 _) (AutoIntG2.int_bit_length_int_0 n t) ⟨.int _,H,I.tok _,⟨_,rfl⟩,q⟩
noncomputable def HW(pe:PTE):PTE:=λρ Q=>pe ρ λp ρ1=>match p with
 | .dat (.int n)=>Q (.dat (.int (ny n:Nat))) ρ1
 | _=>False
variable {te:TE}
def E8(he:LE K te pe):LE K (IL K "int" E6 te) (HW pe):=λA ρ σ H Q Q' R q k=>he A ρ σ H _ _ R q λv H1 p ρ1 q1 f1 o1=>by
 unfold HW at *
 split at q1
 .obtain⟨R1,fv⟩:=o1;cases fv;exact⟨rfl,_,rfl,rfl,k _ H1 _ ρ1 q1 f1 ⟨R1,.int _⟩⟩
 .exact q1.elim
variable {pa:PA1}
def E9{o:Expr}{to:TE}{name:Str}{apos cpos:Pos}{T id:String}{r:V->List V->Hp->VK->Prop}(K:b_)(eK:X.K=K)(pa:PlainAttrs T)(slot:Slot T name id)(hty:typeOf (.builtin id)=pure (.type "method_descriptor"))(hm:MtR X id r)(ho:PE X o to)(hbase:attributeBase o name X.env (eval o X.env)=eval o X.env:=by rfl)(hline:(apos.endLine == cpos.line)=true:=by rfl):PE X (.Call (.Attribute o name apos) [] [] cpos) (IL K T r to):=eK ▸ Gv pa slot hty hm ho hbase hline
noncomputable def Dt(K:b_):R2:=λx y H Q=>∃a b ys,x=.ref a/\y=.ref b/\SqT K H a []/\SqT K H b ys/\Q (.ref b) H
def Cf:OpR X (binaryOp .Add) (Dt X.K):=by
 intro pins s σ H x y v u Q I rx ry h;obtain⟨a,b,ys,rfl,rfl,ha,hb,q⟩:=h;cases rx;cases ry;obtain⟨its,r1,p1,_⟩:=I.tuple ha;obtain⟨its2,r2,p2,_⟩:=I.tuple hb;have e0:its=[]:=r1.nil_iff.mpr rfl;subst e0;obtain⟨⟨cls,dd,data,sl⟩,ho,hc,n,hd⟩:=id p1;obtain⟨⟨cls2,dd2,data2,sl2⟩,ho2,hc2,n2,hd2⟩:=id p2;simp only at hc hd hc2 hd2;subst hc hd hc2 hd2;exact Oy ⟨_,ho,rfl⟩ ⟨_,ho2,rfl⟩ Oq seq_tuple_add Nv Ni (M7 _ _) (tuple_addW0 a b _ _ n n2 dd dd2 sl sl2 rfl) ⟨ho,ho2,.ref b,H,I,rfl,q⟩
noncomputable def pq(K:b_):R2:=λx y H Q=>Ey K x y H Q\/Dt K x y H Q
def bZ(K:b_)(e:X.K=K):OpR X (binaryOp .Add) (pq K):=OpR.or (JA K e) (by subst e;exact Cf)
noncomputable def HX:F2
 | .tup a,.tup b,Q=>a.length+b.length<=1000000/\Q (.dat (.tup (a++b)))
 | a,b,Q=>JB a b Q
def bC:LO K (pq K) HX:=by
 intro O H x y a b Q Q' dom fx fy q k;unfold HX at q
 split at q
 .rename_i Q ds es
  cases ds with
  | cons d ds=>exact .inl (CS O H x y _ _ _ Q' dom fx fy ⟨nofun,q⟩ k)
  | nil =>
   obtain⟨p1,xs1,rfl,n1,e1,f1⟩:=fx.tup;obtain⟨p2,xs2,rfl,n2,e2,f2⟩:=fy.tup;cases f1;exact .inr ⟨p1,p2,xs2,rfl,rfl,SqT.of e1,SqT.of e2,k _ H _ q.2 (Gr.refl _) (.tup n2 e2 f2)⟩
 .exact .inl (CS O H x y _ _ _ Q' dom fx fy q k)
noncomputable def KQ:Expr->Bool
 | .ListComp ..|.SetComp ..|.DictComp ..=>false
 | _=>true
variable {e:Expr}{env:Env}
def Ay{o i:Expr}{p:Pos}{l:Nat}(h:KQ e=true):swapsWithSole [.Subscript o i p] e l env=pure false:=by
 show swapsWith e (some (.Subscript o i p)) l env=pure false;cases e <;> first|rfl|cases h
def u0{o i:Expr}{p:Pos}:swappedStores [.Subscript o i p] e env=pure none:=rfl
variable {g:TG}{pos:Pos}
def Az{o i:Expr}{p:Pos}(he:PE X e te)(hg:PG X (.Subscript o i p) g)(hn:KQ e=true:=by rfl):PS X (.Assign [.Subscript o i p] e pos) (DS te g) :=
 sB he hg (Ay hn) u0 rfl
noncomputable def de(K:b_)(x:Str)(st:Stmt):Prop:=∃(f:Addr) (oc kV dc pm cd ct:Value) (od an:Option Addr) (sl:Array (Option Value)),t_ K mainGlobals x=some (some (.ref f)) /\
 K.lookup f=some ⟨oc,od,.func (B_ x x (bQ st) (bi st) (af st) .none kV dc pm an cd ct),sl⟩/\Lx K cd x=true/\x_ K (.ref f)=true
variable {x:Str}{st:Stmt}{f:Addr}{oc pm ct:Value}{od an:Option Addr}
def HY{kV dc cd:Value}{sl:Array (Option Value)}(a:t_ K mainGlobals x=some (some (.ref f)))(l:K.lookup f=some ⟨oc,od,.func (B_ x x (bQ st) (bi st) (af st) .none kV dc pm an cd ct),sl⟩)(c:Lx K cd x=true)(k:x_ K (.ref f)=true):de K x st:=⟨f,oc,kV,dc,pm,cd,ct,od,an,sl,a,l,c,k⟩
variable {h:Heap}{mg:Str->Option Value}
def aN(q:de K x st)(X:K.In h)(G:h.Ns mainGlobals mg):aV K mg x st:=by
 obtain⟨f,oc,kV,dc,pm,cd,ct,od,an,sl,a,l,c,k⟩:=q;exact .mk' X G a l c k
section
open PySem.AutoSeq1 (wpAny_loadPart')
open PySem.MeetsSeq PySem.MeetsSeq2 PySem.MeetsSeq3
end
noncomputable def KR(i:Nat)(pe:PTE):PTE:=λρ Q=>match ρ[i]? with
 | some (some (.own _))=>pe ρ λp ρ1=>(match ρ1[i]?,p.d with
  | some (some (.own ds)),.lst es=>ds.length+es.length<=1000000/\Q (.dat .non) (ρ1.set i (some (.own (ds++es))))
  | _,_=>False)
 | _=>False
def HZ(h:LE K te pe):LE K (tBM K "list" yS (aF i) (aG te cP)) (KR i pe):=λA ρ σ H Q Q' R q k=>by
 unfold KR at q
 split at q
 .rename_i ds0 e0;obtain⟨a0,xs0,s0,g0,f0⟩:=R.ownAt e0;refine⟨_,s0,.inl ⟨rfl,xs0,SqL.of g0⟩,h A ρ σ H _ _ R q λv H1 p ρ1 q1 f1 o1=>?_⟩;obtain⟨R1,fv⟩:=o1.frz
  split at q1
  .rename_i ds es e1 e2;rw [e2] at fv;obtain⟨a,xs,s,g,f⟩:=R1.ownAt e1;rw [s0] at s;cases s
   cases fv with
   | lst no ez fz =>
    obtain⟨R2,f2⟩:=R1.lstw e1 s0 (f.append fz);exact⟨a0,_,xs,_,rfl,rfl,g,ez,p_ (by rw [f.length,fz.length];exact q1.1) (sz _ (e_ _)),k _ _ _ _ q1.2 (f1.trans f2) ⟨R2,.non⟩⟩
  .exact q1.elim
 .exact q.elim
variable {ρ:PSt}{x:Nat}{rows:List (List D)}
noncomputable def cl(x:Nat)(ρ:PSt):Option (List (List D))->PSt
 | none=>ρ
 | some rows=>ρ.set x (some (.own (rows.map D.lst)))
def AA(x:Nat)(ρ:PSt):cl x ρ none=ρ:=rfl
def AB(x:Nat)(ρ:PSt)(rows:List (List D)):cl x ρ (some rows)=ρ.set x (some (.own (rows.map D.lst))):=rfl
noncomputable def mvd(ρ:PSt)(g r:Nat)(ds:List D):PSt:=(ρ.set r (some (.own ds))).set g none
def Du(ρ:PSt)(g r:Nat)(ds:List D):mvd ρ g r ds=(ρ.set r (some (.own ds))).set g none:=rfl
noncomputable def tBI(t:TE):TT:=λσ H Q=>t σ H λx H1=>∃i,x=.int i/\Q (i != 0) H1
def Ia{t:TE}(h:PE X e t)(he:∀whole,isTrue e X.env whole=(do let v <- whole;standAt e.pos;holding [v] (truthy v)):=by intro _;rfl):PT X e (tBI t):=by
 intro pins s σ H Q I hw;refine isTrue_plain (thn (h pins s σ H _ I hw) λv s1 ⟨x,H1,I1,r1,q1⟩=>?_) (he _);obtain⟨d,rfl,q⟩:=q1;obtain⟨t,rfl⟩:=r1;exact truthy_int ⟨H1,I1,q⟩
noncomputable def pBI(pe:PTE):PTT:=λρ Q=>pe ρ λp ρ1=>match p with
 | .dat (.int i)=>Q (i != 0) ρ1
 | _=>False
def J7(h:LE K te pe):LT K (tBI te) (pBI pe):=λA ρ σ H Q Q' R q k=>h A ρ σ H _ _ R q λv H1 p ρ1 q1 f1 o1=>by
 split at q1
 .rename_i b;obtain⟨R1,f⟩:=o1;cases f;exact⟨b,rfl,k _ H1 ρ1 q1 f1 R1⟩
 .exact q1.elim
noncomputable def ahB(a b:List Nat):Bool:=if a.length≠b.length then decide (a.length<b.length) else decide (a<b)
theorem xh:∀a:List Nat,¬ a<a
 | []=>by simp
 | x::a=>by rw [Mh];exact λz=>z.elim (λh=>E_ _ h) λh=>xh a h.2
theorem AC:∀a b:List Nat,a.length=b.length->a<b\/a=b\/b<a
 | [],[],_=>.inr (.inl rfl)
 | x::a,y::b,h=>by
  rw [Mh,Mh]
  rcases lt_trichotomy x y with c|c|c
  .exact .inl (.inl c)
  .subst c
   rcases AC a b (O9 h) with e|e|e
   .exact .inl (.inr ⟨rfl,e⟩)
   .exact .inr (.inl (by rw [e]))
   .exact .inr (.inr (.inr ⟨rfl,e⟩))
  .exact .inr (.inr (.inl c))
theorem rq:∀a b c:List Nat,a.length=b.length->b.length=c.length->a<b->b<c->a<c
 | [],[],_,_,_,h,_=>absurd h (xh [])
 | x::a,y::b,z::c,h1,h2,p,q=>by
  rw [Mh] at *
  rcases p with p|⟨p,p'⟩ <;> rcases q with q|⟨q,q'⟩
  .exact .inl (lt_trans p q)
  .exact .inl (q ▸ p)
  .exact .inl (p ▸ q)
  .exact .inr ⟨p.trans q,rq a b c (O9 h1) (O9 h2) p' q'⟩
theorem AD:∀u a b:List Nat,(u++a<u++b) ↔ a<b
 | [],_,_=>Iff.rfl
 | x::u,a,b=>by
  show x::(u++a)<x::(u++b) ↔ _;rw [Mh];exact⟨λh=>h.elim (λh=>absurd h (E_ _)) λh=>(AD u a b).mp h.2,λh=>.inr ⟨rfl,(AD u a b).mpr h⟩⟩
def nA:ahB a b=false ↔ b.length<a.length\/(a.length=b.length/\¬ a<b):=by
 unfold ahB
 by_cases h:a.length=b.length
 .rw [if_neg (λz=>z h),decide_eq_false_iff_not];exact⟨λz=>.inr ⟨h,z⟩,λz=>z.elim (λz=>by omega) λz=>z.2⟩
 .rw [if_pos h,decide_eq_false_iff_not];exact⟨λz=>.inl (by omega),λz=>z.elim (λz=>by omega) λz=>absurd z.1 h⟩
def qj(a:List Nat):ahB a a=false:=nA.mpr (.inr ⟨rfl,xh a⟩)
def Fa(h:ahB a b=false)(h':ahB b a=false):a=b:=by
 rw [nA] at h h'
 rcases h with h|⟨h,n⟩
 .rcases h' with h'|⟨h',_⟩ <;> omega
 .rcases h' with h'|⟨h',n'⟩
  .omega
  .rcases AC a b h with e|e|e
   .exact absurd e n
   .exact e
   .exact absurd e n'
def kf{c:List Nat}(h:ahB a b=false)(h':ahB b c=false):ahB a c=false:=by
 rw [nA] at *
 rcases h with h|⟨h,n⟩
 .left;rcases h' with h'|⟨h',_⟩ <;> omega
 .rcases h' with h'|⟨h',n'⟩
  .left;omega
  .refine .inr ⟨h.trans h',λz=>?_⟩
   rcases AC a b h with e|e|e
   .exact n e
   .exact n' (e ▸ z)
   .exact n' (rq b a c h.symm (h.trans h') e z)
def J8(h:ahB a b=true):ahB b a=false:=by
 rw [nA];unfold ahB at h
 by_cases e:a.length=b.length
 .rw [if_neg (λz=>z e),decide_eq_true_eq] at h;exact .inr ⟨e.symm,λz=>xh a (rq a b a e e.symm h z)⟩
 .rw [if_pos e,decide_eq_true_eq] at h;exact .inl h
def Ib(u a b:List Nat):ahB (u++a) (u++b)=ahB a b:=by
 unfold ahB;rw [length_append,length_append]
 by_cases h:a.length=b.length
 .rw [if_neg (by omega),if_neg (by omega)];exact decide_eq_decide.mpr (AD u a b)
 .rw [if_pos (by omega),if_pos (by omega)];exact decide_eq_decide.mpr (by omega)
def tP(h:ahB a b=false):b.length<=a.length:=by
 rw [nA] at h;omega
noncomputable def Lst(S:List Nat->Prop)(t:List Nat):Prop:=S t/\∀u,S u->ahB u t=false
def Lst.uniq{S:List Nat->Prop}{u:List Nat}(h:Lst S t)(h':Lst S u):t=u:=Fa (h'.2 t h.1) (h.2 u h'.1)
def Lst.congr{S S':List Nat->Prop}(h:Lst S t)(e:∀u,S u ↔ S' u):Lst S' t:=⟨(e t).mp h.1,λu hu=>h.2 u ((e u).mpr hu)⟩
def u5(t:List Nat):Lst (·∈[t]) t:=⟨LR.mpr rfl,λu hu=>by rw [LR.mp hu];exact qj t⟩
def xi{ts:List (List Nat)}(h:Lst (·∈ts) b):Lst (·∈ts++[t]) (if ahB t b=true then t else b):=by
 by_cases c:ahB t b=true
 .rw [if_pos c];refine⟨tf _ (LR.mpr rfl),λu hu=>?_⟩
  rcases Ml.mp hu with h'|h'
  .exact kf (h.2 u h') (J8 c)
  .rw [LR.mp h'];exact qj t
 .rw [if_neg c];refine⟨Mr _ h.1,λu hu=>?_⟩
  rcases Ml.mp hu with h'|h'
  .exact h.2 u h'
  .rw [LR.mp h'];exact not_eq_true _ ▸ c
def Dv:∀{ts:List (List Nat)},ts≠[]->∃t,Lst (·∈ts) t:=λ{ts}=>by
 induction ts using rn with
 | h0=>exact λh=>absurd rfl h
 | h1 l a ih =>
  intro _
  by_cases c:l=[]
  .rw [c];exact⟨a,u5 a⟩
  .obtain⟨t,ht⟩:=ih c;exact⟨_,xi ht⟩
inductive Way (L:List (List (Nat×Nat))):Nat->List Nat->Prop
 | nil {n:Nat}:L.getD n []=[]->Way L n []
 | cons {n j r:Nat}{js:List Nat}:(j,r)∈L.getD n []->Way L r js->Way L n (j::js)
noncomputable def tlG(hd:Nat->Nat->List Nat)(ls:Nat->List Nat):Nat->List Nat->List Nat
 | i,[]=>ls i
 | i,j::r=>hd i j++tlG hd ls j r
noncomputable def FD(L:List (List (Nat×Nat)))(hd:Nat->Nat->List Nat)(ls:Nat->List Nat)(n i:Nat)(t:List Nat):Prop:=∃js,Way L n js/\t=tlG hd ls i js
variable {L:List (List (Nat×Nat))}{hd:Nat->Nat->List Nat}{ls:Nat->List Nat}
def Fb(h:L.getD n []=[]):Lst (FD L hd ls n i) (ls i):=⟨⟨[],.nil h,rfl⟩,λu ⟨js,w,e⟩=>by
 cases w with
 | nil _=>rw [e];exact qj _
 | cons m _=>rw [h] at m;cases m⟩
def Cg{E:Nat->Nat->List Nat}(hn:L.getD n []≠[])(hE:∀p∈L.getD n [],Lst (FD L hd ls p.2 p.1) (E p.2 p.1))(h:Lst (·∈(L.getD n []).map λp=>hd i p.1++E p.2 p.1) t):Lst (FD L hd ls n i) t:=by
 obtain⟨hm,hl⟩:=h;obtain⟨p,hp,rfl⟩:=Lv.mp hm;obtain⟨js,w,e⟩:=(hE p hp).1;refine⟨⟨p.1::js,.cons hp w,by rw [e];rfl⟩,λu ⟨js',w',e'⟩=>?_⟩
 cases w' with
 | nil z=>exact absurd z hn
 | @cons _ j r js'' m w'' =>
  have h1:=(hE (j,r) m).2 _ ⟨js'',w'',rfl⟩;rw [e'];refine kf (b:=hd i j++E r j) ?_ (hl _ (Lv.mpr ⟨(j,r),m,rfl⟩));show ahB (hd i j++_) _=false;rw [Ib];exact h1
def Fc{E:Nat->Nat->List Nat}(hn:L.getD n []≠[])(hE:∀p∈L.getD n [],Lst (FD L hd ls p.2 p.1) (E p.2 p.1))(h:Lst (·∈(L.getD n []).map λp=>E p.2 p.1) t):Lst (λu=>∃j js,Way L n (j::js)/\u=tlG hd ls j js) t:=by
 obtain⟨hm,hl⟩:=h;obtain⟨p,hp,rfl⟩:=Lv.mp hm;obtain⟨js,w,e⟩:=(hE p hp).1;refine⟨⟨p.1,js,.cons hp w,e⟩,λu ⟨j,js',w',e'⟩=>?_⟩
 cases w' with
 | @cons _ _ r _ m w''=>rw [e'];exact kf ((hE (j,r) m).2 _ ⟨js',w'',rfl⟩) (hl _ (Lv.mpr ⟨(j,r),m,rfl⟩))
noncomputable def hdW(ws:List (List Nat))(i j:Nat):List Nat:=(pw ws i).take ((pw ws i).length - cA (pw ws i) (pw ws j))
def Fd(h:re a b k):a=a.take (a.length - k)++b.take k:=by
 have h1:=h.1;obtain⟨u,e⟩:=h.2.1;have hl:(b.take k).length=k:=by rw [length_take];omega
 have:u=a.take (a.length - k):=by
  rw [<- e,length_append,hl,add_sub_cancel,take_left]
 rw [<- this,e]
theorem AE:∀(js:List Nat) (i:Nat),0<(pw ws i).length->(∀j∈js,0<(pw ws j).length)->tlG (hdW ws) (pw ws) i js=glN ws (i::js)
 | [],i,_,_=>by show pw ws i=pw ws i++_;rw [show glT ws i []=[] from rfl,Eo]
 | j::r,i,hi,hj=>by
  have h0:=hj j mem_cons_self;have ih:=AE r j h0 λk hk=>hj k (m_ _ hk);have hs:=Fd (gv hi h0);show hdW ws i j++tlG (hdW ws) (pw ws) j r=pw ws i++((pw ws j).drop (cA (pw ws i) (pw ws j))++glT ws j r)
  rw [ih];show _++(pw ws j++glT ws j r)=_;unfold hdW;generalize cA (pw ws i) (pw ws j)=k at hs ⊢;generalize hA:(pw ws i).take ((pw ws i).length - k)=A at hs ⊢;rw [hs,append_assoc,<- append_assoc (as:=(pw ws j).take _),Lz]
def Dw{w:Nat}(h:∀n,∀p∈L.getD n [],p.1<w)(hw:Way L n js):∀j∈js,j<w:=by
 induction hw with
 | nil _=>exact λj hj=>nomatch hj
 | cons m _ ih=>exact λj hj=>(C_.mp hj).elim (λe=>e ▸ h _ _ m) (ih j)
def Fe(h:∀n,∀p∈L.getD n [],p.2<n)(hw:Way L n js):js.length<=n:=by
 induction hw with
 | nil _=>exact K_ _
 | cons m _ ih=>have:=h _ _ m;show _+1<=_;omega
theorem AF{w m:Nat}(h1:∀i j,(hd i j).length<=m)(h2:∀i,(ls i).length<=m):∀(js:List Nat) (i:Nat),(tlG hd ls i js).length<=m*(js.length+1)
 | [],i=>by show (ls i).length<=m*1;rw [OT];exact h2 i
 | j::r,i=>by
  have:=AF h1 h2 (w:=w) r j;have:=h1 i j;show (hd i j++_).length<=m*(r.length+1+1);rw [length_append,mul_succ];omega
noncomputable def kZ(m:Nat):List Nat:=(c_ 12).filter m.testBit
def rz{m:Nat}(hm:m<2^n)(h:m.testBit i=true):i<n:=by
 rcases Ly i n with h2|h2
 .exact h2
 .rw [Ob (u1 hm (Mi (n:=2) (by decide) h2))] at h;cases h
def io{m:Nat}(hm:m<4096):j∈kZ m ↔ m.testBit j=true:=by
 unfold kZ;rw [D_,mem_range];exact⟨λh=>h.2,λh=>⟨rz (n:=12) hm h,h⟩⟩
def rA{m:Nat}(hm:m<4096)(h:m.testBit i=true):2^i<=m/\∀j,(m - 2^i).testBit j=(m.testBit j && decide (j≠i)):=by
 have ge:∀s:Nat,s.testBit i=true->2^i<=s:=λs hs=>by
  rcases Ly s (2^i) with z|z
  .rw [Ob z] at hs;cases hs
  .exact z
 refine⟨ge m h,λj=>?_⟩;obtain⟨q,s,hs,e⟩:∃q s,s<2^(i+1)/\m=2^(i+1)*q+s:=⟨m / 2^(i+1),m % 2^(i+1),mod_lt _ (pow_pos (by decide)),(div_add_mod m (2^(i+1))).symm⟩
 subst e
 have hsb:s.testBit i=true:=by
  rw [Nm _ hs,if_pos (by omega)] at h;exact h
 have h1:=ge s hsb;obtain⟨r,rfl⟩:∃r,s=2^i+r:=⟨s - 2^i,by omega⟩
 have hp:2^(i+1)=2^i+2^i:=by rw [pow_succ];omega
 have hr:r<2^i:=by omega
 rw [show 2^(i+1)*q+(2^i+r) - 2^i=2^(i+1)*q+r by omega,Nm _ (show r<2^(i+1) by omega),Nm _ hs]
 by_cases c:j<i+1
 .rw [if_pos c,if_pos c]
  rcases Ly j i with z|z
  .rw [testBit_two_pow_add_gt z];simp;omega
  .have:j=i:=by omega
   subst this;rw [Ob hr];simp
 .rw [if_neg c,if_neg c];simp;omega
noncomputable def k6(n:Nat):List (List (Nat×Nat)):=(c_ (2^n)).map λm=>(kZ m).map λi=>(i,m - 2^i)
def kg{m:Nat}(h:m<2^n):(k6 n).getD m []=(kZ m).map λi=>(i,m - 2^i):=by
 unfold k6;rw [cn,h_,H_ h];rfl
def rB{m:Nat}(hn:n<=12){p:Nat×Nat}(h:p∈(k6 n).getD m []):m<2^n/\p.1<n/\p.2<m/\m.testBit p.1=true/\p.2=m - 2^p.1:=by
 by_cases c:m<2^n
 .rw [kg c] at h;obtain⟨i,hi,rfl⟩:=Lv.mp h;have h12:m<4096:=u1 c (Mi (n:=2) (by decide) hn);have hb:=(io h12).mp hi;have:=(rA h12 hb).1;have h0:0<2^i:=pow_pos (by decide);exact⟨c,rz c hb,by show m - 2^i<m;omega,hb,rfl⟩
 .rw [cn,u_ (by unfold k6;rw [length_map,length_range];omega)] at h;cases h
theorem rC(hn:n<=12):∀(js:List Nat) (m:Nat),m<2^n->(Way (k6 n) m js ↔ js.Nodup/\∀i,i∈js ↔ m.testBit i=true)
 | [],m,hm=>by
  have h12:m<4096:=u1 hm (Mi (n:=2) (by decide) hn)
  constructor
  .rintro (h|_);rw [kg hm] at h;have h:=MW.mp h;exact⟨nodup_nil,λi=>⟨λz=>(not_mem_nil z).elim,λz=>by rw [<- io h12,h] at z;cases z⟩⟩
  .rintro⟨_,h⟩;refine .nil ?_;rw [kg hm,MW];exact eq_nil_iff_forall_not_mem.mpr λi hi=>nomatch (h i).mpr ((io h12).mp hi)
 | j::r,m,hm=>by
  have h12:m<4096:=u1 hm (Mi (n:=2) (by decide) hn)
  constructor
  .intro h
   cases h with
   | @cons _ _ r' _ hc hw =>
    obtain⟨_,c2,c3,c4,c5⟩:=rB hn hc;have c4:m.testBit j=true:=c4;have c5:r'=m - 2^j:=c5;subst c5;obtain⟨nd,hi⟩:=(rC hn r _ (lt_trans c3 hm)).mp hw;have hb:=(rA h12 c4).2
    refine⟨ND.mpr ⟨λz=>?_,nd⟩,λi=>?_⟩
    .have:=(hi j).mp z;rw [hb,decide_eq_false (λz=>z rfl),N7] at this;cases this
    .rw [C_,hi,hb]
     by_cases e:i=j
     .subst e;simp [c4]
     .simp [e]
  .rintro⟨nd,hi⟩;have c4:=(hi j).mp mem_cons_self;obtain⟨c1,hb⟩:=rA h12 c4;obtain⟨nj,nd⟩:=ND.mp nd
   refine .cons (r:=m - 2^j) ?_ ((rC hn r _ (lt_of_le_of_lt (Nat.sub_le _ _) hm)).mpr ⟨nd,λi=>?_⟩)
   .rw [kg hm];exact Lv.mpr ⟨j,(io h12).mpr c4,rfl⟩
   .rw [hb,and_eq_true,decide_eq_true_eq,<- hi,C_];refine⟨λh=>⟨.inr h,λe=>nj (e ▸ h)⟩,λh=>h.1.elim (λe=>absurd e h.2) id⟩
def xj(hn:n<=12):Way (k6 n) (2^n - 1) js ↔ js.Perm (c_ n):=by
 have h0:0<2^n:=pow_pos (by decide);rw [rC hn js _ (by omega)]
 constructor
 .rintro⟨nd,h⟩;refine (perm_ext_iff_of_nodup nd Oi).mpr λi=>?_;rw [h,testBit_two_pow_sub_one,mem_range,decide_eq_true_eq]
 .intro h;refine⟨h.nodup_iff.mpr Oi,λi=>?_⟩;rw [h.mem_iff,testBit_two_pow_sub_one,mem_range,decide_eq_true_eq]
noncomputable def Ic(ps:List (List Nat))(u:List Nat):Prop:=∀p∈ps,p <:+: u
noncomputable def GlS(ws:List (List Nat))(u:List Nat):Prop:=∃js:List Nat,js.Perm (c_ ws.length)/\u=glN ws js
def u6{u:List Nat}(hin:∀w∈al ps,w <:+: u):∃js:List Nat,js.Perm (c_ (al ps).length)/\js.Pairwise (λa b=>fnd u (pw (al ps) a) 0<fnd u (pw (al ps) b) 0):=by
 let le:Nat->Nat->Bool:=λa b=>decide (fnd u (pw (al ps) a) 0<=fnd u (pw (al ps) b) 0)
 have hp:=mergeSort_perm (c_ (al ps).length) le
 have hs:((c_ (al ps).length).mergeSort le).Pairwise (λa b=>le a b=true):=pairwise_mergeSort (le:=le) (λa b c h1 h2=>decide_eq_true (O_ (of_decide_eq_true h1) (of_decide_eq_true h2))) (λa b=>by
  rcases Int.le_total (fnd u (pw (al ps) a) 0) (fnd u (pw (al ps) b) 0) with h|h
  .rw [show le a b=true from decide_eq_true h,Bool.true_or]
  .rw [show le b a=true from decide_eq_true h,Bool.or_true]) _
 have nd:=hp.nodup_iff.mpr Oi;refine⟨_,hp,(hs.and nd).imp_of_mem λ{a b} ma mb h=>?_⟩;have la:=mem_range.mp (hp.mem_iff.mp ma);have lb:=mem_range.mp (hp.mem_iff.mp mb);have h1:fnd u (pw (al ps) a) 0<=fnd u (pw (al ps) b) 0:=of_decide_eq_true h.1;have h2:=HV (hin _ (bN la)) (hin _ (bN lb)) (fT la lb h.2) (fT lb la (Na h.2));omega
def Ch(hp:Pcs 60 ps)(h:js.Perm (c_ (al ps).length)):Ic ps (glN (al ps) js):=λp hpp=>by
 refine Cc (λw hw=>(hp w hw).2.1) (λw hw=>?_) hpp;obtain⟨j,hj,rfl⟩:=ME hw;rw [show (al ps)[j]=pw (al ps) j from pf ((cx hj).symm.trans (bR hj))];exact Dr (λk hk=>(fR hp _ (bN (mem_range.mp (h.mem_iff.mp hk)))).1) (h.mem_iff.mpr (mem_range.mpr hj))
def Ci{w:List Nat}(h:w∈al ps):w∈ps:=by
 unfold al at h;obtain⟨k,hk,rfl⟩:=Lv.mp h;exact bN (fQ hk)
def Cj(hp:Pcs 60 ps){u:List Nat}(h:Ic ps u):∃js:List Nat,js.Perm (c_ (al ps).length)/\ahB u (glN (al ps) js)=false:=by
 have hin:∀w∈al ps,w <:+: u:=λw hw=>h w (Ci hw);obtain⟨js,h1,h2⟩:=u6 hin;obtain⟨b1,b2,_,_⟩:=E5 hp hin h1 h2;refine⟨js,h1,?_⟩
 by_cases e:(glN (al ps) js).length=u.length
 .rw [b2 e];exact qj u
 .rw [nA];left;omega
def Ck(hp:Pcs 60 ps)(h:Lst (GlS (al ps)) t):Lst (Ic ps) t:=by
 obtain⟨⟨js,h1,e⟩,hl⟩:=h;refine⟨by rw [e];exact Ch hp h1,λu hu=>?_⟩;obtain⟨ks,k1,k2⟩:=Cj hp hu;exact kf k2 (hl _ ⟨ks,k1,rfl⟩)
noncomputable def tBL(K:b_)(t:TE):TT:=λσ H Q=>t σ H λx H1=>∃k,IJ K x H1 k/\Q k H1
variable {a:Expr}{ta:TE}
def Ff(K:b_)(e:X.K=K)(ha:PE X a ta)(he:∀whole,isTrue a X.env whole=(do let v <- whole;standAt a.pos;holding [v] (truthy v)):=by intro _;rfl):PT X a (tBL K ta):=by
 subst e;exact Bj ha he
noncomputable def pBL(pe:PTE):PTT:=λρ Q=>pe ρ λp ρ1=>match p.d with
 | .lst ds=>Q (!ds.isEmpty) ρ1
 | .tup ds=>Q (!ds.isEmpty) ρ1
 | _=>False
variable {xs:List V}{ds:List D}
def FVs.emp(h:FVs K O H xs ds):(!xs.isEmpty)=!ds.isEmpty:=by cases h <;> rfl
def J9(h:LE K ta pe):LT K (tBL K ta) (pBL pe):=λA ρ σ H Q Q' R q k=>h A ρ σ H _ _ R q λv H1 p ρ1 q1 f1 o1=>by
 obtain⟨R1,f⟩:=o1.frz
 split at q1
 .rename_i ds e;rw [e] at f
  cases f with
  | lst na ea fa=>exact⟨!ds.isEmpty,.inl ⟨_,SqL.of ea,fa.emp.symm⟩,k _ H1 ρ1 q1 f1 R1⟩
 .rename_i ds e;rw [e] at f
  cases f with
  | tup na ea fa=>exact⟨!ds.isEmpty,.inr (.inl ⟨_,SqT.of ea,fa.emp.symm⟩),k _ H1 ρ1 q1 f1 R1⟩
 .exact q1.elim
variable {tb:TE}
noncomputable def KS(K:b_)(ta tb:TE):TE:=λσ H Q=>ta σ H λx H1=>∃k,IJ K x H1 k/\if k=true then Q x H1 else tb σ H1 Q
variable {b:Expr}{rest:List Expr}
def Ie(K:b_)(e:X.K=K)(ha:PE X a ta)(hb:PE X (.BoolOp .Or (b::rest) pos) tb):PE X (.BoolOp .Or (a::b::rest) pos) (KS K ta tb):=by
 subst e;intro pins s σ H Q I h;refine BoolOp_or (thn (ha pins s σ H _ I h) λv s1 ⟨x,H1,I1,r1,q1⟩=>?_);obtain⟨k,hk,q1⟩:=q1;refine thn (CL pins s1 σ H1 x v (λk' H'=>k'=k/\H'=H1) I1 r1 ⟨k,hk,rfl,rfl⟩) λc s2 z=>?_;obtain⟨H2,I2,z1,z2⟩:=z;subst z1 z2
 cases c with
 | false=>exact hb pins s2 σ _ Q I2 q1
 | true=>exact⟨x,_,I2,r1,q1⟩
noncomputable def Lp(a b:PTE):PTE:=λρ Q=>a ρ λp ρ1=>match p.d with
 | .lst ds=>il (!ds.isEmpty) (Q p ρ1) (b ρ1 Q)
 | .tup ds=>il (!ds.isEmpty) (Q p ρ1) (b ρ1 Q)
 | _=>False
variable {pe':PTE}
def Ig(ha:LE K ta pe)(hb:LE K tb pe'):LE K (KS K ta tb) (Lp pe pe'):=λA ρ σ H Q Q' R q k=>ha A ρ σ H _ _ R q λv H1 p ρ1 q1 f1 o1=>by
 obtain⟨R1,f⟩:=o1.frz
 have fin:∀c:Bool,il c (Q p ρ1) (pe' ρ1 Q)->(if c=true then Q' v H1 else tb σ H1 Q'):=λc z=>by
  cases c with
  | false=>exact hb A ρ1 σ H1 _ _ R1 z λb H2 p2 ρ2 q2 f2 o2=>k b H2 p2 ρ2 q2 (f1.trans f2) (o2.h0 λb z=>f1.dm b z)
  | true=>exact k _ H1 _ ρ1 z f1 o1
 split at q1
 .rename_i ds e;rw [e] at f
  cases f with
  | lst na ea fa=>exact⟨!ds.isEmpty,.inl ⟨_,SqL.of ea,fa.emp.symm⟩,fin _ q1⟩
 .rename_i ds e;rw [e] at f
  cases f with
  | tup na ea fa=>exact⟨!ds.isEmpty,.inr (.inl ⟨_,SqT.of ea,fa.emp.symm⟩),fin _ q1⟩
 .exact q1.elim
noncomputable def XI(K:b_)(G:Addr)(nm:String)(C:Addr):Prop:=t_ K mainGlobals nm=some (some (.ref C))/\(∃(q:Str) (N:Addr) (bs sub:List Value) (sn:List Str) (ab:Bool) (col:Option Bool) (k0 k1 k2 k3 k5:Option Value),K.lookup C=some (excClassObj nm q C N bs (.ref G::[.type "ValueError",.type "Exception",.type "BaseException",.type "object"]) true sn sub ab col none k0 k1 k2 k3 k5 "ValueError.__new__")) /\
 j_ K (.ref C) "__getattribute__"=some (some (.builtin "BaseException.__getattribute__"))/\j_ K (.ref C) "__getattr__"=some none/\j_ K (.ref C) "__setattr__"=some (some (.builtin "object.__setattr__"))/\j_ K (.ref C) "__class__"=some (some (.builtin "object.__class__"))/\x_ K (.ref C)=true
variable {C:Addr}
def Ka{G:Addr}{nm:String}{q:Str}{N:Addr}{bs sub:List Value}{sn:List Str}{ab:Bool}{col:Option Bool}{k0 k1 k2 k3 k5:Option Value}(a:t_ K mainGlobals nm=some (some (.ref C)))(l:K.lookup C=some (excClassObj nm q C N bs (.ref G::[.type "ValueError",.type "Exception",.type "BaseException",.type "object"]) true sn sub ab col none k0 k1 k2 k3 k5 "ValueError.__new__"))(g:j_ K (.ref C) "__getattribute__"=some (some (.builtin "BaseException.__getattribute__")))(h:j_ K (.ref C) "__getattr__"=some none)(s:j_ K (.ref C) "__setattr__"=some (some (.builtin "object.__setattr__")))(c:j_ K (.ref C) "__class__"=some (some (.builtin "object.__class__")))(k:x_ K (.ref C)=true):XI K G nm C :=
 ⟨a,⟨_,_,_,_,_,_,_,_,_,_,_,_,l⟩,g,h,s,c,k⟩
noncomputable def XJ(K:b_)(C:Addr)(qn at_:String)(st:Stmt):Prop:=∃(fx:Addr) (oc kV dc pm cd ct:Value) (od an:Option Addr) (sl:Array (Option Value)),j_ K (.ref C) "__init__"=some (some (.ref fx))/\OK K (.ref fx)=some (.type "function")/\K.lookup fx=some ⟨oc,od,.func (B_ "__init__" qn (bQ st) (bi st) (af st) .none kV dc pm an cd ct),sl⟩/\Lx K cd qn=true/\x_ K (.ref fx)=true/\j_ K (.ref C) at_=some none
def Kb{qn at_:String}{fx:Addr}{kV dc cd:Value}{sl:Array (Option Value)}(i:j_ K (.ref C) "__init__"=some (some (.ref fx)))(t:OK K (.ref fx)=some (.type "function"))(l:K.lookup fx=some ⟨oc,od,.func (B_ "__init__" qn (bQ st) (bi st) (af st) .none kV dc pm an cd ct),sl⟩)(c:Lx K cd qn=true)(k:x_ K (.ref fx)=true)(n:j_ K (.ref C) at_=some none):XJ K C qn at_ st :=
 ⟨_,_,_,_,_,_,_,_,_,_,i,t,l,c,k,n⟩
section
open PySem.AutoSeq1 (wpAny_loadPart')
open PySem.MeetsSeq PySem.MeetsSeq2 PySem.MeetsSeq3
end
section
noncomputable def ipM:TIp:=λx y H Q=>∃i j,x=.int i/\y=.int j/\Bh i j/\Q (.int (i*j)) H
def Fg:PIp X .Mult ipM:=by
 intro pins s σ H x y v u Q I r1 r2 h;obtain⟨i,j,e1,e2,hm,q⟩:=h;subst e1;subst e2;obtain⟨t,rfl⟩:=r1;obtain⟨t',rfl⟩:=r2;exact imul_int ⟨.int _,H,I.tok _,⟨_,rfl⟩,q⟩ hm.ok
noncomputable def Dx(i:Nat)(pe:PTE):PTS:=λE ρ=>match ρ[i]? with
 | some (some (.dat (.int a)))=>pe ρ λp ρ1=>(match ρ1[i]?,p with
  | some (some (.dat (.int a'))),.dat (.int b)=>(a'=a/\Bh a b)/\dS i (.dat (.int (a*b))) ρ1 E.nx
  | _,_=>False)
 | _=>False
variable {fs:List Nat}
def Fh(hi:LG K fs (aU i) (dS i))(h:LE K te pe):LS K fs (IH i te ipM) (Dx i pe):=λfx A R H0 ρ σ H E E' hf r F q k1 k2 k3 k4=>by
 unfold Dx at q
 split at q
 .rename_i a e;obtain⟨v0,s0,rs0⟩:=r.get i _ e;cases (show FV K _ H v0 (.int a) from rs0);refine⟨_,s0,h A ρ σ H _ _ r q λv H1 p ρ1 q1 f1 o1=>?_⟩;obtain⟨R1,fv⟩:=o1.frz
  split at q1
  .rename_i a' b e1;obtain⟨⟨rfl,hm⟩,q1⟩:=q1;cases (show FV K _ H1 v (.int b) from fv);exact⟨_,b,rfl,rfl,hm,hi fx A R H0 ρ1 σ H1 (.dat (.int (a'*b))) _ _ _ hf (F.fr f1) ⟨R1,.int _⟩ q1 k1⟩
  .exact q1.elim
 .exact q.elim
end
section
noncomputable def Ih:TIp:=λx y H Q=>∃l b xs zs,x=.ref l/\y=.ref b/\H l=some (.lst xs)/\H b=some (.lst zs)/\xs.length+zs.length<=sizeLine/\Q (.ref l) (upd H l (.lst (xs++zs)))
def qk:isSeqSlot (some (.builtin "list.__iadd__"))=true:=by decide +kernel
variable {M:Model}
def u7{a b:Value}(ha:s.TypeIs a "list")(hb:s.TypeIs b "list")(hc:wpAny M A (call (.builtin "list.__iadd__") [a,b]) Q E s):wpAny M A (inplaceOp .Add a b) Q E s:=by
 have hl:typeLookup (.type "list") (dunderI "add")=pure (some (.builtin "list.__iadd__")):=OC.lookup;unfold inplaceOp;refine Lu ?_
 have hfi:fillsInplaceSlot (.type "list") "add" (Operator.Add == .Add)=pure false:=by
  unfold fillsInplaceSlot;show (typeLookup (.type "list") (dunderI "add") >>= λfi=>pure (fi.isSome && !isSeqSlot fi))=pure false;rw [hl];rw [pure_bind,qk];rfl
 refine cy (NT ha (cy (OM hfi ?_)));show wpAny M A (if false=true then _ else _) Q E s;rw [if_neg l_];refine cy (binaryOp1_none (nm:="add") ha hb noFill_list_add ?_);refine cy (OM (PyProof.Rows.seqSlot_of hl qk) ?_);exact cy (N9 hc)
def Ii:PIp X .Add Ih:=by
 intro pins s σ H x y v u Q I rx ry h;obtain⟨l,b,xs,zs,rfl,rfl,hH,hB,hz,q⟩:=h;cases rx;cases ry;obtain⟨z,its,n,r,hl,e⟩:=I.lstM hH;obtain⟨z2,its2,n2,r2,hl2,e2⟩:=I.lstM hB;have hsz:its.toArray.size+its2.toArray.size<=sizeLine:=by rw [size_toArray,size_toArray];omega
 have hlong:¬ (!its.toArray.isEmpty && L7 (its.toArray.size+its2.toArray.size))=true:=by
  rw [qJ hsz,N7];exact l_
 refine u7 ⟨_,e,rfl⟩ ⟨_,e2,rfl⟩ (N6 OC ⟨_,e,rfl⟩ PySem.F.entry_list_iadd (PySem.F.args_list_iadd_2 _ _)
  (AutoSeq1.list___iadd___list_list_0 l its.toArray n b its2.toArray n2 hlong (by rw [size_toArray];omega) (by omega)) ⟨e,e2,?_⟩)
 refine⟨.ref l,_,I.lset (its':=its++its2) hH e (by simp) (r.append r2) ?_,rfl,q⟩;rw [length_append];omega
noncomputable def Dy(i:Nat)(pe:PTE):PTS:=λE ρ=>match ρ[i]? with
 | some (some (.own _))=>pe ρ λp ρ1=>(match ρ1[i]?,p.d with
  | some (some (.own ds)),.lst es=>ds.length+es.length<=1000000/\E.nx (ρ1.set i (some (.own (ds++es))))
  | _,_=>False)
 | _=>False
variable {fs:List Nat}
def Fi(h:LE K te pe):LS K fs (IH i te Ih) (Dy i pe):=λfx A R H0 ρ σ H E E' hf r F q k1 k2 k3 k4=>by
 unfold Dy at q
 split at q
 .rename_i ds0 e0;obtain⟨a0,xs0,s0,g0,f0⟩:=r.ownAt e0;refine⟨_,s0,h A ρ σ H _ _ r q λv H1 p ρ1 q1 f1 o1=>?_⟩;obtain⟨R1,fv⟩:=o1.frz
  split at q1
  .rename_i ds es e1 e2;rw [e2] at fv;obtain⟨a,xs,s,g,f⟩:=R1.ownAt e1;rw [s0] at s;cases s
   cases fv with
   | lst no ez fz =>
    obtain⟨R2,f2⟩:=R1.lstw e1 s0 (f.append fz);refine⟨a0,_,xs,_,rfl,rfl,g,ez,p_ (by rw [f.length,fz.length];exact q1.1) (sz _ (e_ _)),?_⟩
    have es:σ.set i (some (.ref a0))=σ:=by
     obtain⟨hi,ei⟩:=i_.mp s0;rw [<- ei];exact set_getElem_self hi
    show E'.nx (σ.set i (some (.ref a0))) _;rw [es];exact k1 _ _ _ q1.2 R2 (F.fr (f1.trans f2))
  .exact q1.elim
 .exact q.elim
end
variable {t1 i1 t2 i2 elt:Expr}{f1 f2:List Expr}{scope:Scope}{wi:TI}{tts:TT}
theorem Cm{x:Str}{pos' cpos:Pos}{wi2:TI}{g2:TG}{tts2:TT}(N':List Str)(ix:List (Option Nat))(hN:X.N.Nodup)(hi:X.N[i]?=some x)(hx:Loc X.env.scope x)(hc:X.calm=true)(hit:PI X t1 i1 wi)(blk:∀s H fp pn,PG (aT X N' scope s H fp pn) t1 g/\PIf (aT X N' scope s H fp pn) f1 tts/\PI (aT X N' scope s H fp pn) t2 i2 wi2/\PG (aT X N' scope s H fp pn) t2 g2/\PIf (aT X N' scope s H fp pn) f2 tts2/\PE (aT X N' scope s H fp pn) elt te)(chk:kR X.env.scope X.N scope N' ix=true)(hsw:swapsWith (.ListComp elt [⟨t1,i1,f1,0⟩,⟨t2,i2,f2,0⟩] scope cpos) (some (.Name x pos')) pos.line X.env=pure true:=by rfl)(hs:∀x,foldedSetIterable i1 X.env x=pure x:=by intro _;rfl)(hs2:∀(env:Env) x,foldedSetIterable i2 env x=pure x:=by intro _ _;rfl)(hf:X.fn x=true\/X.env.scope.names.lookup x=some .local:=by first|exact .inl rfl|exact .inr rfl|assumption):
  PS X (.Assign [.Name x pos'] (.ListComp elt [⟨t1,i1,f1,0⟩,⟨t2,i2,f2,0⟩] scope cpos) pos) (DS (wQ ix wi g tts λD=>BY wi2 g2 tts2 (BX te D)) (aU i)):=by
 intro pins s σ H D I hw;rw [exec_Assign_Name_used _ _ _ _ hsw];refine cy (Me (cy ?_));show wpAny _ X.A (do let _ <- comprehension (.ListComp elt [⟨t1,i1,f1,0⟩,⟨t2,i2,f2,0⟩] scope cpos) scope X.env _ (newList []) false (eval i1 X.env) (some (assign (.Name x pos') X.env))) _ _ s
 refine cy (thn (qf (use:=some (assign (.Name x pos') X.env)) (Qf:=λ_ s'=>SP X pins D .next s') hc (j5 chk) hit (λs H fp pn D=>?_) hs I hw λD' C H' s' I' q hm hn h1 h2 h3 h4 h5=>?_) λ_ s' q=>g_ (g_ q))
 .obtain⟨b1,b2,b3,b4,b5,b6⟩:=blk s H fp pn;exact⟨b1,b2,zV (Y:=aT X N' scope s H fp pn) rfl hc b3 b4 b5 (zU rfl b6) (hs2 _)⟩
 obtain⟨m,oC,es,ep,hoC,hdC,hrC⟩:=hm
 have Ip:Inv X (pins++[(C,oC)]) σ H' s':=I'.pins_of λp hp=>(Ml.mp hp).elim (λz=>I'.pin p (tf _ z)) λz=>by
  have e:p=(C,oC):=by simpa using z
  subst e;exact⟨hoC,hn,h2,h4,λv z=>by rw [hdC] at z;cases z⟩
 refine Og (jX (v:=.ref D') Ip hN hi hx rfl (λs2 I2=>?_) hf);have hC2:s2.heap.get? C=some oC:=(I2.pin (C,oC) (by simp)).1;have I2':Inv X pins (σ.set i (some (.ref D'))) H' s2:=I2.pins_of λp hp=>I2.pin p (tf _ (Mr _ hp));refine⟨m,⟨oC,es,ep,hC2,hdC,hrC⟩,λh' sb=>⟨_,H',?_,q⟩⟩;exact I2'.turned (t':=s2.toks) (λb o hb e=>(sb.2 b hb).trans e) hn h2 (.inr h1) h3 h5
def fJ.m(r:fJ k A)(h:OY j k=true):fJ j A:=r.mono (Oj h)
section
variable {x:Str}{ps:List Str}
abbrev Cn(x:Str)(st:Stmt)(ps:List Str):Prop:=∀(kV doc pm:Value) (an:Option Addr) (cdv ct:Value) (us:List Value),us.length=ps.length->bindArgs (B_ x x (bQ st) (bi st) (af st) .none kV doc pm an cdv ct) ⟨us,[]⟩=pure (ps.zip us)
variable {P:tj}{base:Heap}{N:List Str}
def aV.oP{c:FN}{pp:PTS}(D:aV K mg x st)(S:au N ps (af st))(hb:Cn x st ps)(ln:∀ds Q,c ds Q->ds.length=n)(h1:n=ps.length)(h2:OY n N.length=true)(rd:∀ds Q,c ds Q->IR pp N.length ds Q)(hbody:∀(f:Addr) (cdv:Value) (A:A_) (outer:List Env) (s:d_) (H:Hp) (E:XK),fJ k (A.deeper (envOfC x (af st) s.heap.objs.size f cdv))->(A.deeper (envOfC x (af st) s.heap.objs.size f cdv)).units+64<cLine ->
   ∃t,PSs (wy CX0 P w K mg base N x (af st) f cdv A outer s H E).nox (bi st) t/\LS K [] t pp):Cal P w K mg base (k+1) x ps (spP K c):=by
 refine D.ok S hb (λvs H Q E h=>(JS ln h).trans h1) λf cdv A outer s H vs Q E hr h=>?_;obtain⟨t,h3,h4⟩:=hbody f cdv A outer s H E hr hr.units;exact⟨t,h3,fnP h4 (λds Q h=>p_ (N3 (ln ds Q h)) (Oj h2)) rd h⟩
def aV.oR{c:FR}{pp:PTS}(D:aV K mg x st)(S:au N ps (af st))(hb:Cn x st ps)(ln:∀p ds Q,c p ds Q->ds.length+1=n)(h1:n=ps.length)(h2:OY n N.length=true)(rd:∀p ds Q,p.isOwn=true->c p ds Q->JU pp N.length p ds Q)(hbody:∀(f:Addr) (cdv:Value) (A:A_) (outer:List Env) (s:d_) (H:Hp) (E:XK),fJ k (A.deeper (envOfC x (af st) s.heap.objs.size f cdv))->(A.deeper (envOfC x (af st) s.heap.objs.size f cdv)).units+64<cLine ->
   ∃t,PSs (wy CX0 P w K mg base N x (af st) f cdv A outer s H E).nox (bi st) t/\LS K [0] t pp):Cal P w K mg base (k+1) x ps (spR K c):=by
 refine D.ok S hb (λvs H Q E h=>(JT ln h).trans h1) λf cdv A outer s H vs Q E hr h=>?_;obtain⟨t,h3,h4⟩:=hbody f cdv A outer s H E hr hr.units;exact⟨t,h3,fnR h4 (λp ds Q h=>p_ (N3 (ln p ds Q h)) (Oj h2)) rd h⟩
end
noncomputable def psO{fs:List Nat}{A:b_->(Str->Option Value)->Prop}{ts:b_->(Str->Option Value)->TS}{ps:PTS}(_:∀K mg,A K mg->LS K fs (ts K mg) ps):PTS:=ps
noncomputable def cN(p:Prop):List D->Prop|[]=>p|_=>False
noncomputable def cD(f:D->List D->Prop):List D->Prop|d::r=>f d r|_=>False
noncomputable def cS(f:List Nat->List D->Prop):List D->Prop|.str t::r=>f t r|_=>False
noncomputable def cI(f:Int->List D->Prop):List D->Prop|.int t::r=>f t r|_=>False
noncomputable def cL(f:List D->List D->Prop):List D->Prop|.lst t::r=>f t r|_=>False
noncomputable def cT(f:List D->List D->Prop):List D->Prop|.tup t::r=>f t r|_=>False
noncomputable def cR(f:List Int->List D->Prop):List D->Prop|.scr t::r=>f t r|_=>False
noncomputable def cO(f:Str->List Str->List D->List D->Prop):List D->Prop|.obj c ns fs::r=>f c ns fs r|_=>False
noncomputable def oL(f:List D->Prop):PV->Prop|.own ds=>f ds|_=>False
def Kc{l:List α}(h:l.length=1):∃a,l=[a]:=match l,h with|[a],_=>⟨a,rfl⟩
def Ij{l:List α}(h:l.length=2):∃a b,l=[a,b]:=match l,h with|[a,b],_=>⟨a,b,rfl⟩
def Ke{l:List α}(h:l.length=3):∃a b c,l=[a,b,c]:=match l,h with|[a,b,c],_=>⟨a,b,c,rfl⟩
noncomputable def oI(c:Str)(f:Prop):PV->Prop|.ins c' ns ds=>c'=c/\ns=[]/\ds=[]/\f|_=>False
section
variable {P:List D->Prop}
@[elab_as_elim] theorem cm {p:Prop}(h:cN p ds)(k:p->P []):P ds:=match ds,h with|[],h=>k h
@[elab_as_elim] theorem uq {f:D->List D->Prop}(h:cD f ds)(k:∀d r,f d r->P (d::r)):P ds:=match ds,h with|d::r,h=>k d r h
@[elab_as_elim] theorem oV {f:List Nat->List D->Prop}(h:cS f ds)(k:∀t r,f t r->P (.str t::r)):P ds:=match ds,h with|.str t::r,h=>k t r h
@[elab_as_elim] theorem dn {f:Int->List D->Prop}(h:cI f ds)(k:∀t r,f t r->P (.int t::r)):P ds:=match ds,h with|.int t::r,h=>k t r h
@[elab_as_elim] theorem xk {f:List D->List D->Prop}(h:cL f ds)(k:∀t r,f t r->P (.lst t::r)):P ds:=match ds,h with|.lst t::r,h=>k t r h
@[elab_as_elim] theorem ur {f:List D->List D->Prop}(h:cT f ds)(k:∀t r,f t r->P (.tup t::r)):P ds:=match ds,h with|.tup t::r,h=>k t r h
@[elab_as_elim] theorem Lq {f:List Int->List D->Prop}(h:cR f ds)(k:∀t r,f t r->P (.scr t::r)):P ds:=match ds,h with|.scr t::r,h=>k t r h
@[elab_as_elim] theorem Co {f:Str->List Str->List D->List D->Prop}(h:cO f ds)(k:∀c ns fs r,f c ns fs r->P (.obj c ns fs::r)):P ds:=match ds,h with|.obj c ns fs::r,h=>k c ns fs r h
@[elab_as_elim] theorem xm {P:PV->Prop}{p:PV}{f:List D->Prop}(h:oL f p)(k:∀es,f es->P (.own es)):P p:=match p,h with|.own es,h=>k es h
@[elab_as_elim] theorem KT {P:PV->Prop}{p:PV}{c:Str}{f:Prop}(h:oI c f p)(k:f->P (.ins c [] [])):P p:=match p,h with|.ins _ _ _,⟨e1,e2,e3,hf⟩=>by subst e1 e2 e3;exact k hf
end
abbrev PRl(c:FN)(pp:PTS)(m n:Nat):Prop:=∀ds Q,c ds Q->ds.length=n/\IR pp m ds Q
abbrev RRl(c:FR)(pp:PTS)(m n:Nat):Prop:=∀p ds Q,c p ds Q->ds.length+1=n/\JU pp m p ds Q
section
variable {P:tj}{base:Heap}{x:Str}{N ps:List Str}
def aV.oP2{c:FN}{pp:PTS}(D:aV K mg x st)(S:au N ps (af st))(hb:Cn x st ps)(rl:PRl c pp N.length n)(h1:n=ps.length)(h2:OY n N.length=true)(hbody:∀(f:Addr) (cdv:Value) (A:A_) (outer:List Env) (s:d_) (H:Hp) (E:XK),fJ k (A.deeper (envOfC x (af st) s.heap.objs.size f cdv))->(A.deeper (envOfC x (af st) s.heap.objs.size f cdv)).units+64<cLine ->
   ∃t,PSs (wy CX0 P w K mg base N x (af st) f cdv A outer s H E).nox (bi st) t/\LS K [] t pp):Cal P w K mg base (k+1) x ps (spP K c):=D.oP S hb (λds Q h=>(rl ds Q h).1) h1 h2 (λds Q h=>(rl ds Q h).2) hbody
def aV.oR2{c:FR}{pp:PTS}(D:aV K mg x st)(S:au N ps (af st))(hb:Cn x st ps)(rl:RRl c pp N.length n)(h1:n=ps.length)(h2:OY n N.length=true)(hbody:∀(f:Addr) (cdv:Value) (A:A_) (outer:List Env) (s:d_) (H:Hp) (E:XK),fJ k (A.deeper (envOfC x (af st) s.heap.objs.size f cdv))->(A.deeper (envOfC x (af st) s.heap.objs.size f cdv)).units+64<cLine ->
   ∃t,PSs (wy CX0 P w K mg base N x (af st) f cdv A outer s H E).nox (bi st) t/\LS K [0] t pp):Cal P w K mg base (k+1) x ps (spR K c):=D.oR S hb (λp ds Q h=>(rl p ds Q h).1) h1 h2 (λp ds Q _ h=>(rl p ds Q h).2) hbody
end
def ax(i:Nat):LA1 K (aF i) (pSl i):=c6
def cJ(i:Nat):LE K (aF i) (uM i):=fO
def Ba(i:Int):LE K (tC (.int i)) (pC (.int i)):=le_int
def bo(i:Nat):LA1 K (aF i) (pFz (uM i)):=ag fO
def bT(i:Int):LA1 K (tC (.int i)) (pFz (pC (.int i))):=ag le_int
def cQ{fs:List Nat}(i:Nat)(hi:fs.contains i=false):LG K fs (aU i) (dS i):=zB hi
def aQ{fs:List Nat}(i:Nat)(hi:fs.contains i=false):LGd K fs (aU i) (dS i):=e7 hi
end L2
namespace K57
open PySem PySem.Spec PyProof.Rows L2
noncomputable def top(i:Nat):Stmt:=PySem.Challenge.pw_shortglue_k57_whole_more_often.main.body.getD i (.Pass ⟨0,0,0,0⟩)
abbrev rD:Stmt:=top 10
abbrev jC:Stmt:=top 11
abbrev gA:Stmt:=top 12
abbrev ip:Stmt:=top 13
abbrev dO:Stmt:=top 14
abbrev Fj:Stmt:=top 16
abbrev k8:Stmt:=top 17
abbrev fU:Stmt:=top 22
abbrev k9:Stmt:=top 23
abbrev rE:Stmt:=top 24
abbrev gB:Stmt:=top 25
abbrev fj:Stmt:=top 27
abbrev eG:Stmt:=top 28
abbrev nB:Stmt:=top 29
abbrev lc:Stmt:=top 30
abbrev bW:Stmt:=uD (top 31) 0
abbrev bX:Stmt:=uD (top 31) 1
abbrev lf:Stmt:=top 33
abbrev jD:Stmt:=top 35
abbrev gC:Stmt:=top 39
abbrev fk:Stmt:=top 40
abbrev lg:Stmt:=top 41
abbrev cp:Stmt:=uD (top 42) 0
abbrev gD:Stmt:=top 43
abbrev lh:Stmt:=top 44
abbrev rF:Stmt:=top 45
abbrev gE:Stmt:=top 46
abbrev nC:Stmt:=top 48
abbrev ll:Stmt:=top 51
abbrev lm:Stmt:=top 52
abbrev dq:Stmt:=top 53
abbrev lp:Stmt:=top 54
abbrev jF:Stmt:=top 55
abbrev lq:Stmt:=top 56
abbrev eH:Stmt:=top 57
abbrev lr:Stmt:=top 58
abbrev fm:Stmt:=top 60
abbrev dP:Stmt:=top 61
abbrev iq:Stmt:=top 63
abbrev lu:Stmt:=top 64
abbrev lv:Stmt:=top 65
abbrev nE:Stmt:=top 66
abbrev lw:Stmt:=top 67
abbrev ir:Stmt:=top 68
abbrev iu:Stmt:=top 69
abbrev jG:Stmt:=top 70
abbrev iw:Stmt:=top 71
abbrev nF:Stmt:=top 72
abbrev jH:Stmt:=top 73
abbrev fo:Stmt:=top 74
abbrev iy:Stmt:=top 75
abbrev ly:Stmt:=top 76
abbrev nG:Stmt:=top 77
abbrev iA:Stmt:=top 78
abbrev lz:Stmt:=top 79
abbrev gG:Stmt:=top 80
abbrev gI:Stmt:=top 81
abbrev Cp:Stmt:=top 82
def AG:au ["thing"] ["thing"] (af rD):=⟨rfl,rfl,rfl,by decide +kernel,rfl,by decide +kernel,by decide +kernel⟩
def tQ:au ["thing"] ["thing"] (af jC):=⟨rfl,rfl,rfl,by decide +kernel,rfl,by decide +kernel,by decide +kernel⟩
def px:au ["thing","many"] ["thing","many"] (af gA):=⟨rfl,rfl,rfl,by decide +kernel,rfl,by decide +kernel,by decide +kernel⟩
def rG:au ["thing","many"] ["thing","many"] (af ip):=⟨rfl,rfl,rfl,by decide +kernel,rfl,by decide +kernel,by decide +kernel⟩
def lA:au ["thing","many"] ["thing","many"] (af dO):=⟨rfl,rfl,rfl,by decide +kernel,rfl,by decide +kernel,by decide +kernel⟩
def Dz:au ["one","other","k"] ["one","other"] (af Fj):=⟨rfl,rfl,rfl,by decide +kernel,rfl,by decide +kernel,by decide +kernel⟩
def u8:au ["words"] ["words"] (af k8):=⟨rfl,rfl,rfl,by decide +kernel,rfl,by decide +kernel,by decide +kernel⟩
def xY:au ["thing","least","most"] ["thing","least","most"] (af fU):=⟨rfl,rfl,rfl,by decide +kernel,rfl,by decide +kernel,by decide +kernel⟩
def u9:au ["thing","least","most"] ["thing","least","most"] (af k9):=⟨rfl,rfl,rfl,by decide +kernel,rfl,by decide +kernel,by decide +kernel⟩
def kh:au ["text","piece","found","place"] ["text","piece"] (af rE):=⟨rfl,rfl,rfl,by decide +kernel,rfl,by decide +kernel,by decide +kernel⟩
def pz:au ["text","piece"] ["text","piece"] (af gB):=⟨rfl,rfl,rfl,by decide +kernel,rfl,by decide +kernel,by decide +kernel⟩
def eI:au ["things","at","thing"] ["things"] (af fj):=⟨rfl,rfl,rfl,by decide +kernel,rfl,by decide +kernel,by decide +kernel⟩
def mo:au ["piece","other"] ["piece","other"] (af eG):=⟨rfl,rfl,rfl,by decide +kernel,rfl,by decide +kernel,by decide +kernel⟩
def lB:au ["pieces","at","piece","longer"] ["pieces","at"] (af nB):=⟨rfl,rfl,rfl,by decide +kernel,rfl,by decide +kernel,by decide +kernel⟩
def nH:au ["pieces","kept","at","holder"] ["pieces","kept","at"] (af lc):=⟨rfl,rfl,rfl,by decide +kernel,rfl,by decide +kernel,by decide +kernel⟩
def i6:au ["self","pieces","indexes"] ["self","pieces"] (af bW):=⟨rfl,rfl,rfl,by decide +kernel,rfl,by decide +kernel,by decide +kernel⟩
def pA:au ["self"] ["self"] (af bX):=⟨rfl,rfl,rfl,by decide +kernel,rfl,by decide +kernel,by decide +kernel⟩
def eJ:au ["words","laps","row","text","before","number"] ["words","laps","row"] (af lf):=⟨rfl,rfl,rfl,by decide +kernel,rfl,by decide +kernel,by decide +kernel⟩
def iB:au ["paper","laps","pairs","gives","takes"] ["paper","laps","pairs"] (af jD):=⟨rfl,rfl,rfl,by decide +kernel,rfl,by decide +kernel,by decide +kernel⟩
def i8:au ["pieces","at"] ["pieces"] (af gC):=⟨rfl,rfl,rfl,by decide +kernel,rfl,by decide +kernel,by decide +kernel⟩
def eL:au ["counts","many","at","count"] ["counts","many"] (af fk):=⟨rfl,rfl,rfl,by decide +kernel,rfl,by decide +kernel,by decide +kernel⟩
def eM:au ["counts","steps","step","count"] ["counts"] (af lg):=⟨rfl,rfl,rfl,by decide +kernel,rfl,by decide +kernel,by decide +kernel⟩
def rH:au ["self","pieces","counts"] ["self","pieces","counts"] (af cp):=⟨rfl,rfl,rfl,by decide +kernel,rfl,by decide +kernel,by decide +kernel⟩
def i9:au ["often","thing","wanted"] ["often","thing"] (af gD):=⟨rfl,rfl,rfl,by decide +kernel,rfl,by decide +kernel,by decide +kernel⟩
def va:au ["often","row"] ["often","row"] (af lh):=⟨rfl,rfl,rfl,by decide +kernel,rfl,by decide +kernel,by decide +kernel⟩
def fV:au ["often","text","found","i","piece","first"] ["often","text"] (af rF):=⟨rfl,rfl,rfl,by decide +kernel,rfl,by decide +kernel,by decide +kernel⟩
def dy:au ["often","paper","numbers","gives","takes"] ["often","paper"] (af gE):=⟨rfl,rfl,rfl,by decide +kernel,rfl,by decide +kernel,by decide +kernel⟩
def xZ:au ["mark"] ["mark"] (af nC):=⟨rfl,rfl,rfl,by decide +kernel,rfl,by decide +kernel,by decide +kernel⟩
def vb:au ["one","other"] ["one","other"] (af ll):=⟨rfl,rfl,rfl,by decide +kernel,rfl,by decide +kernel,by decide +kernel⟩
def gJ:au ["texts","best","text"] ["texts"] (af lm):=⟨rfl,rfl,rfl,by decide +kernel,rfl,by decide +kernel,by decide +kernel⟩
def ki:au ["family"] ["family"] (af dq):=⟨rfl,rfl,rfl,by decide +kernel,rfl,by decide +kernel,by decide +kernel⟩
def vc:au ["words","laps"] ["words","laps"] (af lp):=⟨rfl,rfl,rfl,by decide +kernel,rfl,by decide +kernel,by decide +kernel⟩
def tR:au ["many"] ["many"] (af jF):=⟨rfl,rfl,rfl,by decide +kernel,rfl,by decide +kernel,by decide +kernel⟩
def gK:au ["heads","lasts","lefts","ends","choices","nexts"] ["heads","lasts","lefts"] (af lq):=⟨rfl,rfl,rfl,by decide +kernel,rfl,by decide +kernel,by decide +kernel⟩
def h7:au ["words","laps","lefts","ends"] ["words","laps","lefts"] (af eH):=⟨rfl,rfl,rfl,by decide +kernel,rfl,by decide +kernel,by decide +kernel⟩
def vd:au ["family"] ["family"] (af lr):=⟨rfl,rfl,rfl,by decide +kernel,rfl,by decide +kernel,by decide +kernel⟩
def nI:au ["counts","steps","number"] ["counts","steps","number"] (af fm):=⟨rfl,rfl,rfl,by decide +kernel,rfl,by decide +kernel,by decide +kernel⟩
def cq:au ["often","steps","many","lefts"] ["often"] (af dP):=⟨rfl,rfl,rfl,by decide +kernel,rfl,by decide +kernel,by decide +kernel⟩
def gL:au ["_law_script","_law_k","_law_cell"] ["_law_script","_law_k"] (af iq):=⟨rfl,rfl,rfl,by decide +kernel,rfl,by decide +kernel,by decide +kernel⟩
def nJ:au ["_law_stream_here","_law_many","_law_digit"] ["_law_stream_here","_law_many"] (af lu):=⟨rfl,rfl,rfl,by decide +kernel,rfl,by decide +kernel,by decide +kernel⟩
def ve:au ["_law_stream_here","_law_letters","_law_most"] ["_law_stream_here","_law_letters","_law_most"] (af lv):=⟨rfl,rfl,rfl,by decide +kernel,rfl,by decide +kernel,by decide +kernel⟩
def ql:au ["_law_stream_here","_law_text","_law_most","_law_at"] ["_law_stream_here","_law_text","_law_most"] (af nE):=⟨rfl,rfl,rfl,by decide +kernel,rfl,by decide +kernel,by decide +kernel⟩
def gM:au ["_law_stream_here","_law_most","_law_letters","_law_base_here"] ["_law_stream_here","_law_most"] (af lw):=⟨rfl,rfl,rfl,by decide +kernel,rfl,by decide +kernel,by decide +kernel⟩
def bE:au ["_law_stream_here","_law_many","_law_most","_law_letters","_law_base_here","_law_found","_law_k","_law_way","_law_piece"] ["_law_stream_here","_law_many","_law_most"] (af ir):=⟨rfl,rfl,rfl,by decide +kernel,rfl,by decide +kernel,by decide +kernel⟩
def kj:au ["_law_pieces_here","_law_k","_law_other"] ["_law_pieces_here","_law_k"] (af iu):=⟨rfl,rfl,rfl,by decide +kernel,rfl,by decide +kernel,by decide +kernel⟩
def lU:au ["_law_stream_here","_law_many","_law_most","_law_pieces_here"] ["_law_stream_here","_law_many","_law_most"] (af jG):=⟨rfl,rfl,rfl,by decide +kernel,rfl,by decide +kernel,by decide +kernel⟩
def rJ:au ["_law_stream_here","_law_many","_law_most"] ["_law_stream_here","_law_many","_law_most"] (af iw):=⟨rfl,rfl,rfl,by decide +kernel,rfl,by decide +kernel,by decide +kernel⟩
def qm:au ["_law_one","_law_other","_law_k"] ["_law_one","_law_other"] (af nF):=⟨rfl,rfl,rfl,by decide +kernel,rfl,by decide +kernel,by decide +kernel⟩
def tS:au ["_law_found"] ["_law_found"] (af jH):=⟨rfl,rfl,rfl,by decide +kernel,rfl,by decide +kernel,by decide +kernel⟩
def eN:au ["_law_stream_here","_law_row_here","_law_left","_law_found"] ["_law_stream_here","_law_row_here"] (af fo):=⟨rfl,rfl,rfl,by decide +kernel,rfl,by decide +kernel,by decide +kernel⟩
def kl:au ["_law_stream_here","_law_one","_law_other","_law_many"] ["_law_stream_here","_law_one","_law_other","_law_many"] (af iy):=⟨rfl,rfl,rfl,by decide +kernel,rfl,by decide +kernel,by decide +kernel⟩
def bI:au ["_law_stream_here","_law_texts","_law_text","_law_one","_law_word_here","_law_way","_law_many"] ["_law_stream_here","_law_texts"] (af ly):=⟨rfl,rfl,rfl,by decide +kernel,rfl,by decide +kernel,by decide +kernel⟩
def lC:au ["_law_stream_here","_law_counts_here","_law_row_here","_law_k"] ["_law_stream_here","_law_counts_here"] (af nG):=⟨rfl,rfl,rfl,by decide +kernel,rfl,by decide +kernel,by decide +kernel⟩
def rK:au ["_law_text","_law_piece"] ["_law_text","_law_piece"] (af iA):=⟨rfl,rfl,rfl,by decide +kernel,rfl,by decide +kernel,by decide +kernel⟩
def gN:au ["_law_stream_here","_law_pieces_here","_law_counts_here","_law_text","_law_at","_law_more_here","_law_other"] ["_law_stream_here","_law_pieces_here","_law_counts_here","_law_text"] (af lz):=⟨rfl,rfl,rfl,by decide +kernel,rfl,by decide +kernel,by decide +kernel⟩
def fq:au ["_law_stream_here","_law_pieces_here","_law_counts_here","_law_text","_law_order","_law_often"] ["_law_stream_here","_law_pieces_here","_law_counts_here","_law_text"] (af gG):=⟨rfl,rfl,rfl,by decide +kernel,rfl,by decide +kernel,by decide +kernel⟩
def cE:au ["_law_stream_here","_law_often","_law_text","_law_gives","_law_bound","_law_laid_here","_law_again"] ["_law_stream_here","_law_often","_law_text"] (af gI):=⟨rfl,rfl,rfl,by decide +kernel,rfl,by decide +kernel,by decide +kernel⟩
def nK:au ["_law_script","_law_k","_law_stream_here","_law_pieces_here","_law_counts_here","_law_often","_law_text"] ["_law_script"] (af Cp):=⟨rfl,rfl,rfl,by decide +kernel,rfl,by decide +kernel,by decide +kernel⟩
structure Txt (mg:Str->Option Value):Prop where
 b_abs:mg "abs"=none
 b_all:mg "all"=none
 b_any:mg "any"=none
 b_bool:mg "bool"=none
 b_enumerate:mg "enumerate"=none
 b_int:mg "int"=none
 b_isinstance:mg "isinstance"=none
 b_len:mg "len"=none
 b_list:mg "list"=none
 b_max:mg "max"=none
 b_min:mg "min"=none
 b_range:mg "range"=none
 b_sorted:mg "sorted"=none
 b_str:mg "str"=none
 b_sum:mg "sum"=none
 b_tuple:mg "tuple"=none
 b_zip:mg "zip"=none
 g_MOST_COUNT:∃t,mg "MOST_COUNT"=some (.int 9 t)
 g_MOST_PIECES:∃t,mg "MOST_PIECES"=some (.int 40 t)
 g_MOST_PRODUCT:∃t,mg "MOST_PRODUCT"=some (.int 500 t)
 g_MOST_SHORTEST_WORDS:∃t,mg "MOST_SHORTEST_WORDS"=some (.int 12 t)
 g_MOST_SIGNS:∃t,mg "MOST_SIGNS"=some (.int 60 t)
structure TxC (K:b_):Prop where
 cl_Family:Cls K (bw K "Family")
 n_Family_pieces:c8 K (bw K "Family") "pieces"
 n_Family_kept:c8 K (bw K "Family") "kept"
 n_Family_words:c8 K (bw K "Family") "words"
 n_Family_left:c8 K (bw K "Family") "left"
 n_Family_laps:c8 K (bw K "Family") "laps"
 n_Family_total:c8 K (bw K "Family") "total"
 cl_Often:Cls K (bw K "Often")
 n_Often_pieces:c8 K (bw K "Often") "pieces"
 n_Often_counts:c8 K (bw K "Often") "counts"
 n_Often_laps:c8 K (bw K "Often") "laps"
 n_Often_total:c8 K (bw K "Often") "total"
local macro_rules | `(tactic| walk_at "s")=>`(tactic| first | (with_reducible omega) | (with_reducible assumption) | (with_reducible rfl) | exact le_of_ble_eq_true rfl | (simp only [length_cons,length_nil,length_append,length_map];(with_reducible omega)) | assumption | rfl | (refine ⟨?_,?_⟩ <;> first | (with_reducible omega) | (with_reducible assumption) | (with_reducible rfl) | exact le_of_ble_eq_true rfl | assumption | rfl | (refine ⟨?_,?_⟩ <;> first | (with_reducible omega) | (with_reducible assumption) | (with_reducible rfl) | exact le_of_ble_eq_true rfl | assumption | rfl | (refine ⟨?_,?_⟩ <;> first | (with_reducible omega) | (with_reducible assumption) | (with_reducible rfl) | exact le_of_ble_eq_true rfl | assumption | rfl | fail) | fail) | fail) | omega | fail)
local macro_rules | `(tactic| walk_at "r")=>`(tactic| ((try dsimp only [set_cons_zero,set_cons_succ,z0,Aa,Ac,Ab,HN,HP,tK,qg,qh,wW,wX,tail_cons,tL,tM,wY,AA,AB,Du]);(conv=>whnf);(repeat (first | ((with_reducible refine And.intro ?_ ?_);(next=>walk_at "s");(conv=>whnf)) | ((with_reducible refine (show Exists _ from ?_));(first | (refine ⟨_,rfl,?_⟩) | (refine ⟨_,pd.lst _,?_⟩) | (refine ⟨_,pd.tup _,?_⟩));(conv=>whnf)) | ((refine (show il _ _ _ from ?_));(first | (with_reducible refine K7 (by assumption) ?_) | (with_reducible refine K8 (by assumption) ?_) | (with_reducible refine Jt (by assumption) ?_) | (with_reducible refine Ev (by assumption) ?_) | ((with_reducible refine Jr ?_ ?_);(next=>(first | (with_reducible rfl) | (with_reducible assumption) | (with_reducible omega)))) | ((with_reducible refine Js ?_ ?_);(next=>(first | (with_reducible rfl) | (with_reducible assumption) | (with_reducible omega)))) | ((with_reducible refine GT ?_ ?_);(next=>(first | (with_reducible rfl) | (with_reducible assumption) | (with_reducible omega)))) | ((with_reducible refine GU ?_ ?_);(next=>(first | (with_reducible rfl) | (with_reducible assumption) | (with_reducible omega)))));(conv=>whnf))));(try refine (show il _ _ _ from ?_));(try dsimp only [set_cons_zero,set_cons_succ,z0,Aa,Ac,Ab,HN,HP,tK,qg,qh,wW,wX,tail_cons,tL,tM,wY,AA,AB,Du])))
local macro_rules | `(tactic| walk_at "z")=>`(tactic| dsimp only [IR,JU,dC,List.map,List.length,List.replicate,cons_append,nil_append,Nat.reduceSub,Nat.reduceAdd,Nat.zero_add])
noncomputable def stv(s:Int×Int):PV:=.own [.int s.1,.int s.2]
noncomputable def SOk:Int×Int->Prop
 | (a,b)=>0<=a/\0<=b/\b < 2 ^ 60
noncomputable def iC:FN:=λa_ Q=>cD (λd=>cN (d.sort=true/\Q (.dat (.bl (JW d))))) a_
noncomputable def dG:FN:=λa_ Q=>cD (λd=>cN (d.sort=true/\Q (.dat (.bl (HA d))))) a_
variable {α:Type}
def mG(xs:List α):(xs.map λ_=>true).all id=true:=MU.mpr λb h=>by
 obtain⟨_,_,rfl⟩:=Lv.mp h;rfl
noncomputable def dz:FN:=λa_ Q=>cD (λd=>cI (λm=>cN (∃zs:List Int,pd d (zs.map .int)/\((zs.length:Int)=m/\m<=1000)/\Q (.dat (.bl true))))) a_
noncomputable def dW:FN:=λa_ Q=>cL (λds=>cI (λm=>cN (∃zs:List Int,ds=zs.map .int/\((zs.length:Int)=m/\m<=1000/\∀z∈zs,0<=z)/\Q (.dat (.bl true))))) a_
noncomputable def dr:FN:=λa_ Q=>cT (λds=>cI (λm=>cN (∃gs ts:List Int,ds=[gs,ts].map (λzs=>D.lst (zs.map .int))/\(m<=1000/\∀zs∈[gs,ts],(zs.length:Int)=m/\∀z∈zs,0<=z)/\Q (.dat (.bl true))))) a_
noncomputable def tT:FN:=λa_ Q=>cS (λa=>cS (λb=>cN ((0<a.length/\a.length<=10000)/\(0<b.length/\b.length<=10000)/\Q (.dat (.int (cA a b:Int)))))) a_
noncomputable def dt:FN:=λa_ Q=>cT (λds=>cN (∃ws:List (List Nat),ds=ws.map .str/\(ws.length<=1000/\∀w∈ws,0<w.length/\w.length<=10000)/\Q (.dat (kY ws)))) a_
noncomputable def fW:FN:=λa_ Q=>cD (λd=>cI (λa=>cI (λb=>cN (d.sort=true/\JV d<=1000000/\Q (.dat (.bl (BR d a b))))))) a_
noncomputable def jI:FN:=λa_ Q=>cI (λx=>cI (λa=>cI (λb=>cN ((a<=x/\x<=b)/\Q (.dat (.bl true)))))) a_
noncomputable def plN(t w:List Nat):List Nat:=(c_ t.length).filter λk=>stA t w k
theorem vf{P:Nat->Bool}{a:Nat}:∀d:Nat,(∀j,a<=j->j<a+d->P j=false)->(c_ (a+d)).filter P=(c_ a).filter P
 | 0,_=>rfl
 | d+1,h=>by
  rw [show a+(d+1)=(a+d)+1 from rfl,range_succ,filter_append,vf d λj h1 h2=>h j h1 (by omega)];rw [filter_cons_of_neg (by rw [h (a+d) (by omega) (by omega)];decide)];exact Eo _
variable {k:Nat}
def Cq{P:Nat->Bool}{a:Nat}(hk:a<=k)(hP:P k=true)(h:∀j,a<=j->j<k->P j=false):(c_ (k+1)).filter P=(c_ a).filter P++[k]:=by
 obtain⟨d,rfl⟩:∃d,k=a+d:=⟨k - a,by omega⟩
 rw [range_succ,filter_append,vf d h,filter_cons_of_pos hP];rfl
variable {n:Nat}
def Fk{P:Nat->Bool}{a:Nat}(hn:a<=n)(h:∀j,a<=j->P j=false):(c_ n).filter P=(c_ a).filter P:=by
 obtain⟨d,rfl⟩:∃d,n=a+d:=⟨n - a,by omega⟩
 exact vf d λj h1 _=>h j h1
noncomputable def nL:FN:=λa_ Q=>cS (λt=>cS (λw=>cN ((t.length<=100000/\0<w.length)/\Q (.dat (.tup ((plN t w).map nD)))))) a_
noncomputable def dA:FN:=λa_ Q=>cS (λa=>cS (λb=>cN (Q (.dat (.int (fnd a b 0)))))) a_
noncomputable def bS:FN:=λa_ Q=>cD (λd=>cN (∃ws:List (List Nat),pd d (ws.map .str)/\(ws.length<=40/\Pcs 60 ws)/\Q (.dat .non))) a_
noncomputable def bM:FN:=λa_ Q=>cS (λa=>cS (λb=>cN (Q (.dat (.bl (f9 a b)))))) a_
noncomputable def d0:FN:=λa_ Q=>cD (λd=>cI (λi=>cN (∃ws:List (List Nat),pd d (ws.map .str)/\(ws.length<=1000/\∀w∈ws,w.length<=10000)/\(0<=i/\i<(ws.length:Int))/\Q (.dat (.bl (bB ws i.toNat)))))) a_
noncomputable def eO:FN:=λa_ Q=>cT (λds=>cT (λks=>cI (λi=>cN (∃ws:List (List Nat),ds=ws.map .str/\ks=(a8 ws).map nD/\(ws.length<=1000/\∀w∈ws,w.length<=60)/\(0<=i/\i<(ws.length:Int))/\Q (.dat (jy ws i.toNat)))))) a_
noncomputable def cF:FR:=λp a_ Q=>oI "Family" (cD (λd=>cN (∃ws:List (List Nat),pd d (ws.map .str)/\(ws.length<=40/\Pcs 60 ws)/\Q (.dat .non) (.ins "Family" B4 (B5 ws)))) a_) p
noncomputable def b9:FN:=λa_ Q=>cO (λc ns fs=>cN (c="Family"/\ns=B4/\∃ws:List (List Nat),fs=B5 ws/\Q (.dat (.int ((al ws).length:Int))))) a_
noncomputable def jJ:FN:=λa_ Q=>cT (λds=>cD (λd2=>cD (λd=>cN (∃ws:List (List Nat),ds=ws.map .str/\d2=kY ws/\(ws.length<=60/\∀w∈ws,w.length<=60)/\∃js:List Nat,pd d (js.map nD)/\(js.length<=60/\∀j∈js,j<ws.length)/\Q (.dat (.str (glN ws js))))))) a_
abbrev prT(p:Nat×Nat):D:=.tup [.int (p.1:Int),.int (p.2:Int)]
abbrev FE(ws:List (List Nat))(w:List Nat):D:=.tup (ws.map λv=>.int (cA w v:Int))
variable {ws:List (List Nat)}{i:Nat}
def uZ(h:i<ws.length):atI (ws.map (FE ws)) (i:Int)=some (FE ws (pw ws i)) :=
 c9 (j:=i) (by rw [h_,bR h];rfl) rfl
def Ik{w:List Nat}(h:i<ws.length):atI (ws.map λv=>D.int (cA w v:Int)) (i:Int)=some (.int (cA w (pw ws i):Int)) :=
 c9 (j:=i) (by rw [h_,bR h];rfl) rfl
def xn{zs:List Int}(h:i<zs.length):atI (zs.map D.int) (i:Int)=some (.int (zs.getD i 0)) :=
 c9 (j:=i) (by rw [h_,cx h,cn,cx h];rfl) rfl
noncomputable def iD:FN:=λa_ Q=>cT (λds=>cT (λls=>cL (λps=>cN (∃gs ts:List Int,ds=[gs,ts].map (λzs=>D.lst (zs.map .int))/\∃ws:List (List Nat),ls=ws.map (FE ws)/\∃prs:List (Nat×Nat),ps=prs.map prT/\(ws.length<=40/\prs.length<=1600/\(∀zs∈[gs,ts],zs.length=ws.length/\∀z∈zs,0<=z)/\∀p∈prs,p.1<ws.length/\p.2<ws.length/\(cA (pw ws p.1) (pw ws p.2):Int)<=gs.getD p.1 0+ts.getD p.2 0)/\Q (.dat (.bl true)))))) a_
noncomputable def dB:FN:=λa_ Q=>cD (λd=>cN (∃ws:List (List Nat),pd d (ws.map .str)/\(ws.length<=40/\Pcs 60 ws/\∀i,i<ws.length->bB ws i=true)/\Q (.dat .non))) a_
noncomputable def cU:FN:=λa_ Q=>cD (λd=>cI (λm=>cN (∃cs:List Nat,pd d (cs.map nD)/\(m=(cs.length:Int)/\cs.length<=40/\∀c∈cs,1<=c/\c<=9)/\Q (.dat .non)))) a_
noncomputable def stp(cs:List Nat):Nat->Nat
 | 0=>1
 | i+1=>stp cs i*(cs.getD i 0+1)
theorem lD(cs:List Nat):∀i,0<stp cs i
 | 0=>one_pos
 | i+1=>mul_pos (lD cs i) (succ_pos _)
theorem AH(cs:List Nat)(i:Nat):∀d,stp cs i<=stp cs (i+d)
 | 0=>e_ _
 | d+1=>p_ (AH cs i d) (le_mul_of_pos_right _ (succ_pos _))
noncomputable def eP:FN:=λa_ Q=>cD (λd=>cN (∃cs:List Nat,pd d (cs.map nD)/\(cs.length<=40/\stp cs cs.length<=500/\∀c∈cs,c<=9)/\Q (.dat (.tup [.lst ((c_ cs.length).map λi=>nD (stp cs i)),.int ((stp cs cs.length:Nat):Int)])))) a_
noncomputable def Cr:List Str:=["pieces","counts","laps","total"]
noncomputable def ofT(ps:List (List Nat))(cs:List Nat):Int:=((ps.zip cs).map λp=>(p.1.length:Int)*(p.2:Int)).sum
noncomputable def Cs(ps:List (List Nat))(cs:List Nat):List D:=[.tup (ps.map .str),.tup (cs.map nD),kY ps,.int (ofT ps cs)]
noncomputable def bO:FR:=λp a_ Q=>oI "Often" (cD (λd=>cD (λe=>cN (∃ps:List (List Nat),pd d (ps.map .str)/\∃cs:List Nat,pd e (cs.map nD)/\(ps.length<=40/\Pcs 60 ps/\(∀i,i<ps.length->bB ps i=true)/\cs.length=ps.length/\(∀c∈cs,1<=c/\c<=9)/\stp cs cs.length<=500)/\Q (.dat .non) (.ins "Often" Cr (Cs ps cs))))) a_) p
noncomputable def rwN(cs:List Nat)(n:Nat):List Nat:=(c_ n).flatMap λk=>q_ (cs.getD k 0) k
def gP(cs:List Nat)(n:Nat):rwN cs (n+1)=rwN cs n++q_ (cs.getD n 0) n:=by
 unfold rwN;rw [range_succ,flatMap_append,flatMap_cons,flatMap_nil,Eo]
variable {cs:List Nat}
theorem iF(h:∀c∈cs,c<=9):∀n,(rwN cs n).length<=9*n
 | 0=>K_ _
 | n+1=>by
  have ih:=iF h n
  have:cs.getD n 0<=9:=by
   rw [cn]
   cases e:cs[n]? with
   | none=>exact K_ _
   | some c=>exact h c (y_ e)
  rw [gP,length_append,length_replicate];omega
theorem qo(cs:List Nat):∀n,(rwN cs n).Pairwise (·<=·)
 | 0=>Nw
 | n+1=>by
  rw [gP];refine OF.mpr ⟨qo cs n,pairwise_replicate.mpr (.inr (e_ _)),λa ha b hb=>?_⟩
  have h1:a<n:=by
   unfold rwN at ha;obtain⟨i,hi,hk⟩:=OU.mp ha;rw [(M_.mp hk).2];exact mem_range.mp hi
  rw [(M_.mp hb).2];omega
def Ct{a b:List Int}{c:List Nat}(hp:b.Perm a)(hs:b.Pairwise (·<=·))(hc:c.Pairwise (·<=·)):decide (b=c.map λk=>((k:Nat):Int))=decide (a.Perm (c.map λk=>((k:Nat):Int))):=by
 refine decide_eq_decide.mpr ⟨λe=>e ▸ hp.symm,λh=>?_⟩;refine List.Perm.eq_of_pairwise (λx y _ _ h1 h2=>by omega) hs ?_ (hp.trans h);exact NA.mpr (hc.imp λ{x y} h=>by omega)
noncomputable def fu:FN:=λa_ Q=>cO (λc ns fs=>cT (λds=>cN (c="Often"/\ns=Cr/\∃ps:List (List Nat),∃cs:List Nat,fs=Cs ps cs/\(cs.length<=4/\∀c∈cs,c<=9)/\∃js:List Nat,ds=js.map nD/\js.Perm (rwN cs cs.length)/\Q (.dat (.bl true))))) a_
def xo(h:k∈rwN cs n):k<n:=by
 unfold rwN at h;obtain⟨i,hi,hk⟩:=OU.mp h;rw [(M_.mp hk).2];exact mem_range.mp hi
noncomputable def gQ:FN:=λa_ Q=>cO (λc ns fs=>cT (λds=>cN (c="Often"/\ns=Cr/\∃ps:List (List Nat),∃cs:List Nat,fs=Cs ps cs/\(cs.length<=4/\(∀c∈cs,c<=9)/\cs.length=ps.length/\∀w∈ps,w.length<=60)/\∃js:List Nat,ds=js.map nD/\js.Perm (rwN cs cs.length)/\Q (.dat (.str (glN ps js)))))) a_
variable {t:List Nat}
def vg{w:List Nat}(h:k∈plN t w):k<t.length/\stA t w k=true:=⟨mem_range.mp (D_.mp h).1,(D_.mp h).2⟩
def vh(t w:List Nat):(plN t w).Pairwise (·<·):=Oh.filter _
noncomputable def Bb(ps:List (List Nat))(cs:List Nat)(t:List Nat)(i:Nat):List (Nat×Nat):=((plN t (pw ps i)).take (cs.getD i 0)).map λp=>(p,i)
noncomputable def qq(ps:List (List Nat))(cs:List Nat)(t:List Nat)(n:Nat):List (Nat×Nat):=(c_ n).flatMap (Bb ps cs t)
def km(ps:List (List Nat))(cs t:List Nat)(n:Nat):qq ps cs t (n+1)=qq ps cs t n++Bb ps cs t n:=by
 unfold qq;rw [range_succ,flatMap_append,flatMap_cons,flatMap_nil,Eo]
noncomputable def prR(r:Nat×Nat):List Int:=[(r.1:Int),(r.2:Int)]
variable {ps:List (List Nat)}
def xp{r:Nat×Nat}(h:r∈qq ps cs t n):r.2<n/\r.1∈plN t (pw ps r.2):=by
 unfold qq at h;obtain⟨i,hi,hr⟩:=OU.mp h;unfold Bb at hr;obtain⟨p,hp,rfl⟩:=Lv.mp hr;exact⟨mem_range.mp hi,NR hp⟩
def xq(ps:List (List Nat))(cs t:List Nat)(i:Nat):(Bb ps cs t i).length<=cs.getD i 0:=by
 unfold Bb;rw [length_map,length_take];omega
theorem rL{ps:List (List Nat)}{cs t:List Nat}(h:∀c∈cs,c<=9):∀n,(qq ps cs t n).length<=9*n
 | 0=>K_ _
 | n+1=>by
  have h1:=rL (ps:=ps) (t:=t) h n;have h2:=xq ps cs t n
  have:cs.getD n 0<=9:=by
   rw [cn]
   cases e:cs[n]? with
   | none=>exact K_ _
   | some c=>exact h c (y_ e)
  rw [km,length_append];omega
variable {a b:List Nat}
def Fl(ha:stA t a k=true)(hb:stA t b k=true):a <:+: b\/b <:+: a:=by
 obtain⟨_,ea⟩:=of_decide_eq_true ha;obtain⟨_,eb⟩:=of_decide_eq_true hb
 rcases O8 a.length b.length with z|z
 .left;have:a=b.take a.length:=by rw [<- eb,take_take,show min a.length b.length=a.length by omega,ea]
  rw [this];exact (NL _ _).isInfix
 .right;have:b=a.take b.length:=by rw [<- ea,take_take,show min b.length a.length=b.length by omega,eb]
  rw [this];exact (NL _ _).isInfix
theorem vi(hk:∀i,i<ps.length->bB ps i=true):∀n,n<=ps.length->(qq ps cs t n).Pairwise λa b=>a.1≠b.1
 | 0,_=>Nw
 | n+1,hn=>by
  rw [km]
  refine OF.mpr ⟨vi hk n (by omega),?_,λa ha b hb e=>?_⟩
  .unfold Bb;rw [NA];exact ((vh t _).sublist (take_sublist _ _)).imp λ{x y} h=>by show x≠y;omega
  .obtain⟨h1,h2⟩:=xp ha;unfold Bb at hb;obtain⟨p,hp,rfl⟩:=Lv.mp hb;have h3:=(vg (NR hp)).2;have h4:=(vg h2).2;rw [show a.1=p from e] at h4
   rcases Fl h4 h3 with z|z
   .exact fS (by omega) (by omega) (hk _ (by omega)) (hk _ (by omega)) (by omega) z
   .exact fS (by omega) (by omega) (hk _ (by omega)) (hk _ (by omega)) (by omega) z
structure kn (ps:List (List Nat)) (cs t:List Nat) (rows:List (Nat×Nat)):Prop where
 enough:∀j,j<ps.length->cs.getD j 0<=(plN t (pw ps j)).length
 perm:rows.Perm (qq ps cs t ps.length)
 rise:rows.Pairwise λa b=>a.1<b.1
def Fm(hk:∀i,i<ps.length->bB ps i=true)(he:∀j,j<ps.length->cs.getD j 0<=(plN t (pw ps j)).length){rs:List (List Int)}(hp:rs.Perm ((qq ps cs t ps.length).map prR))(hs:rs.Pairwise λa b=>lxB b a=false):∃rows,rs=rows.map prR/\kn ps cs t rows:=by
 let g:List Int->Nat×Nat:=λr=>((r.getD 0 0).toNat,(r.getD 1 0).toNat)
 have gp:∀r,g (prR r)=r:=λr=>rfl
 have e0:∀r∈rs,r=prR (g r):=λr hr=>by
  obtain⟨k,_,e⟩:=Lv.mp (hp.mem_iff.mp hr);rw [<- e,gp]
 have e1:rs=(rs.map g).map prR:=by
  rw [map_map]
  conv=>lhs;rw [<- map_id rs]
  exact MD λr hr=>e0 r hr
 have e2:(rs.map g).Perm (qq ps cs t ps.length):=by
  have:=hp.map g;rw [map_map] at this
  have e:(qq ps cs t ps.length).map (g ∘ prR)=qq ps cs t ps.length:=by
   conv=>rhs;rw [<- map_id (qq ps cs t ps.length)]
   exact MD λk _=>gp k
  rw [e] at this;exact this
 refine⟨_,e1,he,e2,?_⟩;generalize rs.map g=rows at e1 e2;rw [e1,NA] at hs;have ne:rows.Pairwise λa b=>a.1≠b.1:=(e2.pairwise_iff (R:=λa b:Nat×Nat=>a.1≠b.1) λ{a b} h=>Na h).mpr (vi hk _ (e_ _));refine (hs.and ne).imp λ{a b} ⟨h1,h2⟩=>?_
 have nl:¬ ((b.1:Int)<(a.1:Int)):=λz=>by
  have:=w4 (x:=(b.1:Int)) (y:=(a.1:Int)) (xs:=[(b.2:Int)]) (ys:=[(a.2:Int)]) |>.mpr (.inl z)
  rw [show lxB (prR b) (prR a)=true from this] at h1;cases h1
 omega
noncomputable def ko:FN:=λa_ Q=>cO (λc ns fs=>cS (λt=>cN (c="Often"/\ns=Cr/\∃ps:List (List Nat),∃cs:List Nat,fs=Cs ps cs/\(ps.length<=4/\Pcs 60 ps/\(∀i,i<ps.length->bB ps i=true)/\cs.length=ps.length/\(∀c∈cs,c<=9)/\t.length<=100000)/\(∀j,j<ps.length->cs.getD j 0<=(plN t (pw ps j)).length)/\∀rows:List (Nat×Nat),kn ps cs t rows->Q (.dat (.tup (rows.map λr=>nD r.2)))))) a_
noncomputable def Il(n:Nat):List (Nat×Nat):=(c_ n).flatMap λi=>(c_ n).map λj=>(i,j)
def Cu{p:Nat×Nat}:p∈Il n ↔ p.1<n/\p.2<n:=by
 unfold Il;rw [OU]
 constructor
 .rintro⟨i,hi,h⟩;obtain⟨j,hj,rfl⟩:=Lv.mp h;exact⟨mem_range.mp hi,mem_range.mp hj⟩
 .rintro⟨h1,h2⟩;exact⟨p.1,mem_range.mpr h1,Lv.mpr ⟨p.2,mem_range.mpr h2,rfl⟩⟩
theorem rM(n:Nat):∀L:List Nat,(L.flatMap λi=>(c_ n).map λj=>(i,j)).length=L.length*n
 | []=>by simp
 | i::L=>by
  rw [flatMap_cons,length_append,length_map,length_range,rM n L,length_cons,succ_mul,Nat.add_comm]
noncomputable def ctS(gs:List Int)(cs:List Nat)(n:Nat):List Int:=(c_ n).map λi=>((cs.getD i 0:Nat):Int)*gs.getD i 0
noncomputable def fA:FN:=λa_ Q=>cO (λc ns fs=>cT (λds=>cN (c="Often"/\ns=Cr/\∃ps:List (List Nat),∃cs:List Nat,fs=Cs ps cs/\∃gs:List Int,ds=[gs,q_ ps.length 0].map (λzs=>D.lst (zs.map .int))/\(ps.length<=20/\cs.length=ps.length/\(∀c∈cs,c<=9)/\gs.length=ps.length/\(∀g∈gs,0<=g)/\∀a b,a<ps.length->b<ps.length->(cA (pw ps a) (pw ps b):Int)<=gs.getD a 0)/\Q (.dat (.int (ofT ps cs - (ctS gs cs ps.length).sum)))))) a_
def Im(m i:Nat):MB ((m:Int) / 2^(i:Int).toNat) 1=if m.testBit i then 1 else 0:=by
 have e:(m:Int) / 2^(i:Int).toNat=((m / 2^i:Nat):Int):=by
  rw [toNat_natCast,natCast_ediv,natCast_pow];rfl
 rw [e];generalize hq:m / 2^i=q
 have h:MB (q:Int) 1=((q &&& 1:Nat):Int):=by
  unfold MB;simp
 rw [h,and_one_is_mod]
 have ht:m.testBit i=decide (q % 2=1):=by
  rw [testBit_eq_decide_div_mod_eq,hq]
 rw [ht]
 by_cases c:q % 2=1
 .rw [decide_eq_true c,if_pos rfl,c];rfl
 .rw [decide_eq_false c,if_neg (by decide),show q % 2=0 by omega];rfl
def tU(h:k<4096):k<2^ny (k:Int)/\ny (k:Int)<=12:=by
 unfold ny
 by_cases c:k=0
 .subst c;exact⟨by decide,by decide⟩
 .have e:((k:Int) == 0)=false:=by rw [beq_eq_false_iff_ne];omega
  rw [e,if_neg (by decide),natAbs_natCast];refine⟨lt_log2_self,?_⟩;have:=(log2_lt c (k:=12)).mpr h;omega
def x0(h:k<4096):(c_ (ny (k:Int))).filter k.testBit=kZ k:=by
 obtain⟨h1,h2⟩:=tU h;unfold kZ;generalize ny (k:Int)=n at h1 h2;obtain⟨d,hd⟩:∃d,12=n+d:=⟨12 - n,by omega⟩
 have:∀d,(c_ (n+d)).filter k.testBit=(c_ n).filter k.testBit:=λd=>by
  induction d with
  | zero=>rfl
  | succ d ih =>
   rw [<- add_assoc,range_succ,filter_append,ih,filter_cons,if_neg]
   .simp
   .intro z;have:=rz h1 z;omega
 rw [hd,this d]
def KU(n:Nat):(1:Int)*2^(n:Int).toNat=((2^n:Nat):Int):=by rw [toNat_natCast,Int.one_mul,natCast_pow];rfl
def tV(k:Nat):(kZ k).length<=12:=by
 unfold kZ;refine p_ (M3 ..) ?_;rw [length_range];exact e_ _
noncomputable def fX:FN:=λa_ Q=>cI (λm=>cN (∃k:Nat,m=(k:Int)/\k<4096/\Q (.own ((kZ k).map nD)))) a_
noncomputable def jK:FN:=λa_ Q=>cS (λa=>cS (λb=>cN (Q (.dat (.bl (ahB a b)))))) a_
noncomputable def eQ:FN:=λa_ Q=>cL (λds=>cN (∃ts:List (List Nat),ds=ts.map .str/\(ts≠[]/\ts.length<=100000)/\∀t,Lst (·∈ts) t->Q (.dat (.str t)))) a_
noncomputable def cW:FN:=λa_ Q=>cO (λc ns fs=>cN (c="Family"/\ns=B4/\∃ps:List (List Nat),fs=B5 ps/\(al ps).length<=12/\Q (.dat .non))) a_
noncomputable def hdD(w:Nat)(hd:Nat->Nat->List Nat):List D:=(c_ w).map λi=>.lst ((c_ w).map λj=>.str (hd i j))
variable {β:Type}
def DA[Inhabited α](f:List Nat->β)(ws:List (List Nat)):ws.map f=(c_ ws.length).map λi=>f (pw ws i):=by
 refine ext_getElem (by rw [length_map,length_map,length_range]) λi h1 h2=>?_;rw [length_map] at h1;rw [getElem_map,getElem_map,getElem_range];congr 1;exact pf ((cx h1).symm.trans (bR h1))
noncomputable def jM:FN:=λa_ Q=>cT (λds=>cT (λls=>cN (∃ws:List (List Nat),ds=ws.map .str/\(.tup ls=kY ws/\ws.length<=200/\∀w∈ws,0<w.length/\w.length<=60)/\Q (.dat (.lst (hdD ws.length (hdW ws))))))) a_
noncomputable def chD(c:List (Nat×Nat)):D:=.lst (c.map λp=>.tup [nD p.1,nD p.2])
noncomputable def KW(L:List (List (Nat×Nat))):D:=.lst (L.map chD)
noncomputable def iG:FN:=λa_ Q=>cI (λm=>cN (∃k:Nat,m=(k:Int)/\k<=12/\Q (.dat (KW (k6 k))))) a_
structure nM (L:List (List (Nat×Nat))) (hd:Nat->Nat->List Nat) (ls:Nat->List Nat) (w k:Nat) (es:List (List (List Nat))):Prop where
 len:es.length=k
 wid:∀n,n<k->(es.getD n []).length=w
 lst:∀n,n<k->∀i,i<w->Lst (FD L hd ls n i) ((es.getD n []).getD i [])
noncomputable def esD(es:List (List (List Nat))):List D:=es.map λe=>.lst (e.map .str)
structure gR (L:List (List (Nat×Nat))) (w:Nat):Prop where
 many:L.length<=4096
 ch:∀n,∀p∈L.getD n [],p.1<w/\p.2<n
 few:∀n,(L.getD n []).length<=100
variable {L:List (List (Nat×Nat))}{hd:Nat->Nat->List Nat}{ls:Nat->List Nat}
def nM.snoc{w:Nat}{es:List (List (List Nat))}(h:nM L hd ls w k es){e:List (List Nat)}(hw:e.length=w)(he:∀i,i<w->Lst (FD L hd ls k i) (e.getD i [])):nM L hd ls w (k+1) (es++[e]):=by
 have g1:∀n,n<k->(es++[e]).getD n []=es.getD n []:=λn hn=>by rw [cn,L_ (by rw [h.len];exact hn),<- cn]
 have g2:(es++[e]).getD k []=e:=by rw [cn,LP (by rw [h.len];exact e_ _),h.len,sub_self];rfl
 refine⟨by rw [length_append,h.len];rfl,λn hn=>?_,λn hn i hi=>?_⟩
 .by_cases c:n<k
  .rw [g1 n c];exact h.wid n c
  .rw [show n=k by omega,g2];exact hw
 .by_cases c:n<k
  .rw [g1 n c];exact h.lst n c i hi
  .rw [show n=k by omega,g2];exact he i hi
def nM.txt{w:Nat}{es:List (List (List Nat))}(h:nM L hd ls w k es)(hL:gR L w)(h1:∀i j,(hd i j).length<=60)(h2:∀i,(ls i).length<=60)(hn:n<k)(hk:n<=4096)(hi:i<w):((es.getD n []).getD i []).length<=300000:=by
 obtain⟨⟨js,hw,e⟩,_⟩:=h.lst n hn i hi;rw [e];have:=AF (w:=w) h1 h2 js i;have:=Fe (λn p hp=>(hL.ch n p hp).2) hw;omega
def DB(h:k<L.length):itD (L.map chD) k=chD (L.getD k []):=i4 (by rw [h_,cx h,cn,cx h];rfl)
def DC{es:List (List (List Nat))}(h:n<es.length):atI (esD es) (n:Int)=some (.lst ((es.getD n []).map .str)):=c9 (j:=n) (by unfold esD;rw [h_,cx h,cn,cx h];rfl) rfl
variable {j:Nat}
def Io{w:Nat}(hj:j<w):atI ((c_ w).map λj=>D.str (hd i j)) (j:Int)=some (.str (hd i j)):=c9 (j:=j) (by rw [h_,H_ hj];rfl) rfl
noncomputable def Cv(ts:List (List Nat)):List Nat:=open Classical in if h:ts≠[] then Classical.choose (Dv h) else []
def xr{ts:List (List Nat)}(h:ts≠[]):Lst (·∈ts) (Cv ts):=by unfold Cv;rw [dif_pos h];exact OG (Dv h)
def DD{w:Nat}{f:Nat->List Nat}(h:i<w):((c_ w).map f).getD i []=f i:=by rw [cn,h_,H_ h];rfl
noncomputable def jN:FN:=λa_ Q=>cL (λhs=>cD (λla=>cL (λcs=>cN (∃(w:Nat) (hd:Nat->Nat->List Nat),hs=hdD w hd/\∃L:List (List (Nat×Nat)),cs=L.map chD/\∃ls:Nat->List Nat,(pd la ((c_ w).map λi=>.str (ls i))/\gR L w/\(∀i j,(hd i j).length<=60)/\(∀i,(ls i).length<=60)/\w<=200)/\∀es:List (List (List Nat)),nM L hd ls w L.length es->Q (.dat (.lst (esD es))))))) a_
def Iq(hw:∀w∈ws,0<w.length/\w.length<=60)(i j:Nat):(hdW ws i j).length<=60:=by
 unfold hdW;rw [length_take];have:=Ce (λw h=>(hw w h).2) i;omega
def Ir(hw:∀w∈ws,0<w.length/\w.length<=60)(hL:gR L ws.length)(hn:L.getD n []≠[])(h:Lst (λu=>∃j js,Way L n (j::js)/\u=tlG (hdW ws) (pw ws) j js) t):Lst (λu=>∃js,Way L n js/\u=glN ws js) t:=by
 have hp:∀i,i<ws.length->0<(pw ws i).length:=λi hi=>(hw _ (bN hi)).1
 refine h.congr λu=>⟨λ⟨j,js,w,e⟩=>?_,λ⟨js,w,e⟩=>?_⟩
 .have hl:=Dw (λn p hp=>(hL.ch n p hp).1) w;exact⟨j::js,w,by rw [e,AE js j (hp j (hl j mem_cons_self)) λk hk=>hp k (hl k (m_ _ hk))]⟩
 .cases js with
  | nil=>cases w with|nil z=>exact absurd z hn
  | cons j js =>
   have hl:=Dw (λn p hp=>(hL.ch n p hp).1) w;exact⟨j,js,w,by rw [e,AE js j (hp j (hl j mem_cons_self)) λk hk=>hp k (hl k (m_ _ hk))]⟩
def Fn(hn:L.getD n []=[]):Lst (λu=>∃js,Way L n js/\u=glN ws js) []:=by
 refine⟨⟨[],.nil hn,rfl⟩,λu ⟨js,w,e⟩=>?_⟩
 cases w with
 | nil _=>rw [e];exact qj _
 | cons m _=>rw [hn] at m;cases m
variable {ds:List D}
def Fo(h:0<ds.length):atI ds (-1)=some (itD ds (ds.length - 1)):=by
 unfold atI ixN;rw [if_neg (by decide),if_pos (by omega),show ((-1:Int)+(ds.length:Int)).toNat=ds.length - 1 by omega];unfold itD;show ds[ds.length - 1]?=_;rw [cn,cx (by omega)];rfl
noncomputable def cK:FN:=λa_ Q=>cT (λds=>cT (λls=>cL (λcs=>cN (∃ws:List (List Nat),ds=ws.map .str/\∃L:List (List (Nat×Nat)),cs=L.map chD/\(.tup ls=kY ws/\ws.length<=200/\(∀w∈ws,0<w.length/\w.length<=60)/\gR L ws.length/\0<L.length)/\∀t,Lst (λu=>∃js,Way L (L.length - 1) js/\u=glN ws js) t->Q (.dat (.str t)))))) a_
def kq(n:Nat):(k6 n).length=2^n:=by unfold k6;rw [length_map,length_range]
def Cw(h:n<=12):gR (k6 n) n :=
 ⟨by rw [kq];exact Mi (n:=2) (by decide) h,λm p hp=>⟨(rB h hp).2.1,(rB h hp).2.2.1⟩,λm=>by
  by_cases c:m<2^n
  .rw [kg c,length_map];exact p_ (tV m) (by decide)
  .rw [cn,u_ (by rw [kq];omega)];exact K_ _⟩
noncomputable def jO:FN:=λa_ Q=>cO (λc ns fs=>cN (c="Family"/\ns=B4/\∃ps:List (List Nat),fs=B5 ps/\(Pcs 60 ps/\(al ps).length<=12)/\∀t,Lst (Ic ps) t->Q (.dat (.str t)))) a_
noncomputable def dig(cs:List Nat)(i m:Nat):Nat:=m / stp cs i % (cs.getD i 0+1)
noncomputable def val(cs:List Nat)(d:Nat->Nat):Nat->Nat
 | 0=>0
 | n+1=>val cs d n+d n*stp cs n
theorem xt{cs:List Nat}{d:Nat->Nat}:∀{n:Nat},(∀k,k<n->d k<=cs.getD k 0)->val cs d n<stp cs n
 | 0,_=>one_pos
 | n+1,h=>by
  have ih:=xt (n:=n) λk hk=>h k (by omega);have:=M0 (stp cs n) (h n (by omega));show val cs d n+d n*stp cs n<stp cs n*(cs.getD n 0+1);rw [mul_add,OT,MY (stp cs n)];omega
theorem AI(cs:List Nat):∀{n:Nat},k<n->∃r,stp cs n=stp cs k*((cs.getD k 0+1)*r)
 | 0,h=>absurd h (Mg _)
 | n+1,h=>by
  rcases Ly k n with z|z
  .obtain⟨r,e⟩:=AI cs z;exact⟨r*(cs.getD n 0+1),by show stp cs n*_=_;rw [e,mul_assoc,mul_assoc]⟩
  .exact⟨1,by rw [show k=n by omega,OT];rfl⟩
theorem nN{cs:List Nat}{d:Nat->Nat}{k:Nat}:∀{n:Nat},(∀k,k<n->d k<=cs.getD k 0)->k<n->dig cs k (val cs d n)=d k
 | 0,_,h=>absurd h (Mg _)
 | n+1,h,hk=>by
  have p:=lD cs k;unfold dig;show (val cs d n+d n*stp cs n) / stp cs k % _=_
  rcases Ly k n with z|z
  .obtain⟨r,e⟩:=AI cs z;have ih:=nN (n:=n) (λk hk=>h k (by omega)) z;unfold dig at ih;rw [e,show d n*(stp cs k*((cs.getD k 0+1)*r))=(d n*r*(cs.getD k 0+1))*stp cs k by rw [<- mul_assoc,MY (d n),mul_assoc,MY (stp cs k)];congr 1;rw [MY (cs.getD k 0+1),mul_assoc],add_mul_div_right _ _ p,add_mul_mod_self_right];exact ih
  .obtain rfl:k=n:=by omega
   rw [add_mul_div_right _ _ p,div_eq_of_lt (xt λj hj=>h j (by omega)),M2];exact mod_eq_of_lt (by have:=h k hk;omega)
noncomputable def dec(d:Nat->Nat)(i:Nat):Nat->Nat:=λk=>if k=i then d k - 1 else d k
theorem AJ{cs:List Nat}{d:Nat->Nat}{i:Nat}(h0:0<d i):∀{n:Nat},(n<=i->val cs (dec d i) n=val cs d n)/\(i<n->val cs (dec d i) n+stp cs i=val cs d n)
 | 0=>⟨λ_=>rfl,λh=>absurd h (Mg _)⟩
 | n+1=>by
  obtain⟨h1,h2⟩:=AJ (cs:=cs) (d:=d) (i:=i) h0 (n:=n)
  constructor
  .intro h;show val cs (dec d i) n+dec d i n*_=val cs d n+d n*_;rw [h1 (by omega)];unfold dec;rw [if_neg (by omega)]
  .intro h;show val cs (dec d i) n+dec d i n*stp cs n+_=val cs d n+d n*stp cs n
   rcases Ly i n with z|z
   .have:=h2 z;unfold dec;rw [if_neg (by omega)];show val cs (dec d i) n+_+_=_;omega
   .obtain rfl:i=n:=by omega
    rw [h1 (e_ _)];unfold dec;rw [if_pos rfl];obtain⟨e,he⟩:∃e,d i=e+1:=⟨d i - 1,by omega⟩
    rw [he,add_sub_cancel,Nat.add_mul,Nat.one_mul];omega
noncomputable def x3(cs:List Nat)(m:Nat):List (Nat×Nat):=((c_ cs.length).filter λi=>decide (0<dig cs i m)).map λi=>(i,m - stp cs i)
noncomputable def cX:FN:=λa_ Q=>cT (λds=>cL (λes=>cI (λm=>cN (∃cs:List Nat,ds=cs.map nD/\(es=(c_ cs.length).map (λi=>nD (stp cs i))/\cs.length<=40/\stp cs cs.length<=500/\∀c∈cs,c<=9)/\∃k:Nat,m=(k:Int)/\k<=500/\Q (.own ((x3 cs k).map λp=>.tup [nD p.1,nD p.2])))))) a_
noncomputable def x4(cs:List Nat):List (List (Nat×Nat)):=(c_ (stp cs cs.length)).map (x3 cs)
def rN{m:Nat}(h:m<stp cs cs.length):(x4 cs).getD m []=x3 cs m:=by
 unfold x4;rw [cn,h_,H_ h];rfl
def Fp(hn:cs.length<=40)(hs:stp cs cs.length<=500):gR (x4 cs) cs.length:=by
 have hl:(x4 cs).length=stp cs cs.length:=by unfold x4;rw [length_map,length_range]
 refine⟨by omega,λm p hp=>?_,λm=>?_⟩
 .by_cases h:m<stp cs cs.length
  .rw [rN h] at hp;unfold x3 at hp;obtain⟨i,hi,rfl⟩:=Lv.mp hp;obtain⟨h1,h2⟩:=D_.mp hi;have h2:=of_decide_eq_true h2;have hp:=lD cs i;refine⟨mem_range.mp h1,?_⟩
   have:stp cs i<=m:=by
    rcases Ly m (stp cs i) with z|z
    .unfold dig at h2;rw [div_eq_of_lt z,zero_mod] at h2;omega
    .exact z
   show m - stp cs i<m;omega
  .rw [cn,u_ (by omega)] at hp;cases hp
 .by_cases h:m<stp cs cs.length
  .rw [rN h];unfold x3;rw [length_map];have:=M3 (λi=>decide (0<dig cs i m)) (c_ cs.length);rw [length_range] at this;omega
  .rw [cn,u_ (by omega)];exact K_ _
theorem nO:∀(js:List Nat) (d:Nat->Nat),(∀k,k<cs.length->d k<=cs.getD k 0)->(Way (x4 cs) (val cs d cs.length) js ↔ ∀i,js.count i=if i<cs.length then d i else 0)
 | [],d,hd=>by
  have hl:=rN (xt hd)
  constructor
  .intro w i
   by_cases hi:i<cs.length
   .rw [if_pos hi]
    cases w with
    | nil e =>
     rw [hl] at e;unfold x3 at e;have:=filter_eq_nil_iff.mp (MW.mp e) i (mem_range.mpr hi);rw [nN hd hi] at this;simp only [decide_eq_true_eq] at this;show 0=d i;omega
   .rw [if_neg hi];rfl
  .intro h;refine .nil ?_;rw [hl];unfold x3
   rw [filter_eq_nil_iff.mpr λi hi=>?_]
   .rfl
   .have hi:=mem_range.mp hi;have:=h i;rw [if_pos hi] at this;have this:0=d i:=this;rw [nN hd hi];simp only [decide_eq_true_eq];omega
 | j::r,d,hd=>by
  have hl:=rN (xt hd)
  have key:j<cs.length->0<d j->((∀k,k<cs.length->dec d j k<=cs.getD k 0)/\val cs d cs.length - stp cs j=val cs (dec d j) cs.length):=λhj h0=>by
   refine⟨λk hk=>?_,?_⟩
   .unfold dec;have:=hd k hk;split <;> omega
   .have:=(AJ (cs:=cs) (i:=j) h0 (n:=cs.length)).2 hj;omega
  have cnt:∀i,(j::r).count i=r.count i+if j=i then 1 else 0:=λi=>by
   rw [count_cons]
   by_cases e:j=i
   .rw [if_pos e,if_pos (by simpa using e)]
   .rw [if_neg e,if_neg (by simpa using e)]
  constructor
  .intro w i
   cases w with
   | cons m w' =>
    rw [hl] at m;unfold x3 at m;obtain⟨i',hi',e⟩:=Lv.mp m;obtain⟨h1,h2⟩:=D_.mp hi';cases e;have hj:=mem_range.mp h1;rw [nN hd hj] at h2;have h0:=of_decide_eq_true h2;obtain⟨k1,k2⟩:=key hj h0;rw [k2] at w';have ih:=(nO r (dec d j) k1).mp w' i;rw [cnt,ih];unfold dec
    by_cases e:i=j
    .subst e;rw [if_pos hj,if_pos hj,if_pos rfl,if_pos rfl];omega
    .rw [show (if j=i then 1 else 0)=0 from if_neg λz=>e z.symm]
     by_cases hi:i<cs.length
     .rw [if_pos hi,if_pos hi,if_neg e];rfl
     .rw [if_neg hi,if_neg hi]
  .intro h;have hj0:=h j;rw [cnt,if_pos rfl] at hj0
   have hj:j<cs.length:=by
    rcases Ly j cs.length with z|z
    .exact z
    .rw [if_neg (by omega)] at hj0;omega
   rw [if_pos hj] at hj0;obtain⟨k1,k2⟩:=key hj (by omega)
   refine .cons (r:=val cs (dec d j) cs.length) ?_ ((nO r (dec d j) k1).mpr λi=>?_)
   .rw [hl];unfold x3;exact Lv.mpr ⟨j,D_.mpr ⟨mem_range.mpr hj,by rw [nN hd hj];exact decide_eq_true (by omega)⟩,by rw [k2]⟩
   .have:=h i;rw [cnt] at this;unfold dec
    by_cases e:i=j
    .subst e;rw [if_pos hj,if_pos rfl];rw [if_pos hj,if_pos rfl] at this;omega
    .rw [show (if j=i then 1 else 0)=0 from if_neg λz=>e z.symm] at this
     by_cases hi:i<cs.length
     .rw [if_pos hi,if_neg e];rw [if_pos hi] at this;omega
     .rw [if_neg hi];rw [if_neg hi] at this;omega
theorem AK(cs:List Nat):∀n,val cs (λk=>cs.getD k 0) n=stp cs n - 1
 | 0=>rfl
 | n+1=>by
  have:=lD cs n;show val cs _ n+cs.getD n 0*stp cs n=stp cs n*(cs.getD n 0+1) - 1;rw [AK cs n,mul_add,OT,MY (stp cs n)];omega
theorem iV(cs:List Nat)(j:Nat):∀n,(rwN cs n).count j=if j<n then cs.getD j 0 else 0
 | 0=>rfl
 | n+1=>by
  rw [gP,count_append,iV cs j n,count_replicate]
  by_cases h:j=n
  .subst h;simp
  .have e:(n == j)=false:=by simp;omega
   rw [e];simp only [false_eq_true,if_false,Nat.add_zero]
   by_cases h2:j<n
   .rw [if_pos h2,if_pos (by omega)]
   .rw [if_neg h2,if_neg (by omega)]
variable {js:List Nat}
def AL:Way (x4 cs) (stp cs cs.length - 1) js ↔ js.Perm (rwN cs cs.length):=by
 rw [<- AK,nO js _ λk _=>e_ _]
 constructor
 .intro h;exact perm_iff_count.mpr λi=>by rw [h i,iV]
 .intro h i;rw [h.count_eq,iV]
noncomputable def GlO(ps:List (List Nat))(cs u:List Nat):Prop:=∃js:List Nat,js.Perm (rwN cs cs.length)/\u=glN ps js
def DE(ws:List (List Nat))(k:Nat):glN ws (c_ (k+1))=glN ws (c_ k)++(pw ws k).drop (if k=0 then 0 else cA (pw ws (k - 1)) (pw ws k)):=by
 have h:=xg (ws:=ws) (js:=c_ (k+1)) (k:=k) (by rw [length_range];omega);have g:∀i,i<k+1->(c_ (k+1)).getD i 0=i:=λi hi=>by rw [cn,H_ hi];rfl
 rw [g k (by omega),g (k - 1) (by omega),take_range,take_range,min_self,show min k (k+1)=k by omega] at h;exact h
def kr(h:k<js.length):pw (js.map (pw ws)) k=pw ws (js.getD k 0):=by
 show (js.map (pw ws)).getD k []=_;rw [cn,h_,cx h,cn,cx h];rfl
def DF(ws:List (List Nat))(js:List Nat):glN ws js=glN (js.map (pw ws)) (c_ js.length):=by
 have go:∀k,k<=js.length->glN ws (js.take k)=glN (js.map (pw ws)) (c_ k):=λk=>by
  induction k with
  | zero=>intro _;rfl
  | succ k ih =>
   intro hk;rw [xg (by omega),DE,ih (by omega),kr (ws:=ws) (js:=js) (k:=k) (by omega)]
   by_cases h0:k=0
   .rw [if_pos h0,if_pos h0]
   .rw [if_neg h0,if_neg h0,kr (ws:=ws) (js:=js) (k:=k - 1) (by omega)]
 have:=go js.length (e_ _)
 rwa [take_length] at this
noncomputable def gS(ws:List (List Nat))(k:Nat):Nat:=(glN ws (c_ (k+1))).length - (pw ws k).length
def Is(hp:∀j,j<n->0<(pw ws j).length)(hk:k<n):stA (glN ws (c_ n)) (pw ws k) (gS ws k)=true/\(pw ws k).length<=(glN ws (c_ (k+1))).length:=by
 have h1:pw ws k <:+ glN ws (c_ (k+1)):=by
  rw [range_succ];exact Ao λj hj=>hp j (by rw [<- range_succ] at hj;have:=mem_range.mp hj;omega)
 have h2:glN ws (c_ (k+1)) <+: glN ws (c_ n):=by
  have e:c_ n=c_ (k+1)++(c_ (n - (k+1))).map (k+1+·):=by rw [<- range_add];congr 1;omega
  rw [e];exact Ap _ _
 obtain⟨a,ea⟩:=h1;obtain⟨b,eb⟩:=h2;refine⟨jB.mpr ⟨a,b,by rw [<- eb,<- ea],?_⟩,by rw [<- ea,length_append];omega⟩;unfold gS;rw [<- ea,length_append];omega
def Fq(hp:∀j,j<n->0<(pw ws j).length)(hk:k+1<n):gS ws k<gS ws (k+1):=by
 have h1:=(Is hp (show k<n by omega)).2;have h2:=(gv (hp k (by omega)) (hp (k+1) hk)).1;have h3:=hp k (by omega);unfold gS;rw [DE ws (k+1),if_neg (by omega),length_append,length_drop,add_sub_cancel];omega
def Kf(hp:∀j,j<n->0<(pw ws j).length):∀{j:Nat},i<j->j<n->gS ws i<gS ws j:=λ{j}=>by
 induction j with
 | zero=>intro h _;omega
 | succ j ih =>
  intro h hj;have:=Fq hp hj
  rcases Ly i j with z|z
  .have:=ih z (by omega);omega
  .rw [show i=j by omega];exact this
theorem sub_le:∀{l m:List Nat},l.Nodup->(∀x∈l,x∈m)->l.length<=m.length
 | [],_,_,_=>K_ _
 | a::l,m,hn,h=>by
  obtain⟨h1,h2⟩:=ND.mp hn;have ha:=h a (mem_cons_self ..);have:=sub_le (l:=l) (m:=m.erase a) h2 λx hx=>(mem_erase_of_ne (λe:x=a=>h1 (by rw [<- e];exact hx))).mpr (h x (m_ _ hx));rw [length_erase_of_mem ha] at this;have:=NB ha;rw [length_cons];omega
def AM(j:Nat)(js:List Nat):((c_ js.length).filter λk=>decide (js.getD k 0=j)).length=js.count j:=by
 induction js using L2.rn with
 | h0=>rfl
 | h1 l a ih =>
  rw [length_append,length_singleton,range_succ,filter_append,length_append,count_append,<- ih]
  congr 1
  .congr 1;refine filter_congr λk hk=>?_;rw [cn,L_ (mem_range.mp hk),<- cn]
  .have e:(l++[a]).getD l.length 0=a:=by rw [cn,LP (e_ _),sub_self];rfl
   by_cases h:a=j
   .rw [filter_cons_of_pos (by rw [e];exact decide_eq_true h),h];simp
   .rw [filter_cons_of_neg (by rw [e,decide_eq_false h];decide)];simp [h]
def Iu{T:List Nat}{S:Nat->Nat}(hp:∀w∈ps,0<w.length)(hcl:cs.length=ps.length)(hj:js.Perm (rwN cs cs.length))(hS:∀k,k<js.length->stA T (pw ps (js.getD k 0)) (S k)=true)(hlt:∀i j,i<j->j<js.length->S i<S j)(hjl:j<ps.length):cs.getD j 0<=(plN T (pw ps j)).length:=by
 have hc:((c_ js.length).filter λk=>decide (js.getD k 0=j)).length=cs.getD j 0:=by
  rw [AM,hj.count_eq,iV,if_pos (by omega)]
 rw [<- hc,<- length_map S]
 refine sub_le ?_ λx hx=>?_
 .refine NA.mpr (List.Pairwise.imp_of_mem (R:=λa b=>a<b) (λ{a b} ha hb h=>?_) (Oh.filter _));have hb:=mem_range.mp (D_.mp hb).1;have:=hlt a b h hb;show S a≠S b;omega
 .obtain⟨k,hk,rfl⟩:=Lv.mp hx;obtain⟨k1,k2⟩:=D_.mp hk;have k1:=mem_range.mp k1;have k2:=of_decide_eq_true k2;have st:=hS k k1;rw [k2] at st;refine D_.mpr ⟨mem_range.mpr ?_,st⟩;have:=(of_decide_eq_true st).1;have:=hp _ (bN hjl);omega
def AN(hp:∀w∈ps,0<w.length)(hcl:cs.length=ps.length)(hj:js.Perm (rwN cs cs.length))(hjl:j<ps.length):cs.getD j 0<=(plN (glN ps js) (pw ps j)).length:=by
 have hlt:∀k,k<js.length->js.getD k 0<ps.length:=λk hk=>by
  rw [<- hcl];refine xo (hj.mem_iff.mp ?_);rw [cn,cx hk];exact FX _
 have pos:∀k,k<js.length->0<(pw (js.map (pw ps)) k).length:=λk hk=>by rw [kr hk];exact hp _ (bN (hlt k hk))
 refine Iu (S:=gS (js.map (pw ps))) hp hcl hj (λk hk=>?_) (λi j h1 h2=>Kf pos h1 h2) hjl;have st:=(Is pos hk).1
 rwa [kr hk,<- DF] at st
theorem qt{ws:List (List Nat)}{t:List Nat}{P:Nat->Nat}:∀{i:Nat}{r:List Nat},(∀j∈i::r,0<(pw ws j).length/\stA t (pw ws j) (P j)=true)->(i::r).Pairwise (λa b=>P a<P b)->(i::r).Pairwise (λa b=>¬ pw ws b <:+: pw ws a\/pw ws a=pw ws b) ->
  ∃e,e<=t.length/\P i+(pw ws i).length<=e/\(glT ws i r).length<=e - (P i+(pw ws i).length)/\((glT ws i r).length=e - (P i+(pw ws i).length)->glT ws i r=(t.drop (P i+(pw ws i).length)).take (e - (P i+(pw ws i).length)))
 | i,[],h,_,_=>⟨P i+(pw ws i).length,(of_decide_eq_true (h i (mem_cons_self ..)).2).1,e_ _,K_ _,λ_=>by rw [sub_self,take_zero];rfl⟩
 | i,j::r,h,hp,ha=>by
  obtain⟨p1,p2⟩:=M9.mp hp;obtain⟨a1,a2⟩:=M9.mp ha;obtain⟨e,e1,e2,e3,e4⟩:=qt (i:=j) (r:=r) (λk hk=>h k (m_ _ hk)) p2 a2;have hij:=p1 j (mem_cons_self ..);have nij:=a1 j (mem_cons_self ..);obtain⟨i0,iS⟩:=h i (mem_cons_self ..);obtain⟨j0,jS⟩:=h j (m_ _ (mem_cons_self ..));obtain⟨iL,iE⟩:=of_decide_eq_true iS;obtain⟨jL,jE⟩:=of_decide_eq_true jS;obtain⟨k1,k2,k3⟩:=gv i0 j0
  generalize hwi:pw ws i=wi at *;generalize hwj:pw ws j=wj at *
  have hend:P i+wi.length<P j+wj.length:=by
   rcases Ly (P i+wi.length) (P j+wj.length) with z|z
   .exact z
   .rcases nij with nij|nij
    .refine absurd ?_ nij
     have e:wj=((wi.drop (P j - P i)).take wj.length):=by
      conv=>rhs;rw [<- iE]
      rw [drop_take,drop_drop,show P i+(P j - P i)=P j by omega,take_take,show min wj.length (wi.length - (P j - P i))=wj.length by omega,jE]
     rw [e];exact (NL _ _).isInfix.trans (OR _ _).isInfix
    .rw [nij] at z;omega
  have hgl:glT ws i (j::r)=wj.drop (cA wi wj)++glT ws j r:=by show (pw ws j).drop (cA (pw ws i) (pw ws j))++_=_;rw [hwi,hwj]
  have hk:P i+wi.length - P j<=cA wi wj:=by
   rcases OS (P i+wi.length - P j) with z|z
   .omega
   .refine k3 _ (by omega) ?_;refine⟨wi.take (wi.length - (P i+wi.length - P j)),?_⟩
    have e:wj.take (P i+wi.length - P j)=wi.drop (wi.length - (P i+wi.length - P j)):=by
     conv=>lhs;rw [<- jE]
     conv=>rhs;rw [<- iE]
     have hm:min wi.length (t.length - P i)=wi.length:=Nj (by omega);rw [take_take,drop_take,drop_drop,length_take,length_drop,hm,Nj (by omega:P i+wi.length - P j<=wj.length)]
     congr 1
     .omega
     .congr 1;omega
    rw [e,Lz]
  refine⟨e,e1,by omega,?_,λhe=>?_⟩
  .rw [hgl,length_append,length_drop];clear e4;omega
  .rw [hgl,length_append,length_drop] at he;have o1:P j<=P i+wi.length:=by clear e4;omega
   have o2:cA wi wj=P i+wi.length - P j:=by clear e4;omega
   rw [hgl,e4 (by omega),<- rp (t:=t) (a:=P i+wi.length) (b:=P j+wj.length) (c:=e) (by omega) (by omega)];congr 1;rw [o2]
   conv=>lhs;rw [<- jE]
   rw [drop_take,drop_drop,show P j+(P i+wi.length - P j)=P i+wi.length by omega];congr 1;omega
def x5{P:Nat->Nat}(h:∀j∈js,0<(pw ws j).length/\stA t (pw ws j) (P j)=true)(hp:js.Pairwise (λa b=>P a<P b))(ha:js.Pairwise (λa b=>¬ pw ws b <:+: pw ws a\/pw ws a=pw ws b)):
  (glN ws js).length<=t.length/\((glN ws js).length=t.length->glN ws js=t):=by
 cases js with
 | nil=>exact⟨K_ _,λe=>(LW.mp e.symm).symm⟩
 | cons i r =>
  obtain⟨e,e1,e2,e3,e4⟩:=qt h hp ha;obtain⟨iL,iE⟩:=of_decide_eq_true (h i (mem_cons_self ..)).2;have hg:glN ws (i::r)=pw ws i++glT ws i r:=rfl;rw [hg,length_append];refine⟨by omega,λz=>?_⟩;have p0:P i=0:=by omega
  rw [e4 (by omega)];have el:e=t.length:=by omega
  rw [p0,drop_zero] at iE;rw [el,p0,M2];have:=rp (t:=t) (a:=0) (b:=(pw ws i).length) (c:=t.length) (K_ _) (by omega);rw [drop_zero,MZ,MZ,take_length,iE] at this;exact this
variable {rows:List (Nat×Nat)}
def kn.row(ok:kn ps cs t rows)(hcl:cs.length=ps.length):(rows.map (·.2)).Perm (rwN cs cs.length):=by
 have e:∀n,n<=ps.length->(qq ps cs t n).map (·.2)=rwN cs n:=λn=>by
  induction n with
  | zero=>intro _;rfl
  | succ n ih =>
   intro hn;rw [km,gP,map_append,ih (by omega)];congr 1;unfold Bb;rw [map_map];have:((plN t (pw ps n)).take (cs.getD n 0)).length=cs.getD n 0:=by rw [length_take];have:=ok.enough n (by omega);omega
   generalize (plN t (pw ps n)).take (cs.getD n 0)=l at this;rw [<- this];exact List.map_const'
 have:=ok.perm.map (·.2);rw [e _ (e_ _),<- hcl] at this;exact this
def kn.mem(ok:kn ps cs t rows){r:Nat×Nat}(h:r∈rows):r.2<ps.length/\r.1∈plN t (pw ps r.2):=xp (ok.perm.mem_iff.mp h)
def kn.short(ok:kn ps cs t rows)(hp:∀w∈ps,0<w.length)(hk:∀i,i<ps.length->bB ps i=true):(glN ps (rows.map (·.2))).length<=t.length/\((glN ps (rows.map (·.2))).length=t.length->glN ps (rows.map (·.2))=t):=by
 rw [DF,length_map,map_map]
 have at_:∀k (h:k<rows.length),pw (rows.map (pw ps ∘ (·.2))) k=pw ps rows[k].2:=λk h=>by
  show (rows.map _).getD k []=_;rw [cn,h_,cx h];rfl
 refine x5 (P:=λk=>(rows.getD k (0,0)).1) (λj hj=>?_) ?_ ?_
 .have hj:=mem_range.mp hj;obtain⟨h1,h2⟩:=ok.mem (FX hj);rw [at_ j hj,cn,cx hj];exact⟨hp _ (bN h1),(vg h2).2⟩
 .refine MV.mpr λi j hi hj hij=>?_;rw [length_range] at hi hj;rw [getElem_range,getElem_range];show (rows.getD i (0,0)).1<(rows.getD j (0,0)).1;rw [cn,cx hi,cn,cx hj];exact MV.mp ok.rise i j hi hj hij
 .refine MV.mpr λi j hi hj hij=>?_;rw [length_range] at hi hj;rw [getElem_range,getElem_range,at_ i hi,at_ j hj]
  by_cases h:rows[j].2=rows[i].2
  .rw [h];exact .inr rfl
  .have h1:=(ok.mem (FX hi)).1;have h2:=(ok.mem (FX hj)).1;exact .inl (fS h2 h1 (hk _ h2) (hk _ h1) h)
noncomputable def EnO(ps:List (List Nat))(cs u:List Nat):Prop:=∀j,j<ps.length->cs.getD j 0<=(plN u (pw ps j)).length
def Fs{u:List Nat}(hk:∀i,i<ps.length->bB ps i=true)(he:EnO ps cs u):∃rows,kn ps cs u rows:=by
 let le:Nat×Nat->Nat×Nat->Bool:=λa b=>decide (a.1<=b.1)
 have hp:=mergeSort_perm (qq ps cs u ps.length) le
 have hs:((qq ps cs u ps.length).mergeSort le).Pairwise (λa b=>le a b=true):=pairwise_mergeSort (le:=le) (λa b c h1 h2=>decide_eq_true (p_ (of_decide_eq_true h1) (of_decide_eq_true h2))) (λa b=>by
  rcases O8 a.1 b.1 with h|h
  .rw [show le a b=true from decide_eq_true h,Bool.true_or]
  .rw [show le b a=true from decide_eq_true h,Bool.or_true]) _
 have ne:=(hp.pairwise_iff (R:=λa b:Nat×Nat=>a.1≠b.1) λ{a b} h=>Na h).mpr (vi hk _ (e_ _));exact⟨_,he,hp,(hs.and ne).imp λ{a b} ⟨h1,h2⟩=>by have:=of_decide_eq_true h1;omega⟩
variable {u:List Nat}
def Iv(hp:∀w∈ps,0<w.length)(hcl:cs.length=ps.length)(h:GlO ps cs u):EnO ps cs u:=by
 obtain⟨js,hj,rfl⟩:=h;exact λj hjl=>AN hp hcl hj hjl
def Cy(hp:∀w∈ps,0<w.length)(hcl:cs.length=ps.length)(hk:∀i,i<ps.length->bB ps i=true)(he:EnO ps cs u):∃js:List Nat,js.Perm (rwN cs cs.length)/\ahB u (glN ps js)=false:=by
 obtain⟨rows,ok⟩:=Fs hk he;obtain⟨h1,h2⟩:=ok.short hp hk;refine⟨_,ok.row hcl,?_⟩
 by_cases e:(glN ps (rows.map (·.2))).length=u.length
 .rw [h2 e];exact qj u
 .rw [nA];left;omega
def tW(hp:∀w∈ps,0<w.length)(hcl:cs.length=ps.length)(hk:∀i,i<ps.length->bB ps i=true)(h:Lst (GlO ps cs) t):Lst (EnO ps cs) t :=
 ⟨Iv hp hcl h.1,λu hu=>by
  obtain⟨js,h1,h2⟩:=Cy hp hcl hk hu;exact kf h2 (h.2 _ ⟨js,h1,rfl⟩)⟩
noncomputable def bG:FN:=λa_ Q=>cO (λc ns fs=>cN (c="Often"/\ns=Cr/\∃ps:List (List Nat),∃cs:List Nat,fs=Cs ps cs/\(ps.length<=40/\Pcs 60 ps/\cs.length=ps.length/\stp cs cs.length<=500/\∀c∈cs,c<=9)/\∀t,Lst (GlO ps cs) t->Q (.dat (.str t)))) a_
noncomputable def gT:FN:=λa_ Q=>cR (λns=>cI (λk=>cN ((0<=k/\k<=1000/\ns.length<=1000)/\∀s:Int×Int,SOk s->Q (stv s)))) a_
noncomputable def aE:FR:=λp a_ Q=>oL (λes_=>cI (λc0=>cI (λc1=>cN (cI (λm=>cN (SOk (c0,c1)/\0<m/\m<=1000000/\∀(x:Int) (s:Int×Int),SOk s->0<=x->x<m->Q (.dat (.int x)) (stv s))) a_))) es_) p
noncomputable def eR:FR:=λp a_ Q=>oL (λes_=>cI (λc0=>cI (λc1=>cN (cS (λls=>cI (λm=>cN (SOk (c0,c1)/\(0<ls.length/\ls.length<=26/\Lts ls)/\(0<m/\m<=10000)/\∀(w:List Nat) (s:Int×Int),SOk s->0<w.length->w.length<=m.toNat->Lts w->Q (.dat (.str w)) (stv s)))) a_))) es_) p
noncomputable def lE:FR:=λp a_ Q=>oL (λes_=>cI (λc0=>cI (λc1=>cN (cS (λt=>cI (λm=>cN (SOk (c0,c1)/\(0<t.length/\t.length<=100000/\Lts t)/\(0<m/\m<=10000)/\∀(w:List Nat) (s:Int×Int),SOk s->0<w.length->w.length<=m.toNat->Lts w->Q (.dat (.str w)) (stv s)))) a_))) es_) p
noncomputable def jP:FR:=λp a_ Q=>oL (λes_=>cI (λc0=>cI (λc1=>cN (cI (λm=>cN (SOk (c0,c1)/\(0<m/\m<=100)/\∀(ls b:List Nat) (s:Int×Int),SOk s->(0<ls.length/\ls.length<=26/\Lts ls)->(0<b.length/\b.length<=100000/\Lts b)->Q (.dat (.tup [.str ls,.str b])) (stv s))) a_))) es_) p
def Cz{xs:List α}{x:α}{n:Int}(h:x∈sx xs n):x∈xs:=by
 unfold sx at h;obtain⟨l,hl,hx⟩:=mem_flatten.mp h;rw [eq_of_mem_replicate hl] at hx;exact hx
noncomputable def gU:FR:=λp a_ Q=>oL (λes_=>cI (λc0=>cI (λc1=>cN (cI (λn=>cI (λm=>cN (SOk (c0,c1)/\(0<=n/\n<=100/\0<m/\m<=60)/\∀(ps:List (List Nat)) (s:Int×Int),SOk s->ps.length=n.toNat->Pcs m.toNat ps->Q (.dat (.lst (ps.map .str))) (stv s)))) a_))) es_) p
noncomputable def dX:FN:=λa_ Q=>cL (λds=>cI (λi=>cN (∃ws:List (List Nat),ds=ws.map .str/\(ws.length<=100/\Pcs 60 ws)/\(0<=i/\i<(ws.length:Int))/\Q (.dat (.bl (!bB ws i.toNat)))))) a_
noncomputable def iH:FR:=λp a_ Q=>oL (λes_=>cI (λc0=>cI (λc1=>cN (cI (λn=>cI (λm=>cN (SOk (c0,c1)/\(0<=n/\n<=100/\0<m/\m<=60)/\∀(ps:List (List Nat)) (s:Int×Int),SOk s->ps.length=n.toNat->Pcs m.toNat ps->Q (.own ((al ps).map .str)) (stv s)))) a_))) es_) p
noncomputable def gW:FR:=λp a_ Q=>oL (λes_=>cI (λc0=>cI (λc1=>cN (cI (λn=>cI (λm=>cN (SOk (c0,c1)/\(0<=n/\n<=100/\0<m/\m<=60)/\∀(cs:List Nat) (s:Int×Int),SOk s->cs.length=n.toNat->(∀c∈cs,1<=c/\c<=m.toNat)->Q (.own (cs.map nD)) (stv s)))) a_))) es_) p
noncomputable def d4:FN:=λa_ Q=>cS (λa=>cS (λb=>cN (a.length<=10000/\(0<b.length/\b.length<=10000)/\Q (.dat (.int (cA a b:Int)))))) a_
noncomputable def iI:FN:=λa_ Q=>cD (λd=>cN (d.sort=true/\Q (.dat (.bl (HA d))))) a_
def AO(js:List Nat):js.map nD=(js.map λj=>((j:Nat):Int)).map D.int:=by rw [map_map];rfl
def AQ(rs:List Nat):CU (.lst (rs.map nD)) (.lst []):=by rw [AO];exact CU.of (Sh.lstI _) (Sh.lstI [])
def Ft(rs:List Nat):deq (.lst (rs.map nD)) (.lst [])=decide (rs=[]):=by
 rw [AO,show (D.lst [])=D.lst (([]:List Int).map D.int) from rfl,wV];exact decide_eq_decide.mpr ⟨λz=>by simpa using z,λz=>by rw [z];rfl⟩
noncomputable def cY:FR:=λp a_ Q=>oL (λes_=>cI (λc0=>cI (λc1=>cN (cL (λds=>cN (∃xs:List Nat,ds=xs.map nD/\(SOk (c0,c1)/\xs.length<=1000)/\∀(js:List Nat) (s:Int×Int),js.Perm xs->SOk s->Q (.dat (.lst (js.map nD))) (stv s))) a_))) es_) p
noncomputable def gX:FR:=λp a_ Q=>oL (λes_=>cI (λc0=>cI (λc1=>cN (cS (λa=>cS (λb=>cI (λm=>cN (SOk (c0,c1)/\(0<=m/\m<=(a.length:Int)/\a.length<=10000/\b.length<=10000)/\∀(r:Nat) (s:Int×Int),SOk s->(r:Int)<=m->b.take r <:+ a->Q (.dat (.int (r:Int))) (stv s))))) a_))) es_) p
def xu{w y:List Nat}(h:stA t w k=true):stA (t++y) w k=true:=by
 obtain⟨a,b,e,hl⟩:=jB.mp h;exact jB.mpr ⟨a,b++y,by rw [e,append_assoc],hl⟩
noncomputable def x6(ws:List (List Nat))(T:List Nat)(S:Nat->Nat):Prop:=(∀k,k<ws.length->stA T (pw ws k) (S k)=true)/\∀k,k+1<ws.length->S k<S (k+1)
def CA{vs:List (List Nat)}(h:k<ws.length):pw (ws++vs) k=pw ws k:=by
 show (ws++vs).getD k []=ws.getD k [];rw [cn,L_ h,<- cn]
def CB(ws:List (List Nat))(x:List Nat):pw (ws++[x]) ws.length=x:=by
 show (ws++[x]).getD ws.length []=x;rw [cn,LP (e_ _),sub_self];rfl
def AR{pre:List (List Nat)}{x T F:List Nat}{S:Nat->Nat}(hS:x6 pre T S)(hF:T <+: F)(hk:x.take k <:+ F)(hkx:k<=x.length)(hl:0<pre.length->S (pre.length - 1)+k<F.length):
  x6 (pre++[x]) (F++x.drop k) (λi=>if i<pre.length then S i else F.length - k)/\x <:+ F++x.drop k/\k<=F.length:=by
 obtain⟨F0,e0⟩:=hk;obtain⟨T1,e1⟩:=hF;have hl0:F0.length+k=F.length:=by rw [<- e0,length_append,length_take];omega
 have e2:F++x.drop k=F0++x:=by
  conv=>lhs;rw [<- e0]
  rw [append_assoc,Lz]
 refine⟨⟨λi hi=>?_,λi hi=>?_⟩,⟨F0,e2.symm⟩,by omega⟩
 .rw [length_append] at hi;have hi:i<pre.length+1:=hi
  by_cases c:i<pre.length
  .show stA _ _ (if i<pre.length then S i else F.length - k)=true;rw [if_pos c,CA c,<- e1,append_assoc];exact xu (hS.1 i c)
  .obtain rfl:i=pre.length:=by omega
   show stA _ _ (if pre.length<pre.length then S pre.length else F.length - k)=true;rw [if_neg c,CB,e2];exact jB.mpr ⟨F0,[],by rw [Eo],by omega⟩
 .rw [length_append] at hi;have hi:i+1<pre.length+1:=hi;show (if i<pre.length then S i else F.length - k)<if i+1<pre.length then S (i+1) else F.length - k
  rw [if_pos (by omega)]
  by_cases c:i+1<pre.length
  .rw [if_pos c];exact hS.2 i c
  .rw [if_neg c];have:=hl (by omega);rw [show pre.length - 1=i by omega] at this;omega
def x6.lt{T:List Nat}{S:Nat->Nat}(h:x6 ws T S):∀{j:Nat},i<j->j<ws.length->S i<S j:=λ{j}=>by
 induction j with
 | zero=>intro h _;omega
 | succ j ih =>
  intro hij hj;have:=h.2 j hj
  rcases Ly i j with z|z
  .have:=ih z (by omega);omega
  .rw [show i=j by omega];exact this
noncomputable def jQ:FR:=λp a_ Q=>oL (λes_=>cI (λc0=>cI (λc1=>cN (cL (λds=>cN (∃ws:List (List Nat),ds=ws.map .str/\(SOk (c0,c1)/\ws.length<=40/\Pcs 60 ws)/\∀(T:List Nat) (s:Int×Int),SOk s->T.length<=10000->(∃S,x6 ws T S)->Q (.dat (.str T)) (stv s))) a_))) es_) p
noncomputable def iW:FR:=λp a_ Q=>oL (λes_=>cI (λc0=>cI (λc1=>cN (cT (λds=>cN (∃cs:List Nat,ds=cs.map nD/\(SOk (c0,c1)/\cs.length<=20/\∀c∈cs,c<=9)/\∀(js:List Nat) (s:Int×Int),js.Perm (rwN cs cs.length)->SOk s->Q (.dat (.lst (js.map nD))) (stv s))) a_))) es_) p
noncomputable def dY:FN:=λa_ Q=>cS (λt=>cS (λw=>cN ((t.length<=100000/\w.length<=100000)/\Q (.own ((plN t w).map nD))))) a_
theorem AS(h:∀c∈cs,c<=3):∀n,stp cs n<=4^n
 | 0=>e_ _
 | n+1=>by
  have:cs.getD n 0<=3:=by
   rw [cn]
   cases e:cs[n]? with
   | none=>exact K_ _
   | some c=>exact h c (y_ e)
  show stp cs n*(cs.getD n 0+1)<=4^n*4;exact Oc (AS h n) (by omega)
def rO(h:n<=4):4^n<=256:=Mi (by decide) h
def kt{a b:Nat}(ha:a<cs.length):(cs.set a b).getD j 0=if j=a then b else cs.getD j 0:=by
 rw [cn,getElem?_set]
 by_cases e:a=j
 .rw [if_pos e,if_pos (by omega),if_pos e.symm];rfl
 .rw [if_neg e,if_neg (λz=>e z.symm),cn]
theorem AT{a:Nat}(ha:a<cs.length):∀n,(n<=a->stp (cs.set a (cs.getD a 0+1)) n=stp cs n)/\(a<n->stp (cs.set a (cs.getD a 0+1)) n*(cs.getD a 0+1)=stp cs n*(cs.getD a 0+2))
 | 0=>⟨λ_=>rfl,λh=>absurd h (Mg _)⟩
 | n+1=>by
  obtain⟨h1,h2⟩:=AT ha n
  constructor
  .intro h;show stp _ n*((cs.set a _).getD n 0+1)=stp cs n*_;rw [h1 (by omega),kt ha,if_neg (by omega)]
  .intro h;show stp _ n*((cs.set a _).getD n 0+1)*_=stp cs n*(cs.getD n 0+1)*_;rw [kt ha]
   rcases Ly a n with z|z
   .rw [if_neg (by omega),mul_right_comm,h2 z,mul_right_comm]
   .obtain rfl:a=n:=by omega
    rw [if_pos rfl,h1 (e_ _),mul_right_comm]
def CC{a:Nat}(ha:a<cs.length)(hn:cs.length<=4)(hc:∀c∈cs,1<=c/\c<=3):stp (cs.set a (cs.getD a 0+1)) cs.length<=500:=by
 have h1:=(AT ha cs.length).2 ha;have h2:=p_ (AS (λc h=>(hc c h).2) cs.length) (rO hn);have h3:1<=cs.getD a 0:=by rw [cn,cx ha];exact (hc _ (FX _)).1
 generalize stp (cs.set a (cs.getD a 0+1)) cs.length=x at h1;generalize stp cs cs.length=y at h1 h2;generalize cs.getD a 0=c at h1 h3
 rcases Ly 500 x with z|z
 .exfalso;have e1:501*(c+1)<=x*(c+1):=M0 _ z;have e2:y*(c+2)<=256*(c+2):=M0 _ h2;omega
 .exact z
variable {a:Nat}
def AU(ha:a<cs.length)(h:EnO ps (cs.set a (cs.getD a 0+1)) u):EnO ps cs u:=λj hj=>by
 have:=h j hj;rw [kt ha] at this
 by_cases e:j=a
 .rw [if_pos e] at this;rw [e] at this ⊢;omega
 .rwa [if_neg e] at this
def Iw{w y:List Nat}:(plN t w).length<=(plN (t++y) w).length :=
 sub_le ((vh t w).imp λ{a b} h=>F_ h) λx hx=>by
  obtain⟨h1,h2⟩:=vg hx;exact D_.mpr ⟨mem_range.mpr (by rw [length_append];omega),xu h2⟩
def Fu{p:List Nat}(hp:0<p.length):(plN t p).length+1<=(plN (t++p) p).length:=by
 have:(plN t p++[t.length]).length<=(plN (t++p) p).length:=by
  refine sub_le ?_ λx hx=>?_
  .refine nodup_append.mpr ⟨(vh t p).imp λ{a b} h=>F_ h,by simp,λx hx y hy e=>?_⟩;rw [LR.mp hy] at e;have:=(of_decide_eq_true (vg hx).2).1;omega
  .rcases Ml.mp hx with hx|hx
   .obtain⟨h1,h2⟩:=vg hx;exact D_.mpr ⟨mem_range.mpr (by rw [length_append];omega),xu h2⟩
   .rw [LR.mp hx];exact D_.mpr ⟨mem_range.mpr (by rw [length_append];omega),jB.mpr ⟨t,[],by rw [Eo],rfl⟩⟩
 rwa [length_append] at this
def Fv(ha:a<cs.length)(hp:0<(pw ps a).length)(h:EnO ps cs t):EnO ps (cs.set a (cs.getD a 0+1)) (t++pw ps a):=λj hj=>by
 rw [kt ha]
 by_cases e:j=a
 .rw [if_pos e,e];have:=h a (e ▸ hj);have:=Fu (t:=t) hp;omega
 .rw [if_neg e];exact p_ (h j hj) Iw
def AW(h:i<(al ps).length):bB (al ps) i=true:=by
 refine e9.mpr ⟨λhm=>?_,λo ho hl=>?_⟩
 .obtain⟨j,hj⟩:=MG.mp hm
  have hlt:j<i:=by
   have:=(i_.mp hj).1;rw [length_take] at this;omega
  rw [Oo,if_pos hlt,bR (show j<(al ps).length by omega)] at hj;refine fT (show j<(al ps).length by omega) h (by omega) ?_;rw [pf hj];exact⟨[],[],by simp⟩
 .obtain⟨j,hj⟩:=MG.mp ho;have hlt:j<(al ps).length:=(i_.mp hj).1;rw [bR hlt] at hj;have ej:=pf hj;rw [<- ej] at hl ⊢;have ne:i≠j:=λz=>by rw [z] at hl;omega
  have na:=fT h hlt ne
  cases e:f9 (pw (al ps) i) (pw (al ps) j) with
  | false=>rfl
  | true=>exact absurd (dF.mp e) na
def CD(h0:0<ps.length)(hw:∀w∈ps,w.length<=60):0<(al ps).length:=by
 obtain⟨j,hj,hk,_⟩:=nh hw _ 0 h0 (e_ _);have:j∈a8 ps:=D_.mpr ⟨mem_range.mpr hj,hk⟩;unfold al;rw [length_map];exact NB this
noncomputable def jR:FR:=λp a_ Q=>oL (λes_=>cI (λc0=>cI (λc1=>cN (cL (λds=>cL (λes=>cS (λt=>cN (∃ps:List (List Nat),ds=ps.map .str/\∃cs:List Nat,es=cs.map nD/\(SOk (c0,c1)/\0<ps.length/\ps.length<=4/\Pcs 60 ps/\(∀i,i<ps.length->bB ps i=true)/\cs.length=ps.length/\(∀c∈cs,1<=c/\c<=3)/\t.length<=3000/\Lst (EnO ps cs) t)/\∀s:Int×Int,SOk s->Q (.dat (.bl true)) (stv s))))) a_))) es_) p
def x8(h:∀i j,i<ps.length->j<ps.length->i≠j->¬ pw ps i <:+: pw ps j)(hi:i<ps.length):bB ps i=true:=by
 refine e9.mpr ⟨λhm=>?_,λo ho hl=>?_⟩
 .obtain⟨j,hj⟩:=MG.mp hm
  have hlt:j<i:=by
   have:=(i_.mp hj).1;rw [length_take] at this;omega
  rw [Oo,if_pos hlt,bR (show j<ps.length by omega)] at hj;refine h j i (by omega) hi (by omega) ?_;rw [pf hj];exact⟨[],[],by simp⟩
 .obtain⟨j,hj⟩:=MG.mp ho;have hlt:j<ps.length:=(i_.mp hj).1;rw [bR hlt] at hj;have ej:=pf hj;rw [<- ej] at hl ⊢;have ne:i≠j:=λz=>by rw [z] at hl;omega
  have na:=h i j hi hlt ne
  cases e:f9 (pw ps i) (pw ps j) with
  | false=>rfl
  | true=>exact absurd (dF.mp e) na
def CF(hj:js.Perm (c_ ps.length))(hk:∀i,i<ps.length->bB ps i=true)(hi:i<(js.map (pw ps)).length):bB (js.map (pw ps)) i=true:=by
 refine x8 (λa b ha hb hab=>?_) hi;rw [length_map] at ha hb;have lt:∀k (h:k<js.length),js[k]<ps.length:=λk h=>mem_range.mp (hj.mem_iff.mp (FX h));have gd:∀k (h:k<js.length),js.getD k 0=js[k]:=λk h=>by rw [cn,cx h];rfl
 rw [kr ha,kr hb,gd a ha,gd b hb];have nd:js.Nodup:=hj.nodup_iff.mpr Oi;refine fS (lt a ha) (lt b hb) (hk _ (lt a ha)) (hk _ (lt b hb)) λe=>hab ?_;exact (getElem?_inj ha nd).mp (by rw [cx ha,cx hb,e])
def Ix(hcl:cs.length=ps.length)(hj:js.Perm (c_ ps.length)):EnO (js.map (pw ps)) (js.map λk=>cs.getD k 0) u ↔ EnO ps cs u:=by
 have gd:∀k,k<js.length->(js.map λk=>cs.getD k 0).getD k 0=cs.getD (js.getD k 0) 0:=λk h=>by
  rw [cn,h_,cx h,cn,cn (l:=js),cx h,<- cn];rfl
 constructor
 .intro h j hjl;obtain⟨k,hk,e⟩:=ME (hj.mem_iff.mpr (mem_range.mpr hjl));have:=h k (by rw [length_map];exact hk);rw [gd k hk,kr hk,show js.getD k 0=j by rw [cn,cx hk];exact e] at this;exact this
 .intro h k hk;rw [length_map] at hk;rw [gd k hk,kr hk];refine h _ ?_;rw [cn,cx hk];exact mem_range.mp (hj.mem_iff.mp (FX hk))
noncomputable def fB:FR:=λp a_ Q=>oL (λes_=>cI (λc0=>cI (λc1=>cN (cL (λds=>cL (λes=>cS (λt=>cN (∃ps:List (List Nat),ds=ps.map .str/\∃cs:List Nat,es=cs.map nD/\(SOk (c0,c1)/\0<ps.length/\ps.length<=4/\Pcs 60 ps/\(∀i,i<ps.length->bB ps i=true)/\cs.length=ps.length/\(∀c∈cs,1<=c/\c<=3)/\t.length<=3000/\Lst (EnO ps cs) t)/\∀s:Int×Int,SOk s->Q (.dat (.bl true)) (stv s))))) a_))) es_) p
theorem DG{ss:List (List Nat)}{G:Nat->Int}(h0:∀i,0<=G i)(hL:∀a b,a<ss.length->b<ss.length->(cA (pw ss a) (pw ss b):Int)<=G a):∀(r:List Nat) (i:Nat),(∀j∈i::r,j<ss.length)->(E4 ss i r:Int)<=((i::r).map G).sum
 | [],i,_=>by
  have:=h0 i;show ((0:Nat):Int)<=G i+0;omega
 | j::r,i,hm=>by
  have ih:=DG h0 hL r j λk hk=>hm k (m_ _ hk);have l:=hL i j (hm i mem_cons_self) (hm j (m_ _ mem_cons_self));show ((cA (pw ss i) (pw ss j)+E4 ss j r:Nat):Int)<=G i+((j::r).map G).sum;omega
theorem xv(f:Nat->Nat):∀l:List Nat,(((l.map f).sum:Nat):Int)=(l.map λi=>((f i:Nat):Int)).sum
 | []=>rfl
 | a::l=>by rw [map_cons,map_cons,sum_cons,sum_cons,<- xv f l,natCast_add]
def xw:∀{as bs:List Int},as.Perm bs->as.sum=bs.sum:=λh=>by
 induction h with
 | nil=>rfl
 | cons x _ ih=>rw [sum_cons,sum_cons,ih]
 | swap x y l=>rw [sum_cons,sum_cons,sum_cons,sum_cons];omega
 | trans _ _ i1 i2=>rw [i1,i2]
def Fw(f:Nat->Int)(c k:Nat):((q_ c k).map f).sum=(c:Int)*f k:=by
 induction c with
 | zero=>rw [replicate_zero];show (0:Int)=((0:Nat):Int)*_;rw [natCast_zero,zero_mul]
 | succ c ih =>
  rw [replicate_succ,map_cons,sum_cons,ih,natCast_add,Int.add_mul];show _=_+1*f k;rw [Int.one_mul,Int.add_comm]
theorem vj(f:Nat->Int)(cs:List Nat):∀n,((rwN cs n).map f).sum=((c_ n).map λi=>((cs.getD i 0:Nat):Int)*f i).sum
 | 0=>rfl
 | n+1=>by
  rw [gP,map_append,sum_append,vj f cs n,Fw,range_succ,map_append,sum_append];simp only [map_cons,map_nil,sum_cons,sum_nil,O6]
def AX(h:cs.length=ps.length):ofT ps cs=((c_ ps.length).map λi=>((pw ps i).length:Int)*((cs.getD i 0:Nat):Int)).sum:=by
 unfold ofT;congr 1;refine ext_getElem (by rw [length_map,length_map,length_zip,length_range];omega) λi a b=>?_;rw [length_map,length_range] at b;rw [getElem_map,getElem_map,getElem_zip,getElem_range];unfold pw;rw [cn,cx b,cn,cx (show i<cs.length by omega)];rfl
def CG{gs:List Int}(hw:∀w∈ps,0<w.length)(hcl:cs.length=ps.length)(g0:∀g∈gs,0<=g)(hL:∀a b,a<ps.length->b<ps.length->(cA (pw ps a) (pw ps b):Int)<=gs.getD a 0)(hp:js.Perm (rwN cs cs.length)):
  ofT ps cs - (ctS gs cs ps.length).sum<=((glN ps js).length:Int):=by
 have h1:∀p∈js,p<ps.length:=λp h=>by rw [<- hcl];exact xo (hp.mem_iff.mp h)
 have g1:∀i,0<=gs.getD i 0:=λi=>by
  rw [cn]
  cases e:gs[i]? with
  | none=>exact Int.le_refl _
  | some x=>exact g0 x (y_ e)
 have e1:=An λj hj=>hw _ (bN (h1 j hj))
 have e2:(((js.map λj=>(pw ps j).length).sum:Nat):Int)=ofT ps cs:=by
  rw [xv,xw (hp.map _),vj,AX hcl,hcl];congr 1;exact MD λi _=>Int.mul_comm _ _
 have e3:(J1 ps js:Int)<=(js.map λk=>gs.getD k 0).sum:=by
  cases js with
  | nil=>exact Int.le_refl _
  | cons i r=>exact DG g1 hL r i h1
 have e4:(js.map λk=>gs.getD k 0).sum=(ctS gs cs ps.length).sum:=by
  rw [xw (hp.map _),vj,hcl];rfl
 omega
noncomputable def mxN(ps:List (List Nat))(w:List Nat):Nat:=(ps.map (cA w)).foldr max 0
theorem vk:∀(l:List Nat),(∀x∈l,x<=l.foldr max 0)/\∀m,(∀x∈l,x<=m)->l.foldr max 0<=m
 | []=>⟨nofun,λ_ _=>K_ _⟩
 | a::l=>by
  obtain⟨h1,h2⟩:=vk l
  refine⟨λx hx=>?_,λm hm=>?_⟩
  .show x<=max a (l.foldr max 0)
   rcases C_.mp hx with rfl|hx
   .omega
   .have:=h1 x hx;omega
  .show max a (l.foldr max 0)<=m;have:=hm a mem_cons_self;have:=h2 m λx hx=>hm x (m_ _ hx);omega
def DH{w v:List Nat}(h:v∈ps):cA w v<=mxN ps w:=(vk _).1 _ (Lv.mpr ⟨v,h,rfl⟩)
def Iy{w:List Nat}{m:Int}(h1:m∈ps.map λv=>(cA w v:Int))(h2:∀a∈ps.map λv=>(cA w v:Int),a<=m):m=(mxN ps w:Int):=by
 obtain⟨v,hv,rfl⟩:=Lv.mp h1
 have h3:mxN ps w<=cA w v:=(vk _).2 _ λx hx=>by
  obtain⟨v',hv',rfl⟩:=Lv.mp hx;have:=h2 _ (Lv.mpr ⟨v',hv',rfl⟩);omega
 have h4:=DH (w:=w) hv;omega
noncomputable def fC:FR:=λp a_ Q=>oL (λes_=>cI (λc0=>cI (λc1=>cN (cO (λc ns fs=>cS (λt=>cN (c="Often"/\ns=Cr/\∃ps:List (List Nat),∃cs:List Nat,fs=Cs ps cs/\(SOk (c0,c1)/\0<ps.length/\ps.length<=4/\Pcs 60 ps/\(∀i,i<ps.length->bB ps i=true)/\cs.length=ps.length/\(∀c∈cs,1<=c/\c<=3)/\t.length<=3000/\Lst (GlO ps cs) t)/\∀s:Int×Int,SOk s->Q (.dat (.bl true)) (stv s)))) a_))) es_) p
def DI:Nat:=7
abbrev DJ:FN:=KE
noncomputable def tX(K:b_)(mg:Str->Option Value)(t:TxC K):=(have TC:=t;show LS K [] _ _ from (aA (G3 .list .tuple o5 (ax 0))))
def AY:PTS:=psO tX
def AZ:PRl iC AY 1 1:=λ_ Q h=>uq h λd _ h=>cm h λh=>r_ rfl <| by
 walk_at "z";obtain⟨hd,q⟩:=h;cases d <;> first|(cases hd;done)|(walk_at "r";exact q)
noncomputable def lV(K:b_)(mg:Str->Option Value)(t:TxC K):=(have TC:=t;show LS K [] _ _ from (aA (hX (sY .int (ax 0)) (zw (sY .bool (ax 0))))))
def tY:PTS:=psO lV
def tZ:PRl dG tY 1 1:=λ_ Q h=>uq h λd _ h=>cm h λh=>r_ rfl <| by
 walk_at "z";obtain⟨hd,q⟩:=h;cases d <;> first|(cases hd;done)|(walk_at "r";exact q)
noncomputable def ja(K:b_)(mg:Str->Option Value)(t:TxC K):=(have TC:=t;show LS K [] _ _ from (aA (hX (ar (c:=iC) (aa (bo 0) ac)) (hX (am eF (ag (aD aH (aa (ax 0) ac))) (ax 1)) (aD tq (aa (ag (aO (ix:=[none]) rfl (bq (cJ 0)) (λfs hc=>(aQ 0 (dH hc (by decide)))) bu (ar (c:=dG) (aa (bo 0) ac)))) ac))))))
def pD:PTS:=psO ja
def pE:PRl dz pD 2 2:=λ_ Q h=>uq h λd _ h=>dn h λm _ h=>cm h λh=>r_ rfl <| by
 walk_at "z";obtain⟨zs,hz,⟨hl,hm⟩,q⟩:=h;have e:(zs.map D.int).length=zs.length:=length_map _
 rcases hz with rfl|rfl <;> (
  walk_at "r"
  refine cm1 (xs:=zs) (e:=D.int) (λ_=>.bl true) (λz hz v K1 k1=>?_) (λv=>?_)
  .walk_at "r";exact k1 _
  .walk_at "r";refine⟨zs.map λ_=>true,by rw [map_map];rfl,?_⟩;rw [mG];exact q)
noncomputable def ku(K:b_)(mg:Str->Option Value)(t:TxC K):=(have TC:=t;show LS K [] _ _ from (aA (hX (ar (c:=dz) (aa (bo 0) (aa (bo 1) ac))) (aD tq (aa (ag (aO (ix:=[none]) rfl (bq (cJ 0)) (λfs hc=>(aQ 0 (dH hc (by decide)))) bu (am zx (ax 0) (bT 0)))) ac)))))
def rP:PTS:=psO ku
def rQ:PRl dW rP 2 2:=λ_ Q h=>xk h λds _ h=>dn h λm _ h=>cm h λh=>r_ rfl <| by
 walk_at "z";obtain⟨zs,rfl,⟨hl,hm,h0⟩,q⟩:=h;walk_at "r"
 refine cm1 (xs:=zs) (e:=D.int) (λ_=>.bl true) (λz hz v K1 k1=>?_) (λv=>?_)
 .have:=h0 z hz;walk_at "r";rw [decide_eq_true this];exact k1 _
 .walk_at "r";refine⟨zs.map λ_=>true,by rw [map_map];rfl,?_⟩;rw [mG];exact q
noncomputable def fY(K:b_)(mg:Str->Option Value)(t:TxC K):=(have TC:=t;show LS K [] _ _ from (aA (hX (ar (c:=iC) (aa (bo 0) ac)) (hX (am eF (ag (aD aH (aa (ax 0) ac))) (bT 2)) (aD tq (aa (ag (aO (ix:=[none,some 1]) rfl (bq (cJ 0)) (λfs hc=>(aQ 0 (dH hc (by decide)))) bu (ar (c:=dW) (aa (bo 0) (aa (bo 1) ac))))) ac))))))
def lF:PTS:=psO fY
def lG:PRl dr lF 2 2:=λ_ Q h=>ur h λds _ h=>dn h λm _ h=>cm h λh=>r_ rfl <| by
 walk_at "z";obtain⟨gs,ts,rfl,⟨hm,h0⟩,q⟩:=h;walk_at "r"
 refine yt (λτ=>∃v,τ=[v,some (.dat (.int m))]) (λk=>.bl true) ⟨_,rfl⟩ ?_ ?_
 .rintro k τ _ hk rfl ⟨v,rfl⟩ K1 k1
  obtain⟨zs,e,hz⟩:∃zs:List Int,itD ([gs,ts].map λzs=>D.lst (zs.map .int)) k=.lst (zs.map .int)/\zs∈[gs,ts]:=by
   match k,hk with
   | 0,_=>exact⟨gs,rfl,by simp⟩
   | 1,_=>exact⟨ts,rfl,by simp⟩
  have g:=h0 zs hz;have g2:(zs.length:Int)=m/\m<=1000/\∀z∈zs,0<=z:=⟨g.1,hm,g.2⟩
  rw [e];walk_at "r";exact k1 _ ⟨_,rfl⟩
 .rintro τ ⟨v,rfl⟩;walk_at "r";refine⟨(c_ 2).map λ_=>true,by rw [map_map];rfl,?_⟩;rw [mG];exact q
noncomputable def DK(K:b_)(mg:Str->Option Value)(t:TxC K):=(have TC:=t;show LS K [] _ _ from (ao (eE (G7 (aa (ag (am j8 (ag (aD uP (aa (ag (aD aH (aa (ax 0) ac))) (aa (ag (aD aH (aa (ax 1) ac))) ac)))) (bT 1))) (aa (bT 0) (aa (ag (Ex zN (bT 1))) ac)))) (aQ 2 rfl) (cw (sy (uR EN (cJ 0) (aa (ag (bh (ax 1) bn (aZ (cJ 2)))) ac))) (aA (cJ 2)) bb)) (aA (Ba 0))))
def Iz:PTS:=psO DK
def IA:PRl tT Iz 3 2:=λ_ Q h=>oV h λa _ h=>oV h λb _ h=>cm h λh=>r_ rfl <| by
 walk_at "z";obtain⟨⟨a0,a1⟩,⟨b0,b1⟩,q⟩:=h;have hm:(if (b.length:Int)<(a.length:Int) then (b.length:Int) else (a.length:Int))=((min a.length b.length:Nat):Int):=by split <;> omega
 walk_at "r"
 refine⟨λi ρ=>(∃v2:Option PV,ρ=[some (.dat (.str a)),some (.dat (.str b)),v2])/\∀j,min a.length b.length - i<=j->j<min a.length b.length->¬ b.take j <:+ a,⟨⟨_,rfl⟩,λj h1 h2=>by omega⟩,?_,?_⟩
 .rintro i ρ d hi ed ⟨⟨v2,rfl⟩,ih⟩;have hi:i<(((if (b.length:Int)<(a.length:Int) then (b.length:Int) else (a.length:Int)) - 1) - 0).toNat:=hi;have ed:d=.int (((if (b.length:Int)<(a.length:Int) then (b.length:Int) else (a.length:Int)) - 1) - (i:Int)):=ed;rw [hm] at hi ed;obtain⟨k,hk,hk2⟩:∃k:Nat,(((min a.length b.length:Nat):Int) - 1) - (i:Int)=(k:Int)/\k=min a.length b.length - 1 - i:=⟨min a.length b.length - 1 - i,by omega,rfl⟩
  rw [hk] at ed;subst ed;walk_at "r";rw [dI]
  refine dU (λc=>?_) (λc=>?_)
  .walk_at "r"
   rw [show cA a b=k from rf ⟨by omega,c,λj h1 h2=>by
    rcases Ly k j with h|h
    .exact absurd h2 (ih j (by omega) h1)
    .exact h⟩] at q
   exact q
  .refine⟨⟨_,rfl⟩,λj h1 h2=>?_⟩
   by_cases hj:j=k
   .rw [hj];exact c
   .exact ih j (by omega) h2
 .rintro ρ ⟨⟨v2,rfl⟩,ih⟩;rw [hm] at ih;walk_at "r"
  rw [show cA a b=0 from rf ⟨by omega,by rw [take_zero];exact N_,λj h1 h2=>by
   rcases OS j with h|h
   .omega
   .exact absurd h2 (ih j (by omega) h1)⟩] at q
  exact q
noncomputable def nP(K:b_)(mg:Str->Option Value)(t:TxC K):=(have TC:=t;show LS K [] _ _ from (aA (aD cH (aa (ag (aO (ix:=[none,some 0]) rfl (bq (cJ 0)) (λfs hc=>(aQ 0 (dH hc (by decide)))) bu (aD cH (aa (ag (aO (ix:=[none,some 0]) rfl (bq (cJ 1)) (λfs hc=>(aQ 0 (dH hc (by decide)))) bu (ar (c:=tT) (aa (bo 1) (aa (bo 0) ac))))) ac)))) ac))))
def vm:PTS:=psO nP
def vn:PRl dt vm 1 1:=λ_ Q h=>ur h λds _ h=>cm h λh=>r_ rfl <| by
 walk_at "z";obtain⟨ws,rfl,⟨hn,hw⟩,q⟩:=h;have hlm:(ws.map D.str).length=ws.length:=length_map _
 have rr:∀f:List Nat->D,(c_ (ws.map D.str).length).map (λk=>f (pw ws k))=ws.map f:=λf=>by
  rw [hlm];apply Nz;intro k;rw [h_,h_]
  by_cases hk:k<ws.length
  .rw [H_ hk,bR hk];rfl
  .rw [u_ (by rw [length_range];omega),u_ (by omega)];rfl
 walk_at "r"
 refine yt (λτ=>∃v,τ=[v,some (.dat (.tup (ws.map .str)))]) (λk=>.tup (ws.map λv=>.int (cA (pw ws k) v:Int))) ?_ ?_ ?_
 .exact⟨_,rfl⟩
 .rintro k τ d hk ed ⟨v,rfl⟩ K1 k1;rw [jt hk] at ed;subst ed;have w1:=hw _ (bN (show k<ws.length by omega));walk_at "r"
  refine yt (λτ=>∃v,τ=[v,some (.dat (.str (pw ws k)))]) (λj=>.int (cA (pw ws k) (pw ws j):Int)) ?_ ?_ ?_
  .exact⟨_,rfl⟩
  .rintro j τ d hj ed ⟨v,rfl⟩ K2 k2;rw [jt hj] at ed;subst ed;have w2:=hw _ (bN (show j<ws.length by omega));walk_at "r";exact k2 _ ⟨_,rfl⟩
  .rintro τ ⟨v,rfl⟩;rw [rr (λw=>D.int (cA (pw ws k) w:Int))];walk_at "r";exact k1 _ ⟨_,rfl⟩
 .rintro τ ⟨v,rfl⟩;rw [rr (λw=>D.tup (ws.map λv=>.int (cA w v:Int)))];walk_at "r";exact q
noncomputable def qu:PTS:=(iX (JH (pOr (Ju (pB (KB .str (pSl 0)))) (Ju (pB (zy fLe fLe (pSl 1) (pFz (pCB BL (bF (pSl 0) di))) (pSl 2))))) (BM (pC (.bl false))) zC) (BM (pCB JO (bF (pFz (uO [none] (xP (uM 0)) (dS 0) zF (zy fLe fLe (pFz (pC (.str [97]))) (pSl 0) (pFz (pC (.str [122])))))) di))))
def lH:PRl fW qu 3 3:=λ_ Q h=>uq h λd _ h=>dn h λa _ h=>dn h λb _ h=>cm h λh=>r_ rfl <| by
 walk_at "z";obtain⟨hd,hl,q⟩:=h
 cases d with
 | str l =>
  have hl:l.length<=1000000:=hl;walk_at "r"
  refine dU (λc1=>?_) (λc1=>?_)
  .walk_at "r"
   refine uK (λc2=>?_) (λc2=>?_)
   .walk_at "r";rw [show BR (.str l) a b=false by rw [qY,decide_eq_false c2,N7];rfl] at q;exact q
   .walk_at "r"
    refine yt (λτ=>∃v,τ=[v]) (λk=>.bl (ltB (l.getD k 0))) ?_ ?_ ?_
    .exact⟨_,rfl⟩
    .rintro k τ _ hk rfl ⟨v,rfl⟩ K1 k1;walk_at "r"
     refine uK (λc=>?_) (λc=>?_)
     .have hc:97<=l.getD k 0:=of_decide_eq_true (by rw [<- uU];rw [decide_eq_false c];rfl);walk_at "r";show K1 (.bl (!decide (([122]:List Nat)<[l.getD k 0]))) _;rw [uU];rw [show ltB (l.getD k 0)=decide (l.getD k 0<=122) by unfold ltB;rw [decide_eq_true hc];rfl] at k1;exact k1 _ ⟨_,rfl⟩
     .have hc:¬ 97<=l.getD k 0:=of_decide_eq_false (by rw [<- uU,decide_eq_true c];rfl);walk_at "r";rw [show ltB (l.getD k 0)=false by unfold ltB;rw [decide_eq_false hc];rfl] at k1;exact k1 _ ⟨_,rfl⟩
    .rintro τ ⟨v,rfl⟩;walk_at "r";refine⟨(c_ l.length).map λk=>ltB (l.getD k 0),by rw [map_map];rfl,?_⟩
     have e:BR (.str l) a b=(((c_ l.length).map λk=>ltB (l.getD k 0)).all id):=by
      rw [qY,decide_eq_true c1,decide_eq_true c2,Bool.and_self,Bool.true_and,jr];rw [all_map];rfl
     rw [e] at q;exact q
  .walk_at "r";rw [show BR (.str l) a b=false by rw [qY,decide_eq_false c1,Bool.false_and];rfl] at q;exact q
 | non=>walk_at "r";exact q
 | bl b=>walk_at "r";exact q
 | int i=>walk_at "r";exact q
 | ty n=>cases hd
 | lst ds=>walk_at "r";exact q
 | tup ds=>walk_at "r";exact q
 | scr ns=>cases hd
 | dic ks ds=>walk_at "r";exact q
 | obj c ns ds=>cases hd
 | exc c ns ds=>cases hd
 | fdc ks ds=>cases hd
noncomputable def nQ(K:b_)(mg:Str->Option Value)(t:TxC K):=(have TC:=t;show LS K [] _ _ from (aA (hX (ar (c:=dG) (aa (bo 0) ac)) (qQ sX sX (ax 1) (ax 0) (ax 2)))))
def vo:PTS:=psO nQ
def vp:PRl jI vo 3 3:=λ_ Q h=>dn h λx _ h=>dn h λa _ h=>dn h λb _ h=>cm h λh=>r_ rfl <| by
 walk_at "z";obtain⟨⟨h1,h2⟩,q⟩:=h;walk_at "r";rw [decide_eq_true h2];exact q
noncomputable def t5(K:b_)(mg:Str->Option Value)(t:TxC K):=(have TC:=t;show LS K [] _ _ from (ao (aB (eB ac) (cQ 2 rfl)) (ao (aB (uR qV (cJ 0) (aa (ax 1) ac)) (cQ 3 rfl)) (ao (qR (iT (am zx (ax 3) (bT 0))) (ao (eC (tm (i:=2) (cJ 3))) (aB (uR BP (cJ 0) (aa (ax 1) (aa (ag (am bC (ax 3) (bT 1))) ac))) (cQ 3 rfl)))) (aA (aD cH (aa (ax 2) ac)))))))
def A0:PTS:=psO t5
def A1:PRl nL A0 4 2:=λ_ Q h=>oV h λt _ h=>oV h λw _ h=>cm h λh=>r_ rfl <| by
 walk_at "z";obtain⟨⟨ht,hw0⟩,q⟩:=h;walk_at "r";refine⟨λk ρ=>∃lo:Nat,lo<=t.length/\k=t.length - lo/\ρ=[some (.dat (.str t)),some (.dat (.str w)),some (.own (((c_ lo).filter λk=>stA t w k).map nD)),some (.dat (.int (fnd t w lo)))],⟨_,0,K_ _,rfl,rfl⟩,?_⟩;rintro k ρ ⟨lo,hlo,rfl,rfl⟩;have hll:(((c_ lo).filter λk=>stA t w k).map nD).length<=lo:=by rw [length_map];exact p_ (M3 ..) (by rw [length_range];omega)
 walk_at "r"
 refine dU (λc=>?_) (λc=>?_)
 .obtain⟨p,e,h1,h2,h3⟩:=iR (a:=t) (b:=w) (lo:=lo) (by omega);have hp:=(of_decide_eq_true h2).1;rw [e];walk_at "r";refine⟨t.length - (p+1),by omega,p+1,by omega,rfl,?_⟩;rw [Cq h1 h2 h3,map_append,show ((p:Int)+1).toNat=p+1 by omega];rfl
 .have e:fnd t w lo=-1:=by
   rcases Decidable.em (fnd t w lo=-1) with z|z
   .exact z
   .obtain⟨p,e,_⟩:=iR z;omega
  have ee:((c_ lo).filter λk=>stA t w k)=plN t w:=(Fk hlo (wF e)).symm;rw [ee];walk_at "r";exact q
noncomputable def jb(K:b_)(mg:Str->Option Value)(t:TxC K):=(have TC:=t;show LS K [] _ _ from (aA (uR qV (cJ 0) (aa (ax 1) ac))))
def pF:PTS:=psO jb
def pG:PRl dA pF 2 2:=λ_ Q h=>oV h λa _ h=>oV h λb _ h=>cm h λh=>r_ rfl <| by
 walk_at "z";walk_at "r";exact h
noncomputable def iJ(K:b_)(mg:Str->Option Value)(t:TxC K):=(have TC:=t;show LS K [] _ _ from (ao (cw (iT (am mh (ag (aD aH (aa (ax 0) ac))) (bT 40))) dw bb) (eE (m7 (aa (bo 0) ac)) (dk (n:=2) (aK (aQ 1 rfl) (aK (aQ 2 rfl) cj))) (cw (e6 (sy (BQ (c:=fW) (vs0:=[]) (ds:=[]) (by repeat (first|exact .nil|exact .cons (.int _) .nil|refine .cons (.int _) ?_)) (aa (bo 2) (aa (bT 1) (aa (bT 60) ac)))))) dw bb))))
def nR:PTS:=psO iJ
def nS:PRl bS nR 3 1:=λ_ Q h=>uq h λd _ h=>cm h λh=>r_ rfl <| by
 walk_at "z";obtain⟨ws,hd,⟨hn,hp⟩,q⟩:=h;have hlm:(ws.map D.str).length=ws.length:=length_map _
 rcases hd with rfl|rfl
 .walk_at "r"
  refine⟨λk ρ=>∃v1 v2:Option PV,ρ=[some (.dat (.lst (ws.map .str))),v1,v2],⟨_,_,rfl⟩,?_,?_⟩
  .rintro k ρ d hk ed ⟨v1,v2,rfl⟩;have ed:d=.tup [.int k,itD (ws.map D.str) k]:=ed;rw [jt hk] at ed;subst ed;have hw:=hp _ (bN (show k<ws.length by omega));have ht:BR (.str (pw ws k)) 1 60=true:=zO.mpr hw;have h1:(pw ws k).length<=1000000:=by have:=hw.2.1;omega
   walk_at "r";refine Ev ht ?_;exact⟨_,_,rfl⟩
  .rintro ρ ⟨v1,v2,rfl⟩;exact q
 .walk_at "r"
  refine⟨λk ρ=>∃v1 v2:Option PV,ρ=[some (.dat (.tup (ws.map .str))),v1,v2],⟨_,_,rfl⟩,?_,?_⟩
  .rintro k ρ d hk ed ⟨v1,v2,rfl⟩;have ed:d=.tup [.int k,itD (ws.map D.str) k]:=ed;rw [jt hk] at ed;subst ed;have hw:=hp _ (bN (show k<ws.length by omega));have ht:BR (.str (pw ws k)) 1 60=true:=zO.mpr hw;have h1:(pw ws k).length<=1000000:=by have:=hw.2.1;omega
   walk_at "r";refine Ev ht ?_;exact⟨_,_,rfl⟩
  .rintro ρ ⟨v1,v2,rfl⟩;exact q
noncomputable def ib(K:b_)(mg:Str->Option Value)(t:TxC K):=(have TC:=t;show LS K [] _ _ from (aA (am zx (ag (ar (c:=dA) (aa (bo 1) (aa (bo 0) ac)))) (bT 0))))
def mq:PTS:=psO ib
def mr:PRl bM mq 2 2:=λ_ Q h=>oV h λa _ h=>oV h λb _ h=>cm h λh=>r_ rfl <| by
 walk_at "z";walk_at "r";exact h
noncomputable def qv(K:b_)(mg:Str->Option Value)(t:TxC K):=(have TC:=t;show LS K [] _ _ from (ao (aB (am bz (ax 0) (ax 1)) (cQ 2 rfl)) (ao (aB (aO (ix:=[none,some 2]) rfl (bq (cJ 0)) (λfs hc=>(aQ 0 (dH hc (by decide)))) (iT (am mh (ag (aD aH (aa (ax 0) ac))) (ag (aD aH (aa (ax 1) ac))))) (cJ 0)) (cQ 3 rfl)) (aA (hX (am (Av (neg:=true)) (ax 2) (ag (bh (ax 0) bn (aZ (cJ 1))))) (zw (aD Hm (aa (ag (aO (ix:=[none,some 2]) rfl (bq (cJ 3)) (λfs hc=>(aQ 0 (dH hc (by decide)))) bu (ar (c:=bM) (aa (bo 1) (aa (bo 0) ac))))) ac))))))))
def x9:PTS:=psO qv
def ya:PRl d0 x9 4 2:=λ_ Q h=>uq h λd _ h=>dn h λi _ h=>cm h λh=>r_ rfl <| by
 walk_at "z";obtain⟨ws,hd,⟨hn,hw⟩,hi,q⟩:=h;obtain⟨k,rfl⟩:∃k:Nat,i=(k:Int):=⟨i.toNat,by omega⟩
 have hk:k<ws.length:=by omega
 have hlm:(ws.map D.str).length=ws.length:=length_map _;have w1:=hw _ (bN hk)
 rcases hd with rfl|rfl <;> (
  walk_at "r";refine⟨_,bV hk rfl,?_⟩;walk_at "r"
  refine cfm (λτ=>∃v,τ=[v,some (.dat (.str (pw ws k)))]) (λj=>if (pw ws k).length<(pw ws j).length then some (.str (pw ws j)) else none) ?_ ?_ ?_
  .exact⟨_,rfl⟩
  .rintro j τ d hj ed ⟨v,rfl⟩ K1 K2 k1 k2;rw [jt hj] at ed;subst ed;have w2:=hw _ (bN (show j<ws.length by omega));walk_at "r"
   refine dU (λc=>?_) (λc=>?_)
   .walk_at "r";exact k1 _ _ (by rw [if_pos (by omega)]) ⟨_,rfl⟩
   .exact k2 _ (by rw [if_neg (by omega)]) ⟨_,rfl⟩
  .rintro τ ⟨v,rfl⟩
   have e1:(c_ (ws.map D.str).length).filterMap (λj=>if (pw ws k).length<(pw ws j).length then some (D.str (pw ws j)) else none)=(ws.filter λo=>decide ((pw ws k).length<o.length)).map D.str:=by
    rw [hlm,B6 (λw=>if (pw ws k).length<w.length then some (D.str w) else none) ws,<- dE];congr 1;funext w
    by_cases h:(pw ws k).length<w.length
    .rw [if_pos h,if_pos (decide_eq_true h)]
    .rw [if_neg h,if_neg (by rw [decide_eq_false h];decide)]
   rw [e1];have hll:(ws.filter λo=>decide ((pw ws k).length<o.length)).length<=ws.length:=M3 ..;generalize hL:(ws.filter λo=>decide ((pw ws k).length<o.length))=ls at hll ⊢;have hlm2:(ls.map D.str).length=ls.length:=length_map _;have c1:dg (ws.map D.str) none (some (k:Int))=(ws.take k).map D.str:=by rw [dI,map_take]
   have hfl:(dg (ws.map D.str) none (some (k:Int))).all D.fl=true:=by rw [c1];exact zZ _
   have hin:inD (.str (pw ws k)) (dg (ws.map D.str) none (some (k:Int)))=decide (pw ws k∈ws.take k):=by rw [c1];exact rg _ _
   have hkb:bB ws k=(!inD (.str (pw ws k)) (dg (ws.map D.str) none (some (k:Int))) && !ls.any λo=>f9 (pw ws k) o):=by
    unfold bB;rw [hin,hL]
   rw [toNat_natCast,hkb] at q;walk_at "r"
   refine zr (GS (λc=>?_) (λc=>?_))
   .walk_at "r";have c:inD (.str (pw ws k)) (dg (ws.map D.str) none (some (k:Int)))=true:=c;rw [c] at q;exact q
   .have c:inD (.str (pw ws k)) (dg (ws.map D.str) none (some (k:Int)))=false:=c;rw [c,Bool.not_false,Bool.true_and] at q;walk_at "r"
    refine yt (λτ=>∃v,τ=[v,some (.dat (.str (pw ws k)))]) (λj=>.bl (f9 (pw ws k) (pw ls j))) ?_ ?_ ?_
    .exact⟨_,rfl⟩
    .rintro j τ d hj ed ⟨v,rfl⟩ K1 k1;rw [jt hj] at ed;subst ed;walk_at "r";exact k1 _ ⟨_,rfl⟩
    .rintro τ ⟨v,rfl⟩;walk_at "r"
     refine⟨ls.map λo=>f9 (pw ws k) o,?_,?_⟩
     .rw [hlm2,map_map]
      conv=>rhs;rw [<- wU ls,map_map]
      rfl
     .rw [show ((ls.map λo=>f9 (pw ws k) o).any id)=ls.any (λo=>f9 (pw ws k) o) by rw [any_map];rfl];walk_at "r";exact q)
noncomputable def nU(K:b_)(mg:Str->Option Value)(t:TxC K):=(have TC:=t;show LS K [] _ _ from (ao (aB (aD EJ (aa (ag (aO (ix:=[none,some 0,some 2]) rfl (bq (cJ 1)) (λfs hc=>(aQ 0 (dH hc (by decide)))) (sy (ar (c:=bM) (aa (ag (am bz (ax 1) (ax 2))) (aa (ag (am bz (ax 1) (ax 0))) ac)))) (cJ 0))) ac)) (cQ 3 rfl)) (aA (j7 (aa (bo 2) (aa (bo 3) (aa (ag (ar (c:=dA) (aa (ag (am bz (ax 0) (ax 3))) (aa (ag (am bz (ax 0) (ax 2))) ac)))) ac)))))))
def vq:PTS:=psO nU
def vt:PRl eO vq 4 3:=λ_ Q h=>ur h λds _ h=>ur h λks _ h=>dn h λi _ h=>cm h λh=>r_ rfl <| by
 walk_at "z";obtain⟨ws,rfl,rfl,⟨hn,hw⟩,hi,q⟩:=h;obtain⟨k,rfl⟩:∃k:Nat,i=(k:Int):=⟨i.toNat,by omega⟩
 have hk:k<ws.length:=by omega
 rw [toNat_natCast] at q;have hkl:=kW ws;have hkm:((a8 ws).map nD).length=(a8 ws).length:=length_map _;walk_at "r"
 refine cfm (λτ=>∃v,τ=[v,some (.dat (.tup (ws.map .str))),some (.dat (.int (k:Int)))]) (λj=>if f9 (pw ws k) (pw ws ((a8 ws).getD j 0))=true then some (nD ((a8 ws).getD j 0)) else none) ?_ ?_ ?_
 .exact⟨_,rfl⟩
 .rintro j τ d hj ed ⟨v,rfl⟩ K1 K2 k1 k2;have hj2:(a8 ws).getD j 0<ws.length:=fQ (y_ (by rw [cn,cx (show j<(a8 ws).length by omega)];rfl));rw [zY hj] at ed;subst ed;generalize (a8 ws).getD j 0=z at hj2 k1 k2 ⊢;walk_at "r";refine⟨_,bV hk rfl,?_⟩;walk_at "r";refine⟨_,bV hj2 rfl,?_⟩;walk_at "r"
  cases hc:f9 (pw ws k) (pw ws z) with
  | true=>walk_at "r";exact k1 _ _ (by rw [if_pos hc];rfl) ⟨_,rfl⟩
  | false=>walk_at "r";exact k2 _ (by rw [if_neg (by rw [hc];decide)]) ⟨_,rfl⟩
 .rintro τ ⟨v,rfl⟩
  have e1:(c_ ((a8 ws).map nD).length).filterMap (λj=>if f9 (pw ws k) (pw ws ((a8 ws).getD j 0))=true then some (nD ((a8 ws).getD j 0)) else none)=((nk ws k).map λj=>((j:Nat):Int)).map D.int:=by
   rw [hkm,B7 (λj=>if f9 (pw ws k) (pw ws j)=true then some (nD j) else none) (a8 ws),dE (λj=>f9 (pw ws k) (pw ws j)) nD,map_map];rfl
  rw [e1];obtain⟨h0,hh0⟩:=xX hw hk;walk_at "r";refine⟨by rw [length_map];exact NB hh0,λm hm hle=>?_⟩;obtain⟨z,hz,rfl⟩:=Lv.mp hm;have hz2:z<ws.length:=fQ (D_.mp hz).1;have hho:wT ws k=z:=zX hz λa ha=>by have:=hle _ (ON ha);omega
  walk_at "r";refine⟨_,bV hz2 rfl,?_⟩;walk_at "r";refine⟨_,bV hk rfl,?_⟩;walk_at "r";unfold jy at q;rw [hho] at q;exact q
noncomputable def jc:PTS:=(iX (sZ (i5 bS (bF (pFz (uM 1)) di))) (iX (im "Family" [] "pieces" 0 (pCB lR (bF (pSl 1) di))) (iX (G5 (Hn false (bF (pFz (pCB BL (bF (pFz (wM "Family" ["pieces"] 0 (pSl 0))) di))) di)) (dS 2)) (iX (im "Family" ["pieces"] "kept" 0 (pCB lR (bF (pFz (uO [none,some 0] (xP (uM 2)) (dS 0) (pB (i5 d0 (bF (pFz (wM "Family" ["pieces"] 0 (pSl 1))) (bF (pFz (uM 0)) di)))) (uM 0))) di))) (iX (im "Family" ["pieces","kept"] "words" 0 (pCB lR (bF (pFz (uO [none,some 0] (xP (wM "Family" ["pieces","kept"] 1 (pSl 0))) (dS 0) zF (pOp fIx (pFz (wM "Family" ["pieces","kept"] 0 (pSl 1))) (pSl 0)))) di))) (iX (im "Family" ["pieces","kept","words"] "left" 0 (pCB lR (bF (pFz (uO [none,some 0] (xP (uM 2)) (dS 0) (pB (pOp (J6 true) (pSl 0) (pFz (wM "Family" ["pieces","kept","words"] 1 (pSl 1))))) (i5 eO (bF (pFz (wM "Family" ["pieces","kept","words"] 0 (pSl 1))) (bF (pFz (wM "Family" ["pieces","kept","words"] 1 (pSl 1))) (bF (pFz (uM 0)) di)))))) di))) (iX (im "Family" ["pieces","kept","words","left"] "laps" 0 (i5 dt (bF (pFz (wM "Family" ["pieces","kept","words","left"] 2 (pSl 0))) di))) (im "Family" ["pieces","kept","words","left","laps"] "total" 0 (pCB BN (bF (pFz (uO [none] (xP (wM "Family" ["pieces","kept","words","left","laps"] 2 (pSl 0))) (dS 0) zF (pCB BL (bF (pSl 0) di)))) di))))))))))
def fE:RRl cF jc 3 2:=λ_ _ Q h=>KT h λh=>uq h λd _ h=>cm h λh=>r_ rfl <| by
 walk_at "z";obtain⟨ws,hd,⟨hn,hp⟩,q⟩:=h;have hlm:(ws.map D.str).length=ws.length:=length_map _;have hkl:=kW ws;have hkm:((a8 ws).map nD).length=(a8 ws).length:=length_map _;have hrl:(uo 0 (((ws.map D.str).length:Nat):Int).toNat).length=ws.length:=by rw [nq];omega
 have hk1:ws.length<=1000/\∀w∈ws,w.length<=10000:=⟨by omega,λw hw=>by have:=(hp w hw).2.1;omega⟩
 have hk2:ws.length<=1000/\∀w∈ws,w.length<=60:=⟨by omega,λw hw=>(hp w hw).2.1⟩
 walk_at "r";refine⟨ws,hd,⟨hn,hp⟩,?_⟩
 rcases hd with rfl|rfl <;> (
  walk_at "r"
  refine cfm (λτ=>∃v,τ=[v,some (.ins "Family" ["pieces"] [.tup (ws.map .str)])]) (λj=>if bB ws j=true then some (nD j) else none) ?_ ?_ ?_
  .exact⟨_,rfl⟩
  .rintro j τ d hj ed ⟨v,rfl⟩ K1 K2 k1 k2;have hj2:j<ws.length:=by rw [nq] at hj;omega
   rw [nr hj] at ed;subst ed;walk_at "r";rw [toNat_natCast]
   cases hc:bB ws j with
   | true=>walk_at "r";exact k1 _ _ (by rw [if_pos hc];rfl) ⟨_,rfl⟩
   | false=>walk_at "r";exact k2 _ (by rw [if_neg (by rw [hc];decide)]) ⟨_,rfl⟩
  .rintro τ ⟨v,rfl⟩
   have e1:(c_ (uo 0 (((ws.map D.str).length:Nat):Int).toNat).length).filterMap (λj=>if bB ws j=true then some (nD j) else none)=(a8 ws).map nD:=by
    rw [nq,hlm,toNat_natCast,dE (bB ws) nD];rfl
   rw [e1];walk_at "r"
   refine yt (λτ=>∃v,τ=[v,some (.ins "Family" ["pieces","kept"] [.tup (ws.map .str),.tup ((a8 ws).map nD)])]) (λk=>.str (pw ws ((a8 ws).getD k 0))) ?_ ?_ ?_
   .exact⟨_,rfl⟩
   .rintro j τ d hj ed ⟨v,rfl⟩ K1 k1;have hj2:(a8 ws).getD j 0<ws.length:=fQ (y_ (by rw [cn,cx (show j<(a8 ws).length by omega)];rfl));rw [zY hj] at ed;subst ed;walk_at "r";refine⟨_,bV hj2 rfl,?_⟩;walk_at "r";exact k1 _ ⟨_,rfl⟩
   .rintro τ ⟨v,rfl⟩
    have e2:(c_ ((a8 ws).map nD).length).map (λk=>D.str (pw ws ((a8 ws).getD k 0)))=(al ws).map D.str:=by
     rw [hkm,jr (λj=>D.str (pw ws j)) (a8 ws)];unfold al;rw [map_map];rfl
    rw [e2];have hwl:=kX ws;have hwm:((al ws).map D.str).length=(al ws).length:=length_map _;have hwp:=fR hp;have hwq:(al ws).length<=1000/\∀w∈al ws,0<w.length/\w.length<=10000:=⟨by omega,λw hw=>⟨(hwp w hw).1,by have:=(hwp w hw).2.1;omega⟩⟩
    have hfl:((a8 ws).map nD).all D.fl=true:=J0 _;walk_at "r"
    refine cfm (λτ=>∃v,τ=[v,some (.ins "Family" ["pieces","kept","words"] [.tup (ws.map .str),.tup ((a8 ws).map nD),.tup ((al ws).map .str)])]) (λj=>if (!decide (j∈a8 ws))=true then some (jy ws j) else none) ?_ ?_ ?_
    .exact⟨_,rfl⟩
    .rintro j τ d hj ed ⟨v,rfl⟩ K1 K2 k1 k2;have hj2:j<ws.length:=by omega
     rw [nr hj] at ed;subst ed;have hin:=Df j (a8 ws);walk_at "r"
     refine zr (GS (λc=>?_) (λc=>?_))
     .have c:inD (.int (j:Int)) ((a8 ws).map nD)=true:=c;rw [hin] at c;exact k2 _ (by rw [c];rfl) ⟨_,rfl⟩
     .have c:inD (.int (j:Int)) ((a8 ws).map nD)=false:=c;rw [hin] at c;walk_at "r";rw [toNat_natCast];exact k1 _ _ (by rw [c];rfl) ⟨_,rfl⟩
    .rintro τ ⟨v,rfl⟩
     have e3:(c_ (uo 0 (((ws.map D.str).length:Nat):Int).toNat).length).filterMap (λj=>if (!decide (j∈a8 ws))=true then some (jy ws j) else none)=(De ws).map (jy ws):=by
      rw [hrl,dE (λj=>!decide (j∈a8 ws)) (jy ws)];rfl
     rw [e3];walk_at "r"
     refine yt (λτ=>∃v,τ=[v]) (λk=>.int ((pw (al ws) k).length:Int)) ?_ ?_ ?_
     .exact⟨_,rfl⟩
     .rintro j τ d hj ed ⟨v,rfl⟩ K1 k1;rw [jt hj] at ed;subst ed;walk_at "r";exact k1 _ ⟨_,rfl⟩
     .rintro τ ⟨v,rfl⟩
      have e4:(c_ ((al ws).map D.str).length).map (λk=>D.int ((pw (al ws) k).length:Int))=((al ws).map λw=>(w.length:Int)).map D.int:=by
       rw [hwm,map_map]
       conv=>rhs;rw [<- wU (al ws),map_map]
       rfl
      rw [e4];walk_at "r";exact q
  )
noncomputable def jd:PTS:=(BM (pCB BL (bF (pFz (wM "Family" ["pieces","kept","words","left","laps","total"] 2 (pSl 0))) di)))
def fF:PRl b9 jd 1 1:=λ_ Q h=>Co h λc ns fs _ h=>cm h λh=>r_ rfl <| by
 walk_at "z";obtain⟨rfl,rfl,ws,rfl,q⟩:=h;walk_at "r";rw [length_map];exact q
noncomputable def nV(K:b_)(mg:Str->Option Value)(t:TxC K):=(have TC:=t;show LS K [] _ _ from (ao (aB (uR wP (le_str (l:=[])) (aa (ag (aO (ix:=[none,some 0]) rfl (bq (bh (ax 2) bn (aZ (Ba 1)))) (λfs hc=>(aQ 0 (dH hc (by decide)))) bu (am bz (ax 1) (ax 0)))) ac)) (cQ 3 rfl)) (ao (eE (zE (aa (bo 2) (aa (ag (bh (ax 2) (aZ (Ba 1)) bn)) ac))) (dk (n:=2) (aK (aQ 4 rfl) (aK (aQ 5 rfl) cj))) (HH (i:=3) (cQ 3 rfl) (bh (ag (am bz (ax 0) (ax 5))) (aZ (am bz (ag (am bz (ax 1) (ax 4))) (ax 5))) bn))) (aA (cJ 3)))))
def vv:PTS:=psO nV
def vw:PRl jJ vv 6 3:=λ_ Q h=>ur h λds _ h=>uq h λd2 _ h=>uq h λd _ h=>cm h λh=>r_ rfl <| by
 walk_at "z";obtain⟨ws,rfl,rfl,⟨hn,hw⟩,js,hd,⟨hjl,hj⟩,q⟩:=h;have hjm:(js.map nD).length=js.length:=length_map _;have ht1:((js.take 1).map nD).length<=1:=by rw [length_map,length_take];omega
 have hpw:=Ce hw;have hgl:=Ds hpw
 have hg1:((js.take 1).map (pw ws)).flatten.length<=1000000:=by
  rw [Ax];have:=hgl (js.take 1);rw [length_take] at this;omega
 rcases hd with rfl|rfl <;> (
  walk_at "r";rw [J3]
  refine⟨by omega,cm1 (λj=>.str (pw ws j)) (λj hjm v K1 k1=>?_) (λv=>?_)⟩
  .have hj2:=hj j (NR hjm);walk_at "r";refine⟨_,bV hj2 rfl,?_⟩;walk_at "r";exact k1 _
  .rw [uW (pw ws) (js.take 1)];walk_at "r";rw [KP,Ax]
   refine Lo (α:=Nat) (λ(pre:List Nat) ρ=>∃x v4 v5:Option PV,ρ=[some (.dat (.tup (ws.map .str))),some (.dat (kY ws)),x,some (.dat (.str (glN ws pre))),v4,v5]) ⟨_,_,_,rfl⟩ ?_ ?_
   .rintro pre a b suf ρ ej ⟨x,v4,v5,rfl⟩;have ha:a<ws.length:=hj a (by rw [ej];simp);have hb:b<ws.length:=hj b (by rw [ej];simp);have hpl:(pre++[a]).length<=60:=by have:=congrArg NJ ej;simp at this ⊢;omega
    have g1:=hgl (pre++[a]);have c1:=br (pw ws b) (some (cA (pw ws a) (pw ws b):Int)) none;have c2:=hpw b;have e1:nD a=.int (a:Int):=rfl;have e2:nD b=.int (b:Int):=rfl;rw [e1,e2];walk_at "r";refine⟨_,bV hb rfl,?_⟩;walk_at "r";refine⟨_,L2.Cd ha rfl,?_⟩;walk_at "r";refine⟨_,L2.uZ hb rfl,?_⟩;walk_at "r";exact⟨_,_,_,by rw [mF,fM]⟩
   .rintro ρ ⟨x,v4,v5,rfl⟩;walk_at "r";exact q)
noncomputable def lW(K:b_)(mg:Str->Option Value)(t:TxC K):=(have TC:=t;show LS K [] _ _ from (ao (cw (e6 (sy (ar (c:=dr) (aa (bo 0) (aa (ag (aD aH (aa (ax 1) ac))) ac))))) (aA (oZ (i:=false))) bb) (ao (aB (cJ 0) (wS (n:=2) (aK (aQ 3 rfl) (aK (aQ 4 rfl) cj)))) (aA (aD tq (aa (ag (aO (ix:=[none,none,some 3,some 4,some 1]) rfl (bq (cJ 2)) (λfs hc=>(dk (n:=2) (aK (aQ 0 (dH hc (by decide))) (aK (aQ 1 (dH hc (by decide))) cj)))) bu (am zx (ag (am bC (ag (am bz (ax 2) (ax 0))) (ag (am bz (ax 3) (ax 1))))) (ag (am bz (ag (am bz (ax 4) (ax 0))) (ax 1)))))) ac))))))
def t6:PTS:=psO lW
def t7:PRl iD t6 5 3:=λ_ Q h=>ur h λds _ h=>ur h λls _ h=>xk h λps _ h=>cm h λh=>r_ rfl <| by
 walk_at "z";obtain⟨gs,ts,rfl,ws,rfl,prs,rfl,⟨hn,hpl,hzs,hpm⟩,q⟩:=h;have hlm:(ws.map (FE ws)).length=ws.length:=length_map _;have hpl:(prs.map prT).length<=1600:=by rw [length_map];exact hpl
 have hg:=(hzs gs (by simp)).1;have ht:=(hzs ts (by simp)).1;have gp:(((ws.map (FE ws)).length:Nat):Int)<=1000/\∀zs∈[gs,ts],(zs.length:Int)=((ws.map (FE ws)).length:Nat)/\∀z∈zs,0<=z:=⟨by omega,λzs h=>⟨by have:=(hzs zs h).1;omega,(hzs zs h).2⟩⟩
 walk_at "r";refine⟨gs,ts,rfl,gp,?_⟩;walk_at "r"
 refine cm2 (e:=prT) (xs:=prs) (λp=>.bl true) (λp hp v w K1 k1=>?_) (λv w=>?_)
 .obtain⟨h1,h2,h3⟩:=hpm p hp;walk_at "r";refine⟨_,xn (by omega),?_⟩;walk_at "r";refine⟨_,xn (by omega),?_⟩;walk_at "r";refine⟨_,uZ h1,?_⟩;walk_at "r";refine⟨_,Ik h2,?_⟩;walk_at "r";rw [decide_eq_true h3];exact k1 _ _
 .walk_at "r";refine⟨prs.map λ_=>true,by rw [map_map];rfl,?_⟩;rw [mG];exact q
noncomputable def je(K:b_)(mg:Str->Option Value)(t:TxC K):=(have TC:=t;show LS K [] _ _ from (eE (ml (aa (ag (aD aH (aa (ax 0) ac))) ac)) (aQ 1 rfl) (cw (e6 (sy (ar (c:=d0) (aa (bo 0) (aa (bo 1) ac))))) dw bb)))
def pH:PTS:=psO je
def pI:PRl dB pH 2 1:=λ_ Q h=>uq h λd _ h=>cm h λh=>r_ rfl <| by
 walk_at "z";obtain⟨ws,hd,⟨hn,hp,hk⟩,q⟩:=h;have hlm:(ws.map D.str).length=ws.length:=length_map _;walk_at "r";refine Dd hd ?_;walk_at "r"
 refine⟨λk ρ=>∃v:Option PV,ρ=[some (.dat d),v],⟨_,rfl⟩,?_,?_⟩
 .rintro k ρ _ hi rfl ⟨v,rfl⟩;have hi:k<ws.length:=by rw [hlm,toNat_natCast] at hi;exact hi
  have h1:ws.length<=1000/\∀w∈ws,w.length<=10000:=⟨by omega,λw hw=>p_ (hp w hw).2.1 (by decide)⟩
  have h2:0<=(k:Int)/\(k:Int)<(ws.length:Int):=⟨by omega,by omega⟩
  have h3:bB ws (k:Int).toNat=true:=hk k hi;walk_at "r";refine⟨ws,hd,h1,h2,?_⟩;rw [h3];walk_at "r";exact⟨_,rfl⟩
 .rintro ρ ⟨v,rfl⟩;walk_at "r";exact q
noncomputable def iK(K:b_)(mg:Str->Option Value)(t:TxC K):=(have TC:=t;show LS K [] _ _ from (ao (cw (e6 (sy (ar (c:=iC) (aa (bo 0) ac)))) dw bb) (ao (eE (m7 (aa (ag (bh (ax 0) bn (aZ (cJ 1)))) ac)) (dk (n:=2) (aK (aQ 2 rfl) (aK (aQ 3 rfl) cj))) (cw (e6 (sy (ar (c:=jI) (aa (bo 3) (aa (bT 1) (aa (bT 9) ac)))))) dw bb)) (cw (iT (am tG (ag (aD aH (aa (ax 0) ac))) (ax 1))) dw bb))))
def nW:PTS:=psO iK
def nX:PRl cU nW 4 2:=λ_ Q h=>uq h λd _ h=>dn h λm _ h=>cm h λh=>r_ rfl <| by
 walk_at "z";obtain⟨cs,hd,⟨rfl,hn,hc⟩,q⟩:=h;have hlm:(cs.map nD).length=cs.length:=length_map _;have ec:dg (cs.map nD) none (some (cs.length:Int))=cs.map nD:=by rw [dI];exact LN (by omega)
 have cl:=br (cs.map nD) none (some (cs.length:Int))
 rcases hd with rfl|rfl <;> (
  walk_at "r";rw [ec]
  refine KO (xs:=cs) (e:=nD) (λ_ ρ=>∃v2 v3:Option PV,ρ=[_,_,v2,v3]) ⟨_,_,rfl⟩ ?_ ?_
  .rintro pre x suf ρ ew ⟨v2,v3,rfl⟩;have hx:=hc x (by rw [ew];simp);have hw:(1:Int)<=(x:Int)/\(x:Int)<=9:=⟨by omega,by omega⟩
   have e1:nD x=.int (x:Int):=rfl;rw [e1];walk_at "r";exact⟨_,_,rfl⟩
  .rintro ρ ⟨v2,v3,rfl⟩;walk_at "r";exact q)
noncomputable def nY(K:b_)(mg:Str->Option Value)(t:TxC K):=(have TC:=t;show LS K [] _ _ from (ao (aB (eB ac) (cQ 1 rfl)) (ao (aB (Ba 1) (cQ 2 rfl)) (ao (eE (bq (cJ 0)) (aQ 3 rfl) (ao (eC (tm (i:=1) (cJ 2))) (Fh (i:=2) (cQ 2 rfl) (am bC (ax 3) (bT 1))))) (aA (j7 (aa (bo 1) (aa (bo 2) ac))))))))
def vx:PTS:=psO nY
def vy:PRl eP vx 4 1:=λ_ Q h=>uq h λd _ h=>cm h λh=>r_ rfl <| by
 walk_at "z";obtain⟨cs,hd,⟨hn,hs,hc⟩,q⟩:=h;have hlm:(cs.map nD).length=cs.length:=length_map _;walk_at "r";refine HM hd ?_
 refine IS (xs:=cs) (e:=nD) (λpre ρ=>∃v:Option PV,ρ=[some (.dat d),some (.own ((c_ pre.length).map λi=>nD (stp cs i))),some (.dat (.int ((stp cs pre.length:Nat):Int))),v]) ⟨_,rfl⟩ ?_ ?_
 .rintro pre x suf ρ ew ⟨v,rfl⟩;have hl:pre.length<cs.length:=by rw [ew];simp
  have hx:x=cs.getD pre.length 0:=by
   rw [cn,ew,LP (e_ _)];simp
  have hx9:=hc x (by rw [ew];simp);have hs1:stp cs pre.length<=500:=p_ (by have:=AH cs pre.length (cs.length - pre.length);rwa [show pre.length+(cs.length - pre.length)=cs.length by omega] at this) hs;have hsm:((c_ pre.length).map λi=>nD (stp cs i)).length=pre.length:=by rw [length_map,length_range]
  have hm:Bh ((stp cs pre.length:Nat):Int) ((x:Int)+1):=.inr ⟨by omega,by omega⟩;have e1:nD x=.int (x:Int):=rfl;rw [e1];walk_at "r";refine⟨some (.dat (.int (x:Int))),?_⟩;rw [length_append,show pre.length+[x].length=pre.length+1 from rfl,range_succ,map_append,show stp cs (pre.length+1)=stp cs pre.length*(x+1) by rw [hx];rfl,natCast_mul];rfl
 .rintro ρ ⟨v,rfl⟩;walk_at "r";exact q
noncomputable def kv:PTS:=(iX (sZ (i5 bS (bF (pFz (uM 1)) di))) (iX (sZ (i5 dB (bF (pFz (uM 1)) di))) (iX (sZ (i5 cU (bF (pFz (uM 2)) (bF (pFz (pCB BL (bF (pSl 1) di))) di)))) (iX (JH (pB (pOp fGt (pFz (pOp fIx (pFz (i5 eP (bF (pFz (uM 2)) di))) (pFz (pC (.int 1))))) (pFz (pC (.int 500))))) zD zC) (iX (im "Often" [] "pieces" 0 (pCB lR (bF (pSl 1) di))) (iX (im "Often" ["pieces"] "counts" 0 (pCB lR (bF (pSl 2) di))) (iX (im "Often" ["pieces","counts"] "laps" 0 (i5 dt (bF (pFz (wM "Often" ["pieces","counts"] 0 (pSl 0))) di))) (im "Often" ["pieces","counts","laps"] "total" 0 (pCB BN (bF (pFz (uO [none,none] (G8 (bF (pFz (wM "Often" ["pieces","counts","laps"] 0 (pSl 0))) (bF (pFz (wM "Often" ["pieces","counts","laps"] 1 (pSl 0))) di))) (tJ 2 (wL (dS 0) (wL (dS 1) EE))) zF (pOp JD (pFz (pCB BL (bF (pSl 0) di))) (pSl 1)))) di))))))))))
def gY:RRl bO kv 3 3:=λ_ _ Q h=>KT h λh=>uq h λd _ h=>uq h λe _ h=>cm h λh=>r_ rfl <| by
 walk_at "z";obtain⟨ps,hd,cs,he,⟨hn,hp,hk,hcl,hc,hs⟩,q⟩:=h;have hpm:(ps.map D.str).length=ps.length:=length_map _;have hcm:(cs.map nD).length=cs.length:=length_map _;have g1:ps.length<=40/\Pcs 60 ps:=⟨by omega,hp⟩
 have g2:ps.length<=40/\Pcs 60 ps/\(∀i,i<ps.length->bB ps i=true):=⟨by omega,hp,hk⟩
 have g5:ps.length<=1000/\∀w∈ps,0<w.length/\w.length<=10000:=⟨by omega,λw hw=>⟨(hp w hw).1,p_ (hp w hw).2.1 (by decide)⟩⟩
 have g4:cs.length<=40/\stp cs cs.length<=500/\∀c∈cs,c<=9:=⟨by omega,hs,λc h=>(hc c h).2⟩
 walk_at "r";refine⟨ps,hd,g1,?_⟩;walk_at "r";refine⟨ps,hd,g2,?_⟩;walk_at "r";refine Dd hd ?_;walk_at "r";refine⟨cs,he,⟨by omega,by omega,λc h=>by have:=hc c h;omega⟩,?_⟩;walk_at "r";refine⟨cs,he,g4,?_⟩;walk_at "r"
 rcases hd with rfl|rfl <;> rcases he with rfl|rfl <;> (
  walk_at "r"
  refine cmZ (xs:=ps) (ys:=cs) (e:=D.str) (e':=nD) (λp c=>.int ((p.length:Int)*(c:Int))) ?_ ?_
  .intro p c hpc v w K1 k1;have h1:=(hp p (of_mem_zip hpc).1).2.1;have hm:Bh (p.length:Int) (c:Int):=.inl ⟨by omega,by omega⟩;walk_at "r";exact k1 _ _
  intro v w;walk_at "r";refine⟨(ps.zip cs).map λp=>(p.1.length:Int)*(p.2:Int),by rw [map_map];rfl,?_⟩;walk_at "r";exact q)
noncomputable def jf(K:b_)(mg:Str->Option Value)(t:TxC K):=(have TC:=t;show LS K [] _ _ from (ao (aB (wR (ix:=[none,none,none]) rfl (m7 (aa (ag (bD (ns0:=["pieces","counts","laps","total"]) TC.cl_Often TC.n_Often_counts (i:=1) (by decide +kernel) (ax 0))) ac)) (λfs hc=>(dk (n:=2) (aK (aQ 0 (dH hc (by decide))) (aK (aQ 1 (dH hc (by decide))) cj)))) bu (ml (aa (bo 1) ac)) (λfs hc=>(aQ 2 (dH hc (by decide)))) bu (cJ 0)) (cQ 2 rfl)) (aA (hX (ar (c:=dz) (aa (bo 1) (aa (ag (aD aH (aa (ax 2) ac))) ac))) (am eF (ag (aD B0 (aa (ax 1) ac))) (ax 2))))))
def pJ:PTS:=psO jf
def pK:PRl fu pJ 3 2:=λ_ Q h=>Co h λc ns fs _ h=>ur h λds _ h=>cm h λh=>r_ rfl <| by
 walk_at "z";obtain⟨rfl,rfl,ps,cs,rfl,⟨hn,hc⟩,js,rfl,hp,q⟩:=h;have hcm:(cs.map nD).length=cs.length:=length_map _;have hrl:=iF hc cs.length;rw [Aw js];have hzp:(js.map λk=>((k:Nat):Int)).Perm ((rwN cs cs.length).map λk=>((k:Nat):Int)):=hp.map _;generalize (js.map λk=>((k:Nat):Int))=zs at hzp;have hzl:=hzp.length_eq;rw [length_map] at hzl;walk_at "r"
 refine⟨⟨λk ys τ=>ys=(rwN cs k).map nD/\∃v w z:Option PV,τ=[v,w,z],⟨rfl,_,_,_,rfl⟩,?_,?_⟩⟩
 .rintro k ys τ _ hk rfl ⟨rfl,v,w,z,rfl⟩;have hk2:k<cs.length:=by rw [hcm] at hk;exact hk
  have cb:cs.getD k 0<=9:=by rw [cn,cx hk2];exact hc _ (FX _)
  have hrk:=iF hc k;rw [zY hk];walk_at "r";rw [toNat_natCast]
  refine⟨λj zs τ=>zs=(rwN cs k++q_ j k).map nD/\∃z:Option PV,τ=[some (.dat (.int (k:Int))),some (.dat (.int ((cs.getD k 0:Nat):Int))),z],⟨by rw [replicate_zero,Eo],_,rfl⟩,?_,?_⟩
  .rintro j zs τ _ hj rfl ⟨rfl,z,rfl⟩;walk_at "r";refine⟨by rw [length_map,length_append,length_replicate];omega,?_,_,rfl⟩;rw [List.replicate_succ',<- append_assoc,map_append (l₁:=_++_)];rfl
  .rintro zs τ ⟨rfl,z,rfl⟩;exact⟨by rw [gP],_,_,_,rfl⟩
 .rintro ys τ ⟨rfl,v,w,z,rfl⟩;rw [hcm];have hrm:((rwN cs cs.length).map nD).length=(rwN cs cs.length).length:=length_map _;have hz:(zs.length:Int)=((rwN cs cs.length).length:Nat)/\(((rwN cs cs.length).length:Nat):Int)<=1000:=⟨by omega,by omega⟩
  have h64:zs.length<64:=by omega
  walk_at "r";intro ns' h1 h2;have e1:CU (D.lst (ns'.map D.int)) (D.lst ((rwN cs cs.length).map nD)):=by rw [Aw];exact CU.of (Sh.lstI _) (Sh.lstI _)
  have e2:deq (D.lst (ns'.map D.int)) (D.lst ((rwN cs cs.length).map nD))=true:=by
   rw [Aw,wV,Ct h1 h2 (qo cs cs.length)];exact decide_eq_true hzp
  walk_at "r";rw [e2];exact q
noncomputable def nZ(K:b_)(mg:Str->Option Value)(t:TxC K):=(have TC:=t;show LS K [] _ _ from (ao (cw (e6 (sy (ar (c:=fu) (aa (bo 0) (aa (bo 1) ac))))) dw bb) (aA (ar (c:=jJ) (aa (ag (bD (ns0:=["pieces","counts","laps","total"]) TC.cl_Often TC.n_Often_pieces (i:=0) (by decide +kernel) (ax 0))) (aa (ag (bD (ns0:=["pieces","counts","laps","total"]) TC.cl_Often TC.n_Often_laps (i:=2) (by decide +kernel) (ax 0))) (aa (bo 1) ac)))))))
def vz:PTS:=psO nZ
def vA:PRl gQ vz 2 2:=λ_ Q h=>Co h λc ns fs _ h=>ur h λds _ h=>cm h λh=>r_ rfl <| by
 walk_at "z";obtain⟨rfl,rfl,ps,cs,rfl,⟨hn,hc,hcp,hw⟩,js,rfl,hp,q⟩:=h;have hrl:=iF hc cs.length;have hpl:=hp.length_eq;have h0:cs.length<=4/\∀c∈cs,c<=9:=⟨hn,hc⟩
 have h1:ps.length<=60/\∀w∈ps,w.length<=60:=⟨by omega,hw⟩
 walk_at "r";refine⟨ps,cs,rfl,h0,js,rfl,hp,?_⟩;walk_at "r";exact⟨⟨by omega,λj m=>by rw [<- hcp];exact xo (hp.mem_iff.mp m)⟩,q⟩
noncomputable def t9(K:b_)(mg:Str->Option Value)(t:TxC K):=(have TC:=t;show LS K [] _ _ from (ao (aB (eB ac) (cQ 2 rfl)) (ao (eE (m7 (aa (ag (bD (ns0:=["pieces","counts","laps","total"]) TC.cl_Often TC.n_Often_pieces (i:=0) (by decide +kernel) (ax 0))) ac)) (dk (n:=2) (aK (aQ 3 rfl) (aK (aQ 4 rfl) cj))) (ao (aB (bh (ag (ar (c:=nL) (aa (bo 1) (aa (bo 4) ac)))) bn (aZ (am bz (ag (bD (ns0:=["pieces","counts","laps","total"]) TC.cl_Often TC.n_Often_counts (i:=1) (by decide +kernel) (ax 0))) (ax 3)))) (cQ 5 rfl)) (ao (cw (iT (am uN (ag (aD aH (aa (ax 5) ac))) (ag (am bz (ag (bD (ns0:=["pieces","counts","laps","total"]) TC.cl_Often TC.n_Often_counts (i:=1) (by decide +kernel) (ax 0))) (ax 3))))) dw bb) (Fi (i:=2) (aO (ix:=[none,some 3]) rfl (bq (cJ 5)) (λfs hc=>(aQ 0 (dH hc (by decide)))) bu (j7 (aa (bo 0) (aa (bo 1) ac)))))))) (aA (aD cH (aa (ag (aO (ix:=[none,none]) rfl (bq (aD Cb (aa (ax 2) ac))) (λfs hc=>(dk (n:=2) (aK (aQ 0 (dH hc (by decide))) (aK (aQ 1 (dH hc (by decide))) cj)))) bu (cJ 1))) ac))))))
def A2:PTS:=psO t9
def A3:PRl ko A2 6 2:=λ_ Q h=>Co h λc ns fs _ h=>oV h λt _ h=>cm h λh=>r_ rfl <| by
 walk_at "z";obtain⟨rfl,rfl,ps,cs,rfl,⟨hn,hp,hk,hcl,hc,ht⟩,he,q⟩:=h;have hpm:(ps.map D.str).length=ps.length:=length_map _
 have ca:∀i,i<ps.length->atI (cs.map nD) (i:Int)=some (.int ((cs.getD i 0:Nat):Int)):=λi hi=>by
  refine c9 (j:=i) ?_ rfl;rw [h_,cx (show i<cs.length by omega),cn,cx (show i<cs.length by omega)];rfl
 walk_at "r"
 refine KO (xs:=ps) (e:=D.str) (λpre ρ=>(∃v3 v4 v5:Option PV,ρ=[some (.dat (.obj "Often" Cr (Cs ps cs))),some (.dat (.str t)),some (.own (((qq ps cs t pre.length).map prR).map A9)),v3,v4,v5])/\∀j,j<pre.length->cs.getD j 0<=(plN t (pw ps j)).length) ⟨⟨_,_,_,rfl⟩,nofun⟩ ?_ ?_
 .rintro pre x suf ρ ew ⟨⟨v3,v4,v5,rfl⟩,hf⟩;have hl:pre.length<ps.length:=by rw [ew];simp
  have hx:x=pw ps pre.length:=by
   have h1:ps[pre.length]?=some x:=by rw [ew,LP (e_ _)];simp
   rw [bR hl] at h1;exact (pf h1).symm
  have hx0:=(hp x (by rw [ew];simp)).1;subst hx;have g1:t.length<=100000/\0<(pw ps pre.length).length:=⟨ht,hx0⟩
  have hal:=rL (ps:=ps) (t:=t) hc pre.length;have ha2:(((qq ps cs t pre.length).map prR).map A9).length<=36:=by rw [length_map,length_map];omega
  have hfl:=xq ps cs t pre.length;have cut:dg ((plN t (pw ps pre.length)).map nD) none (some ((cs.getD pre.length 0:Nat):Int))=((plN t (pw ps pre.length)).take (cs.getD pre.length 0)).map nD:=by rw [dI,map_take]
  have cb:cs.getD pre.length 0<=9:=by rw [cn,cx (show pre.length<cs.length by omega)];exact hc _ (FX _)
  have tl:(((plN t (pw ps pre.length)).take (cs.getD pre.length 0)).map nD).length=min (cs.getD pre.length 0) (plN t (pw ps pre.length)).length:=by rw [length_map,length_take]
  walk_at "r";refine⟨_,ca _ hl,?_⟩;walk_at "r";rw [cut];walk_at "r";refine⟨_,ca _ hl,?_⟩;walk_at "r"
  refine dU (λc=>?_) (λc=>?_)
  .have:=he _ hl;omega
  .walk_at "r"
   refine cm1 (λp=>A9 (prR (p,pre.length))) (λp hp v K1 k1=>?_) (λv=>?_)
   .walk_at "r";exact k1 _
   .have e1:((plN t (pw ps pre.length)).take (cs.getD pre.length 0)).map (λp=>A9 (prR (p,pre.length)))=((Bb ps cs t pre.length).map prR).map A9:=by unfold Bb;rw [map_map,map_map];rfl
    rw [e1];walk_at "r"
    refine⟨?_,λj hj=>?_⟩
    .rw [length_append,show pre.length+[pw ps pre.length].length=pre.length+1 from rfl,km,map_append,map_append];exact⟨_,_,_,rfl⟩
    .rw [length_append] at hj;have hj:j<pre.length+1:=hj
     by_cases e:j=pre.length
     .rw [e];omega
     .exact hf j (by omega)
 .rintro ρ ⟨⟨v3,v4,v5,rfl⟩,hf⟩;have hal:=rL (ps:=ps) (t:=t) hc ps.length
  have hso:((qq ps cs t ps.length).map prR).length<64/\∀r∈(qq ps cs t ps.length).map prR,r≠[]:=⟨by rw [length_map];omega,λr hr=>by
   obtain⟨k,_,e⟩:=Lv.mp hr;rw [<- e];exact nofun⟩
  walk_at "r";rintro rs h1 h2;obtain⟨rows,rfl,ok⟩:=Fm hk hf h1 h2;have hpl:=ok.perm.length_eq;have hrm:((rows.map prR).map A9).length=rows.length:=by rw [length_map,length_map]
  walk_at "r"
  refine cm2 (λr=>.int (r.getD 1 0)) (λr hr v w K1 k1=>?_) (λv w=>?_)
  .obtain⟨k,_,rfl⟩:=Lv.mp hr;walk_at "r";exact k1 _ _
  .have e3:(rows.map prR).map (λr=>D.int (r.getD 1 0))=rows.map λr=>nD r.2:=by rw [map_map];rfl
   rw [e3];have hrl:(rows.map λr=>nD r.2).length=rows.length:=length_map _;walk_at "r";exact q rows ok
noncomputable def jg(K:b_)(mg:Str->Option Value)(t:TxC K):=(have TC:=t;show LS K [] _ _ from (ao (aB (qT false (aa (ag (aD aH (aa (ag (bD (ns0:=["pieces","counts","laps","total"]) TC.cl_Often TC.n_Often_pieces (i:=0) (by decide +kernel) (ax 0))) ac))) ac)) (cQ 2 rfl)) (ao (cw (e6 (sy (ar (c:=iD) (aa (bo 1) (aa (ag (bD (ns0:=["pieces","counts","laps","total"]) TC.cl_Often TC.n_Often_laps (i:=2) (by decide +kernel) (ax 0))) (aa (ag (wR (ix:=[none,none,some 2]) rfl (bq (cJ 2)) (λfs hc=>(aQ 0 (dH hc (by decide)))) bu (bq (cJ 2)) (λfs hc=>(aQ 1 (dH hc (by decide)))) bu (j7 (aa (bo 0) (aa (bo 1) ac))))) ac)))))) (aA GV) bb) (ao (aB (cJ 1) (wS (n:=2) (aK (aQ 3 rfl) (aK (aQ 4 rfl) cj)))) (aA (am j8 (ag (bD (ns0:=["pieces","counts","laps","total"]) TC.cl_Often TC.n_Often_total (i:=3) (by decide +kernel) (ax 0))) (ag (aD uQ (aa (ag (aO (ix:=[none,some 0,some 3,some 4]) rfl (bq (cJ 2)) (λfs hc=>(aQ 0 (dH hc (by decide)))) bu (am hZ (ag (am bz (ag (bD (ns0:=["pieces","counts","laps","total"]) TC.cl_Often TC.n_Often_counts (i:=1) (by decide +kernel) (ax 1))) (ax 0))) (ag (am bC (ag (am bz (ax 2) (ax 0))) (ag (am bz (ax 3) (ax 0)))))))) ac)))))))))
def pL:PTS:=psO jg
def pM:PRl fA pL 5 2:=λ_ Q h=>Co h λc ns fs _ h=>ur h λds _ h=>cm h λh=>r_ rfl <| by
 walk_at "z";obtain⟨rfl,rfl,ps,cs,rfl,gs,rfl,⟨hn,hcl,hc,gl,g0,hL⟩,q⟩:=h;generalize hts:q_ ps.length (0:Int)=ts;have ts0:∀z∈ts,z=0:=λz hz=>by rw [<- hts] at hz;exact (M_.mp hz).2
 have tl:ts.length=ps.length:=by rw [<- hts,length_replicate]
 have tz:∀i,i<ps.length->ts.getD i 0=0:=λi hi=>by rw [cn,cx (by omega)];exact ts0 _ (FX _)
 have hpm:(ps.map D.str).length=ps.length:=length_map _;have hrl:(uo 0 ps.length).length=ps.length:=nq ps.length;have hal:=rM ps.length (c_ ps.length);rw [length_range] at hal;have hnn:ps.length*ps.length<=20*20:=Oc hn hn
 have gpay:ps.length<=40/\(Il ps.length).length<=1600/\(∀zs∈[gs,ts],zs.length=ps.length/\∀z∈zs,0<=z)/\∀p∈Il ps.length,p.1<ps.length/\p.2<ps.length/\(cA (pw ps p.1) (pw ps p.2):Int)<=gs.getD p.1 0+ts.getD p.2 0:=⟨by omega,by unfold Il;omega,λzs hz=>by
  simp only [C_,not_mem_nil,or_false] at hz
  rcases hz with rfl|rfl
  .exact⟨gl,g0⟩
  .exact⟨tl,λz h=>by rw [ts0 z h];exact Int.le_refl _⟩,λp hp=>by
  obtain⟨a,b⟩:=Cu.mp hp;have l:=hL _ _ a b;rw [tz _ b];exact⟨a,b,by omega⟩⟩
 have ca:∀i,i<ps.length->atI (cs.map nD) (i:Int)=some (.int ((cs.getD i 0:Nat):Int)):=λi hi=>by
  refine c9 (j:=i) ?_ rfl;rw [h_,cx (show i<cs.length by omega),cn,cx (show i<cs.length by omega)];rfl
 have cb:∀i,i<ps.length->cs.getD i 0<=9:=λi hi=>by
  rw [cn,cx (show i<cs.length by omega)];exact hc _ (FX _)
 walk_at "r";rw [hpm,toNat_natCast,hrl]
 refine⟨⟨λk ys τ=>ys=((c_ k).flatMap λi=>(c_ ps.length).map λj=>(i,j)).map prT/\∃v w:Option PV,τ=[v,w,some (.dat (.lst (uo 0 ps.length)))],⟨rfl,_,_,rfl⟩,?_,?_⟩⟩
 .rintro k ys τ _ hk rfl ⟨rfl,v,w,rfl⟩;rw [nr (by rw [hrl];exact hk)];have hlen:=rM ps.length (c_ k);rw [length_range] at hlen;have hkn:k*ps.length<=20*20:=Oc (by omega) hn;walk_at "r";rw [hrl]
  refine⟨λj zs τ=>zs=((c_ k).flatMap λi=>(c_ ps.length).map λj=>(i,j)).map prT++((c_ j).map λj=>(k,j)).map prT/\∃w:Option PV,τ=[some (.dat (.int (k:Int))),w,some (.dat (.lst (uo 0 ps.length)))],⟨(Eo _).symm,w,rfl⟩,?_,?_⟩
  .rintro j zs τ _ hj rfl ⟨rfl,w,rfl⟩;rw [nr (by rw [hrl];exact hj)];walk_at "r"
   refine⟨?_,?_,_,rfl⟩
   .rw [length_append,length_map,length_map,length_map,length_range];omega
   .rw [range_succ,map_append,map_append,<- append_assoc];rfl
  .rintro zs τ ⟨rfl,w,rfl⟩;refine⟨?_,_,_,rfl⟩;rw [range_succ,flatMap_append,map_append,flatMap_cons,flatMap_nil,Eo]
 rintro ys τ ⟨rfl,v,w,rfl⟩;walk_at "r";refine⟨gs,ts,rfl,_,rfl,_,rfl,gpay,?_⟩;walk_at "r";rw [hrl]
 refine yt (λτ=>∃v:Option PV,τ=[v,some (.dat (.obj "Often" Cr (Cs ps cs))),some (.dat (.lst (gs.map .int))),some (.dat (.lst (ts.map .int)))]) (λi=>.int (((cs.getD i 0:Nat):Int)*gs.getD i 0)) ⟨_,rfl⟩ ?_ ?_
 .rintro i τ d hi ed ⟨v,rfl⟩ K1 k1;rw [nr (by rw [hrl];exact hi)] at ed;subst ed;have hm:Bh ((cs.getD i 0:Nat):Int) (gs.getD i 0):=.inl (by have:=cb i hi;exact⟨by omega,by omega⟩);have hz:=tz i hi;have ga:=xn (zs:=gs) (i:=i) (by omega);have ta:=xn (zs:=ts) (i:=i) (by omega);rw [hz] at ta;have h0:gs.getD i 0+0=gs.getD i 0:=O6 _;walk_at "r";refine⟨_,ca i hi,?_⟩;walk_at "r";refine⟨_,ga,?_⟩;walk_at "r"
  refine⟨_,ta,?_⟩;walk_at "r";rw [h0];walk_at "r";exact k1 _ ⟨_,rfl⟩
 .rintro τ ⟨v,rfl⟩;walk_at "r";refine⟨ctS gs cs ps.length,by unfold ctS;rw [map_map];rfl,?_⟩;walk_at "r";exact q
noncomputable def qw(K:b_)(mg:Str->Option Value)(t:TxC K):=(have TC:=t;show LS K [] _ _ from (aA (aO (ix:=[none,some 0]) rfl (ml (aa (ag (E8 (cJ 0))) ac)) (λfs hc=>(aQ 0 (dH hc (by decide)))) (J7 (am EV (ag (am HK (ax 1) (ax 0))) (bT 1))) (cJ 0))))
def yb:PTS:=psO qw
def yc:PRl fX yb 1 1:=λ_ Q h=>dn h λm _ h=>cm h λh=>r_ rfl <| by
 walk_at "z";obtain⟨k,rfl,hk,q⟩:=h;have hb:=x0 hk;have hb8:=(tU hk).2;walk_at "r"
 refine cfR (λj=>k.testBit j) (λj=>nD j) (λj hj v K1 K2 k1 k2=>?_) (λv=>?_)
 .have e:=Im k j;show (0:Int)<=(j:Int)/\il (MB ((k:Int) / 2^(j:Int).toNat) 1 != 0) _ _;refine⟨by omega,?_⟩;rw [e]
  cases h:k.testBit j with
  | true=>exact k1 _ h
  | false=>exact k2 _ h
 .rw [toNat_natCast,hb];exact q
noncomputable def n5(K:b_)(mg:Str->Option Value)(t:TxC K):=(have TC:=t;show LS K [] _ _ from (ao (cw (iT (am tG (ag (aD aH (aa (ax 0) ac))) (ag (aD aH (aa (ax 1) ac))))) (aA (am uN (ag (aD aH (aa (ax 0) ac))) (ag (aD aH (aa (ax 1) ac))))) bb) (aA (am uN (ax 0) (ax 1)))))
def vB:PTS:=psO n5
def vC:PRl jK vB 2 2:=λ_ Q h=>oV h λa _ h=>oV h λb _ h=>cm h λh=>r_ rfl <| by
 walk_at "z";have h:Q (.dat (.bl (ahB a b))):=h;unfold ahB at h;walk_at "r"
 refine uK (λc=>?_) (λc=>?_)
 .rw [if_pos (by omega)] at h;walk_at "r";rw [show decide ((a.length:Int)<(b.length:Int))=decide (a.length<b.length) from decide_eq_decide.mpr (by omega)];exact h
 .rw [if_neg (by omega)] at h;walk_at "r";exact h
noncomputable def n6(K:b_)(mg:Str->Option Value)(t:TxC K):=(have TC:=t;show LS K [] _ _ from (ao (aB (am bz (ax 0) (bT 0)) (cQ 1 rfl)) (ao (eE (bq (bh (ax 0) (aZ (Ba 1)) bn)) (aQ 2 rfl) (cw (sy (ar (c:=jK) (aa (bo 2) (aa (bo 1) ac)))) (aB (cJ 2) (cQ 1 rfl)) bb)) (aA (cJ 1)))))
def vD:PTS:=psO n6
def vE:PRl eQ vD 3 1:=λ_ Q h=>xk h λds _ h=>cm h λh=>r_ rfl <| by
 walk_at "z";obtain⟨ts,rfl,⟨hne,hl⟩,q⟩:=h;obtain⟨t0,r,rfl⟩:∃t0 r,ts=t0::r:=by cases ts with|nil=>exact absurd rfl hne|cons t0 r=>exact⟨t0,r,rfl⟩
 have hl:r.length+1<=100000:=hl;have c1:dg ((t0::r).map D.str) (some 1) none=r.map D.str:=KP _ _;have hat:atI ((t0::r).map D.str) 0=some (.str t0):=c9 (j:=0) rfl rfl;walk_at "r";refine⟨_,hat,?_⟩;walk_at "r";rw [c1];walk_at "r"
 refine IS (α:=List Nat) (e:=D.str) (xs:=r) (λ(pre:List (List Nat)) ρ=>∃(b:List Nat) (v:Option PV),Lst (·∈t0::pre) b/\ρ=[some (.dat (.lst ((t0::r).map .str))),some (.dat (.str b)),v]) ⟨_,_,u5 t0,rfl⟩ ?_ ?_
 .rintro pre x suf ρ ej ⟨b,v,hb,rfl⟩;have hs:=xi (t:=x) hb;walk_at "r"
  refine GS (λc=>?_) (λc=>?_)
  .rw [if_pos c] at hs;walk_at "r";exact⟨x,_,hs,rfl⟩
  .rw [if_neg (by rw [c];decide)] at hs;exact⟨b,_,hs,rfl⟩
 rintro ρ ⟨b,v,hb,rfl⟩;walk_at "r";exact q b hb
noncomputable def fb(K:b_)(mg:Str->Option Value)(t:TxC K):=(have TC:=t;show LS K [] _ _ from (cw (iT (am mh (ag (wN (c0:="Family") (m:="many") (ns0:=["pieces","kept","words","left","laps","total"]) (c:=b9) (by decide +kernel) (cJ 0) ac)) (bT 12))) dw bb))
def kx:PTS:=psO fb
def ky:PRl cW kx 1 1:=λ_ Q h=>Co h λc ns fs _ h=>cm h λh=>r_ rfl <| by
 walk_at "z";obtain⟨rfl,rfl,ps,rfl,h12,q⟩:=h;walk_at "r";exact q
noncomputable def n8(K:b_)(mg:Str->Option Value)(t:TxC K):=(have TC:=t;show LS K [] _ _ from (aA (wZ (aO (ix:=[none,none]) rfl (zE (aa (bo 0) (aa (bo 1) ac))) (λfs hc=>(dk (n:=2) (aK (aQ 0 (dH hc (by decide))) (aK (aQ 1 (dH hc (by decide))) cj)))) bu (aO (ix:=[none,some 0]) rfl (bq (cJ 1)) (λfs hc=>(aQ 0 (dH hc (by decide)))) bu (bh (ax 1) bn (aZ (am j8 (ag (aD aH (aa (ax 1) ac))) (ax 0)))))))))
def vF:PTS:=psO n8
def vG:PRl jM vF 2 2:=λ_ Q h=>ur h λds _ h=>ur h λls _ h=>cm h λh=>r_ rfl <| by
 walk_at "z";obtain⟨ws,rfl,⟨hls,hn,hw⟩,q⟩:=h;unfold kY at hls;cases hls;have hm1:(ws.map D.str).length=ws.length:=length_map _;have hm2:(ws.map λw=>D.tup (ws.map λv=>.int (cA w v:Int))).length=ws.length:=length_map _;walk_at "r"
 refine yt (λτ=>∃v w:Option PV,τ=[v,w]) (λi=>.lst ((c_ ws.length).map λj=>.str (hdW ws i j))) ⟨_,_,rfl⟩ ?_ ?_
 .rintro i τ _ hi rfl ⟨v,w,rfl⟩ K1 k1;rw [hm1,hm2,min_self] at hi;have hwi:=hw _ (bN hi);rw [show itD (ws.map D.str) i=.str (pw ws i) from i4 (by rw [h_,bR hi];rfl),show itD (ws.map λw=>D.tup (ws.map λv=>.int (cA w v:Int))) i=.tup (ws.map λv=>.int (cA (pw ws i) v:Int)) from i4 (by rw [h_,bR hi];rfl)];walk_at "r"
  refine cm1 (e:=λu=>D.int (cA (pw ws i) u:Int)) (xs:=ws) (λu=>.str ((pw ws i).take ((pw ws i).length - cA (pw ws i) u))) (λu hu v K2 k2=>?_) (λv=>?_)
  .have hl:=(gv hwi.1 (hw u hu).1).1;walk_at "r";rw [show ((pw ws i).length:Int) - (cA (pw ws i) u:Int)=(((pw ws i).length - cA (pw ws i) u:Nat):Int) by omega,dI];exact k2 _
  .rw [DA (α:=Nat) (λu=>D.str ((pw ws i).take ((pw ws i).length - cA (pw ws i) u))) ws];exact k1 _ ⟨_,_,rfl⟩
 .rintro τ ⟨v,w,rfl⟩;rw [hm1,hm2,min_self];exact q
noncomputable def lX(K:b_)(mg:Str->Option Value)(t:TxC K):=(have TC:=t;show LS K [] _ _ from (aA (wZ (aO (ix:=[none]) rfl (ml (aa (ag (am C9 (bT 1) (ax 0))) ac)) (λfs hc=>(aQ 0 (dH hc (by decide)))) bu (aO (ix:=[none,some 0]) rfl (bq (ar (c:=fX) (aa (bo 0) ac))) (λfs hc=>(aQ 0 (dH hc (by decide)))) bu (j7 (aa (bo 0) (aa (ag (am j8 (ax 1) (ag (am C9 (bT 1) (ax 0))))) ac))))))))
def ua:PTS:=psO lX
def ub:PRl iG ua 1 1:=λ_ Q h=>dn h λm _ h=>cm h λh=>r_ rfl <| by
 walk_at "z";obtain⟨k,rfl,hk,q⟩:=h;have hS:0<=(k:Int)/\(k:Int)<=1000000/\(1:Int).natAbs<2^64:=⟨by omega,by omega,by decide⟩
 have hp:2^k<=4096:=Mi (n:=2) (by decide) hk;have eS:=KU k;have hr2:(-1000000:Int)<=1*2^(k:Int).toNat:=by rw [eS];exact O_ (show (-1000000:Int)<=0 by decide) (natCast_nonneg _)
 have hr3:(1:Int)*2^(k:Int).toNat<=1000000:=by rw [eS];exact O_ (ofNat_le.mpr hp) (by decide)
 walk_at "r";rw [eS]
 refine cmR (λm=>chD ((kZ m).map λi=>(i,m - 2^i))) (λm hm v K1 k1=>?_) (λv=>?_)
 .rw [toNat_natCast] at hm;have h12:m<4096:=by omega
  have hl:=tV m;walk_at "r"
  refine cm1 (e:=nD) (xs:=kZ m) (λi=>.tup [nD i,nD (m - 2^i)]) (λi hi v K2 k2=>?_) (λv=>?_)
  .have hb:=(io h12).mp hi;have hi12:=rz (n:=12) h12 hb;have hle:=(rA h12 hb).1;have hS:0<=(i:Int)/\(i:Int)<=1000000/\(1:Int).natAbs<2^64:=⟨by omega,by omega,by decide⟩
   have eS:=KU i;walk_at "r";rw [eS,show (m:Int) - ((2^i:Nat):Int)=((m - 2^i:Nat):Int) by omega];exact k2 _
  .walk_at "r";have e:(kZ m).map (λi=>D.tup [nD i,nD (m - 2^i)])=((kZ m).map λi=>(i,m - 2^i)).map λp=>.tup [nD p.1,nD p.2]:=by rw [map_map];rfl
   rw [e];exact k1 _
 .rw [toNat_natCast];walk_at "r";unfold KW k6 at q;rw [map_map] at q;exact q
noncomputable def n9(K:b_)(mg:Str->Option Value)(t:TxC K):=(have TC:=t;show LS K [] _ _ from (ao (aB (eB ac) (cQ 3 rfl)) (ao (eE (bq (cJ 2)) (aQ 4 rfl) (ao (aB (aO (ix:=[none,none,some 3]) rfl (bq (cJ 4)) (λfs hc=>(dk (n:=2) (aK (aQ 0 (dH hc (by decide))) (aK (aQ 1 (dH hc (by decide))) cj)))) bu (j7 (aa (bo 0) (aa (ag (am bz (ag (am bz (ax 2) (ax 1))) (ax 0))) ac)))) (cQ 5 rfl)) (eC (tm (i:=3) (Jy (J9 (cJ 5)) (aO (ix:=[none,some 5]) rfl (bq (cJ 0)) (λfs hc=>(aQ 0 (dH hc (by decide)))) bu (ar (c:=eQ) (aa (ag (aO (ix:=[none,none,some 0]) rfl (bq (cJ 1)) (λfs hc=>(dk (n:=2) (aK (aQ 0 (dH hc (by decide))) (aK (aQ 1 (dH hc (by decide))) cj)))) bu (am bC (ag (am bz (ax 2) (ax 0))) (ax 1)))) ac))) (aD zL (aa (ax 1) ac))))))) (aA (cJ 3)))))
def vH:PTS:=psO n9
def vI:PRl jN vH 6 3:=λ_ Q h=>xk h λhs _ h=>uq h λla _ h=>xk h λcs _ h=>cm h λh=>r_ rfl <| by
 walk_at "z";obtain⟨w,hd,rfl,L,rfl,ls,⟨hla,hL,h60,hl60,hw⟩,q⟩:=h;have hcm:(L.map chD).length=L.length:=length_map _;have hmany:=hL.many;have hhl:(hdD w hd).length=w:=by unfold hdD;rw [length_map,length_range]
 walk_at "r"
 refine⟨λk ρ=>∃(es:List (List (List Nat))) (v3 v4 v5:Option PV),nM L hd ls w k es/\ρ=[some (.dat (.lst (hdD w hd))),some (.dat la),some (.dat (.lst (L.map chD))),some (.own (esD es)),v4,v5],⟨[],none,_,_,⟨rfl,(λn h=>absurd h (Mg _)),λn h=>absurd h (Mg _)⟩,rfl⟩,?_,?_⟩
 .rintro k ρ d hk ed ⟨es,v3,v4,v5,hE,rfl⟩;rw [hcm] at hk;subst ed;rw [DB hk];have hch:=hL.ch k;have hfew:=hL.few k;have hel:=hE.len;generalize hc:L.getD k []=c at hch hfew;have hcl:(c.map λp=>D.tup [nD p.1,nD p.2]).length=c.length:=length_map _;have hesl:(esD es).length=k:=by unfold esD;rw [length_map];exact hel
  have hE2:∀p∈c,p.2<k/\p.1<w/\(es.getD p.2 []).length=w/\((es.getD p.2 []).getD p.1 []).length<=300000:=λp hp=>by
   have:=hch p hp;exact⟨this.2,this.1,hE.wid _ this.2,hE.txt hL h60 hl60 this.2 (by omega) this.1⟩
  walk_at "r"
  refine cm2 (e:=λp:Nat×Nat=>D.tup [nD p.1,nD p.2]) (xs:=c) (λp=>.tup [nD p.1,.str ((es.getD p.2 []).getD p.1 [])]) (λp hp v w2 K1 k1=>?_) (λv w2=>?_)
  .obtain⟨p1,p2,p3,p4⟩:=hE2 p hp;show tJ 2 _ (.dat (.tup [.int (p.1:Int),.int (p.2:Int)])) _ _;walk_at "r";refine⟨_,DC (by omega),?_⟩;walk_at "r";refine⟨_,bV (k:=p.1) (by rw [p3];exact p2) rfl,?_⟩;walk_at "r";exact k1 _ _
  have hnl:(c.map λp=>D.tup [nD p.1,.str ((es.getD p.2 []).getD p.1 [])]).length=c.length:=length_map _;have hnil:(!(c.map λp=>D.tup [nD p.1,.str ((es.getD p.2 []).getD p.1 [])]).isEmpty)=!c.isEmpty:=by cases c <;> rfl
  walk_at "r";rw [hnil]
  cases hce:c.isEmpty with
  | true =>
   have hcn:c=[]:=isEmpty_iff.mp hce;walk_at "r";refine EX hla ?_;walk_at "r";refine⟨es++[(c_ w).map ls],none,_,_,hE.snoc (by rw [length_map,length_range]) (λi hi=>by rw [DD hi];exact Fb (by rw [hc];exact hcn)),by unfold esD;rw [map_append,map_cons,map_map];rfl⟩
  | false =>
   have hcn:c≠[]:=λz=>by rw [z] at hce;cases hce
   walk_at "r";unfold hdD
   refine cm1 (e:=λi=>D.lst ((c_ w).map λj=>D.str (hd i j))) (xs:=c_ w) (λi=>.str (Cv (c.map λp=>hd i p.1++(es.getD p.2 []).getD p.1 []))) (λi hi v K1 k1=>?_) (λv=>?_)
   .have hi:=mem_range.mp hi;have hrl:((c_ w).map λj=>D.str (hd i j)).length=w:=by rw [length_map,length_range]
    walk_at "r"
    refine cm2 (e:=λp:Nat×Nat=>D.tup [nD p.1,.str ((es.getD p.2 []).getD p.1 [])]) (xs:=c) (λp=>.str (hd i p.1++(es.getD p.2 []).getD p.1 [])) (λp hp v w2 K1 k1=>?_) (λv w2=>?_)
    .obtain⟨p1,p2,p3,p4⟩:=hE2 p hp;have h6:=h60 i p.1;show tJ 2 _ (.dat (.tup [.int (p.1:Int),.str ((es.getD p.2 []).getD p.1 [])])) _ _;walk_at "r";refine⟨_,Io p2,?_⟩;walk_at "r";exact k1 _ _
    have e1:c.map (λp=>D.str (hd i p.1++(es.getD p.2 []).getD p.1 []))=(c.map λp=>hd i p.1++(es.getD p.2 []).getD p.1 []).map .str:=by rw [map_map];rfl
    have hne:c.map (λp=>hd i p.1++(es.getD p.2 []).getD p.1 [])≠[]/\(c.map λp=>hd i p.1++(es.getD p.2 []).getD p.1 []).length<=100000:=⟨λz=>hcn (MW.mp z),by rw [length_map];omega⟩
    rw [e1];walk_at "r";intro t ht;rw [ht.uniq (xr hne.1)];exact k1 _
   walk_at "r";refine⟨es++[(c_ w).map λi=>Cv (c.map λp=>hd i p.1++(es.getD p.2 []).getD p.1 [])],none,_,_,hE.snoc (by rw [length_map,length_range]) (λi hi=>?_),by unfold esD;rw [map_append,map_cons,map_map];rfl⟩;rw [DD hi]
   refine Cg (E:=λn j=>(es.getD n []).getD j []) (by rw [hc];exact hcn) (λp hp=>?_) ?_
   .rw [hc] at hp;have:=hch p hp;exact hE.lst _ this.2 _ this.1
   .rw [hc];exact xr λz=>hcn (MW.mp z)
 rintro ρ ⟨es,v3,v4,v5,hE,rfl⟩;rw [hcm] at hE;walk_at "r";exact q es hE
noncomputable def ic(K:b_)(mg:Str->Option Value)(t:TxC K):=(have TC:=t;show LS K [] _ _ from (ao (aB (ar (c:=jN) (aa (ag (ar (c:=jM) (aa (bo 0) (aa (bo 1) ac)))) (aa (bo 0) (aa (bo 2) ac)))) (cQ 3 rfl)) (aA (ar (c:=eQ) (aa (ag (Ig (aO (ix:=[none,none,some 3]) rfl (bq (am bz (ax 2) (ag (Ex zN (bT 1))))) (λfs hc=>(dk (n:=2) (aK (aQ 0 (dH hc (by decide))) (aK (aQ 1 (dH hc (by decide))) cj)))) bu (am bz (ag (am bz (ax 2) (ax 1))) (ax 0))) (eB (aa (ag (le_str (l:=[]))) ac)))) ac)))))
def mw:PTS:=psO ic
def mx:PRl cK mw 4 3:=λ_ Q h=>ur h λds _ h=>ur h λls _ h=>xk h λcs _ h=>cm h λh=>r_ rfl <| by
 walk_at "z";obtain⟨ws,rfl,L,rfl,⟨hls,hn,hw,hL,h0⟩,q⟩:=h;have g1:.tup ls=kY ws/\ws.length<=200/\∀w∈ws,0<w.length/\w.length<=60:=⟨hls,hn,hw⟩
 have hcm:(L.map chD).length=L.length:=length_map _;have hmany:=hL.many;have g2:pd (.tup (ws.map .str)) ((c_ ws.length).map λi=>.str (pw ws i))/\gR L ws.length/\(∀i j,(hdW ws i j).length<=60)/\(∀i,(pw ws i).length<=60)/\ws.length<=200:=⟨by rw [<- DA (α:=Nat) D.str ws];exact .inr rfl,hL,Iq hw,Ce λw h=>(hw w h).2,hn⟩
 walk_at "r";refine⟨_,_,rfl,L,rfl,pw ws,g2,?_⟩;intro es hE;have hel:=hE.len
 have hlast:atI (L.map chD) (-1)=some (chD (L.getD (L.length - 1) [])):=by
  have:=Fo (ds:=L.map chD) (by omega);rw [this,hcm,DB (by omega)]
 have hch:=hL.ch (L.length - 1);have hfew:=hL.few (L.length - 1);generalize hc:L.getD (L.length - 1) []=c at hch hfew hlast;have hcl:(c.map λp=>D.tup [nD p.1,nD p.2]).length=c.length:=length_map _;have hnil:(!(c.map λp=>D.str ((es.getD p.2 []).getD p.1 [])).isEmpty)=!c.isEmpty:=by cases c <;> rfl
 walk_at "r";refine⟨_,hlast,?_⟩;walk_at "r"
 refine cm2 (e:=λp:Nat×Nat=>D.tup [nD p.1,nD p.2]) (xs:=c) (λp=>.str ((es.getD p.2 []).getD p.1 [])) (λp hp v w2 K1 k1=>?_) (λv w2=>?_)
 .have p0:=hch p hp;have p3:=hE.wid p.2 (by omega);show tJ 2 _ (.dat (.tup [.int (p.1:Int),.int (p.2:Int)])) _ _;walk_at "r";refine⟨_,DC (by omega),?_⟩;walk_at "r";refine⟨_,bV (k:=p.1) (by rw [p3];exact p0.1) rfl,?_⟩;exact k1 _ _
 walk_at "r";rw [hnil]
 cases hce:c.isEmpty with
 | true =>
  have hcn:c=[]:=isEmpty_iff.mp hce;have e1:[D.str []]=[([]:List Nat)].map .str:=rfl;have g3:[([]:List Nat)]≠[]/\[([]:List Nat)].length<=100000:=⟨by decide,by decide⟩
  walk_at "r";refine⟨[[]],rfl,g3,?_⟩;intro t ht;rw [ht.uniq (u5 [])];exact q _ (Fn (by rw [hc];exact hcn))
 | false =>
  have hcn:c≠[]:=λz=>by rw [z] at hce;cases hce
  have e1:c.map (λp=>D.str ((es.getD p.2 []).getD p.1 []))=(c.map λp=>(es.getD p.2 []).getD p.1 []).map .str:=by rw [map_map];rfl
  have g3:c.map (λp=>(es.getD p.2 []).getD p.1 [])≠[]/\(c.map λp=>(es.getD p.2 []).getD p.1 []).length<=100000:=⟨λz=>hcn (MW.mp z),by rw [length_map];omega⟩
  walk_at "r";refine⟨_,e1,g3,?_⟩;intro t ht;refine q _ (Ir hw hL (by rw [hc];exact hcn) (Fc (E:=λn j=>(es.getD n []).getD j []) (by rw [hc];exact hcn) (λp hp=>?_) (by rw [hc];exact ht)));rw [hc] at hp;have p0:=hch p hp;exact hE.lst _ (by omega) _ p0.1
noncomputable def oa(K:b_)(mg:Str->Option Value)(t:TxC K):=(have TC:=t;show LS K [] _ _ from (ao (eC (ar (c:=cW) (aa (bo 0) ac))) (aA (ar (c:=cK) (aa (ag (bD (ns0:=["pieces","kept","words","left","laps","total"]) TC.cl_Family TC.n_Family_words (i:=2) (by decide +kernel) (ax 0))) (aa (ag (bD (ns0:=["pieces","kept","words","left","laps","total"]) TC.cl_Family TC.n_Family_laps (i:=4) (by decide +kernel) (ax 0))) (aa (ag (ar (c:=iG) (aa (ag (wN (c0:="Family") (m:="many") (ns0:=["pieces","kept","words","left","laps","total"]) (c:=b9) (by decide +kernel) (cJ 0) ac)) ac))) ac)))))))
def vJ:PTS:=psO oa
def vK:PRl jO vJ 1 1:=λ_ Q h=>Co h λc ns fs _ h=>cm h λh=>r_ rfl <| by
 walk_at "z";obtain⟨rfl,rfl,ps,rfl,⟨hps,h12⟩,q⟩:=h;have hwp:=fR hps;have hw:∀w∈al ps,0<w.length/\w.length<=60:=λw h=>⟨(hwp w h).1,(hwp w h).2.1⟩
 have hlt:=λ(t:List Nat) (h:Lst (GlS (al ps)) t)=>q t (Ck hps h);have g1:kY (al ps)=kY (al ps)/\(al ps).length<=200/\(∀w∈al ps,0<w.length/\w.length<=60)/\gR (k6 (al ps).length) (al ps).length/\0<(k6 (al ps).length).length:=⟨rfl,by omega,hw,Cw h12,by rw [kq];exact pow_pos (by decide)⟩
 walk_at "r";intro t ht;refine hlt t ?_;rw [kq] at ht;exact ht.congr λu=>⟨λ⟨js,w,e⟩=>⟨js,(xj h12).mp w,e⟩,λ⟨js,w,e⟩=>⟨js,(xj h12).mpr w,e⟩⟩
noncomputable def iM(K:b_)(mg:Str->Option Value)(t:TxC K):=(have TC:=t;show LS K [] _ _ from (aA (aO (ix:=[none,none,some 2,some 0]) rfl (m7 (aa (bo 1) ac)) (λfs hc=>(dk (n:=2) (aK (aQ 0 (dH hc (by decide))) (aK (aQ 1 (dH hc (by decide))) cj)))) (iT (am mh (ag (am mZ (ag (am m5 (ax 2) (ax 1))) (ag (am bC (ag (am bz (ax 3) (ax 0))) (bT 1))))) (bT 0))) (j7 (aa (bo 0) (aa (ag (am j8 (ax 2) (ax 1))) ac))))))
def og:PTS:=psO iM
def oh:PRl cX og 3 3:=λ_ Q h=>ur h λds _ h=>xk h λes _ h=>dn h λm _ h=>cm h λh=>r_ rfl <| by
 walk_at "z";obtain⟨cs,rfl,⟨rfl,hn,hs,hc⟩,m,rfl,hm,q⟩:=h;have hsm:((c_ cs.length).map λi=>nD (stp cs i)).length=cs.length:=by rw [length_map,length_range]
 have ca:∀i,i<cs.length->atI (cs.map nD) (i:Int)=some (.int ((cs.getD i 0:Nat):Int)):=λi hi=>by
  refine c9 (j:=i) ?_ rfl;rw [h_,cx hi,cn,cx hi];rfl
 walk_at "r"
 refine cfm (λτ=>∃v w:Option PV,τ=[v,w,some (.dat (.int (m:Int))),some (.dat (.tup (cs.map nD)))]) (λi=>if decide (0<dig cs i m)=true then some (.tup [nD i,nD (m - stp cs i)]) else none) ⟨_,_,rfl⟩ ?_ ?_
 .rintro i τ _ hi rfl ⟨v,w,rfl⟩ K1 K2 k1 k2;rw [hsm] at hi;rw [show itD ((c_ cs.length).map λi=>nD (stp cs i)) i=.int ((stp cs i:Nat):Int) from i4 (by rw [h_,H_ hi];rfl)];have hp:=lD cs i;have hs1:stp cs i<=500:=p_ (by have:=AH cs i (cs.length - i);rwa [show i+(cs.length - i)=cs.length by omega] at this) hs;have gd:(0:Int)<((stp cs i:Nat):Int)/\((stp cs i:Nat):Int)<1073741824:=⟨by omega,by omega⟩
  have ed:(m:Int) / ((stp cs i:Nat):Int) % (((cs.getD i 0:Nat):Int)+1)=((dig cs i m:Nat):Int):=by
   unfold dig;rw [natCast_emod,natCast_ediv];rfl
  walk_at "r";refine⟨_,ca i hi,?_⟩;walk_at "r";rw [ed]
  refine dU (λc=>?_) (λc=>?_)
  .have c:0<dig cs i m:=by omega
   have hle:stp cs i<=m:=by
    rcases Ly m (stp cs i) with z|z
    .unfold dig at c;rw [div_eq_of_lt z,zero_mod] at c;omega
    .exact z
   walk_at "r";rw [show (m:Int) - ((stp cs i:Nat):Int)=((m - stp cs i:Nat):Int) by omega];exact k1 _ _ (if_pos (decide_eq_true c)) ⟨_,_,rfl⟩
  .exact k2 _ (if_neg (by rw [decide_eq_false (by omega)];decide)) ⟨_,_,rfl⟩
 .rintro τ ⟨v,w,rfl⟩;rw [hsm,dE,show ((c_ cs.length).filter λi=>decide (0<dig cs i m)).map (λi=>D.tup [nD i,nD (m - stp cs i)])=(x3 cs m).map λp=>.tup [nD p.1,nD p.2] by unfold x3;rw [map_map];rfl];exact q
noncomputable def fZ(K:b_)(mg:Str->Option Value)(t:TxC K):=(have TC:=t;show LS K [] _ _ from (ao (aB (ar (c:=eP) (aa (ag (bD (ns0:=["pieces","counts","laps","total"]) TC.cl_Often TC.n_Often_counts (i:=1) (by decide +kernel) (ax 0))) ac)) (wS (n:=2) (aK (aQ 1 rfl) (aK (aQ 2 rfl) cj)))) (ao (aB (aO (ix:=[none,some 1,some 0]) rfl (ml (aa (bo 2) ac)) (λfs hc=>(aQ 0 (dH hc (by decide)))) bu (ar (c:=cX) (aa (ag (bD (ns0:=["pieces","counts","laps","total"]) TC.cl_Often TC.n_Often_counts (i:=1) (by decide +kernel) (ax 2))) (aa (bo 1) (aa (bo 0) ac))))) (cQ 3 rfl)) (aA (ar (c:=cK) (aa (ag (bD (ns0:=["pieces","counts","laps","total"]) TC.cl_Often TC.n_Often_pieces (i:=0) (by decide +kernel) (ax 0))) (aa (ag (bD (ns0:=["pieces","counts","laps","total"]) TC.cl_Often TC.n_Often_laps (i:=2) (by decide +kernel) (ax 0))) (aa (bo 3) ac))))))))
def lI:PTS:=psO fZ
def lJ:PRl bG lI 4 1:=λ_ Q h=>Co h λc ns fs _ h=>cm h λh=>r_ rfl <| by
 walk_at "z";obtain⟨rfl,rfl,ps,cs,rfl,⟨hn,hp,hcl,hs,hc⟩,q⟩:=h;have g1:cs.length<=40/\stp cs cs.length<=500/\∀c∈cs,c<=9:=⟨by omega,hs,hc⟩
 have hw:∀w∈ps,0<w.length/\w.length<=60:=λw h=>⟨(hp w h).1,(hp w h).2.1⟩
 have hl:(x4 cs).length=stp cs cs.length:=by unfold x4;rw [length_map,length_range]
 have p0:=lD cs cs.length;walk_at "r";rw [toNat_natCast]
 refine cmR (λm=>chD (x3 cs m)) (λm hm v K1 k1=>?_) (λv=>?_)
 .have g2:((c_ cs.length).map λi=>nD (stp cs i))=((c_ cs.length).map λi=>nD (stp cs i))/\cs.length<=40/\stp cs cs.length<=500/\∀c∈cs,c<=9:=⟨rfl,by omega,hs,hc⟩
  walk_at "r";exact k1 _
 have e1:(c_ (stp cs cs.length)).map (λm=>chD (x3 cs m))=(x4 cs).map chD:=by unfold x4;rw [map_map];rfl
 rw [e1];have g3:kY ps=kY ps/\ps.length<=200/\(∀w∈ps,0<w.length/\w.length<=60)/\gR (x4 cs) ps.length/\0<(x4 cs).length:=⟨rfl,by omega,hw,by rw [<- hcl];exact Fp (by omega) hs,by omega⟩
 walk_at "r";refine λt ht=>q t ?_;rw [hl] at ht;exact ht.congr λu=>⟨λ⟨js,w,e⟩=>⟨js,AL.mp w,e⟩,λ⟨js,w,e⟩=>⟨js,AL.mpr w,e⟩⟩
noncomputable def kz(K:b_)(mg:Str->Option Value)(t:TxC K):=(have TC:=t;show LS K [] _ _ from (ao (aB (am bC (ag (am hZ (bT 5) (ax 1))) (bT 3)) (cQ 2 rfl)) (ao (kT (cw (iT (am mh (ag (aD aH (aa (ax 0) ac))) (bT 0))) (aB (aD Hh (aa (ag (am bz (ax 0) (ag (am mZ (ax 1) (ag (aD aH (aa (ax 0) ac))))))) ac)) (cQ 2 rfl)) bb)) (aA (eB (aa (bo 2) (aa (ag (am bC (ag (am bC (ag (am mZ (ax 2) (bT 2147483629))) (ag (am hZ (bT 7919) (ax 1))))) (bT 11))) ac)))))))
def rR:PTS:=psO kz
def rS:PRl gT rR 3 2:=λ_ Q h=>Lq h λns _ h=>dn h λk _ h=>cm h λh=>r_ rfl <| by
 walk_at "z";obtain⟨⟨hk0,hk1,hn⟩,q⟩:=h;walk_at "r"
 refine⟨λρ=>∃c:Int,ρ=[some (.dat (.scr ns)),some (.dat (.int k)),some (.dat (.int c))]/\0<=c,?_,?_⟩
 .walk_at "r";refine dU (λc=>?_) (λc=>⟨_,rfl,by omega⟩);obtain⟨n,hn1,hn2⟩:∃n:Nat,k % (ns.length:Int)=(n:Int)/\n<ns.length:=⟨(k % (ns.length:Int)).toNat,by have:=OV k (show (ns.length:Int)≠0 by omega);omega,by have:=OW k (show 0<(ns.length:Int) by omega);have:=OV k (show (ns.length:Int)≠0 by omega);omega⟩
  walk_at "r";rw [hn1];refine⟨ns[n],c9 (cx hn2) rfl,?_⟩;exact⟨_,rfl,by split <;> omega⟩
 .rintro ρ ⟨c,rfl,hc⟩;walk_at "r";exact q (c,c % 2147483629+7919*k+11) ⟨hc,by omega,by omega⟩
noncomputable def oi(K:b_)(mg:Str->Option Value)(t:TxC K):=(have TC:=t;show LS K [0] _ _ from (ao (cw (iT (am mh (ag (am bz (ax 0) (bT 0))) (bT 0))) (ao (aB (am mZ (ag (am bz (ax 0) (bT 0))) (ax 1)) (cQ 2 rfl)) (ao (zH (i:=0) (am m5 (ag (am bz (ax 0) (bT 0))) (ax 1)) (Ba 0)) (aA (cJ 2)))) bb) (ao (zH (i:=0) (am mZ (ag (am bC (ag (am hZ (ag (am bz (ax 0) (bT 1))) (bT 48271))) (bT 12345))) (bT 2147483647)) (Ba 1)) (aA (am mZ (ag (am m5 (ag (am mZ (ag (am hZ (ag (am bz (ax 0) (bT 1))) (ag (am bz (ax 0) (bT 1))))) (bT 2147483629))) (bT 7))) (ax 1))))))
def vL:PTS:=psO oi
def vM:RRl aE vL 3 2:=λ_ _ Q h=>xm h λ_ h=>dn h λc0 _ h=>dn h λc1 _ h=>cm h λh=>dn h λm _ h=>cm h λh=>r_ rfl <| by
 walk_at "z";obtain⟨⟨g0,g1,g2⟩,hm,hm2,q⟩:=h;have mod:∀z:Int,0<=z % m/\z % m<m:=λz=>⟨OV z (by omega),OW z hm⟩
 walk_at "r"
 refine dU (λc=>?_) (λc=>?_)
 .walk_at "r";exact q _ (_,_) ⟨ediv_nonneg g0 (by omega),g1,g2⟩ (mod c0).1 (mod c0).2
 .have n0:0<=(c1*48271+12345) % 2147483647:=OV _ (by decide);have n1:(c1*48271+12345) % 2147483647<2147483647:=OW _ (by decide);walk_at "r";exact q _ (_,_) ⟨g0,n0,by omega⟩ (mod _).1 (mod _).2
noncomputable def oj(K:b_)(mg:Str->Option Value)(t:TxC K):=(have TC:=t;show LS K [0] _ _ from (aA (uR wP (le_str (l:=[])) (aa (ag (aO (ix:=[none,some 1,some 0]) rfl (ml (aa (ag (am bC (bT 1) (ag (aM (c:=aE) (i:=0) (aa (bo 2) ac))))) ac)) (λfs hc=>(aQ 0 (dH hc (by decide)))) bu (am bz (ax 1) (ag (aM (c:=aE) (i:=2) (aa (ag (aD aH (aa (ax 1) ac))) ac)))))) ac))))
def vN:PTS:=psO oj
def vO:RRl eR vN 3 3:=λ_ _ Q h=>xm h λ_ h=>dn h λc0 _ h=>dn h λc1 _ h=>cm h λh=>oV h λls _ h=>dn h λm _ h=>cm h λh=>r_ rfl <| by
 walk_at "z";obtain⟨g,⟨h0,h26,hls⟩,⟨hm,hm2⟩,q⟩:=h;walk_at "r";intro x s hs hx0 hx1;walk_at "r"
 refine⟨λk ys τ=>∃(v:Option PV) (s:Int×Int) (ws:List Nat),τ=[v,some (.dat (.str ls)),some (stv s)]/\SOk s/\ys=ws.map (λc=>.str [c])/\ws.length=k/\Lts ws,⟨none,s,[],rfl,hs,rfl,rfl,Lts.nil⟩,?_,?_⟩
 .rintro k ys τ _ hk rfl ⟨v,⟨a,b⟩,ws,rfl,hs,rfl,hl,hL⟩;walk_at "r";intro z s2 hs2 hz0 hz1;obtain⟨j,rfl⟩:∃j:Nat,z=(j:Int):=⟨z.toNat,by omega⟩
  have hj:j<ls.length:=by omega
  walk_at "r";refine⟨_,c9 (cx hj) rfl,?_⟩;exact⟨_,s2,ws++[ls[j]],rfl,hs2,by rw [map_append];rfl,by rw [length_append,hl];rfl,hL.app (Lts.one (hls _ (FX hj)))⟩
 .rintro ys τ ⟨v,s2,ws,rfl,hs2,rfl,hl,hL⟩;walk_at "r"
  refine⟨ws.map λc=>[c],BS ws,?_,?_⟩
  .rw [lS];omega
  .rw [lS];walk_at "r";exact q ws s2 hs2 (by omega) (by omega) hL
noncomputable def qx(K:b_)(mg:Str->Option Value)(t:TxC K):=(have TC:=t;show LS K [0] _ _ from (ao (aB (aM (c:=aE) (i:=0) (aa (ag (aD aH (aa (ax 1) ac))) ac)) (cQ 3 rfl)) (aA (bh (ax 1) (aZ (cJ 3)) (aZ (am bC (ag (am bC (ax 3) (bT 1))) (ag (aM (c:=aE) (i:=0) (aa (bo 2) ac)))))))))
def yd:PTS:=psO qx
def ye:RRl lE yd 4 3:=λ_ _ Q h=>xm h λ_ h=>dn h λc0 _ h=>dn h λc1 _ h=>cm h λh=>oV h λt _ h=>dn h λm _ h=>cm h λh=>r_ rfl <| by
 walk_at "z";obtain⟨g,⟨h0,h1,ht⟩,⟨hm,hm2⟩,q⟩:=h;walk_at "r";rintro x ⟨a,b⟩ hs hx0 hx1;walk_at "r";intro y s2 hs2 hy0 hy1;walk_at "r";obtain⟨i,rfl⟩:∃i:Nat,x=(i:Int):=⟨x.toNat,by omega⟩
 obtain⟨j,rfl⟩:∃j:Nat,y=(j:Int):=⟨y.toNat,by omega⟩
 show Q (.dat (.str (dg t (some (i:Int)) (some ((i:Int)+1+(j:Int)))))) _;rw [show (i:Int)+1+(j:Int)=((i+1+j:Nat):Int) by omega,sM];exact q _ s2 hs2 (by rw [length_take,length_drop];omega) (by rw [length_take,length_drop];omega) ((ht.drop _).take _)
noncomputable def om(K:b_)(mg:Str->Option Value)(t:TxC K):=(have TC:=t;show LS K [0] _ _ from (ao (aB (am bz (ag (eB (aa (ag (le_str (l:=[97,98]))) (aa (ag (le_str (l:=[97,98,99]))) (aa (ag (le_str (l:=[97,98,99,100,101,102,103,104,105,106,107,108,109,110,111,112,113,114,115,116,117,118,119,120,121,122]))) ac))))) (ag (aM (c:=aE) (i:=0) (aa (bT 3) ac)))) (cQ 2 rfl)) (ao (aB (aM (c:=eR) (i:=0) (aa (bo 2) (aa (ag (am hZ (bT 3) (ax 1))) ac))) (cQ 3 rfl)) (ao (kT (cw (iT (am eF (ag (aM (c:=aE) (i:=0) (aa (bT 3) ac))) (bT 0))) (aB (am hZ (ag (bh (ax 3) bn (aZ (am bC (bT 1) (ag (aM (c:=aE) (i:=0) (aa (bT 3) ac))))))) (ax 1)) (cQ 3 rfl)) bb)) (aA (j7 (aa (bo 2) (aa (bo 3) ac))))))))
def vP:PTS:=psO om
def vQ:RRl jP vP 4 2:=λ_ _ Q h=>xm h λ_ h=>dn h λc0 _ h=>dn h λc1 _ h=>cm h λh=>dn h λm _ h=>cm h λh=>r_ rfl <| by
 walk_at "z";obtain⟨g,⟨hm,hm2⟩,q⟩:=h;walk_at "r";rintro x ⟨a,b⟩ hs hx0 hx1
 obtain⟨ls,hls,hl1,hl2,hL⟩:∃ls:List Nat,atI [D.str [97,98],D.str [97,98,99],D.str [97,98,99,100,101,102,103,104,105,106,107,108,109,110,111,112,113,114,115,116,117,118,119,120,121,122]] x=some (.str ls)/\0<ls.length/\ls.length<=26/\Lts ls:=by
  have lt:∀l:List Nat,(l.all λc=>decide (97<=c) && decide (c<=122))=true->Lts l:=λl h c hc=>by
   have:=MU.mp h c hc;rw [and_eq_true,decide_eq_true_eq,decide_eq_true_eq] at this;exact this
  rcases (show x=0\/x=1\/x=2 by omega) with h|h|h <;> rw [h]
  all_goals exact⟨_,rfl,by decide,by decide,lt _ (by decide)⟩
 have gl:0<ls.length/\ls.length<=26/\Lts ls:=⟨hl1,hl2,hL⟩
 have g3:0<3*m/\3*m<=10000:=⟨by omega,by omega⟩
 walk_at "r";refine⟨_,hls,?_⟩;walk_at "r";rintro w ⟨a2,b2⟩ hs2 hw0 hw1 hwL;walk_at "r"
 refine⟨λρ=>∃(u:List Nat) (s:Int×Int),SOk s/\0<u.length/\u.length<=100000/\Lts u/\ρ=[some (stv s),some (.dat (.int m)),some (.dat (.str ls)),some (.dat (.str u))],?_,?_⟩
 .walk_at "r";rintro y ⟨a3,b3⟩ hs3 hy0 hy1;walk_at "r"
  refine dU (λc=>?_) (λc=>?_)
  .walk_at "r";rintro z ⟨a4,b4⟩ hs4 hz0 hz1
   have ct:dg w none (some (1+z))=w.take (1+z).toNat:=by
    obtain⟨n,hn⟩:∃n:Nat,1+z=(n:Int):=⟨(1+z).toNat,by omega⟩
    rw [hn,dI,toNat_natCast]
   have cl1:(w.take (1+z).toNat).length<=3:=by rw [length_take];omega
   have cl0:0<(w.take (1+z).toNat).length:=by rw [length_take];omega
   have w2:(-1000000:Int)<=m/\m<=1000000/\m.toNat*(dg w none (some (1+z))).length<=1000000:=by
    refine⟨by omega,by omega,?_⟩;rw [ct];exact p_ (Oc (show m.toNat<=100 by omega) cl1) (by decide)
   walk_at "r";rw [ct]
   refine⟨_,(a4,b4),hs4,?_,?_,(hwL.take _).rep _,rfl⟩
   .rw [gf];exact mul_pos (by omega) cl0
   .rw [gf];exact p_ (Oc (show m.toNat<=100 by omega) cl1) (by decide)
  .exact⟨w,(a3,b3),hs3,hw0,by omega,hwL,rfl⟩
 .rintro ρ ⟨u,s,hs5,hu0,hu1,huL,rfl⟩;walk_at "r";exact q ls u s hs5 gl ⟨hu0,hu1,huL⟩
noncomputable def kA(K:b_)(mg:Str->Option Value)(t:TxC K):=(have TC:=t;show LS K [0] _ _ from (ao (aB (aM (c:=jP) (i:=0) (aa (bo 2) ac)) (wS (n:=2) (aK (aQ 3 rfl) (aK (aQ 4 rfl) cj)))) (ao (aB (eB ac) (cQ 5 rfl)) (ao (eE (ml (aa (bo 1) ac)) (aQ 6 rfl) (ao (aB (aM (c:=aE) (i:=0) (aa (bT 5) ac)) (cQ 7 rfl)) (ao (kT (cw (iT (am eF (ax 7) (bT 0))) (aB (aM (c:=eR) (i:=0) (aa (bo 3) (aa (bo 2) ac))) (cQ 8 rfl)) (cw (iT (am eF (ax 7) (bT 1))) (aB (am hZ (ag (aM (c:=eR) (i:=0) (aa (bo 3) (aa (bT 2) ac)))) (ax 2)) (cQ 8 rfl)) (aB (aM (c:=lE) (i:=0) (aa (bo 4) (aa (bo 2) ac))) (cQ 8 rfl))))) (eC (tm (i:=5) (bh (ax 8) bn (aZ (cJ 2)))))))) (aA (cJ 5))))))
def rT:PTS:=psO kA
def rV:RRl gU rT 9 3:=λ_ _ Q h=>xm h λ_ h=>dn h λc0 _ h=>dn h λc1 _ h=>cm h λh=>dn h λn _ h=>dn h λm _ h=>cm h λh=>r_ rfl <| by
 walk_at "z";obtain⟨g,⟨hn0,hn1,hm0,hm1⟩,q⟩:=h;obtain⟨N,rfl⟩:∃N:Nat,n=(N:Int):=⟨n.toNat,by omega⟩
 have gm:0<m/\m<=100:=⟨hm0,by omega⟩
 have gm2:0<m/\m<=10000:=⟨hm0,by omega⟩
 walk_at "r";rintro ls b ⟨a1,b1⟩ hs1 hls hb;walk_at "r";rw [toNat_natCast]
 refine⟨λk ρ=>∃(ps:List (List Nat)) (s:Int×Int) (v6 v7 v8:Option PV),SOk s/\ps.length=k/\Pcs m.toNat ps/\ρ=[some (stv s),some (.dat (.int (N:Int))),some (.dat (.int m)),some (.dat (.str ls)),some (.dat (.str b)),some (.own (ps.map .str)),v6,v7,v8],⟨[],(a1,b1),_,_,_,hs1,rfl,(λw hw=>nomatch hw),rfl⟩,?_,?_⟩
 .rintro k ρ _ hk rfl ⟨ps,⟨a2,b2⟩,v6,v7,v8,hs2,hpl,hps,rfl⟩;have hpm:(ps.map D.str).length=ps.length:=length_map _;walk_at "r";rintro y ⟨a3,b3⟩ hs3 hy0 hy1;walk_at "r"
  refine⟨λρ=>∃(p:List Nat) (s:Int×Int),SOk s/\0<p.length/\p.length<=1000/\Lts p/\ρ=[some (stv s),some (.dat (.int (N:Int))),some (.dat (.int m)),some (.dat (.str ls)),some (.dat (.str b)),some (.own (ps.map .str)),some (.dat (.int (k:Int))),some (.dat (.int y)),some (.dat (.str p))],?_,?_⟩
  .walk_at "r"
   refine dU (λc=>?_) (λc=>?_)
   .walk_at "r";rintro w s5 hs5 hw0 hw1 hwL;exact⟨w,s5,hs5,hw0,by omega,hwL,rfl⟩
   .walk_at "r"
    refine dU (λc3=>?_) (λc3=>?_)
    .have g2:(0:Int)<2/\(2:Int)<=10000:=⟨by decide,by decide⟩
     walk_at "r";rintro w ⟨a5,b5⟩ hs5 hw0 hw1 hwL;have hw1:w.length<=2:=hw1;have r1:m.toNat*w.length<=60*2:=Oc (by omega) hw1;have r2:0<m.toNat*w.length:=mul_pos (by omega) hw0;have gr:-1000000<=m/\m<=1000000/\m.toNat*w.length<=1000000:=⟨by omega,by omega,by omega⟩
     have rl:=gf w m;walk_at "r"
     refine⟨_,(a5,b5),hs5,?_,?_,λc hc=>hwL c (Cz hc),rfl⟩
     .omega
     .omega
    .walk_at "r";rintro w s5 hs5 hw0 hw1 hwL;exact⟨w,s5,hs5,hw0,by omega,hwL,rfl⟩
  rintro ρ ⟨p,⟨a6,b6⟩,hs6,hp0,hp1,hpL,rfl⟩;have ct:dg p none (some m)=p.take m.toNat:=BA p (by omega);walk_at "r";rw [ct];refine⟨ps++[_],(a6,b6),_,_,_,hs6,by rw [length_append,hpl];rfl,λw hw=>?_,by rw [map_append];rfl⟩
  rcases Ml.mp hw with h|h
  .exact hps w h
  .rw [LR.mp h];exact⟨by rw [length_take];omega,by rw [length_take];omega,hpL.take _⟩
 .rintro ρ ⟨ps,s,v6,v7,v8,hs2,hpl,hps,rfl⟩;walk_at "r";exact q ps s hs2 (by omega) hps
noncomputable def kB(K:b_)(mg:Str->Option Value)(t:TxC K):=(have TC:=t;show LS K [] _ _ from (ao (eE (bq (cJ 0)) (aQ 2 rfl) (cw (zt (iT (am mh (ag (aD aH (aa (ax 2) ac))) (ag (aD aH (aa (ag (am bz (ax 0) (ax 1))) ac))))) (iT (am zx (ag (uR qV (cJ 2) (aa (ag (am bz (ax 0) (ax 1))) ac))) (bT 0)))) (aA (oZ (i:=true))) bb)) (aA (am (Av (neg:=false)) (ag (am bz (ax 0) (ax 1))) (ag (bh (ax 0) bn (aZ (cJ 1))))))))
def rW:PTS:=psO kB
def rX:PRl dX rW 3 2:=λ_ Q h=>xk h λds _ h=>dn h λi _ h=>cm h λh=>r_ rfl <| by
 walk_at "z";obtain⟨ws,rfl,⟨hn,hp⟩,⟨h0,h1⟩,q⟩:=h;obtain⟨k,rfl⟩:∃k:Nat,i=(k:Int):=⟨i.toNat,by omega⟩
 rw [toNat_natCast] at q;have hk:k<ws.length:=by omega
 have w1:=(hp _ (bN hk)).2.1;have c1:dg (ws.map D.str) none (some (k:Int))=(ws.take k).map D.str:=by rw [dI,map_take]
 have hfl:(dg (ws.map D.str) none (some (k:Int))).all D.fl=true:=by rw [c1];exact zZ _
 have hin:inD (.str (pw ws k)) (dg (ws.map D.str) none (some (k:Int)))=decide (pw ws k∈ws.take k):=by rw [c1];exact rg _ _
 walk_at "r"
 refine IS (λpre ρ=>(∃v2:Option PV,ρ=[some (.dat (.lst (ws.map .str))),some (.dat (.int (k:Int))),v2])/\∀o∈pre,(pw ws k).length<o.length->f9 (pw ws k) o=false) ⟨⟨_,rfl⟩,λo ho=>nomatch ho⟩ ?_ ?_
 .rintro pre o suf ρ ew ⟨⟨v2,rfl⟩,ih⟩;have ho:o∈ws:=by rw [ew];simp
  have w2:=(hp o ho).2.1
  have keep:((pw ws k).length<o.length->f9 (pw ws k) o=false)->∀o'∈pre++[o],(pw ws k).length<o'.length->f9 (pw ws k) o'=false:=λh o' ho'=>by
   rcases Ml.mp ho' with z|z
   .exact ih o' z
   .rw [LR.mp z];exact h
  have found:(pw ws k).length<o.length->f9 (pw ws k) o=true->bB ws k=false:=λh1 h2=>by
   cases e:bB ws k with
   | false=>rfl
   | true =>
    have:=(e9.mp e).2 o ho h1;rw [h2] at this;cases this
  walk_at "r";refine⟨_,bV hk rfl,?_⟩;walk_at "r"
  refine dU (λc=>?_) (λc=>?_)
  .walk_at "r";refine⟨_,bV hk rfl,?_⟩;walk_at "r"
   refine dU (λc2=>?_) (λc2=>?_)
   .walk_at "r";rw [found (by omega) (uX.mpr (by omega))] at q;exact q
   .exact⟨⟨_,rfl⟩,keep λ_=>B8.mpr (by omega)⟩
  .exact⟨⟨_,rfl⟩,keep λz=>by omega⟩
 .rintro ρ ⟨⟨v2,rfl⟩,ih⟩
  have hq:(!bB ws k)=decide (pw ws k∈ws.take k):=by
   by_cases e:pw ws k∈ws.take k
   .rw [decide_eq_true e]
    cases e2:bB ws k with
    | false=>rfl
    | true=>exact absurd e (e9.mp e2).1
   .rw [decide_eq_false e,e9.mpr ⟨e,ih⟩];rfl
  rw [hq] at q;walk_at "r";refine⟨_,bV hk rfl,?_⟩;walk_at "r";rw [hin];exact q
noncomputable def lY(K:b_)(mg:Str->Option Value)(t:TxC K):=(have TC:=t;show LS K [0] _ _ from (ao (aB (aM (c:=gU) (i:=0) (aa (bo 1) (aa (bo 2) ac))) (cQ 3 rfl)) (aA (aO (ix:=[none,some 3]) rfl (ml (aa (ag (aD aH (aa (ax 3) ac))) ac)) (λfs hc=>(aQ 0 (dH hc (by decide)))) (e6 (sy (ar (c:=dX) (aa (bo 1) (aa (bo 0) ac))))) (am bz (ax 1) (ax 0))))))
def uc:PTS:=psO lY
def ud:RRl iH uc 4 3:=λ_ _ Q h=>xm h λ_ h=>dn h λc0 _ h=>dn h λc1 _ h=>cm h λh=>dn h λn _ h=>dn h λm _ h=>cm h λh=>r_ rfl <| by
 walk_at "z";obtain⟨g,⟨hn0,hn1,hm0,hm1⟩,q⟩:=h;have gp:0<=n/\n<=100/\0<m/\m<=60:=⟨hn0,hn1,hm0,hm1⟩
 walk_at "r";rintro ps s1 hs1 hpl hpp;have hp:Pcs 60 ps:=λw hw=>⟨(hpp w hw).1,by have:=(hpp w hw).2.1;omega,(hpp w hw).2.2⟩
 have hpm:(ps.map D.str).length=ps.length:=length_map _;have hw:ps.length<=100/\Pcs 60 ps:=⟨by omega,hp⟩
 walk_at "r";rw [hpm,toNat_natCast]
 refine cfR (λk=>bB ps k) (λk=>.str (pw ps k)) (λk hk v K1 K2 k1 k2=>?_) (λv=>?_)
 .have hk2:0<=(k:Int)/\(k:Int)<(ps.length:Int):=⟨by omega,by omega⟩
  have ek:bB ps (k:Int).toNat=bB ps k:=rfl;walk_at "r";rw [ek]
  cases hc:bB ps k with
  | true =>
   walk_at "r";refine⟨_,bV hk rfl,?_⟩;exact k1 _ hc
  | false=>exact k2 _ hc
 .have e:((c_ ps.length).filter λk=>bB ps k).map (λk=>D.str (pw ps k))=(al ps).map .str:=by unfold al a8;rw [map_map];rfl
  rw [e];walk_at "r";exact q ps s1 hs1 hpl hpp
noncomputable def kC(K:b_)(mg:Str->Option Value)(t:TxC K):=(have TC:=t;show LS K [0] _ _ from (aA (aO (ix:=[none,some 0,some 2]) rfl (ml (aa (bo 1) ac)) (λfs hc=>(aQ 0 (dH hc (by decide)))) bu (am bC (bT 1) (ag (aM (c:=aE) (i:=1) (aa (bo 2) ac)))))))
def rY:PTS:=psO kC
def rZ:RRl gW rY 3 3:=λ_ _ Q h=>xm h λ_ h=>dn h λc0 _ h=>dn h λc1 _ h=>cm h λh=>dn h λn _ h=>dn h λm _ h=>cm h λh=>r_ rfl <| by
 walk_at "z";obtain⟨g,⟨hn0,hn1,hm0,hm1⟩,q⟩:=h;walk_at "r"
 refine⟨λk ys τ=>∃(v:Option PV) (s:Int×Int) (cs:List Nat),τ=[v,some (stv s),some (.dat (.int m))]/\SOk s/\cs.length=k/\(∀c∈cs,1<=c/\c<=m.toNat)/\ys=cs.map nD,⟨none,(c0,c1),[],rfl,g,rfl,(λ_ h=>nomatch h),rfl⟩,?_,?_⟩
 .rintro k ys τ d hk ed ⟨v,⟨u,w⟩,cs,rfl,hs,hl,hc,rfl⟩;walk_at "r";rintro z s2 hs2 hz0 hz1;obtain⟨i,rfl⟩:∃i:Nat,z=(i:Int):=⟨z.toNat,by omega⟩
  walk_at "r";refine⟨_,s2,cs++[1+i],rfl,hs2,by rw [length_append,hl];rfl,λc h=>(Ml.mp h).elim (hc c) λh=>by rw [LR.mp h];omega,?_⟩;rw [map_append];show _=_++[D.int ((1+i:Nat):Int)]
  rw [show ((1+i:Nat):Int)=1+(i:Int) by omega]
 .rintro ys τ ⟨v,s2,cs,rfl,hs2,hl,hc,rfl⟩;walk_at "r";exact q cs s2 hs2 hl hc
noncomputable def qy(K:b_)(mg:Str->Option Value)(t:TxC K):=(have TC:=t;show LS K [] _ _ from (ao (eE (G7 (aa (ag (am j8 (ag (aD uP (aa (ag (aD aH (aa (ax 0) ac))) (aa (ag (aD aH (aa (ax 1) ac))) ac)))) (bT 1))) (aa (bT 0) (aa (ag (Ex zN (bT 1))) ac)))) (aQ 2 rfl) (cw (iT (am eF (ag (bh (ax 0) (aZ (am j8 (ag (aD aH (aa (ax 0) ac))) (ax 2))) bn)) (ag (bh (ax 1) bn (aZ (cJ 2)))))) (aA (cJ 2)) bb)) (aA (Ba 0))))
def yf:PTS:=psO qy
def yg:PRl d4 yf 3 2:=λ_ Q h=>oV h λa _ h=>oV h λb _ h=>cm h λh=>r_ rfl <| by
 walk_at "z";obtain⟨a1,⟨b0,b1⟩,q⟩:=h;have hm:(if (b.length:Int)<(a.length:Int) then (b.length:Int) else (a.length:Int))=((min a.length b.length:Nat):Int):=by split <;> omega
 walk_at "r";rw [hm]
 refine⟨λi ρ=>(∃v2:Option PV,ρ=[some (.dat (.str a)),some (.dat (.str b)),v2])/\∀j,min a.length b.length - i<=j->j<min a.length b.length->¬ b.take j <:+ a,⟨⟨_,rfl⟩,λj h1 h2=>by omega⟩,?_,?_⟩
 .rintro i ρ d hi ed ⟨⟨v2,rfl⟩,ih⟩;obtain⟨k,hk,hk2⟩:∃k:Nat,(((min a.length b.length:Nat):Int) - 1) - (i:Int)=(k:Int)/\k=min a.length b.length - 1 - i:=⟨min a.length b.length - 1 - i,by omega,rfl⟩
  have hk0:0<k:=by omega
  rw [hk] at ed;subst ed;have cd:dg a (some ((a.length:Int) - (k:Int))) none=a.drop (a.length - k):=by rw [show (a.length:Int) - (k:Int)=((a.length - k:Nat):Int) by omega,fM]
  have ct:=dI b k;walk_at "r";rw [cd,ct]
  refine dU (λc=>?_) (λc=>?_)
  .walk_at "r"
   rw [show cA a b=k from rf ⟨by omega,by rw [<- c];exact OR ..,λj h1 h2=>by
    rcases Ly k j with h|h
    .exact absurd h2 (ih j (by omega) h1)
    .exact h⟩] at q
   exact q
  .refine⟨⟨_,rfl⟩,λj h1 h2=>?_⟩
   by_cases hj:j=k
   .subst hj;intro z;refine c ?_;obtain⟨t,ht⟩:=z;have hjb:j<=b.length:=by omega
    rw [<- ht,show (t++b.take j).length - j=t.length by rw [length_append,length_take,Nj hjb,add_sub_cancel],drop_left]
   .exact ih j (by omega) h2
 .rintro ρ ⟨⟨v2,rfl⟩,ih⟩;walk_at "r"
  by_cases a0:0<a.length
  .rw [show cA a b=0 from rf ⟨by omega,by rw [take_zero];exact N_,λj h1 h2=>by
    rcases Ly 0 j with h|h
    .exact absurd h2 (ih j (by omega) h1)
    .exact h⟩] at q
   exact q
  .rw [show cA a b=0 by
    unfold cA;rw [dif_neg];rintro⟨k,hk⟩;have:=hk.1;omega] at q
   exact q
noncomputable def lZ(K:b_)(mg:Str->Option Value)(t:TxC K):=(have TC:=t;show LS K [] _ _ from (aA (hX (sY .int (ax 0)) (zw (sY .bool (ax 0))))))
def ue:PTS:=psO lZ
def uf:PRl iI ue 1 1:=λ_ Q h=>uq h λd _ h=>cm h λh=>r_ rfl <| by
 walk_at "z";obtain⟨hd,q⟩:=h;cases d <;> first|(cases hd;done)|(walk_at "r";exact q)
noncomputable def iN(K:b_)(mg:Str->Option Value)(t:TxC K):=(have TC:=t;show LS K [0] _ _ from (ao (aB (aD zL (aa (ax 1) ac)) (cQ 2 rfl)) (ao (aB (eB ac) (cQ 3 rfl)) (ao (qR (iT (am tG (ax 2) (ag (eB ac)))) (eC (tm (i:=3) (BW (i:=2) (aM (c:=aE) (i:=0) (aa (ag (aD aH (aa (ax 2) ac))) ac)))))) (aA (wZ (cJ 3)))))))
def oq:PTS:=psO iN
def ot:RRl cY oq 4 2:=λ_ _ Q h=>xm h λ_ h=>dn h λc0 _ h=>dn h λc1 _ h=>cm h λh=>xk h λds _ h=>cm h λh=>r_ rfl <| by
 walk_at "z";obtain⟨xs,rfl,⟨g,hn⟩,q⟩:=h;have hxm:(xs.map nD).length=xs.length:=length_map _;walk_at "r";refine⟨λk ρ=>∃(rs js:List Nat) (s:Int×Int) (v1:Option PV),(js++rs).Perm xs/\SOk s/\k=rs.length/\ρ=[some (stv s),v1,some (.own (rs.map nD)),some (.own (js.map nD))],⟨xs.length,xs,[],(c0,c1),_,OP _,g,rfl,rfl⟩,?_⟩;rintro k ρ ⟨rs,js,⟨a,b⟩,v1,hp,hs,rfl,rfl⟩;have hpl:=hp.length_eq;rw [length_append] at hpl
 have e1:=AQ rs;have e2:=Ft rs;walk_at "r";rw [e2]
 refine uK (λc=>?_) (λc=>?_)
 .have hrl:0<rs.length:=OX.mpr c;have hrm:(rs.map nD).length=rs.length:=length_map _;have hjm:(js.map nD).length=js.length:=length_map _;walk_at "r";rintro z s2 hs2 hz0 hz1;obtain⟨i,rfl⟩:∃i:Nat,z=(i:Int):=⟨z.toNat,by omega⟩
  have hir:i<rs.length:=by omega
  walk_at "r";refine⟨i,nD rs[i],⟨by rw [hrm];exact Ln hir,by omega⟩,by rw [h_,cx hir];rfl,by show (js.map nD).length<_;omega,rs.length - 1,by omega,rs.eraseIdx i,js++[rs[i]],s2,v1,?_,hs2,by rw [length_eraseIdx,if_pos hir],by rw [map_append,Ae];rfl⟩;rw [append_assoc];exact ((perm_append_comm.trans (Af hir)).append_left js).trans hp
 .have c:rs=[]:=c;subst c;rw [Eo] at hp;walk_at "r";exact q js (a,b) hp hs
noncomputable def kE(K:b_)(mg:Str->Option Value)(t:TxC K):=(have TC:=t;show LS K [0] _ _ from (ao (qR (iT (am mh (ax 3) (bT 0))) (ao (cw (zt (iT (am eF (ag (bh (ax 1) (aZ (am j8 (ag (aD aH (aa (ax 1) ac))) (ax 3))) bn)) (ag (bh (ax 2) bn (aZ (cJ 3)))))) (iT (am eF (ag (aM (c:=aE) (i:=0) (aa (bT 2) ac))) (bT 0)))) (aA (cJ 3)) bb) (aB (am j8 (ax 3) (bT 1)) (cQ 3 rfl)))) (aA (Ba 0))))
def r0:PTS:=psO kE
def r8:RRl gX r0 4 4:=λ_ _ Q h=>xm h λ_ h=>dn h λc0 _ h=>dn h λc1 _ h=>cm h λh=>oV h λa _ h=>oV h λb _ h=>dn h λm _ h=>cm h λh=>r_ rfl <| by
 walk_at "z";obtain⟨g,⟨h0,hm,ha,hb⟩,q⟩:=h;walk_at "r";refine⟨λk ρ=>∃s:Int×Int,SOk s/\(k:Int)<=m/\ρ=[some (stv s),some (.dat (.str a)),some (.dat (.str b)),some (.dat (.int (k:Int)))],⟨m.toNat,(c0,c1),g,by omega,by rw [toNat_of_nonneg h0];rfl⟩,?_⟩;rintro k ρ ⟨⟨u,v⟩,hs,hk,rfl⟩;have cl1:=br a (some ((a.length:Int) - (k:Int))) none;have cl2:=br b none (some (k:Int));have ea:dg a (some ((a.length:Int) - (k:Int))) none=a.drop (a.length - k):=by rw [show (a.length:Int) - (k:Int)=((a.length - k:Nat):Int) by omega,fM]
 have eb:dg b none (some (k:Int))=b.take k:=dI b k;walk_at "r"
 refine dU (λc=>?_) (λc=>?_)
 .walk_at "r"
  refine dU (λc2=>?_) (λc2=>?_)
  .walk_at "r";rintro z s2 hs2 hz0 hz1;walk_at "r"
   refine dU (λc3=>?_) (λc3=>?_)
   .rw [ea,eb] at c2;walk_at "r";exact q k s2 hs2 hk (by rw [<- c2];exact OR _ _)
   .walk_at "r";refine⟨k - 1,by omega,s2,hs2,by omega,?_⟩;rw [show (k:Int) - 1=((k - 1:Nat):Int) by omega]
  .walk_at "r";refine⟨k - 1,by omega,(u,v),hs,by omega,?_⟩;rw [show (k:Int) - 1=((k - 1:Nat):Int) by omega]
 .walk_at "r";exact q 0 (u,v) hs (by omega) (by rw [take_zero];exact N_)
noncomputable def ou(K:b_)(mg:Str->Option Value)(t:TxC K):=(have TC:=t;show LS K [0] _ _ from (ao (aB (bh (ag (le_str (l:=[112,113]))) bn (aZ (am m5 (ag (aM (c:=aE) (i:=0) (aa (bT 3) ac))) (bT 2)))) (cQ 2 rfl)) (ao (aB (le_str (l:=[])) (cQ 3 rfl)) (ao (eE (bq (cJ 1)) (aQ 4 rfl) (ao (aB (aM (c:=aE) (i:=0) (aa (bT 4) ac)) (cQ 5 rfl)) (ao (aB (Ba 0) (cQ 6 rfl)) (ao (kT (cw (zt (iT (am tG (ax 3) (ag (le_str (l:=[]))))) (iT (am mh (ax 5) (bT 0)))) (aB (ar (c:=d4) (aa (bo 3) (aa (bo 4) ac))) (cQ 6 rfl)) bb)) (ao (kT (cw (iT (am eF (ax 5) (bT 1))) (aB (aM (c:=gX) (i:=0) (aa (bo 3) (aa (bo 4) (aa (bo 6) ac)))) (cQ 6 rfl)) bb)) (ao (kT (cw (iT (am eF (ax 5) (bT 0))) (aB (am bC (ax 2) (ag (bh (ag (le_str (l:=[98,97]))) bn (aZ (aM (c:=aE) (i:=0) (aa (bT 3) ac)))))) (cQ 2 rfl)) bb)) (ao (aB (am bC (ax 2) (ag (bh (ax 4) (aZ (cJ 6)) bn))) (cQ 2 rfl)) (aB (cJ 4) (cQ 3 rfl))))))))) (aA (am bC (ax 2) (ag (bh (ag (le_str (l:=[113,112]))) bn (aZ (am m5 (ag (aM (c:=aE) (i:=0) (aa (bT 3) ac))) (bT 2)))))))))))
def vR:PTS:=psO ou
def vS:RRl jQ vR 7 2:=λ_ _ Q h=>xm h λ_ h=>dn h λc0 _ h=>dn h λc1 _ h=>cm h λh=>xk h λds _ h=>cm h λh=>r_ rfl <| by
 walk_at "z";obtain⟨ws,rfl,⟨g,hn,hp⟩,q⟩:=h;have hwm:(ws.map D.str).length=ws.length:=length_map _;walk_at "r";rintro z s1 hs1 hz0 hz1;have c2:(dg [112,113] none (some (z / 2))).length<=2:=br [112,113] none (some (z / 2));walk_at "r"
 refine IS (xs:=ws) (e:=D.str) (λpre ρ=>∃(s:Int×Int) (T one:List Nat) (v4 v5 v6:Option PV),SOk s/\T.length<=2+62*pre.length/\(∃S,x6 pre T S/\(0<pre.length->one <:+ T/\S (pre.length - 1)=T.length - one.length))/\(pre=[]/\one=[]\/∃p,pre=p++[one])/\ρ=[some (stv s),some (.dat (.lst (ws.map .str))),some (.dat (.str T)),some (.dat (.str one)),v4,v5,v6]) ⟨s1,_,[],_,_,_,hs1,by omega,⟨λ_=>0,⟨λk h=>absurd h (Mg _),λk h=>absurd h (Mg _)⟩,λh=>absurd h (E_ _)⟩,.inl ⟨rfl,rfl⟩,rfl⟩ ?_ ?_
 .rintro pre x suf ρ ew ⟨⟨u,v⟩,T,one,v4,v5,v6,hs,hT,⟨S,hS,hlast⟩,ho,rfl⟩;have hx:=hp x (by rw [ew];simp);have hx2:=hx.2.1
  have hone:one.length<=60:=by
   rcases ho with ⟨_,e⟩|⟨p,e⟩
   .rw [e];exact K_ _
   .exact (hp one (by rw [ew,e];simp)).2.1
  have hpl:pre.length<40:=by
   have:=congrArg NJ ew;rw [length_append,length_cons] at this;omega
  have hne:0<pre.length->one≠[]:=λh z=>by
   rcases ho with ⟨e,_⟩|⟨p,e⟩
   .rw [e] at h;exact absurd h (E_ _)
   .have:=(hp one (by rw [ew,e];simp)).1;rw [z] at this;exact absurd this (E_ _)
  have hpo:one≠[]->0<pre.length:=λh=>by
   rcases ho with ⟨_,e⟩|⟨p,e⟩
   .exact absurd e h
   .rw [e,length_append];exact succ_pos _
  have gx:one.length<=10000/\(0<x.length/\x.length<=10000):=⟨by omega,hx.1,by omega⟩
  walk_at "r";rintro w ⟨u2,v2⟩ hs2 hw0 hw1;walk_at "r"
  refine⟨λρ=>∃k:Nat,((w=0\/one=[])/\k=0\/0<w/\one≠[]/\k=cA one x)/\ρ=[some (stv (u2,v2)),some (.dat (.lst (ws.map .str))),some (.dat (.str T)),some (.dat (.str one)),some (.dat (.str x)),some (.dat (.int w)),some (.dat (.int (k:Int)))],?_,?_⟩
  .walk_at "r"
   refine uK (λc=>?_) (λc=>?_)
   .walk_at "r"
    refine dU (λc2=>?_) (λc2=>?_)
    .walk_at "r";exact⟨cA one x,.inr ⟨c2,c,rfl⟩,rfl⟩
    .exact⟨0,.inl ⟨.inl (by omega),rfl⟩,rfl⟩
   .exact⟨0,.inl ⟨.inr c,rfl⟩,rfl⟩
  rintro ρ ⟨k,hk,rfl⟩
  have hk1:k=0\/one≠[]/\k<one.length/\k<=x.length/\x.take k <:+ one:=by
   rcases hk with ⟨_,e⟩|⟨_,e,rfl⟩
   .exact .inl e
   .have:=gv (OX.mpr e) hx.1;exact .inr ⟨e,by have:=this.1;omega,by have:=this.1;omega,this.2.1⟩
  have hkw:w=0->k=0:=λh=>by
   rcases hk with ⟨_,e⟩|⟨e,_⟩
   .exact e
   .omega
  clear hk;walk_at "r"
  refine⟨λρ=>∃(k:Nat) (s:Int×Int),SOk s/\(k=0\/one≠[]/\k<one.length/\k<=x.length/\x.take k <:+ one)/\(w=0->k=0)/\ρ=[some (stv s),some (.dat (.lst (ws.map .str))),some (.dat (.str T)),some (.dat (.str one)),some (.dat (.str x)),some (.dat (.int w)),some (.dat (.int (k:Int)))],?_,?_⟩
  .have g2:0<=(k:Int)/\(k:Int)<=(one.length:Int)/\one.length<=10000/\x.length<=10000:=⟨by omega,by rcases hk1 with e|e <;> omega,by omega,by omega⟩
   walk_at "r"
   refine dU (λc=>?_) (λc=>?_)
   .walk_at "r";rintro r s3 hs3 hr hsuf;refine⟨r,s3,hs3,?_,λz=>by omega,rfl⟩
    rcases hk1 with e|e
    .exact .inl (by omega)
    .exact .inr ⟨e.1,by omega,by omega,hsuf⟩
   .exact⟨k,(u2,v2),hs2,hk1,hkw,rfl⟩
  rintro ρ ⟨k,⟨u3,v3⟩,hs3,hk1,hkw,rfl⟩;walk_at "r"
  refine⟨λρ=>∃(F:List Nat) (s:Int×Int),SOk s/\T <+: F/\(F=T\/k=0)/\F.length<=T.length+2/\ρ=[some (stv s),some (.dat (.lst (ws.map .str))),some (.dat (.str F)),some (.dat (.str one)),some (.dat (.str x)),some (.dat (.int w)),some (.dat (.int (k:Int)))],?_,?_⟩
  .walk_at "r"
   refine dU (λc=>?_) (λc=>?_)
   .walk_at "r";rintro y s4 hs4 hy0 hy1;have cl4:(dg [98,97] none (some y)).length<=2:=br [98,97] none (some y);walk_at "r";exact⟨_,s4,hs4,prefix_append _ _,.inr (hkw c),by rw [length_append];omega,rfl⟩
   .exact⟨T,(u3,v3),hs3,prefix_refl _,.inl rfl,by omega,rfl⟩
  rintro ρ ⟨F,⟨u4,v4⟩,hs4,hF1,hF3,hF2,rfl⟩;have ec:dg x (some (k:Int)) none=x.drop k:=fM x k;have el:=br x (some (k:Int)) none;have hFT:=hF1.length_le
  have hkF:x.take k <:+ F:=by
   rcases hk1 with e|⟨e1,e2,e3,e4⟩
   .rw [e,take_zero];exact N_
   .rcases hF3 with rfl|e
    .exact e4.trans (hlast (hpo e1)).1
    .rw [e,take_zero];exact N_
  obtain⟨st1,st2,st3⟩:=AR hS hF1 hkF (by rcases hk1 with e|e <;> omega) λh=>by
   obtain⟨h1,h2⟩:=hlast h;have:=h1.length_le;have:=OX.mpr (hne h);rcases hk1 with e|e <;> omega
  walk_at "r";rw [ec]
  refine⟨(u4,v4),F++x.drop k,x,_,_,_,hs4,?_,⟨_,st1,λ_=>⟨st2,?_⟩⟩,.inr ⟨pre,rfl⟩,rfl⟩
  .rw [length_append,length_append,length_drop];show _<=2+62*(pre.length+1);omega
  .show (if (pre++[x]).length - 1<pre.length then _ else F.length - k)=_;rw [length_append,if_neg (by show ¬ pre.length+1 - 1<pre.length;omega),length_append,length_drop];have:k<=x.length:=by rcases hk1 with e|e <;> omega
   omega
 .rintro ρ ⟨⟨u,v⟩,T,one,v4,v5,v6,hs,hT,⟨S,hS,_⟩,ho,rfl⟩;walk_at "r";rintro y s2 hs2 hy0 hy1;have cl3:(dg [113,112] none (some (y / 2))).length<=2:=br [113,112] none (some (y / 2));walk_at "r";exact q _ s2 hs2 (by rw [length_append];omega) ⟨S,λk hk=>xu (hS.1 k hk),hS.2⟩
noncomputable def qz(K:b_)(mg:Str->Option Value)(t:TxC K):=(have TC:=t;show LS K [0] _ _ from (ao (aB (eB ac) (cQ 2 rfl)) (ao (eE (ml (aa (ag (aD aH (aa (ax 1) ac))) ac)) (aQ 3 rfl) (eC (HZ (i:=2) (am hZ (ag (eB (aa (bo 3) ac))) (ag (am bz (ax 1) (ax 3))))))) (aA (wZ (aM (c:=cY) (i:=0) (aa (bo 2) ac)))))))
def yh:PTS:=psO qz
def yi:RRl iW yh 4 2:=λ_ _ Q h=>xm h λ_ h=>dn h λc0 _ h=>dn h λc1 _ h=>cm h λh=>ur h λds _ h=>cm h λh=>r_ rfl <| by
 walk_at "z";obtain⟨cs,rfl,⟨g,hn,hc⟩,q⟩:=h;have hcm:(cs.map nD).length=cs.length:=length_map _;walk_at "r"
 refine⟨λk ρ=>∃v3:Option PV,ρ=[some (.own [.int c0,.int c1]),some (.dat (.tup (cs.map nD))),some (.own ((rwN cs k).map nD)),v3],⟨_,rfl⟩,?_,?_⟩
 .rintro k ρ _ hk rfl ⟨v3,rfl⟩;have hk:k<cs.length:=by rw [hcm,toNat_natCast] at hk;exact hk
  have ca:atI (cs.map nD) (k:Int)=some (.int ((cs.getD k 0:Nat):Int)):=c9 (j:=k) (by rw [h_,cx hk,cn,cx hk];rfl) rfl;have cb:cs.getD k 0<=9:=by rw [cn,cx hk];exact hc _ (FX _)
  have er:sx [D.int (k:Int)] ((cs.getD k 0:Nat):Int)=(q_ (cs.getD k 0) k).map nD:=by rw [q0,map_replicate];rfl
  have gm:(-1000000:Int)<=((cs.getD k 0:Nat):Int)/\((cs.getD k 0:Nat):Int)<=1000000/\[D.int (k:Int)].length*(((cs.getD k 0:Nat):Int)).toNat<=1000000:=⟨by omega,by omega,by show 1*_<=_;omega⟩
  have hl:=iF hc k;walk_at "r";refine⟨_,ca,?_⟩;walk_at "r";rw [er];walk_at "r";rw [gP,map_append];exact⟨by rw [length_map,length_map,length_replicate];omega,_,rfl⟩
 .rintro ρ ⟨v3,rfl⟩;rw [hcm,toNat_natCast];have hl:=iF hc cs.length;have gs:SOk (c0,c1)/\(rwN cs cs.length).length<=1000:=⟨g,by omega⟩
  walk_at "r";intro js s hj hs;walk_at "r";exact q js s hj hs
noncomputable def kF(K:b_)(mg:Str->Option Value)(t:TxC K):=(have TC:=t;show LS K [] _ _ from (aA (aO (ix:=[none,some 1,some 0]) rfl (ml (aa (ag (aD aH (aa (ax 0) ac))) ac)) (λfs hc=>(aQ 0 (dH hc (by decide)))) (iT (am eF (ag (bh (ax 2) (aZ (cJ 0)) (aZ (am bC (ax 0) (ag (aD aH (aa (ax 1) ac))))))) (ax 1))) (cJ 0))))
def sd:PTS:=psO kF
def se:PRl dY sd 2 2:=λ_ Q h=>oV h λt _ h=>oV h λw _ h=>cm h λh=>r_ rfl <| by
 walk_at "z";obtain⟨⟨ht,hw⟩,q⟩:=h;walk_at "r"
 refine cfR (λk=>stA t w k) (λk=>nD k) (λk hk v K1 K2 k1 k2=>?_) (λv=>?_)
 .have hk:k<t.length:=hk
  have e:dg t (some (k:Int)) (some ((k:Int)+(w.length:Int)))=(t.drop k).take w.length:=by
   rw [show ((k:Int)+(w.length:Int))=((k+w.length:Nat):Int) from rfl,sM];congr 1;omega
  have hs:stA t w k=decide ((t.drop k).take w.length=w):=by
   unfold stA
   by_cases h:(t.drop k).take w.length=w
   .have hl:=congrArg NJ h;rw [length_take,length_drop] at hl;rw [decide_eq_true h,decide_eq_true ⟨by omega,h⟩]
   .rw [decide_eq_false h,decide_eq_false λz=>h z.2]
  rw [hs,<- e] at k1 k2;walk_at "r"
  refine dU (λc=>?_) (λc=>?_)
  .walk_at "r";exact k1 _ (decide_eq_true c)
  .exact k2 _ (decide_eq_false c)
 .exact q
noncomputable def oy(K:b_)(mg:Str->Option Value)(t:TxC K):=(have TC:=t;show LS K [0] _ _ from (ao (aB (aM (c:=aE) (i:=0) (aa (ag (aD aH (aa (ax 1) ac))) ac)) (cQ 4 rfl)) (ao (aB (am bC (ag (am bC (ag (bh (ax 2) bn (aZ (cJ 4)))) (ag (eB (aa (ag (am bC (ag (am bz (ax 2) (ax 4))) (bT 1))) ac))))) (ag (bh (ax 2) (aZ (am bC (ax 4) (bT 1))) bn))) (cQ 5 rfl)) (ao (aB (ar (c:=bG) (aa (ag (ng (c0:="Often") (c:=bO) (aa (bo 1) (aa (bo 5) ac)))) ac)) (cQ 6 rfl)) (ao (cw (zu (iT (am uN (ag (aD aH (aa (ax 6) ac))) (ag (aD aH (aa (ax 3) ac))))) (iT (am mh (ag (aD aH (aa (ax 6) ac))) (ag (am bC (ag (aD aH (aa (ax 3) ac))) (ag (aD aH (aa (ag (am bz (ax 1) (ax 4))) ac)))))))) (aA (oZ (i:=false))) bb) (ao (cw (iT (am uN (ag (aD aH (aa (ag (ar (c:=dY) (aa (bo 6) (aa (ag (am bz (ax 1) (ax 4))) ac)))) ac))) (ag (am bz (ax 5) (ax 4))))) (aA (oZ (i:=false))) bb) (aA (Jx (am uN (ag (aD aH (aa (ag (ar (c:=dY) (aa (bo 3) (aa (ag (am bz (ax 1) (ax 4))) ac)))) ac))) (ag (am bz (ax 5) (ax 4)))) (am eF (ax 6) (ax 3))))))))))
def vT:PTS:=psO oy
def vU:RRl jR vT 7 4:=λ_ _ Q h=>xm h λ_ h=>dn h λc0 _ h=>dn h λc1 _ h=>cm h λh=>xk h λds _ h=>xk h λes _ h=>oV h λt _ h=>cm h λh=>r_ rfl <| by
 walk_at "z";obtain⟨ps,rfl,cs,rfl,⟨g,hn0,hn,hp,hk,hcl,hc,ht,hL⟩,q⟩:=h;have hpm:(ps.map D.str).length=ps.length:=length_map _;have hcm:(cs.map nD).length=cs.length:=length_map _;have hpos:∀w∈ps,0<w.length:=λw h=>(hp w h).1;walk_at "r";rintro z ⟨u,v⟩ g hz0 hz1;obtain⟨a,rfl⟩:∃a:Nat,z=(a:Int):=⟨z.toNat,by omega⟩
 have ha:a<cs.length:=by omega
 have ha2:a<ps.length:=by omega
 have ca:atI (cs.map nD) (a:Int)=some (.int ((cs.getD a 0:Nat):Int)):=by
  refine c9 (j:=a) ?_ rfl;rw [h_,cx ha,cn,cx ha];rfl
 have c1:dg (cs.map nD) none (some (a:Int))=(cs.take a).map nD:=by rw [dI,map_take]
 have c2:dg (cs.map nD) (some ((a:Int)+1)) none=(cs.drop (a+1)).map nD:=by rw [map_drop];exact fM _ (a+1)
 have es:(cs.take a).map nD++[D.int (((cs.getD a 0:Nat):Int)+1)]++(cs.drop (a+1)).map nD=(cs.set a (cs.getD a 0+1)).map nD:=by
  rw [set_eq_take_append_cons_drop,if_pos ha,map_append,map_cons,append_assoc];rfl
 have l1:((cs.take a).map nD).length<=4:=by rw [length_map,length_take];omega
 have l2:((cs.drop (a+1)).map nD).length<=4:=by rw [length_map,length_drop];omega
 have lx:[D.int (((cs.getD a 0:Nat):Int)+1)].length=1:=rfl;have l3:((cs.take a).map nD++[D.int (((cs.getD a 0:Nat):Int)+1)]).length<=5:=by rw [length_append];omega
 walk_at "r";rw [c1];walk_at "r";refine⟨_,ca,?_⟩;walk_at "r";refine⟨by rw [lx];omega,?_⟩;walk_at "r";rw [c2];walk_at "r";rw [es];have hca:1<=cs.getD a 0/\cs.getD a 0<=3:=by rw [cn,cx ha];exact hc _ (FX _)
 have sm:=CC ha (by omega) hc;have sgd:=λj=>kt (cs:=cs) (a:=a) (b:=cs.getD a 0+1) (j:=j) ha;have sle:=AU (ps:=ps) (u:=t) ha;have slo:=λu=>AU (ps:=ps) (u:=u) ha;have smo:=Fv ha (hpos _ (bN ha2)) hL.1
 have hc':∀c∈cs.set a (cs.getD a 0+1),1<=c/\c<=9:=λc h=>by
  rcases mem_or_eq_of_mem_set h with h|h
  .have:=hc c h;omega
  .omega
 have hl':(cs.set a (cs.getD a 0+1)).length=cs.length:=LK;generalize cs.set a (cs.getD a 0+1)=bs at es sm sgd slo smo hc' hl';have gO:ps.length<=40/\Pcs 60 ps/\(∀i,i<ps.length->bB ps i=true)/\bs.length=ps.length/\(∀c∈bs,1<=c/\c<=9)/\stp bs bs.length<=500:=⟨by omega,hp,hk,by omega,hc',by rw [hl'];exact sm⟩
 have gS:ps.length<=40/\Pcs 60 ps/\bs.length=ps.length/\stp bs bs.length<=500/\∀c∈bs,c<=9:=⟨by omega,hp,by omega,by rw [hl'];exact sm,λc h=>(hc' c h).2⟩
 walk_at "r";refine⟨ps,bs,rfl,gS,λo ho=>?_⟩;have hO:=tW hpos (by omega) hk ho;have o1:t.length<=o.length:=tP (hL.2 _ (slo o hO.1))
 have o2:o.length<=t.length+(pw ps a).length:=by
  have:=tP (hO.2 _ smo)
  rwa [length_append] at this
 have o3:=hO.1 a ha2;have wa:=(hp _ (bN ha2)).2.1;have gp:o.length<=100000/\(pw ps a).length<=100000:=⟨by omega,by omega⟩
 have gq:t.length<=100000/\(pw ps a).length<=100000:=⟨by omega,by omega⟩
 have ba:atI (bs.map nD) (a:Int)=some (.int ((bs.getD a 0:Nat):Int)):=by
  refine c9 (j:=a) ?_ rfl;rw [h_,cx (show a<bs.length by omega),cn,cx (show a<bs.length by omega)];rfl
 have m1:((plN o (pw ps a)).map nD).length=(plN o (pw ps a)).length:=length_map _;have m2:((plN t (pw ps a)).map nD).length=(plN t (pw ps a)).length:=length_map _;walk_at "r";refine⟨_,bV ha2 rfl,?_⟩;walk_at "r";refine⟨_,bV ha2 rfl,?_⟩;walk_at "r";refine⟨_,ba,?_⟩;walk_at "r";refine⟨_,bV ha2 rfl,?_⟩;walk_at "r";refine⟨_,ba,?_⟩;walk_at "r"
 refine dU (λc=>?_) (λc=>?_)
 .walk_at "r";exact q _ g
 .have eo:o=t:=by
   refine hO.uniq ⟨λj hj=>?_,λw hw=>hL.2 _ (slo w hw)⟩;rw [sgd]
   by_cases e:j=a
   .rw [if_pos e];have:=sgd a;rw [if_pos rfl] at this;rw [e];omega
   .rw [if_neg e];exact hL.1 j hj
  walk_at "r";rw [decide_eq_true eo];exact q _ g
noncomputable def jh(K:b_)(mg:Str->Option Value)(t:TxC K):=(have TC:=t;show LS K [0] _ _ from (ao (aB (aM (c:=cY) (i:=0) (aa (ag (qT false (aa (ag (aD aH (aa (ax 1) ac))) ac))) ac)) (cQ 4 rfl)) (ao (aB (ng (c0:="Often") (c:=bO) (aa (ag (aO (ix:=[none,some 1]) rfl (bq (cJ 4)) (λfs hc=>(aQ 0 (dH hc (by decide)))) bu (am bz (ax 1) (ax 0)))) (aa (ag (aD cH (aa (ag (aO (ix:=[none,some 2]) rfl (bq (cJ 4)) (λfs hc=>(aQ 0 (dH hc (by decide)))) bu (am bz (ax 1) (ax 0)))) ac))) ac))) (cQ 5 rfl)) (aA (am eF (ag (ar (c:=bG) (aa (bo 5) ac))) (ax 3))))))
def pN:PTS:=psO jh
def pO:RRl fB pN 6 4:=λ_ _ Q h=>xm h λ_ h=>dn h λc0 _ h=>dn h λc1 _ h=>cm h λh=>xk h λds _ h=>xk h λes _ h=>oV h λt _ h=>cm h λh=>r_ rfl <| by
 walk_at "z";obtain⟨ps,rfl,cs,rfl,⟨g,hn0,hn,hp,hk,hcl,hc,ht,hL⟩,q⟩:=h;have hpm:(ps.map D.str).length=ps.length:=length_map _;have hpos:∀w∈ps,0<w.length:=λw h=>(hp w h).1;have er:uo 0 ((((ps.map D.str).length:Nat):Int)).toNat=(c_ ps.length).map nD:=by rw [toNat_natCast,hpm,EZ]
 have g1:SOk (c0,c1)/\(c_ ps.length).length<=1000:=⟨g,by rw [length_range];omega⟩
 walk_at "r";rw [er];walk_at "r";rintro js ⟨u,v⟩ hj g;have hjl:=hj.length_eq;rw [length_range] at hjl;have hjm:(js.map nD).length=js.length:=length_map _;have lt:∀j∈js,j<ps.length:=λj h=>mem_range.mp (hj.mem_iff.mp h);walk_at "r"
 refine cm1 (λj=>.str (pw ps j)) (λj hjm v K1 k1=>?_) (λv0=>?_)
 .have e1:nD j=.int (j:Int):=rfl;rw [e1];walk_at "r";refine⟨_,bV (lt j hjm) rfl,?_⟩;walk_at "r";exact k1 _
 have em:js.map (λj=>D.str (pw ps j))=(js.map (pw ps)).map .str:=by rw [map_map];rfl
 rw [em];walk_at "r"
 refine cm1 (λj=>nD (cs.getD j 0)) (λj hjm v K1 k1=>?_) (λv1=>?_)
 .have e1:nD j=.int (j:Int):=rfl;have hj2:j<cs.length:=by rw [hcl];exact lt j hjm
  rw [e1];walk_at "r";refine⟨_,c9 (j:=j) (by rw [h_,cx hj2];rfl) rfl,?_⟩;walk_at "r";have e2:cs.getD j 0=cs[j]:=by rw [cn,cx hj2];rfl
  rw [e2] at k1;exact k1 _
 have em2:js.map (λj=>nD (cs.getD j 0))=(js.map λj=>cs.getD j 0).map nD:=by rw [map_map];rfl
 rw [em2]
 have hc':∀c∈js.map (λj=>cs.getD j 0),1<=c/\c<=3:=λc h=>by
  obtain⟨j,hj2,rfl⟩:=Lv.mp h;have hj3:j<cs.length:=by rw [hcl];exact lt j hj2
  rw [cn,cx hj3];exact hc _ (FX _)
 have hp':Pcs 60 (js.map (pw ps)):=λw hw=>by
  obtain⟨i,hi,rfl⟩:=Lv.mp hw;exact hp _ (bN (lt i hi))
 have hk':=λi (h:i<(js.map (pw ps)).length)=>CF hj hk h;have hE:=λu=>Ix (u:=u) hcl hj;have hl1:(js.map (pw ps)).length=ps.length:=by rw [length_map];exact hjl
 have hl2:(js.map λj=>cs.getD j 0).length=ps.length:=by rw [length_map];exact hjl
 generalize js.map (pw ps)=qs at hp' hk' hE hl1;generalize js.map (λj=>cs.getD j 0)=bs at hc' hE hl2;have hs:=p_ (AS (λc h=>(hc' c h).2) bs.length) (rO (by omega));have gO:qs.length<=40/\Pcs 60 qs/\(∀i,i<qs.length->bB qs i=true)/\bs.length=qs.length/\(∀c∈bs,1<=c/\c<=9)/\stp bs bs.length<=500:=⟨by omega,hp',hk',by omega,λc h=>by have:=hc' c h;omega,by omega⟩
 have gS:qs.length<=40/\Pcs 60 qs/\bs.length=qs.length/\stp bs bs.length<=500/\∀c∈bs,c<=9:=⟨by omega,hp',by omega,by omega,λc h=>by have:=hc' c h;omega⟩
 walk_at "r";refine⟨qs,bs,rfl,gS,λo ho=>?_⟩;have hO:=(tW (λw h=>(hp' w h).1) (by omega) hk' ho).congr hE;walk_at "r";rw [decide_eq_true (hO.uniq hL)];exact q _ g
noncomputable def ji(K:b_)(mg:Str->Option Value)(t:TxC K):=(have TC:=t;show LS K [0] _ _ from (ao (aB (aO (ix:=[none,some 1]) rfl (bq (bD (ns0:=["pieces","counts","laps","total"]) TC.cl_Often TC.n_Often_pieces (i:=0) (by decide +kernel) (ax 1))) (λfs hc=>(aQ 0 (dH hc (by decide)))) bu (aD ER (aa (ag (aO (ix:=[none,some 0]) rfl (bq (bD (ns0:=["pieces","counts","laps","total"]) TC.cl_Often TC.n_Often_pieces (i:=0) (by decide +kernel) (ax 1))) (λfs hc=>(aQ 0 (dH hc (by decide)))) bu (ar (c:=d4) (aa (bo 1) (aa (bo 0) ac))))) ac))) (cQ 3 rfl)) (ao (aB (ar (c:=fA) (aa (bo 1) (aa (ag (j7 (aa (bo 3) (aa (ag (am hZ (ag (eB (aa (bT 0) ac))) (ag (aD aH (aa (ax 3) ac))))) ac)))) ac))) (cQ 4 rfl)) (ao (aB (aM (c:=jQ) (i:=0) (aa (ag (aO (ix:=[none,some 1]) rfl (bq (aM (c:=iW) (i:=0) (aa (ag (bD (ns0:=["pieces","counts","laps","total"]) TC.cl_Often TC.n_Often_counts (i:=1) (by decide +kernel) (ax 1))) ac))) (λfs hc=>(aQ 0 (dH hc (by decide)))) bu (am bz (ag (bD (ns0:=["pieces","counts","laps","total"]) TC.cl_Often TC.n_Often_pieces (i:=0) (by decide +kernel) (ax 1))) (ax 0)))) ac)) (cQ 5 rfl)) (ao (cw (zu (e6 (sy (ar (c:=iI) (aa (bo 4) ac)))) (zu (iT (am mh (ax 4) (ag (aD aH (aa (ax 2) ac))))) (iT (am uN (ag (aD aH (aa (ax 5) ac))) (ag (aD aH (aa (ax 2) ac))))))) (aA (oZ (i:=false))) bb) (ao (aB (ar (c:=gQ) (aa (bo 1) (aa (ag (ar (c:=ko) (aa (bo 1) (aa (bo 5) ac)))) ac))) (cQ 6 rfl)) (aA (hX (am eF (ag (ar (c:=gQ) (aa (bo 1) (aa (ag (ar (c:=ko) (aa (bo 1) (aa (bo 2) ac)))) ac)))) (ax 2)) (hX (am sX (ag (aD aH (aa (ax 2) ac))) (ag (aD aH (aa (ax 6) ac)))) (am sX (ag (aD aH (aa (ax 6) ac))) (ag (aD aH (aa (ax 5) ac)))))))))))))
def pP:PTS:=psO ji
def pQ:RRl fC pP 7 3:=λ_ _ Q h=>xm h λ_ h=>dn h λc0 _ h=>dn h λc1 _ h=>cm h λh=>Co h λc ns fs _ h=>oV h λt _ h=>cm h λh=>r_ rfl <| by
 walk_at "z";obtain⟨rfl,rfl,ps,cs,rfl,⟨g,hn0,hn,hp,hk,hcl,hc,ht,hL⟩,q⟩:=h;have hpm:(ps.map D.str).length=ps.length:=length_map _;have hpos:∀w∈ps,0<w.length:=λw h=>(hp w h).1;have hc9:∀c∈cs,c<=9:=λc h=>by have:=hc c h;omega
 have hE:=tW hpos hcl hk hL;walk_at "r"
 refine cm1 (λw=>.int (mxN ps w:Int)) (λw hw v K1 k1=>?_) (λv=>?_)
 .have hw0:=(hp w hw).2.1;walk_at "r"
  refine cm1 (λo=>.int (cA w o:Int)) (λo ho v K2 k2=>?_) (λv=>?_)
  .have ho0:=(hp o ho).2.1;have gl:w.length<=10000/\(0<o.length/\o.length<=10000):=⟨by omega,(hp o ho).1,by omega⟩
   walk_at "r";exact k2 _
  .rw [nt (λo=>(cA w o:Int))];walk_at "r";intro m h1 h2;rw [Iy h1 h2];exact k1 _
 rw [nt (λw=>(mxN ps w:Int))];have hgm:((ps.map λw=>(mxN ps w:Int)).map D.int).length=ps.length:=by rw [length_map,length_map]
 have er:sx [D.int 0] ((((ps.map λw=>(mxN ps w:Int)).map D.int).length:Nat):Int)=(q_ ps.length (0:Int)).map .int:=by rw [hgm,q0,map_replicate]
 have gm:(-1000000:Int)<=((((ps.map λw=>(mxN ps w:Int)).map D.int).length:Nat):Int)/\((((ps.map λw=>(mxN ps w:Int)).map D.int).length:Nat):Int)<=1000000/\[D.int 0].length*(((((ps.map λw=>(mxN ps w:Int)).map D.int).length:Nat):Int)).toNat<=1000000:=⟨by omega,by omega,by show 1*_<=_;omega⟩
 generalize hgs:(ps.map λw=>(mxN ps w:Int))=gs at hgm er gm;have hgl:gs.length=ps.length:=by rw [<- hgs,length_map]
 have hg0:∀z∈gs,0<=z:=λz hz=>by
  rw [<- hgs] at hz;obtain⟨w,_,rfl⟩:=Lv.mp hz;omega
 have hgL:∀a b,a<ps.length->b<ps.length->(cA (pw ps a) (pw ps b):Int)<=gs.getD a 0:=λa b ha hb=>by
  have e1:gs.getD a 0=(mxN ps (pw ps a):Int):=by
   rw [<- hgs,cn,h_,bR ha];rfl
  have:=DH (w:=pw ps a) (bN hb);omega
 have gb:ps.length<=20/\cs.length=ps.length/\(∀c∈cs,c<=9)/\gs.length=ps.length/\(∀g∈gs,0<=g)/\∀a b,a<ps.length->b<ps.length->(cA (pw ps a) (pw ps b):Int)<=gs.getD a 0:=⟨by omega,hcl,hc9,hgl,hg0,hgL⟩
 obtain⟨js0,hj0,e0⟩:=hL.1;have lt:∀js:List Nat,js.Perm (rwN cs cs.length)->∀j∈js,j<ps.length:=λjs hj j h=>by rw [<- hcl];exact xo (hj.mem_iff.mp h)
 have bnd:ofT ps cs - (ctS gs cs ps.length).sum<=(t.length:Int):=by
  rw [e0];exact CG hpos hcl hg0 hgL hj0
 have g1:SOk (c0,c1)/\cs.length<=20/\∀c∈cs,c<=9:=⟨g,by omega,hc9⟩
 walk_at "r";rw [er];walk_at "r";refine⟨ps,cs,rfl,gs,rfl,gb,?_⟩;generalize ofT ps cs - (ctS gs cs ps.length).sum=bv at bnd ⊢;walk_at "r";rintro js2 ⟨u,v⟩ hj2 g;have hjl2:=hj2.length_eq;have hrl:=iF hc9 cs.length;have hjm2:(js2.map nD).length=js2.length:=length_map _;walk_at "r"
 refine cm1 (λj=>.str (pw ps j)) (λj hjm v K1 k1=>?_) (λv0=>?_)
 .have e1:nD j=.int (j:Int):=rfl;rw [e1];walk_at "r";refine⟨_,bV (lt _ hj2 j hjm) rfl,?_⟩;walk_at "r";exact k1 _
 have em2:js2.map (λj=>D.str (pw ps j))=(js2.map (pw ps)).map .str:=by rw [map_map];rfl
 rw [em2]
 have hpc:Pcs 60 (js2.map (pw ps)):=λw hw=>by
  obtain⟨i,hi,rfl⟩:=Lv.mp hw;exact hp _ (bN (lt _ hj2 i hi))
 have gl:SOk (u,v)/\(js2.map (pw ps)).length<=40/\Pcs 60 (js2.map (pw ps)):=⟨g,by rw [length_map];omega,hpc⟩
 walk_at "r";rintro T ⟨u,v⟩ g hT ⟨S,hS⟩
 have hET:EnO ps cs T:=λj hj=>by
  refine Iu (S:=S) hpos hcl hj2 (λk hk=>?_) (λi j h1 h2=>hS.lt h1 (by rw [length_map];exact h2)) hj;have:=hS.1 k (by rw [length_map];exact hk)
  rwa [kr hk] at this
 have hTl:=tP (hE.2 T hET);have gw:(D.int bv).sort=true:=rfl;have gi:∀u:List Nat,u.length<=100000->(ps.length<=4/\Pcs 60 ps/\(∀i,i<ps.length->bB ps i=true)/\cs.length=ps.length/\(∀c∈cs,c<=9)/\u.length<=100000):=λu hu=>⟨hn,hp,hk,hcl,hc9,hu⟩
 have gt:cs.length<=4/\(∀c∈cs,c<=9)/\cs.length=ps.length/\∀w∈ps,w.length<=60:=⟨by omega,hc9,hcl,λw hw=>(hp w hw).2.1⟩
 have hjs:∀rows:List (Nat×Nat),(rows.map λr=>nD r.2)=(rows.map (·.2)).map nD:=λrows=>by rw [map_map];rfl
 walk_at "r";refine⟨ps,cs,rfl,gi T (by omega),hET,λrows ok=>?_⟩;have hrow:=ok.row hcl;have hsh:=(ok.short hpos hk).1;have hst:=tP (hL.2 _ ⟨_,hrow,rfl⟩);walk_at "r";refine⟨ps,cs,rfl,gt,rows.map (·.2),by rw [hjs],hrow,?_⟩;walk_at "r";refine⟨ps,cs,rfl,gi t (by omega),hE.1,λrows2 ok2=>?_⟩;have hrow2:=ok2.row hcl;have hsh2:=ok2.short hpos hk;have hst2:=tP (hL.2 _ ⟨_,hrow2,rfl⟩);have eq2:=hsh2.2 (by have:=hsh2.1;omega)
 walk_at "r";refine⟨ps,cs,rfl,gt,rows2.map (·.2),by rw [hjs],hrow2,?_⟩;rw [eq2];walk_at "r";rw [decide_eq_true (by omega)];exact q _ g
noncomputable def DL(K:b_)(mg:Str->Option Value)(t:TxC K):=(have TC:=t;show LS K [] _ _ from (ao (eE (ml (aa (ag (aD EI (aa (bT 2) (aa (ag (aD uP (aa (bT 3) (aa (ag (aD aH (aa (ax 0) ac))) ac)))) ac)))) ac)) (aQ 1 rfl) (ao (aB (ar (c:=gT) (aa (bo 0) (aa (bo 1) ac))) (cQ 2 rfl)) (ao (aB (aM (c:=iH) (i:=2) (aa (ag (am bC (bT 1) (ag (aM (c:=aE) (i:=2) (aa (bT 4) ac))))) (aa (bT 7) ac))) (cQ 3 rfl)) (ao (aB (aM (c:=gW) (i:=2) (aa (ag (aD aH (aa (ax 3) ac))) (aa (bT 3) ac))) (cQ 4 rfl)) (ao (aB (ng (c0:="Often") (c:=bO) (aa (ag (aD cH (aa (ax 3) ac))) (aa (bo 4) ac))) (cQ 5 rfl)) (ao (aB (ar (c:=bG) (aa (bo 5) ac)) (cQ 6 rfl)) (ao (cw (zu (e6 (sy (aM (c:=jR) (i:=2) (aa (bo 3) (aa (bo 4) (aa (bo 6) ac)))))) (e6 (sy (aM (c:=fB) (i:=2) (aa (bo 3) (aa (bo 4) (aa (bo 6) ac))))))) (aA (oZ (i:=false))) bb) (ao (cw (e6 (sy (aM (c:=fC) (i:=2) (aa (bo 5) (aa (bo 6) ac))))) (aA (oZ (i:=false))) bb) (cw (iT (am tG (ag (ar (c:=bG) (aa (ag (ng (c0:="Often") (c:=bO) (aa (bo 3) (aa (ag (am hZ (ag (eB (aa (bT 1) ac))) (ag (aD aH (aa (ax 3) ac))))) ac)))) ac))) (ag (ar (c:=jO) (aa (ag (ng (c0:="Family") (c:=cF) (aa (bo 3) ac))) ac))))) (aA (oZ (i:=false))) bb))))))))) (aA (oZ (i:=true)))))
def A4:PTS:=psO DL
def Fx(ns:List Int)(h63:ns.length<=63)(Q:PV->Prop)(q:Q (.dat (.bl true))):IR A4 DI [.scr ns] Q:=by
 show A4 _ [some (.dat (.scr ns)),none,none,none,none,none,none]
 have hmax:(if (if (ns.length:Int)<3 then (ns.length:Int) else 3) > 2 then if (ns.length:Int)<3 then (ns.length:Int) else 3 else 2).toNat<=3:=by
  split
  .split <;> omega
  .omega
 walk_at "r"
 refine⟨λk ρ=>∃v1 v2 v3 v4 v5 v6:Option PV,ρ=[some (.dat (.scr ns)),v1,v2,v3,v4,v5,v6],⟨_,_,_,_,_,_,rfl⟩,?_,?_⟩
 .rintro k ρ _ hk rfl ⟨v1,v2,v3,v4,v5,v6,rfl⟩;have hk3:k<3:=u1 hk hmax;clear hk hmax;walk_at "r";rintro⟨a,b⟩ g;walk_at "r";rintro y ⟨a,b⟩ g hy0 hy1;have hy2:0<=1+y/\1+y<=100/\(0:Int)<7/\(7:Int)<=60:=⟨by omega,by omega,by decide,by decide⟩
  walk_at "r";rintro ps ⟨a,b⟩ g hpl hpp;have hpl:ps.length=(1+y).toNat:=hpl;have hp:Pcs 60 ps:=λw hw=>⟨(hpp w hw).1,by have h:=(hpp w hw).2.1;have h:w.length<=7:=h;omega,(hpp w hw).2.2⟩
  have w0:=CD (ps:=ps) (by omega) λw hw=>(hp w hw).2.1;have wk:=λi (h:i<(al ps).length)=>AW h;have wp:=fR hp;have w5:(al ps).length<=4:=by have:=kX ps;omega
  generalize al ps=ws at w0 wk wp w5;clear hpl hpp hy2 hy0 hy1 hp;have hlm:(ws.map D.str).length=ws.length:=length_map _;have hc2:0<=((ws.map D.str).length:Int)/\((ws.map D.str).length:Int)<=100/\(0:Int)<3/\(3:Int)<=60:=⟨by omega,by omega,by decide,by decide⟩
  walk_at "r";rintro cs ⟨a,b⟩ g hcl hcc;have hcl:cs.length=ws.length:=by rw [hcl,hlm,toNat_natCast]
  have hcc:∀c∈cs,1<=c/\c<=3:=hcc;have hpos:∀w∈ws,0<w.length:=λw h=>(wp w h).1;have hs:=p_ (AS (λc h=>(hcc c h).2) cs.length) (rO (by omega));have gO:ws.length<=40/\Pcs 60 ws/\(∀i,i<ws.length->bB ws i=true)/\cs.length=ws.length/\(∀c∈cs,1<=c/\c<=9)/\stp cs cs.length<=500:=⟨by omega,wp,wk,hcl,λc h=>by have:=hcc c h;omega,by omega⟩
  have gS:ws.length<=40/\Pcs 60 ws/\cs.length=ws.length/\stp cs cs.length<=500/\∀c∈cs,c<=9:=⟨by omega,wp,hcl,by omega,λc h=>by have:=hcc c h;omega⟩
  walk_at "r";refine⟨ws,cs,rfl,gS,λt ht=>?_⟩;have hE:=tW hpos hcl wk ht
  have htl:t.length<=3000:=by
   obtain⟨js,hj,rfl⟩:=ht.1;have h1:=Ds (Ce λw hw=>(wp w hw).2.1) js;have h2:=hj.length_eq;have h3:=iF (cs:=cs) (λc h=>by have:=hcc c h;omega) cs.length;omega
  have gm:SOk (a,b)/\0<ws.length/\ws.length<=4/\Pcs 60 ws/\(∀i,i<ws.length->bB ws i=true)/\cs.length=ws.length/\(∀c∈cs,1<=c/\c<=3)/\t.length<=3000/\Lst (EnO ws cs) t:=⟨g,w0,w5,wp,wk,hcl,hcc,htl,hE⟩
  walk_at "r";rintro⟨a,b⟩ g;have gm:SOk (a,b)/\0<ws.length/\ws.length<=4/\Pcs 60 ws/\(∀i,i<ws.length->bB ws i=true)/\cs.length=ws.length/\(∀c∈cs,1<=c/\c<=3)/\t.length<=3000/\Lst (EnO ws cs) t:=⟨g,w0,w5,wp,wk,hcl,hcc,htl,hE⟩
  walk_at "r";rintro⟨a,b⟩ g;have gb:SOk (a,b)/\0<ws.length/\ws.length<=4/\Pcs 60 ws/\(∀i,i<ws.length->bB ws i=true)/\cs.length=ws.length/\(∀c∈cs,1<=c/\c<=3)/\t.length<=3000/\Lst (GlO ws cs) t:=⟨g,w0,w5,wp,wk,hcl,hcc,htl,ht⟩
  walk_at "r";refine⟨ws,cs,rfl,gb,?_⟩;rintro⟨a,b⟩ g;have er:sx [D.int 1] (((ws.map D.str).length:Nat):Int)=(q_ ws.length 1).map nD:=by rw [hlm,q0,map_replicate];rfl
  have gmr:(-1000000:Int)<=(((ws.map D.str).length:Nat):Int)/\(((ws.map D.str).length:Nat):Int)<=1000000/\[D.int 1].length*((((ws.map D.str).length:Nat):Int)).toNat<=1000000:=⟨by omega,by omega,by show 1*_<=_;omega⟩
  have hol:(q_ ws.length 1).length=ws.length:=length_replicate;have hoc:∀c∈q_ ws.length 1,c=1:=λc h=>(M_.mp h).2;have hog:∀j,j<ws.length->(q_ ws.length 1).getD j 0=1:=λj hj=>by rw [cn,getElem?_replicate,if_pos hj];rfl
  generalize q_ ws.length 1=os at er hol hoc hog;have hs1:=p_ (AS (cs:=os) (λc h=>by rw [hoc c h];decide) os.length) (rO (by omega));have gO:ws.length<=40/\Pcs 60 ws/\(∀i,i<ws.length->bB ws i=true)/\os.length=ws.length/\(∀c∈os,1<=c/\c<=9)/\stp os os.length<=500:=⟨by omega,wp,wk,hol,λc h=>by rw [hoc c h];decide,by omega⟩
  have gS:ws.length<=40/\Pcs 60 ws/\os.length=ws.length/\stp os os.length<=500/\∀c∈os,c<=9:=⟨by omega,wp,hol,by omega,λc h=>by rw [hoc c h];decide⟩
  have gF:ws.length<=40/\Pcs 60 ws:=⟨by omega,wp⟩
  have gH:Pcs 60 ws/\(al ws).length<=12:=⟨wp,by have:=kX ws;omega⟩
  walk_at "r";rw [er];walk_at "r";refine⟨ws,os,rfl,gS,λo ho=>?_⟩
  have hO:Lst (Ic ws) o:=(tW hpos hol wk ho).congr λu=>by
   have one:∀w,1<=(plN u w).length ↔ ∃x,x∈plN u w:=λw=>⟨λh=>⟨_,FX h⟩,λ⟨x,h⟩=>NB h⟩
   constructor
   .intro h w hw;obtain⟨j,hj,rfl⟩:=ME hw;have h1:=h j hj;rw [hog j hj] at h1;obtain⟨x,hx⟩:=(one _).mp h1;rw [show ws[j]=pw ws j from pf ((cx hj).symm.trans (bR hj))];exact dF.mp (jx.mpr ⟨x,(vg hx).2⟩)
   .intro h j hj;rw [hog j hj];obtain⟨x,hx⟩:=jx.mp (dF.mpr (h _ (bN hj)));refine (one _).mpr ⟨x,D_.mpr ⟨mem_range.mpr ?_,hx⟩⟩;have:=(of_decide_eq_true hx).1;have:=hpos _ (bN hj);omega
  walk_at "r";intro o2 ho2;have eo:=hO.uniq ho2;subst eo;walk_at "r";exact⟨_,_,_,_,_,_,rfl⟩
 .rintro ρ ⟨v1,v2,v3,v4,v5,v6,rfl⟩;walk_at "r";exact q
def IB:PRl DJ A4 DI 1:=λ_ Q h=>match h with|⟨ns,e,h63,q⟩=>e ▸ ⟨rfl,Fx ns h63 Q q⟩
local macro_rules | `(tactic| walk_at "l")=>`(tactic| (intros;rename_i h;split at h <;> first | rfl | exact h.elim))
local macro_rules | `(tactic| walk_at "b0")=>`(tactic| exact fun _ _ _ _ _ _ us hl=>match us,hl with | [],_=>rfl)
local macro_rules | `(tactic| walk_at "b1")=>`(tactic| exact fun _ _ _ _ _ _ us hl=>match us,hl with | [_],_=>rfl)
local macro_rules | `(tactic| walk_at "b2")=>`(tactic| exact fun _ _ _ _ _ _ us hl=>match us,hl with | [_,_],_=>rfl)
local macro_rules | `(tactic| walk_at "b3")=>`(tactic| exact fun _ _ _ _ _ _ us hl=>match us,hl with | [_,_,_],_=>rfl)
local macro_rules | `(tactic| walk_at "b4")=>`(tactic| exact fun _ _ _ _ _ _ us hl=>match us,hl with | [_,_,_,_],_=>rfl)
local macro_rules | `(tactic| walk_at "b5")=>`(tactic| exact fun _ _ _ _ _ _ us hl=>match us,hl with | [_,_,_,_,_],_=>rfl)
local macro_rules | `(tactic| walk_at "b6")=>`(tactic| exact fun _ _ _ _ _ _ us hl=>match us,hl with | [_,_,_,_,_,_],_=>rfl)
local macro_rules | `(tactic| walk_at "b7")=>`(tactic| exact fun _ _ _ _ _ _ us hl=>match us,hl with | [_,_,_,_,_,_,_],_=>rfl)
section
variable (P:tj) (w:World) (K:b_) (mg:Str->Option Value) (base:Heap)
abbrev kG:=Cal P w K mg base 1 "is_row" ["thing"] (spP K iC)
abbrev iO:=Cal P w K mg base 1 "is_number" ["thing"] (spP K dG)
abbrev fG:=Cal P w K mg base 2 "are_numbers" ["thing","many"] (spP K dz)
abbrev kH:=Cal P w K mg base 3 "are_prices" ["thing","many"] (spP K dW)
abbrev f8:=Cal P w K mg base 4 "is_price_paper" ["thing","many"] (spP K dr)
abbrev DM:=Cal P w K mg base 1 "lap" ["one","other"] (spP K tT)
abbrev jT:=Cal P w K mg base 2 "all_laps" ["words"] (spP K dt)
abbrev oz:=Cal P w K mg base 2 "is_whole" ["thing","least","most"] (spP K jI)
abbrev ug:=Cal P w K mg base 1 "places" ["text","piece"] (spP K nL)
abbrev fH:=Cal P w K mg base 1 "first_place" ["text","piece"] (spP K dA)
abbrev yj:=GQ P w K mg base 1 "is_text" ["thing","least","most"] [.int 0,.int 4000] (spP K fW)
abbrev eT:=Cal P w K mg base 2 "check_pieces" ["things"] (spP K bS)
abbrev dQ:=Cal P w K mg base 2 "stands_within" ["piece","other"] (spP K bM)
abbrev lK:=Cal P w K mg base 3 "is_kept" ["pieces","at"] (spP K d0)
abbrev oA:=Cal P w K mg base 3 "left_row" ["pieces","kept","at"] (spP K eO)
abbrev oB:=Cal P w K mg base 1 "glue_all" ["words","laps","row"] (spP K jJ)
abbrev l5:=Cal P w K mg base 5 "pays_laps" ["paper","laps","pairs"] (spP K iD)
abbrev jj:=Cal P w K mg base 4 "check_apart" ["pieces"] (spP K dB)
abbrev iP:=Cal P w K mg base 3 "check_counts" ["counts","many"] (spP K cU)
abbrev jU:=Cal P w K mg base 1 "steps_of" ["counts"] (spP K eP)
abbrev jk:=Cal P w K mg base 3 "is_full_row" ["often","thing"] (spP K fu)
abbrev oE:=Cal P w K mg base 4 "row_text" ["often","row"] (spP K gQ)
abbrev uh:=Cal P w K mg base 2 "row_in" ["often","text"] (spP K ko)
abbrev jl:=Cal P w K mg base 6 "often_bound" ["often","paper"] (spP K fA)
abbrev qA:=Cal P w K mg base 1 "members" ["mark"] (spP K fX)
abbrev oF:=Cal P w K mg base 1 "is_ahead" ["one","other"] (spP K jK)
abbrev jV:=Cal P w K mg base 2 "foremost" ["texts"] (spP K eQ)
abbrev jm:=IM P w K mg base 1 (bw K "Family") "many" ["self"] (spP K b9)
abbrev fc:=Cal P w K mg base 2 "check_few_words" ["family"] (spP K cW)
abbrev oG:=Cal P w K mg base 1 "heads_of" ["words","laps"] (spP K jM)
abbrev l6:=Cal P w K mg base 2 "sets_left" ["many"] (spP K iG)
abbrev oH:=Cal P w K mg base 3 "all_ends" ["heads","lasts","lefts"] (spP K jN)
abbrev dR:=Cal P w K mg base 4 "foremost_text" ["words","laps","lefts"] (spP K cK)
abbrev oJ:=Cal P w K mg base 5 "shortest" ["family"] (spP K jO)
abbrev iQ:=Cal P w K mg base 1 "choices_left" ["counts","steps","number"] (spP K cX)
abbrev cr:=Cal P w K mg base 5 "shortest_often" ["often"] (spP K bG)
abbrev kI:=Cal P w K mg base 1 "_law_stream" ["_law_script","_law_k"] (spP K gT)
abbrev bJ:=Cal P w K mg base 1 "_law_next" ["_law_stream_here","_law_many"] (spR K aE)
abbrev jW:=Cal P w K mg base 2 "_law_word" ["_law_stream_here","_law_letters","_law_most"] (spR K eR)
abbrev qB:=Cal P w K mg base 2 "_law_cut" ["_law_stream_here","_law_text","_law_most"] (spR K lE)
abbrev oK:=Cal P w K mg base 3 "_law_base" ["_law_stream_here","_law_most"] (spR K jP)
abbrev kJ:=Cal P w K mg base 4 "_law_pieces" ["_law_stream_here","_law_many","_law_most"] (spR K gU)
abbrev kK:=Cal P w K mg base 1 "_law_within" ["_law_pieces_here","_law_k"] (spP K dX)
abbrev l8:=Cal P w K mg base 5 "_law_apart" ["_law_stream_here","_law_many","_law_most"] (spR K iH)
abbrev kL:=Cal P w K mg base 2 "_law_counts" ["_law_stream_here","_law_many","_law_most"] (spR K gW)
abbrev lL:=Cal P w K mg base 1 "_law_lap" ["_law_one","_law_other"] (spP K d4)
abbrev l9:=Cal P w K mg base 1 "_law_whole" ["_law_found"] (spP K iI)
abbrev eU:=Cal P w K mg base 2 "_law_shuffled" ["_law_stream_here","_law_row_here"] (spR K cY)
abbrev kM:=Cal P w K mg base 2 "_law_lesser" ["_law_stream_here","_law_one","_law_other","_law_many"] (spR K gX)
abbrev oM:=Cal P w K mg base 3 "_law_laid" ["_law_stream_here","_law_texts"] (spR K jQ)
abbrev qC:=Cal P w K mg base 3 "_law_row" ["_law_stream_here","_law_counts_here"] (spR K iW)
abbrev kN:=Cal P w K mg base 1 "_law_places" ["_law_text","_law_piece"] (spP K dY)
abbrev gZ:=Er P w K mg base 5 (bw K "Often") "Often" ["self","pieces","counts"] (spR K bO)
abbrev oN:=Cal P w K mg base 7 "_law_more" ["_law_stream_here","_law_pieces_here","_law_counts_here","_law_text"] (spR K jR)
abbrev jn:=Cal P w K mg base 7 "_law_renamed" ["_law_stream_here","_law_pieces_here","_law_counts_here","_law_text"] (spR K fB)
abbrev jo:=Cal P w K mg base 7 "_law_bounded" ["_law_stream_here","_law_often","_law_text"] (spR K fC)
abbrev pR:=Er P w K mg base 4 (bw K "Family") "Family" ["self","pieces"] (spR K cF)
abbrev IC:=Cal P w K mg base 8 "law" ["_law_script"] (spP K DJ)
end
section
variable (P:tj) (w:World) {K:b_}{mg:Str->Option Value} (base:Heap)
def A5(D:aV K mg "is_row" rD)(T:Txt mg)(TC:TxC K):kG P w K mg base:=D.oP2 AG (by walk_at "b1") AZ rfl rfl λ_ _ _ _ _ _ _ hr hu=>⟨_,(aj (ay (ai (JG K rfl) rfl T.b_isinstance MK (paC (pv 0) (paC (iZ (paC (jp (v:=.ty "list") rfl T.b_list Os rfl) (paC (jp (v:=.ty "tuple") rfl T.b_tuple Mc rfl) ae))) ae))))),(tX K mg TC)⟩
def ui(D:aV K mg "is_number" jC)(T:Txt mg)(TC:TxC K):iO P w K mg base:=D.oP2 tQ (by walk_at "b1") tZ rfl rfl λ_ _ _ _ _ _ _ hr hu=>⟨_,(aj (ay (g6 (ai (zA K rfl) rfl T.b_isinstance MK (paC (pv 0) (paC (jp (v:=.ty "int") rfl T.b_int boot_int rfl) ae))) (ig (yz (ai (zA K rfl) rfl T.b_isinstance MK (paC (pv 0) (paC (jp (v:=.ty "bool") rfl T.b_bool boot_bool rfl) ae)))))))),(lV K mg TC)⟩
def pS(D:aV K mg "are_numbers" gA)(T:Txt mg)(TC:TxC K)(C'1:iO P w K mg base)(C'0:kG P w K mg base):fG P w K mg base:=D.oP2 px (by walk_at "b2") pE rfl rfl λ_ _ _ _ _ _ _ hr hu=>⟨_,(aj (ay (g6 (ak C'0 (hr.m rfl) (paC (pv 0) ae)) (g6 (cv (ju K rfl hu) (ai (bj K rfl) rfl T.b_len gV (paC (pv 0) ae)) (pv 1) (aS _)) (ig (ai (zK K rfl rfl) rfl T.b_all boot_all (paC (aP (wi:=(gu K (aF 0))) (g:=(aU 0)) (tts:=fK) (te:=(df (spP K dG) [] E0 (aG (aF 0) cP))) ["item"] [none] rfl (bp K rfl (pv 0)) (λ_ _ _ _=>⟨(aq (i:=0) (by show so (["item"]:List Str);decide +kernel) rfl (by walk_at "o")),aR,(ak C'1 (hr.m rfl) (paC (pv 0) ae))⟩) (by kernel_rfl)) ae))))))),(ja K mg TC)⟩
def sf(D:aV K mg "are_prices" ip)(T:Txt mg)(TC:TxC K)(C'2:fG P w K mg base):kH P w K mg base:=D.oP2 rG (by walk_at "b2") rQ rfl rfl λ_ _ _ _ _ _ _ hr hu=>⟨_,(aj (ay (g6 (ak C'2 (hr.m rfl) (paC (pv 0) (paC (pv 1) ae))) (ig (ai (zK K rfl rfl) rfl T.b_all boot_all (paC (aP (wi:=(gu K (aF 0))) (g:=(aU 0)) (tts:=fK) (te:=(tOp JR (aF 0) (tC (V.int 0)))) ["price"] [none] rfl (bp K rfl (pv 0)) (λ_ _ _ _=>⟨(aq (i:=0) (by show so (["price"]:List Str);decide +kernel) rfl (by walk_at "o")),aR,(cv Hy (pv 0) aw (aS _))⟩) (by kernel_rfl)) ae)))))),(ku K mg TC)⟩
def lM(D:aV K mg "is_price_paper" dO)(T:Txt mg)(TC:TxC K)(C'3:kH P w K mg base)(C'0:kG P w K mg base):f8 P w K mg base:=D.oP2 lA (by walk_at "b2") lG rfl rfl λ_ _ _ _ _ _ _ hr hu=>⟨_,(aj (ay (g6 (ak C'0 (hr.m rfl) (paC (pv 0) ae)) (g6 (cv (ju K rfl hu) (ai (bj K rfl) rfl T.b_len gV (paC (pv 0) ae)) aw (aS _)) (ig (ai (zK K rfl rfl) rfl T.b_all boot_all (paC (aP (wi:=(gu K (aF 0))) (g:=(aU 0)) (tts:=fK) (te:=(df (spP K dW) [] E0 (aG (aF 0) (aG (aF 1) cP)))) ["row","many"] [none,some 1] rfl (bp K rfl (pv 0)) (λ_ _ _ _=>⟨(aq (i:=0) (by show so (["row","many"]:List Str);decide +kernel) rfl (by walk_at "o")),aR,(ak C'3 (hr.m rfl) (paC (pv 0) (paC (pv 1) ae)))⟩) (by kernel_rfl)) ae))))))),(fY K mg TC)⟩
def ID(D:aV K mg "lap" Fj)(T:Txt mg)(TC:TxC K):DM P w K mg base:=D.oP2 Dz (by walk_at "b2") IA rfl rfl λ_ _ _ _ _ _ _ hr hu=>⟨_,(ah (ef z_ rfl (sN rfl T.b_range (paC (bd qX (ai (zI rfl) rfl T.b_min boot_min (paC (ai (bj K rfl) rfl T.b_len gV (paC (pv 0) ae)) (paC (ai (bj K rfl) rfl T.b_len gV (paC (pv 1) ae)) ae))) aw) (paC aw (paC (DW yD aw) ae)))) (aq (i:=2) Dz.nd rfl (by walk_at "o")) (aj (cu (ck (eZ K rfl LJ PySem.F.slot_str_endswith PySem.F.type_str_endswith EM (pv 0) (paC (bg (mC K rfl) (pv 1) bL (bt (pv 2))) ae))) (aj (ay (pv 2))) a9))) (aj (ay aw))),(DK K mg TC)⟩
def vV(D:aV K mg "all_laps" k8)(T:Txt mg)(TC:TxC K)(C'5:DM P w K mg base):jT P w K mg base:=D.oP2 u8 (by walk_at "b1") vn rfl rfl λ_ _ _ _ _ _ _ hr hu=>⟨_,(aj (ay (bf (dN K rfl) rfl T.b_tuple Mc (paC (aP (wi:=(gu K (aF 0))) (g:=(aU 0)) (tts:=fK) (te:=(tCB (EK K) (aG (qN [none,some 0] (gu K (aF 1)) (aU 0) fK (df (spP K tT) [] E0 (aG (aF 1) (aG (aF 0) cP)))) cP))) ["one","words"] [none,some 0] rfl (bp K rfl (pv 0)) (λ_ _ _ _=>⟨(aq (i:=0) (by show so (["one","words"]:List Str);decide +kernel) rfl (by walk_at "o")),aR,(bf (dN K rfl) rfl T.b_tuple Mc (paC (aP (wi:=(gu K (aF 1))) (g:=(aU 0)) (tts:=fK) (te:=(df (spP K tT) [] E0 (aG (aF 1) (aG (aF 0) cP)))) ["other","one"] [none,some 0] rfl (bp K rfl (pv 1)) (λ_ _ _ _=>⟨(aq (i:=0) (by show so (["other","one"]:List Str);decide +kernel) rfl (by walk_at "o")),aR,(ak C'5 (hr.m rfl) (paC (pv 1) (paC (pv 0) ae)))⟩) (by kernel_rfl)) ae))⟩) (by kernel_rfl)) ae)))),(nP K mg TC)⟩
def yk(D:wG K mg "is_text" fU [.int 0,.int 4000])(T:Txt mg)(TC:TxC K):GQ P w K mg base 1 "is_text" ["thing","least","most"] [.int 0,.int 4000] (spP K fW):=by
 refine D.ok xY (λdT kV doc pm an cdv ct items us n hi hn hl=>?_) (λvs H Q E h=>?_) (λf cdv A outer s H vs Q E hr h=>?_)
 .obtain⟨i0,i1,rfl⟩:=Ij hi;have hn':n=0\/n=1\/n=2:=by (have:n<=2:=hn);omega
  rcases hn' with rfl|rfl|rfl
  .have hl2:us.length=1:=by (simp at hl;omega)
   obtain⟨_,rfl⟩:=Kc hl2;exact⟨_,rfl,rfl⟩
  .have hl2:us.length=2:=by (simp at hl;omega)
   obtain⟨_,_,rfl⟩:=Ij hl2;exact⟨_,rfl,rfl⟩
  .have hl2:us.length=3:=by (simp at hl;omega)
   obtain⟨_,_,_,rfl⟩:=Ke hl2;exact⟨_,rfl,rfl⟩
 .exact JS (λds Q h=>(lH ds Q h).1) h
 .have hu:=hr.units;exact⟨_,(ah (cu (PW.pt (yx (eX (ck (ai (zA K rfl) rfl T.b_isinstance MK (paC (pv 0) (paC (jp (v:=.ty "str") rfl T.b_str boot_str rfl) ae))))) (wv (eX (Bi CT CT (pv 1) (ai (bj K rfl) rfl T.b_len gV (paC (pv 0) ae)) (pv 2)))))) (aj (ay oW)) a9) (aj (ay (ai (zK K rfl rfl) rfl T.b_all boot_all (paC (aP (wi:=(gu K (aF 0))) (g:=(aU 0)) (tts:=fK) (te:=(ww IQ IQ (tC (V.str (S [97]))) (aF 0) (tC (V.str (S [122]))))) ["sign"] [none] rfl (bp K rfl (pv 0)) (λ_ _ _ _=>⟨(aq (i:=0) (by show so (["sign"]:List Str);decide +kernel) rfl (by walk_at "o")),aR,(wx CT CT (dh (l:=[97]) (by decide +kernel)) (pv 0) (dh (l:=[122]) (by decide +kernel)))⟩) (by kernel_rfl)) ae))))),fnP (K:=K) (c:=fW) (ps:=qu) (N:=["thing","least","most"]) (ao (cw (zu (e6 (sy (sY .str (c6 (i:=0))))) (e6 (iT (qQ sX sX (c6 (i:=1)) (ag (aD aH (aa (c6 (i:=0)) ac))) (c6 (i:=2)))))) (aA (oZ (i:=false))) bb) (aA (aD tq (aa (ag (aO (ix:=[none]) rfl (bq (fO (i:=0))) (λfs hc=>(e7 (i:=0) (dH hc (by decide)))) bu (qQ sX sX (ag (le_str (l:=[97]))) (c6 (i:=0)) (ag (le_str (l:=[122])))))) ac)))) (λds Q h=>p_ (N3 (lH ds Q h).1) (by decide)) (λds Q h=>(lH ds Q h).2) h⟩
def vW(D:aV K mg "is_whole" k9)(T:Txt mg)(TC:TxC K)(C'1:iO P w K mg base):oz P w K mg base:=D.oP2 u9 (by walk_at "b3") vp rfl rfl λ_ _ _ _ _ _ _ hr hu=>⟨_,(aj (ay (g6 (ak C'1 (hr.m rfl) (paC (pv 0) ae)) (ig (wx CT CT (pv 1) (pv 0) (pv 2)))))),(nQ K mg TC)⟩
def A6(D:aV K mg "places" rE)(T:Txt mg)(TC:TxC K):ug P w K mg base:=D.oP2 kh (by walk_at "b2") A1 rfl rfl λ_ _ _ _ _ _ _ hr hu=>⟨_,(ah (aL (i:=2) kh.nd rfl (by walk_at "o") (eh ae)) (ah (aL (i:=3) kh.nd rfl (by walk_at "o") (eZ K rfl LJ MN MO qU (pv 0) (paC (pv 1) ae))) (ah (qF z_ (aW Hy (pv 3) aw (aS _)) (ah (d7 (eZ K rfl LD L8 L9 en (pv 2) (paC (pv 3) ae))) (aj (aL (i:=3) kh.nd rfl (by walk_at "o") (eZ K rfl LJ MN MO BO (pv 0) (paC (pv 1) (paC (bd (bZ K rfl) (pv 3) aw) ae))))))) (aj (ay (bf (dN K rfl) rfl T.b_tuple Mc (paC (pv 2) ae))))))),(t5 K mg TC)⟩
def pT(D:aV K mg "first_place" gB)(T:Txt mg)(TC:TxC K):fH P w K mg base:=D.oP2 pz (by walk_at "b2") pG rfl rfl λ_ _ _ _ _ _ _ hr hu=>⟨_,(aj (ay (eZ K rfl LJ MN MO qU (pv 0) (paC (pv 1) ae)))),(jb K mg TC)⟩
def oO(D:aV K mg "check_pieces" fj)(T:Txt mg)(TC:TxC K)(C'7:yj P w K mg base):eT P w K mg base:=D.oP2 eI (by walk_at "b1") nS rfl rfl λ_ _ _ _ _ _ _ hr hu=>⟨_,(ah (cu (aW yr (ai (bj K rfl) rfl T.b_len gV (paC (pv 0) ae)) (j6 rfl T.g_MOST_PIECES) (aS _)) (aj du) a9) (aj (ef z_ rfl (kc K rfl rfl T.b_enumerate (paC (pv 0) ae)) (dD K rfl (n:=2) rfl (aJ (aq (i:=1) eI.nd rfl (by walk_at "o")) (aJ (aq (i:=2) eI.nd rfl (by walk_at "o")) cg))) (aj (cu (eX (ck (B1 2 C'7 (hr.m rfl) (by decide) (paC (pv 2) (paC aw (paC (j6 rfl T.g_MOST_SIGNS) ae)))))) (aj du) a9))))),(iJ K mg TC)⟩
def my(D:aV K mg "stands_within" eG)(T:Txt mg)(TC:TxC K)(C'10:fH P w K mg base):dQ P w K mg base:=D.oP2 mo (by walk_at "b2") mr rfl rfl λ_ _ _ _ _ _ _ hr hu=>⟨_,(aj (ay (cv Hy (ak C'10 (hr.m rfl) (paC (pv 1) (paC (pv 0) ae))) aw (aS _)))),(ib K mg TC)⟩
def yl(D:aV K mg "is_kept" nB)(T:Txt mg)(TC:TxC K)(C'12:dQ P w K mg base):lK P w K mg base:=D.oP2 lB (by walk_at "b2") ya rfl rfl λ_ _ _ _ _ _ _ hr hu=>⟨_,(ah (aL (i:=2) lB.nd rfl (by walk_at "o") (bx (dM K rfl) (pv 0) (pv 1) (λ_ _=>rfl))) (ah (uG (wi:=(gu K (aF 0))) (g:=(aU 0)) (tts:=(uz (tOp JQ (tCB (mj K) (aG (aF 0) cP)) (tCB (mj K) (aG (aF 1) cP))))) (te:=(aF 0)) (i:=3) ["other","piece"] [none,some 2] lB.nd rfl (Or.inl rfl) rfl (bp K rfl (pv 0)) (λ_ _ _ _=>⟨(aq (i:=0) (by show so (["other","piece"]:List Str);decide +kernel) rfl (by walk_at "o")),(ik (aW yr (ai (bj K rfl) rfl T.b_len gV (paC (pv 0) ae)) (ai (bj K rfl) rfl T.b_len gV (paC (pv 1) ae)) (aS _))),(pv 0)⟩) (by kernel_rfl)) (aj (ay (g6 (cv (xf K rfl) (pv 2) (bg (mC K rfl) (pv 0) bL (bt (pv 1))) (by with_unfolding_all rfl)) (ig (yz (ai (JN K rfl rfl) rfl T.b_any boot_any (paC (aP (wi:=(gu K (aF 3))) (g:=(aU 0)) (tts:=fK) (te:=(df (spP K bM) [] E0 (aG (aF 1) (aG (aF 0) cP)))) ["other","piece"] [none,some 2] rfl (bp K rfl (pv 3)) (λ_ _ _ _=>⟨(aq (i:=0) (by show so (["other","piece"]:List Str);decide +kernel) rfl (by walk_at "o")),aR,(ak C'12 (hr.m rfl) (paC (pv 1) (paC (pv 0) ae)))⟩) (by kernel_rfl)) ae))))))))),(qv K mg TC)⟩
def vX(D:aV K mg "left_row" lc)(T:Txt mg)(TC:TxC K)(C'10:fH P w K mg base)(C'12:dQ P w K mg base):oA P w K mg base:=D.oP2 nH (by walk_at "b3") vt rfl rfl λ_ _ _ _ _ _ _ hr hu=>⟨_,(ah (aL (i:=3) nH.nd rfl (by walk_at "o") (ai (Hk K rfl rfl) rfl T.b_min boot_min (paC (aP (wi:=(gu K (aF 1))) (g:=(aU 0)) (tts:=(tB (df (spP K bM) [] E0 (aG (tOp (lQ K) (aF 1) (aF 2)) (aG (tOp (lQ K) (aF 1) (aF 0)) cP))))) (te:=(aF 0)) ["one","pieces","at"] [none,some 0,some 2] rfl (bp K rfl (pv 1)) (λ_ _ _ _=>⟨(aq (i:=0) (by show so (["one","pieces","at"]:List Str);decide +kernel) rfl (by walk_at "o")),(ik (ck (ak C'12 (hr.m rfl) (paC (bx (dM K rfl) (pv 1) (pv 2) (λ_ _=>rfl)) (paC (bx (dM K rfl) (pv 1) (pv 0) (λ_ _=>rfl)) ae))))),(pv 0)⟩) (by kernel_rfl)) ae))) (aj (ay (iZ (paC (pv 2) (paC (pv 3) (paC (ak C'10 (hr.m rfl) (paC (bx (dM K rfl) (pv 0) (pv 3) (λ_ _=>rfl)) (paC (bx (dM K rfl) (pv 0) (pv 2) (λ_ _=>rfl)) ae))) ae))))))),(nU K mg TC)⟩
def pU(D:qb K mg (bw K "Family") "Family" "Family.__init__" bW)(T:Txt mg)(TC:TxC K)(C'6:jT P w K mg base)(C'11:eT P w K mg base)(C'13:lK P w K mg base)(C'14:oA P w K mg base):Er P w K mg base 4 (bw K "Family") "Family" ["self","pieces"] (spR K cF):=by
 refine D.ok i6 (λ_ _ _ _ _ _ us hl=>match us,hl with|[_,_],_=>rfl) (λvs H Q E h=>?_) (λf cdv A outer s H vs Q E hr h=>?_)
 .exact JT (λp ds Q h=>(fE p ds Q h).1) h
 .have hu:=hr.units;exact⟨_,(ah (d7 (ak C'11 (hr.mono (by decide)) (paC (pv 1) ae))) (ah (iY (pv 0) (bf (dN K rfl) rfl T.b_tuple Mc (paC (pv 1) ae)) rfl) (ah (aL (i:=2) i6.nd rfl (by walk_at "o") (bf (zM K rfl rfl) rfl T.b_list Os (paC (mW rfl T.b_range (paC (ai (bj K rfl) rfl T.b_len gV (paC (aX K rfl (pv 0) rfl) ae)) ae)) ae))) (ah (iY (pv 0) (bf (dN K rfl) rfl T.b_tuple Mc (paC (aP (wi:=(gu K (aF 2))) (g:=(aU 0)) (tts:=(tB (df (spP K d0) [] E0 (aG (p8 K (aF 1) "pieces") (aG (aF 0) cP))))) (te:=(aF 0)) ["at","self"] [none,some 0] rfl (bp K rfl (pv 2)) (λ_ _ _ _=>⟨(aq (i:=0) (by show so (["at","self"]:List Str);decide +kernel) rfl (by walk_at "o")),(ik (ck (ak C'13 (hr.mono (by decide)) (paC (aX K rfl (pv 1) rfl) (paC (pv 0) ae))))),(pv 0)⟩) (by kernel_rfl)) ae)) rfl) (ah (iY (pv 0) (bf (dN K rfl) rfl T.b_tuple Mc (paC (aP (wi:=(gu K (p8 K (aF 0) "kept"))) (g:=(aU 0)) (tts:=fK) (te:=(tOp (lQ K) (p8 K (aF 1) "pieces") (aF 0))) ["at","self"] [none,some 0] rfl (bp K rfl (aX K rfl (pv 0) rfl)) (λ_ _ _ _=>⟨(aq (i:=0) (by show so (["at","self"]:List Str);decide +kernel) rfl (by walk_at "o")),aR,(bx (dM K rfl) (aX K rfl (pv 1) rfl) (pv 0) (λ_ _=>rfl))⟩) (by kernel_rfl)) ae)) rfl) (ah (iY (pv 0) (bf (dN K rfl) rfl T.b_tuple Mc (paC (aP (wi:=(gu K (aF 2))) (g:=(aU 0)) (tts:=(uz (tOp (IT K true) (aF 0) (p8 K (aF 1) "kept")))) (te:=(df (spP K eO) [] E0 (aG (p8 K (aF 1) "pieces") (aG (p8 K (aF 1) "kept") (aG (aF 0) cP))))) ["at","self"] [none,some 0] rfl (bp K rfl (pv 2)) (λ_ _ _ _=>⟨(aq (i:=0) (by show so (["at","self"]:List Str);decide +kernel) rfl (by walk_at "o")),(ik (aW (xf K rfl) (pv 0) (aX K rfl (pv 1) rfl) (by with_unfolding_all rfl))),(ak C'14 (hr.mono (by decide)) (paC (aX K rfl (pv 1) rfl) (paC (aX K rfl (pv 1) rfl) (paC (pv 0) ae))))⟩) (by kernel_rfl)) ae)) rfl) (ah (iY (pv 0) (ak C'6 (hr.mono (by decide)) (paC (aX K rfl (pv 0) rfl) ae)) rfl) (aj (iY (pv 0) (ai (zJ K rfl rfl) rfl T.b_sum boot_sum (paC (aP (wi:=(gu K (p8 K (aF 0) "words"))) (g:=(aU 0)) (tts:=fK) (te:=(tCB (mj K) (aG (aF 0) cP))) ["word"] [none] rfl (bp K rfl (aX K rfl (pv 0) rfl)) (λ_ _ _ _=>⟨(aq (i:=0) (by show so (["word"]:List Str);decide +kernel) rfl (by walk_at "o")),aR,(ai (bj K rfl) rfl T.b_len gV (paC (pv 0) ae))⟩) (by kernel_rfl)) ae)) rfl))))))))),fnR (K:=K) (c:=cF) (ps:=jc) (N:=["self","pieces","indexes"]) (ao (eC (ar (c:=bS) (aa (ag (fO (i:=1))) ac))) (ao (fh (c0:="Family") (ns0:=[]) (i:=0) TC.cl_Family TC.n_Family_pieces (by decide +kernel) (aD cH (aa (c6 (i:=1)) ac))) (ao (aB (qT false (aa (ag (aD aH (aa (ag (bD (ns0:=["pieces"]) TC.cl_Family TC.n_Family_pieces (i:=0) (by decide +kernel) (c6 (i:=0)))) ac))) ac)) (zB (i:=2) rfl)) (ao (fh (c0:="Family") (ns0:=["pieces"]) (i:=0) TC.cl_Family TC.n_Family_kept (by decide +kernel) (aD cH (aa (ag (aO (ix:=[none,some 0]) rfl (bq (fO (i:=2))) (λfs hc=>(e7 (i:=0) (dH hc (by decide)))) (sy (ar (c:=d0) (aa (ag (bD (ns0:=["pieces"]) TC.cl_Family TC.n_Family_pieces (i:=0) (by decide +kernel) (c6 (i:=1)))) (aa (ag (fO (i:=0))) ac)))) (fO (i:=0)))) ac))) (ao (fh (c0:="Family") (ns0:=["pieces","kept"]) (i:=0) TC.cl_Family TC.n_Family_words (by decide +kernel) (aD cH (aa (ag (aO (ix:=[none,some 0]) rfl (bq (bD (ns0:=["pieces","kept"]) TC.cl_Family TC.n_Family_kept (i:=1) (by decide +kernel) (c6 (i:=0)))) (λfs hc=>(e7 (i:=0) (dH hc (by decide)))) bu (am bz (ag (bD (ns0:=["pieces","kept"]) TC.cl_Family TC.n_Family_pieces (i:=0) (by decide +kernel) (c6 (i:=1)))) (c6 (i:=0))))) ac))) (ao (fh (c0:="Family") (ns0:=["pieces","kept","words"]) (i:=0) TC.cl_Family TC.n_Family_left (by decide +kernel) (aD cH (aa (ag (aO (ix:=[none,some 0]) rfl (bq (fO (i:=2))) (λfs hc=>(e7 (i:=0) (dH hc (by decide)))) (iT (am (Av (neg:=true)) (c6 (i:=0)) (ag (bD (ns0:=["pieces","kept","words"]) TC.cl_Family TC.n_Family_kept (i:=1) (by decide +kernel) (c6 (i:=1)))))) (ar (c:=eO) (aa (ag (bD (ns0:=["pieces","kept","words"]) TC.cl_Family TC.n_Family_pieces (i:=0) (by decide +kernel) (c6 (i:=1)))) (aa (ag (bD (ns0:=["pieces","kept","words"]) TC.cl_Family TC.n_Family_kept (i:=1) (by decide +kernel) (c6 (i:=1)))) (aa (ag (fO (i:=0))) ac)))))) ac))) (ao (fh (c0:="Family") (ns0:=["pieces","kept","words","left"]) (i:=0) TC.cl_Family TC.n_Family_laps (by decide +kernel) (ar (c:=dt) (aa (ag (bD (ns0:=["pieces","kept","words","left"]) TC.cl_Family TC.n_Family_words (i:=2) (by decide +kernel) (c6 (i:=0)))) ac))) (fh (c0:="Family") (ns0:=["pieces","kept","words","left","laps"]) (i:=0) TC.cl_Family TC.n_Family_total (by decide +kernel) (aD uQ (aa (ag (aO (ix:=[none]) rfl (bq (bD (ns0:=["pieces","kept","words","left","laps"]) TC.cl_Family TC.n_Family_words (i:=2) (by decide +kernel) (c6 (i:=0)))) (λfs hc=>(e7 (i:=0) (dH hc (by decide)))) bu (aD aH (aa (c6 (i:=0)) ac)))) ac)))))))))) (λp ds Q h=>p_ (N3 (fE p ds Q h).1) (by decide)) (λp ds Q _ h=>(fE p ds Q h).2) h⟩
def pV(D:wJ K (bw K "Family") "many" "Family.many" bX)(T:Txt mg)(TC:TxC K):IM P w K mg base 1 (bw K "Family") "many" ["self"] (spP K b9):=by
 refine D.ok pA (λ_ _ _ _ _ _ us hl=>match us,hl with|[_],_=>rfl) (λvs H Q E h=>?_) (λf cdv A outer s H vs Q E hr h=>?_)
 .exact JS (λds Q h=>(fF ds Q h).1) h
 .have hu:=hr.units;exact⟨_,(aj (ay (ai (bj K rfl) rfl T.b_len gV (paC (aX K rfl (pv 0) rfl) ae)))),fnP (K:=K) (c:=b9) (ps:=jd) (N:=["self"]) (aA (aD aH (aa (ag (bD (ns0:=["pieces","kept","words","left","laps","total"]) TC.cl_Family TC.n_Family_words (i:=2) (by decide +kernel) (c6 (i:=0)))) ac))) (λds Q h=>p_ (N3 (fF ds Q h).1) (by decide)) (λds Q h=>(fF ds Q h).2) h⟩
def vY(D:aV K mg "glue_all" lf)(T:Txt mg)(TC:TxC K):oB P w K mg base:=D.oP2 eJ (by walk_at "b3") vw rfl rfl λ_ _ _ _ _ _ _ hr hu=>⟨_,(ah (aL (i:=3) eJ.nd rfl (by walk_at "o") (eZ K rfl LJ OH OI (wO K rfl) (dh (l:=[]) (by decide +kernel)) (paC (aP (wi:=(gu K (tSl (EC K) (aF 2) mO (uA (tC (V.int 1)))))) (g:=(aU 0)) (tts:=fK) (te:=(tOp (lQ K) (aF 1) (aF 0))) ["number","words"] [none,some 0] rfl (bp K rfl (bg (mC K rfl) (pv 2) bL (bt aw))) (λ_ _ _ _=>⟨(aq (i:=0) (by show so (["number","words"]:List Str);decide +kernel) rfl (by walk_at "o")),aR,(bx (dM K rfl) (pv 1) (pv 0) (λ_ _=>rfl))⟩) (by kernel_rfl)) ae))) (ah (ef z_ rfl (uT K rfl rfl T.b_zip (paC (pv 2) (paC (bg (mC K rfl) (pv 2) (bt aw) bL) ae))) (dD K rfl (n:=2) rfl (aJ (aq (i:=4) eJ.nd rfl (by walk_at "o")) (aJ (aq (i:=5) eJ.nd rfl (by walk_at "o")) cg))) (aj (yA (i:=3) eJ.nd rfl (by walk_at "o") (bg (mC K rfl) (bx (dM K rfl) (pv 0) (pv 5) (λ_ _=>rfl)) (bt (bx (dM K rfl) (bx (dM K rfl) (pv 1) (pv 4) (λ_ _=>rfl)) (pv 5) (λ_ _=>rfl))) bL) ET))) (aj (ay (pv 3))))),(nV K mg TC)⟩
def uj(D:aV K mg "pays_laps" jD)(T:Txt mg)(TC:TxC K)(C'4:f8 P w K mg base):l5 P w K mg base:=D.oP2 iB (by walk_at "b3") t7 rfl rfl λ_ _ _ _ _ _ _ hr hu=>⟨_,(ah (cu (eX (ck (ak C'4 (hr.m rfl) (paC (pv 0) (paC (ai (bj K rfl) rfl T.b_len gV (paC (pv 1) ae)) ae))))) (aj (ay oW)) a9) (ah (sB (pv 0) (dD K rfl (n:=2) rfl (aJ (aq (i:=3) iB.nd rfl (by walk_at "o")) (aJ (aq (i:=4) iB.nd rfl (by walk_at "o")) cg)))) (aj (ay (ai (zK K rfl rfl) rfl T.b_all boot_all (paC (aP (wi:=(gu K (aF 2))) (g:=(xW K 2 (eV (aU 0) (eV (aU 1) yq)))) (tts:=fK) (te:=(tOp JR (tOp (pq K) (tOp (lQ K) (aF 2) (aF 0)) (tOp (lQ K) (aF 3) (aF 1))) (tOp (lQ K) (tOp (lQ K) (aF 4) (aF 0)) (aF 1)))) ["i","j","gives","takes","laps"] [none,none,some 3,some 4,some 1] rfl (bp K rfl (pv 2)) (λ_ _ _ _=>⟨(dD K rfl (n:=2) rfl (aJ (aq (i:=0) (by show so (["i","j","gives","takes","laps"]:List Str);decide +kernel) rfl (by walk_at "o")) (aJ (aq (i:=1) (by show so (["i","j","gives","takes","laps"]:List Str);decide +kernel) rfl (by walk_at "o")) cg))),aR,(cv Hy (bd (bZ K rfl) (bx (dM K rfl) (pv 2) (pv 0) (λ_ _=>rfl)) (bx (dM K rfl) (pv 3) (pv 1) (λ_ _=>rfl))) (bx (dM K rfl) (bx (dM K rfl) (pv 4) (pv 0) (λ_ _=>rfl)) (pv 1) (λ_ _=>rfl)) (aS _))⟩) (by kernel_rfl)) ae)))))),(lW K mg TC)⟩
def pW(D:aV K mg "check_apart" gC)(T:Txt mg)(TC:TxC K)(C'13:lK P w K mg base):jj P w K mg base:=D.oP2 i8 (by walk_at "b1") pI rfl rfl λ_ _ _ _ _ _ _ hr hu=>⟨_,(aj (ef z_ rfl (bY rfl T.b_range (paC (ai (bj K rfl) rfl T.b_len gV (paC (pv 0) ae)) ae)) (aq (i:=1) i8.nd rfl (by walk_at "o")) (aj (cu (eX (ck (ak C'13 (hr.m rfl) (paC (pv 0) (paC (pv 1) ae))))) (aj du) a9)))),(je K mg TC)⟩
def oQ(D:aV K mg "check_counts" fk)(T:Txt mg)(TC:TxC K)(C'0:kG P w K mg base)(C'8:oz P w K mg base):iP P w K mg base:=D.oP2 eL (by walk_at "b2") nX rfl rfl λ_ _ _ _ _ _ _ hr hu=>⟨_,(ah (cu (eX (ck (ak C'0 (hr.m rfl) (paC (pv 0) ae)))) (aj du) a9) (ah (ef z_ rfl (kc K rfl rfl T.b_enumerate (paC (bg (mC K rfl) (pv 0) bL (bt (pv 1))) ae)) (dD K rfl (n:=2) rfl (aJ (aq (i:=2) eL.nd rfl (by walk_at "o")) (aJ (aq (i:=3) eL.nd rfl (by walk_at "o")) cg))) (aj (cu (eX (ck (ak C'8 (hr.m rfl) (paC (pv 3) (paC aw (paC (j6 rfl T.g_MOST_COUNT) ae)))))) (aj du) a9))) (aj (cu (aW (zS K rfl hu) (ai (bj K rfl) rfl T.b_len gV (paC (pv 0) ae)) (pv 1) (aS _)) (aj du) a9)))),(iK K mg TC)⟩
def vZ(D:aV K mg "steps_of" lg)(T:Txt mg)(TC:TxC K):jU P w K mg base:=D.oP2 eM (by walk_at "b1") vy rfl rfl λ_ _ _ _ _ _ _ hr hu=>⟨_,(ah (aL (i:=1) eM.nd rfl (by walk_at "o") (eh ae)) (ah (aL (i:=2) eM.nd rfl (by walk_at "o") aw) (ah (ef z_ rfl (bp K rfl (pv 0)) (aq (i:=3) eM.nd rfl (by walk_at "o")) (ah (d7 (eZ K rfl LD L8 L9 en (pv 1) (paC (pv 2) ae))) (aj (yA (i:=2) eM.nd rfl (by walk_at "o") (bd (bZ K rfl) (pv 3) aw) Fg)))) (aj (ay (iZ (paC (pv 1) (paC (pv 2) ae)))))))),(nY K mg TC)⟩
def sh(D:qb K mg (bw K "Often") "Often" "Often.__init__" cp)(T:Txt mg)(TC:TxC K)(C'6:jT P w K mg base)(C'19:jj P w K mg base)(C'20:iP P w K mg base)(C'11:eT P w K mg base)(C'21:jU P w K mg base):Er P w K mg base 5 (bw K "Often") "Often" ["self","pieces","counts"] (spR K bO):=by
 refine D.ok rH (λ_ _ _ _ _ _ us hl=>match us,hl with|[_,_,_],_=>rfl) (λvs H Q E h=>?_) (λf cdv A outer s H vs Q E hr h=>?_)
 .exact JT (λp ds Q h=>(gY p ds Q h).1) h
 .have hu:=hr.units;exact⟨_,(ah (d7 (ak C'11 (hr.mono (by decide)) (paC (pv 1) ae))) (ah (d7 (ak C'19 (hr.mono (by decide)) (paC (pv 1) ae))) (ah (d7 (ak C'20 (hr.mono (by decide)) (paC (pv 2) (paC (ai (bj K rfl) rfl T.b_len gV (paC (pv 1) ae)) ae)))) (ah (cu (aW yr (bx (dM K rfl) (ak C'21 (hr.mono (by decide)) (paC (pv 2) ae)) aw (λ_ _=>rfl)) (j6 rfl T.g_MOST_PRODUCT) (aS _)) (aj du) a9) (ah (iY (pv 0) (bf (dN K rfl) rfl T.b_tuple Mc (paC (pv 1) ae)) rfl) (ah (iY (pv 0) (bf (dN K rfl) rfl T.b_tuple Mc (paC (pv 2) ae)) rfl) (ah (iY (pv 0) (ak C'6 (hr.mono (by decide)) (paC (aX K rfl (pv 0) rfl) ae)) rfl) (aj (iY (pv 0) (ai (zJ K rfl rfl) rfl T.b_sum boot_sum (paC (aP (wi:=(zp K (aG (p8 K (aF 0) "pieces") (aG (p8 K (aF 0) "counts") cP)))) (g:=(xW K 2 (eV (aU 0) (eV (aU 1) yq)))) (tts:=fK) (te:=(tOp BK (tCB (mj K) (aG (aF 0) cP)) (aF 1))) ["piece","count"] [none,none] rfl (uT K rfl rfl T.b_zip (paC (aX K rfl (pv 0) rfl) (paC (aX K rfl (pv 0) rfl) ae))) (λ_ _ _ _=>⟨(dD K rfl (n:=2) rfl (aJ (aq (i:=0) (by show so (["piece","count"]:List Str);decide +kernel) rfl (by walk_at "o")) (aJ (aq (i:=1) (by show so (["piece","count"]:List Str);decide +kernel) rfl (by walk_at "o")) cg))),aR,(bd mf (ai (bj K rfl) rfl T.b_len gV (paC (pv 0) ae)) (pv 1))⟩) (by kernel_rfl)) ae)) rfl))))))))),fnR (K:=K) (c:=bO) (ps:=kv) (N:=["self","pieces","counts"]) (ao (eC (ar (c:=bS) (aa (ag (fO (i:=1))) ac))) (ao (eC (ar (c:=dB) (aa (ag (fO (i:=1))) ac))) (ao (eC (ar (c:=cU) (aa (ag (fO (i:=2))) (aa (ag (aD aH (aa (c6 (i:=1)) ac))) ac)))) (ao (cw (iT (am mh (ag (am bz (ag (ar (c:=eP) (aa (ag (fO (i:=2))) ac))) (ag (le_int (i:=1))))) (ag (le_int (i:=500))))) dw bb) (ao (fh (c0:="Often") (ns0:=[]) (i:=0) TC.cl_Often TC.n_Often_pieces (by decide +kernel) (aD cH (aa (c6 (i:=1)) ac))) (ao (fh (c0:="Often") (ns0:=["pieces"]) (i:=0) TC.cl_Often TC.n_Often_counts (by decide +kernel) (aD cH (aa (c6 (i:=2)) ac))) (ao (fh (c0:="Often") (ns0:=["pieces","counts"]) (i:=0) TC.cl_Often TC.n_Often_laps (by decide +kernel) (ar (c:=dt) (aa (ag (bD (ns0:=["pieces","counts"]) TC.cl_Often TC.n_Often_pieces (i:=0) (by decide +kernel) (c6 (i:=0)))) ac))) (fh (c0:="Often") (ns0:=["pieces","counts","laps"]) (i:=0) TC.cl_Often TC.n_Often_total (by decide +kernel) (aD uQ (aa (ag (aO (ix:=[none,none]) rfl (zE (aa (ag (bD (ns0:=["pieces","counts","laps"]) TC.cl_Often TC.n_Often_pieces (i:=0) (by decide +kernel) (c6 (i:=0)))) (aa (ag (bD (ns0:=["pieces","counts","laps"]) TC.cl_Often TC.n_Often_counts (i:=1) (by decide +kernel) (c6 (i:=0)))) ac))) (λfs hc=>(dk (n:=2) (aK (e7 (i:=0) (dH hc (by decide))) (aK (e7 (i:=1) (dH hc (by decide))) cj)))) bu (am hZ (ag (aD aH (aa (c6 (i:=0)) ac))) (c6 (i:=1))))) ac)))))))))) (λp ds Q h=>p_ (N3 (gY p ds Q h).1) (by decide)) (λp ds Q _ h=>(gY p ds Q h).2) h⟩
def pX(D:aV K mg "is_full_row" gD)(T:Txt mg)(TC:TxC K)(C'2:fG P w K mg base):jk P w K mg base:=D.oP2 i9 (by walk_at "b2") pK rfl rfl λ_ _ _ _ _ _ _ hr hu=>⟨_,(ah (Cm (wi:=(zl K (aG (p8 K (aF 0) "counts") cP))) (g:=(xW K 2 (eV (aU 0) (eV (aU 1) yq)))) (tts:=fK) (wi2:=(oX (aG (aF 1) cP))) (g2:=(aU 2)) (tts2:=fK) (te:=(aF 0)) (i:=2) ["i","count","again"] [none,none,none] i9.nd rfl (Or.inl rfl) rfl (kc K rfl rfl T.b_enumerate (paC (aX K rfl (pv 0) rfl) ae)) (λ_ _ _ _=>⟨(dD K rfl (n:=2) rfl (aJ (aq (i:=0) (by show so (["i","count","again"]:List Str);decide +kernel) rfl (by walk_at "o")) (aJ (aq (i:=1) (by show so (["i","count","again"]:List Str);decide +kernel) rfl (by walk_at "o")) cg))),aR,(bY rfl T.b_range (paC (pv 1) ae)),(aq (i:=2) (by show so (["i","count","again"]:List Str);decide +kernel) rfl (by walk_at "o")),aR,(pv 0)⟩) (by kernel_rfl)) (aj (ay (g6 (ak C'2 (hr.m rfl) (paC (pv 1) (paC (ai (bj K rfl) rfl T.b_len gV (paC (pv 2) ae)) ae))) (ig (cv (ju K rfl hu) (ai (EW K rfl) rfl T.b_sorted boot_sorted (paC (pv 1) ae)) (pv 2) (aS _))))))),(jf K mg TC)⟩
def v9(D:aV K mg "row_text" lh)(T:Txt mg)(TC:TxC K)(C'17:oB P w K mg base)(C'23:jk P w K mg base):oE P w K mg base:=D.oP2 va (by walk_at "b2") vA rfl rfl λ_ _ _ _ _ _ _ hr hu=>⟨_,(ah (cu (eX (ck (ak C'23 (hr.m rfl) (paC (pv 0) (paC (pv 1) ae))))) (aj du) a9) (aj (ay (ak C'17 (hr.m rfl) (paC (aX K rfl (pv 0) rfl) (paC (aX K rfl (pv 0) rfl) (paC (pv 1) ae))))))),(nZ K mg TC)⟩
def A7(D:aV K mg "row_in" rF)(T:Txt mg)(TC:TxC K)(C'9:ug P w K mg base):uh P w K mg base:=D.oP2 fV (by walk_at "b2") A3 rfl rfl λ_ _ _ _ _ _ _ hr hu=>⟨_,(ah (aL (i:=2) fV.nd rfl (by walk_at "o") (eh ae)) (ah (ef z_ rfl (kc K rfl rfl T.b_enumerate (paC (aX K rfl (pv 0) rfl) ae)) (dD K rfl (n:=2) rfl (aJ (aq (i:=3) fV.nd rfl (by walk_at "o")) (aJ (aq (i:=4) fV.nd rfl (by walk_at "o")) cg))) (ah (aL (i:=5) fV.nd rfl (by walk_at "o") (bg (mC K rfl) (ak C'9 (hr.m rfl) (paC (pv 1) (paC (pv 4) ae))) bL (bt (bx (dM K rfl) (aX K rfl (pv 0) rfl) (pv 3) (λ_ _=>rfl))))) (ah (cu (aW Ez (ai (bj K rfl) rfl T.b_len gV (paC (pv 5) ae)) (bx (dM K rfl) (aX K rfl (pv 0) rfl) (pv 3) (λ_ _=>rfl)) (aS _)) (aj du) a9) (aj (yA (i:=2) fV.nd rfl (by walk_at "o") (aP (wi:=(gu K (aF 5))) (g:=(aU 0)) (tts:=fK) (te:=(Bo (aG (aF 0) (aG (aF 1) cP)))) ["place","i"] [none,some 3] rfl (bp K rfl (pv 5)) (λ_ _ _ _=>⟨(aq (i:=0) (by show so (["place","i"]:List Str);decide +kernel) rfl (by walk_at "o")),aR,(iZ (paC (pv 0) (paC (pv 1) ae)))⟩) (by kernel_rfl)) Ii))))) (aj (ay (bf (dN K rfl) rfl T.b_tuple Mc (paC (aP (wi:=(gu K (tCB (Al K) (aG (aF 2) cP)))) (g:=(xW K 2 (eV (aU 0) (eV (aU 1) yq)))) (tts:=fK) (te:=(aF 1)) ["place","i"] [none,none] rfl (bp K rfl (ai (E3 K rfl) rfl T.b_sorted boot_sorted (paC (pv 2) ae))) (λ_ _ _ _=>⟨(dD K rfl (n:=2) rfl (aJ (aq (i:=0) (by show so (["place","i"]:List Str);decide +kernel) rfl (by walk_at "o")) (aJ (aq (i:=1) (by show so (["place","i"]:List Str);decide +kernel) rfl (by walk_at "o")) cg))),aR,(pv 1)⟩) (by kernel_rfl)) ae)))))),(t9 K mg TC)⟩
def pY(D:aV K mg "often_bound" gE)(T:Txt mg)(TC:TxC K)(C'18:l5 P w K mg base):jl P w K mg base:=D.oP2 dy (by walk_at "b2") pM rfl rfl λ_ _ _ _ _ _ _ hr hu=>⟨_,(ah (aL (i:=2) dy.nd rfl (by walk_at "o") (bf (zM K rfl rfl) rfl T.b_list Os (paC (mW rfl T.b_range (paC (ai (bj K rfl) rfl T.b_len gV (paC (aX K rfl (pv 0) rfl) ae)) ae)) ae))) (ah (cu (eX (ck (ak C'18 (hr.m rfl) (paC (pv 1) (paC (aX K rfl (pv 0) rfl) (paC (BZ (wi:=(gu K (aF 2))) (g:=(aU 0)) (tts:=fK) (wi2:=(gu K (aF 2))) (g2:=(aU 1)) (tts2:=fK) (te:=(Bo (aG (aF 0) (aG (aF 1) cP)))) ["i","j","numbers"] [none,none,some 2] rfl (bp K rfl (pv 2)) (λ_ _ _ _=>⟨(aq (i:=0) (by show so (["i","j","numbers"]:List Str);decide +kernel) rfl (by walk_at "o")),aR,(bp K rfl (pv 2)),(aq (i:=1) (by show so (["i","j","numbers"]:List Str);decide +kernel) rfl (by walk_at "o")),aR,(iZ (paC (pv 0) (paC (pv 1) ae)))⟩) (by kernel_rfl)) ae)))))) (aj (ay FW)) a9) (ah (sB (pv 1) (dD K rfl (n:=2) rfl (aJ (aq (i:=3) dy.nd rfl (by walk_at "o")) (aJ (aq (i:=4) dy.nd rfl (by walk_at "o")) cg)))) (aj (ay (bd qX (aX K rfl (pv 0) rfl) (ai (zJ K rfl rfl) rfl T.b_sum boot_sum (paC (aP (wi:=(gu K (aF 2))) (g:=(aU 0)) (tts:=fK) (te:=(tOp BK (tOp (lQ K) (p8 K (aF 1) "counts") (aF 0)) (tOp (pq K) (tOp (lQ K) (aF 2) (aF 0)) (tOp (lQ K) (aF 3) (aF 0))))) ["i","often","gives","takes"] [none,some 0,some 3,some 4] rfl (bp K rfl (pv 2)) (λ_ _ _ _=>⟨(aq (i:=0) (by show so (["i","often","gives","takes"]:List Str);decide +kernel) rfl (by walk_at "o")),aR,(bd mf (bx (dM K rfl) (aX K rfl (pv 1) rfl) (pv 0) (λ_ _=>rfl)) (bd (bZ K rfl) (bx (dM K rfl) (pv 2) (pv 0) (λ_ _=>rfl)) (bx (dM K rfl) (pv 3) (pv 0) (λ_ _=>rfl))))⟩) (by kernel_rfl)) ae)))))))),(jg K mg TC)⟩
def ym(D:aV K mg "members" nC)(T:Txt mg)(TC:TxC K):qA P w K mg base:=D.oP2 xZ (by walk_at "b1") yc rfl rfl λ_ _ _ _ _ _ _ hr hu=>⟨_,(aj (ay (aP (wi:=(oX (aG (IL K "int" E6 (aF 0)) cP))) (g:=(aU 0)) (tts:=(tBI (tOp EU (tOp JX (aF 1) (aF 0)) (tC (V.int 1))))) (te:=(aF 0)) ["i","mark"] [none,some 0] rfl (bY rfl T.b_range (paC (E9 K rfl PySem.F.plainAttrs_int PySem.F.slot_int_bit_length PySem.F.type_int_bit_length E7 (pv 0)) ae)) (λ_ _ _ _=>⟨(aq (i:=0) (by show so (["i","mark"]:List Str);decide +kernel) rfl (by walk_at "o")),(ik (Ia (bd HL (bd JY (pv 1) (pv 0)) aw))),(pv 0)⟩) (by kernel_rfl)))),(qw K mg TC)⟩
def wb(D:aV K mg "is_ahead" ll)(T:Txt mg)(TC:TxC K):oF P w K mg base:=D.oP2 vb (by walk_at "b2") vC rfl rfl λ_ _ _ _ _ _ _ hr hu=>⟨_,(ah (cu (aW (zS K rfl hu) (ai (bj K rfl) rfl T.b_len gV (paC (pv 0) ae)) (ai (bj K rfl) rfl T.b_len gV (paC (pv 1) ae)) (aS _)) (aj (ay (cv Ez (ai (bj K rfl) rfl T.b_len gV (paC (pv 0) ae)) (ai (bj K rfl) rfl T.b_len gV (paC (pv 1) ae)) (aS _)))) a9) (aj (ay (cv Ez (pv 0) (pv 1) (aS _))))),(n5 K mg TC)⟩
def wc(D:aV K mg "foremost" lm)(T:Txt mg)(TC:TxC K)(C'28:oF P w K mg base):jV P w K mg base:=D.oP2 gJ (by walk_at "b1") vE rfl rfl λ_ _ _ _ _ _ _ hr hu=>⟨_,(ah (aL (i:=1) gJ.nd rfl (by walk_at "o") (bx (dM K rfl) (pv 0) aw (λ_ _=>rfl))) (ah (ef z_ rfl (bp K rfl (bg (mC K rfl) (pv 0) (bt aw) bL)) (aq (i:=2) gJ.nd rfl (by walk_at "o")) (aj (cu (ck (ak C'28 (hr.m rfl) (paC (pv 2) (paC (pv 1) ae)))) (aj (aL (i:=1) gJ.nd rfl (by walk_at "o") (pv 2))) a9))) (aj (ay (pv 1))))),(n6 K mg TC)⟩
def kO(D:aV K mg "check_few_words" dq)(T:Txt mg)(TC:TxC K)(C'16:jm P w K mg base):fc P w K mg base:=D.oP2 ki (by walk_at "b1") ky rfl rfl λ_ _ _ _ _ _ _ hr hu=>⟨_,(aj (cu (aW yr (wK (pv 0) TC.cl_Family C'16 (hr.m rfl)) (j6 rfl T.g_MOST_SHORTEST_WORDS) (aS _)) (aj du) a9)),(fb K mg TC)⟩
def wd(D:aV K mg "heads_of" lp)(T:Txt mg)(TC:TxC K):oG P w K mg base:=D.oP2 vc (by walk_at "b2") vG rfl rfl λ_ _ _ _ _ _ _ hr hu=>⟨_,(aj (ay (aP (wi:=(zp K (aG (aF 0) (aG (aF 1) cP)))) (g:=(xW K 2 (eV (aU 0) (eV (aU 1) yq)))) (tts:=fK) (te:=(qN [none,some 0] (gu K (aF 1)) (aU 0) fK (tSl (EC K) (aF 1) mO (uA (tOp xR (tCB (mj K) (aG (aF 1) cP)) (aF 0)))))) ["word","row"] [none,none] rfl (uT K rfl rfl T.b_zip (paC (pv 0) (paC (pv 1) ae))) (λ_ _ _ _=>⟨(dD K rfl (n:=2) rfl (aJ (aq (i:=0) (by show so (["word","row"]:List Str);decide +kernel) rfl (by walk_at "o")) (aJ (aq (i:=1) (by show so (["word","row"]:List Str);decide +kernel) rfl (by walk_at "o")) cg))),aR,(aP (wi:=(gu K (aF 1))) (g:=(aU 0)) (tts:=fK) (te:=(tSl (EC K) (aF 1) mO (uA (tOp xR (tCB (mj K) (aG (aF 1) cP)) (aF 0))))) ["k","word"] [none,some 0] rfl (bp K rfl (pv 1)) (λ_ _ _ _=>⟨(aq (i:=0) (by show so (["k","word"]:List Str);decide +kernel) rfl (by walk_at "o")),aR,(bg (mC K rfl) (pv 1) bL (bt (bd qX (ai (bj K rfl) rfl T.b_len gV (paC (pv 1) ae)) (pv 0))))⟩) (by kernel_rfl))⟩) (by kernel_rfl)))),(n8 K mg TC)⟩
def uk(D:aV K mg "sets_left" jF)(T:Txt mg)(TC:TxC K)(C'27:qA P w K mg base):l6 P w K mg base:=D.oP2 tR (by walk_at "b1") ub rfl rfl λ_ _ _ _ _ _ _ hr hu=>⟨_,(aj (ay (aP (wi:=(oX (aG (tOp HI (tC (V.int 1)) (aF 0)) cP))) (g:=(aU 0)) (tts:=fK) (te:=(qN [none,some 0] (gu K (df (spP K fX) [] E0 (aG (aF 0) cP))) (aU 0) fK (Bo (aG (aF 0) (aG (tOp xR (aF 1) (tOp HI (tC (V.int 1)) (aF 0))) cP))))) ["mark"] [none] rfl (bY rfl T.b_range (paC (bd HJ aw (pv 0)) ae)) (λ_ _ _ _=>⟨(aq (i:=0) (by show so (["mark"]:List Str);decide +kernel) rfl (by walk_at "o")),aR,(aP (wi:=(gu K (df (spP K fX) [] E0 (aG (aF 0) cP)))) (g:=(aU 0)) (tts:=fK) (te:=(Bo (aG (aF 0) (aG (tOp xR (aF 1) (tOp HI (tC (V.int 1)) (aF 0))) cP)))) ["i","mark"] [none,some 0] rfl (bp K rfl (ak C'27 (hr.m rfl) (paC (pv 0) ae))) (λ_ _ _ _=>⟨(aq (i:=0) (by show so (["i","mark"]:List Str);decide +kernel) rfl (by walk_at "o")),aR,(iZ (paC (pv 0) (paC (bd qX (pv 1) (bd HJ aw (pv 0))) ae)))⟩) (by kernel_rfl))⟩) (by kernel_rfl)))),(lX K mg TC)⟩
def wf(D:aV K mg "all_ends" lq)(T:Txt mg)(TC:TxC K)(C'29:jV P w K mg base):oH P w K mg base:=D.oP2 gK (by walk_at "b3") vI rfl rfl λ_ _ _ _ _ _ _ hr hu=>⟨_,(ah (aL (i:=3) gK.nd rfl (by walk_at "o") (eh ae)) (ah (ef z_ rfl (bp K rfl (pv 2)) (aq (i:=4) gK.nd rfl (by walk_at "o")) (ah (aL (i:=5) gK.nd rfl (by walk_at "o") (aP (wi:=(gu K (aF 4))) (g:=(xW K 2 (eV (aU 0) (eV (aU 1) yq)))) (tts:=fK) (te:=(Bo (aG (aF 0) (aG (tOp (lQ K) (tOp (lQ K) (aF 2) (aF 1)) (aF 0)) cP)))) ["j","rest","ends"] [none,none,some 3] rfl (bp K rfl (pv 4)) (λ_ _ _ _=>⟨(dD K rfl (n:=2) rfl (aJ (aq (i:=0) (by show so (["j","rest","ends"]:List Str);decide +kernel) rfl (by walk_at "o")) (aJ (aq (i:=1) (by show so (["j","rest","ends"]:List Str);decide +kernel) rfl (by walk_at "o")) cg))),aR,(iZ (paC (pv 0) (paC (bx (dM K rfl) (bx (dM K rfl) (pv 2) (pv 1) (λ_ _=>rfl)) (pv 0) (λ_ _=>rfl)) ae)))⟩) (by kernel_rfl))) (aj (d7 (eZ K rfl LD L8 L9 en (pv 3) (paC (Bf (Ff K rfl (pv 5)) (aP (wi:=(gu K (aF 0))) (g:=(aU 0)) (tts:=fK) (te:=(df (spP K eQ) [] E0 (aG (qN [none,none,some 0] (gu K (aF 1)) (xW K 2 (eV (aU 0) (eV (aU 1) yq))) fK (tOp (pq K) (tOp (lQ K) (aF 2) (aF 0)) (aF 1))) cP))) ["row","nexts"] [none,some 5] rfl (bp K rfl (pv 0)) (λ_ _ _ _=>⟨(aq (i:=0) (by show so (["row","nexts"]:List Str);decide +kernel) rfl (by walk_at "o")),aR,(ak C'29 (hr.m rfl) (paC (aP (wi:=(gu K (aF 1))) (g:=(xW K 2 (eV (aU 0) (eV (aU 1) yq)))) (tts:=fK) (te:=(tOp (pq K) (tOp (lQ K) (aF 2) (aF 0)) (aF 1))) ["j","end","row"] [none,none,some 0] rfl (bp K rfl (pv 1)) (λ_ _ _ _=>⟨(dD K rfl (n:=2) rfl (aJ (aq (i:=0) (by show so (["j","end","row"]:List Str);decide +kernel) rfl (by walk_at "o")) (aJ (aq (i:=1) (by show so (["j","end","row"]:List Str);decide +kernel) rfl (by walk_at "o")) cg))),aR,(bd (bZ K rfl) (bx (dM K rfl) (pv 2) (pv 0) (λ_ _=>rfl)) (pv 1))⟩) (by kernel_rfl)) ae))⟩) (by kernel_rfl)) (bf (CZ K rfl) rfl T.b_list Os (paC (pv 1) ae))) ae)))))) (aj (ay (pv 3))))),(n9 K mg TC)⟩
def mB(D:aV K mg "foremost_text" eH)(T:Txt mg)(TC:TxC K)(C'33:oH P w K mg base)(C'29:jV P w K mg base)(C'31:oG P w K mg base):dR P w K mg base:=D.oP2 h7 (by walk_at "b3") mx rfl rfl λ_ _ _ _ _ _ _ hr hu=>⟨_,(ah (aL (i:=3) h7.nd rfl (by walk_at "o") (ak C'33 (hr.m rfl) (paC (ak C'31 (hr.m rfl) (paC (pv 0) (paC (pv 1) ae))) (paC (pv 0) (paC (pv 2) ae))))) (aj (ay (ak C'29 (hr.m rfl) (paC (Ie K rfl (aP (wi:=(gu K (tOp (lQ K) (aF 2) (tUn Hx (tC (V.int 1)))))) (g:=(xW K 2 (eV (aU 0) (eV (aU 1) yq)))) (tts:=fK) (te:=(tOp (lQ K) (tOp (lQ K) (aF 2) (aF 1)) (aF 0))) ["j","rest","ends"] [none,none,some 3] rfl (bp K rfl (bx (dM K rfl) (pv 2) (DW yD aw) (λ_ _=>rfl))) (λ_ _ _ _=>⟨(dD K rfl (n:=2) rfl (aJ (aq (i:=0) (by show so (["j","rest","ends"]:List Str);decide +kernel) rfl (by walk_at "o")) (aJ (aq (i:=1) (by show so (["j","rest","ends"]:List Str);decide +kernel) rfl (by walk_at "o")) cg))),aR,(bx (dM K rfl) (bx (dM K rfl) (pv 2) (pv 1) (λ_ _=>rfl)) (pv 0) (λ_ _=>rfl))⟩) (by kernel_rfl)) (ig (eh (paC (dh (l:=[]) (by decide +kernel)) ae)))) ae))))),(ic K mg TC)⟩
def wg(D:aV K mg "shortest" lr)(T:Txt mg)(TC:TxC K)(C'16:jm P w K mg base)(C'30:fc P w K mg base)(C'34:dR P w K mg base)(C'32:l6 P w K mg base):oJ P w K mg base:=D.oP2 vd (by walk_at "b1") vK rfl rfl λ_ _ _ _ _ _ _ hr hu=>⟨_,(ah (d7 (ak C'30 (hr.m rfl) (paC (pv 0) ae))) (aj (ay (ak C'34 (hr.m rfl) (paC (aX K rfl (pv 0) rfl) (paC (aX K rfl (pv 0) rfl) (paC (ak C'32 (hr.m rfl) (paC (wK (pv 0) TC.cl_Family C'16 (hr.m rfl)) ae)) ae))))))),(oa K mg TC)⟩
def oS(D:aV K mg "choices_left" fm)(T:Txt mg)(TC:TxC K):iQ P w K mg base:=D.oP2 nI (by walk_at "b3") oh rfl rfl λ_ _ _ _ _ _ _ hr hu=>⟨_,(aj (ay (aP (wi:=(zl K (aG (aF 1) cP))) (g:=(xW K 2 (eV (aU 0) (eV (aU 1) yq)))) (tts:=(uz (tOp JQ (tOp Hv (tOp Hw (aF 2) (aF 1)) (tOp (pq K) (tOp (lQ K) (aF 3) (aF 0)) (tC (V.int 1)))) (tC (V.int 0))))) (te:=(Bo (aG (aF 0) (aG (tOp xR (aF 2) (aF 1)) cP)))) ["i","step","number","counts"] [none,none,some 2,some 0] rfl (kc K rfl rfl T.b_enumerate (paC (pv 1) ae)) (λ_ _ _ _=>⟨(dD K rfl (n:=2) rfl (aJ (aq (i:=0) (by show so (["i","step","number","counts"]:List Str);decide +kernel) rfl (by walk_at "o")) (aJ (aq (i:=1) (by show so (["i","step","number","counts"]:List Str);decide +kernel) rfl (by walk_at "o")) cg))),(ik (aW yr (bd uS (bd tw (pv 2) (pv 1)) (bd (bZ K rfl) (bx (dM K rfl) (pv 3) (pv 0) (λ_ _=>rfl)) aw)) aw (aS _))),(iZ (paC (pv 0) (paC (bd qX (pv 2) (pv 1)) ae)))⟩) (by kernel_rfl)))),(iM K mg TC)⟩
def lN(D:aV K mg "shortest_often" dP)(T:Txt mg)(TC:TxC K)(C'36:iQ P w K mg base)(C'34:dR P w K mg base)(C'21:jU P w K mg base):cr P w K mg base:=D.oP2 cq (by walk_at "b1") lJ rfl rfl λ_ _ _ _ _ _ _ hr hu=>⟨_,(ah (sB (ak C'21 (hr.m rfl) (paC (aX K rfl (pv 0) rfl) ae)) (dD K rfl (n:=2) rfl (aJ (aq (i:=1) cq.nd rfl (by walk_at "o")) (aJ (aq (i:=2) cq.nd rfl (by walk_at "o")) cg)))) (ah (uG (wi:=(oX (aG (aF 2) cP))) (g:=(aU 0)) (tts:=fK) (te:=(df (spP K cX) [] E0 (aG (p8 K (aF 2) "counts") (aG (aF 1) (aG (aF 0) cP))))) (i:=3) ["number","steps","often"] [none,some 1,some 0] cq.nd rfl (Or.inl rfl) rfl (bY rfl T.b_range (paC (pv 2) ae)) (λ_ _ _ _=>⟨(aq (i:=0) (by show so (["number","steps","often"]:List Str);decide +kernel) rfl (by walk_at "o")),aR,(ak C'36 (hr.m rfl) (paC (aX K rfl (pv 2) rfl) (paC (pv 1) (paC (pv 0) ae))))⟩) (by kernel_rfl)) (aj (ay (ak C'34 (hr.m rfl) (paC (aX K rfl (pv 0) rfl) (paC (aX K rfl (pv 0) rfl) (paC (pv 3) ae)))))))),(fZ K mg TC)⟩
def si(D:aV K mg "_law_stream" iq)(T:Txt mg)(TC:TxC K):kI P w K mg base:=D.oP2 gL (by walk_at "b2") rS rfl rfl λ_ _ _ _ _ _ _ hr hu=>⟨_,(ah (aL (i:=2) gL.nd rfl (by walk_at "o") (bd (bZ K rfl) (bd mf aw (pv 1)) aw)) (ah (kQ (cu (aW yr (ai (bj K rfl) rfl T.b_len gV (paC (pv 0) ae)) aw (aS _)) (aj (aL (i:=2) gL.nd rfl (by walk_at "o") (ai JM rfl T.b_abs boot_abs (paC (bx (dM K rfl) (pv 0) (bd uS (pv 1) (ai (bj K rfl) rfl T.b_len gV (paC (pv 0) ae))) (λ_ _=>rfl)) ae)))) a9)) (aj (ay (eh (paC (pv 2) (paC (bd (bZ K rfl) (bd (bZ K rfl) (bd uS (pv 2) aw) (bd mf aw (pv 1))) aw) ae))))))),(kz K mg TC)⟩
def wl(D:aV K mg "_law_next" lu)(T:Txt mg)(TC:TxC K):bJ P w K mg base:=D.oR2 nJ (by walk_at "b2") vM rfl rfl λ_ _ _ _ _ _ _ hr hu=>⟨_,(ah (cu (aW yr (bx (dM K rfl) (pv 0) aw (λ_ _=>rfl)) aw (aS _)) (ah (aL (i:=2) nJ.nd rfl (by walk_at "o") (bd uS (bx (dM K rfl) (pv 0) aw (λ_ _=>rfl)) (pv 1))) (ah (Az (bd tw (bx (dM K rfl) (pv 0) aw (λ_ _=>rfl)) (pv 1)) (CI (pv 0) aw wA)) (aj (ay (pv 2))))) a9) (ah (Az (bd uS (bd (bZ K rfl) (bd mf (bx (dM K rfl) (pv 0) aw (λ_ _=>rfl)) aw) aw) aw) (CI (pv 0) aw wA)) (aj (ay (bd uS (bd tw (bd uS (bd mf (bx (dM K rfl) (pv 0) aw (λ_ _=>rfl)) (bx (dM K rfl) (pv 0) aw (λ_ _=>rfl))) aw) aw) (pv 1)))))),(oi K mg TC)⟩
def wm(D:aV K mg "_law_word" lv)(T:Txt mg)(TC:TxC K)(C'39:bJ P w K mg base):jW P w K mg base:=D.oR2 ve (by walk_at "b3") vO rfl rfl λ_ _ _ _ _ _ _ hr hu=>⟨_,(aj (ay (eZ K rfl LJ OH OI (wO K rfl) (dh (l:=[]) (by decide +kernel)) (paC (aP (wi:=(oX (aG (tOp (pq K) (tC (V.int 1)) (df (spR K aE) [] E0 (aG (aF 0) (aG (aF 2) cP)))) cP))) (g:=(aU 0)) (tts:=fK) (te:=(tOp (lQ K) (aF 1) (df (spR K aE) [] E0 (aG (aF 2) (aG (tCB (mj K) (aG (aF 1) cP)) cP))))) ["_law_k","_law_letters","_law_stream_here"] [none,some 1,some 0] rfl (bY rfl T.b_range (paC (bd (bZ K rfl) aw (ak C'39 (hr.m rfl) (paC (pv 0) (paC (pv 2) ae)))) ae)) (λ_ _ _ _=>⟨(aq (i:=0) (by show so (["_law_k","_law_letters","_law_stream_here"]:List Str);decide +kernel) rfl (by walk_at "o")),aR,(bx (dM K rfl) (pv 1) (ak C'39 (hr.m rfl) (paC (pv 2) (paC (ai (bj K rfl) rfl T.b_len gV (paC (pv 1) ae)) ae))) (λ_ _=>rfl))⟩) (by kernel_rfl)) ae)))),(oj K mg TC)⟩
def yn(D:aV K mg "_law_cut" nE)(T:Txt mg)(TC:TxC K)(C'39:bJ P w K mg base):qB P w K mg base:=D.oR2 ql (by walk_at "b3") ye rfl rfl λ_ _ _ _ _ _ _ hr hu=>⟨_,(ah (aL (i:=3) ql.nd rfl (by walk_at "o") (ak C'39 (hr.m rfl) (paC (pv 0) (paC (ai (bj K rfl) rfl T.b_len gV (paC (pv 1) ae)) ae)))) (aj (ay (bg (mC K rfl) (pv 1) (bt (pv 3)) (bt (bd (bZ K rfl) (bd (bZ K rfl) (pv 3) aw) (ak C'39 (hr.m rfl) (paC (pv 0) (paC (pv 2) ae))))))))),(qx K mg TC)⟩
def wn(D:aV K mg "_law_base" lw)(T:Txt mg)(TC:TxC K)(C'39:bJ P w K mg base)(C'40:jW P w K mg base):oK P w K mg base:=D.oR2 gM (by walk_at "b2") vQ rfl rfl λ_ _ _ _ _ _ _ hr hu=>⟨_,(ah (aL (i:=2) gM.nd rfl (by walk_at "o") (bx (dM K rfl) (eh (paC (dh (l:=[97,98]) (by decide +kernel)) (paC (dh (l:=[97,98,99]) (by decide +kernel)) (paC (dh (l:=[97,98,99,100,101,102,103,104,105,106,107,108,109,110,111,112,113,114,115,116,117,118,119,120,121,122]) (by decide +kernel)) ae)))) (ak C'39 (hr.m rfl) (paC (pv 0) (paC aw ae))) (λ_ _=>rfl))) (ah (aL (i:=3) gM.nd rfl (by walk_at "o") (ak C'40 (hr.m rfl) (paC (pv 0) (paC (pv 2) (paC (bd mf aw (pv 1)) ae))))) (ah (kQ (cu (aW (ju K rfl hu) (ak C'39 (hr.m rfl) (paC (pv 0) (paC aw ae))) aw (aS _)) (aj (aL (i:=3) gM.nd rfl (by walk_at "o") (bd mf (bg (mC K rfl) (pv 3) bL (bt (bd (bZ K rfl) aw (ak C'39 (hr.m rfl) (paC (pv 0) (paC aw ae)))))) (pv 1)))) a9)) (aj (ay (iZ (paC (pv 2) (paC (pv 3) ae)))))))),(om K mg TC)⟩
def sj(D:aV K mg "_law_pieces" ir)(T:Txt mg)(TC:TxC K)(C'42:oK P w K mg base)(C'41:qB P w K mg base)(C'39:bJ P w K mg base)(C'40:jW P w K mg base):kJ P w K mg base:=D.oR2 bE (by walk_at "b3") rV rfl rfl λ_ _ _ _ _ _ _ hr hu=>⟨_,(ah (sB (ak C'42 (hr.m rfl) (paC (pv 0) (paC (pv 2) ae))) (dD K rfl (n:=2) rfl (aJ (aq (i:=3) bE.nd rfl (by walk_at "o")) (aJ (aq (i:=4) bE.nd rfl (by walk_at "o")) cg)))) (ah (aL (i:=5) bE.nd rfl (by walk_at "o") (eh ae)) (ah (ef z_ rfl (bY rfl T.b_range (paC (pv 1) ae)) (aq (i:=6) bE.nd rfl (by walk_at "o")) (ah (aL (i:=7) bE.nd rfl (by walk_at "o") (ak C'39 (hr.m rfl) (paC (pv 0) (paC aw ae)))) (ah (kQ (cu (aW (ju K rfl hu) (pv 7) aw (aS _)) (aj (aL (i:=8) bE.nd rfl (by walk_at "o") (ak C'40 (hr.m rfl) (paC (pv 0) (paC (pv 3) (paC (pv 2) ae)))))) (aj (cu (aW (ju K rfl hu) (pv 7) aw (aS _)) (aj (aL (i:=8) bE.nd rfl (by walk_at "o") (bd mf (ak C'40 (hr.m rfl) (paC (pv 0) (paC (pv 3) (paC aw ae)))) (pv 2)))) (aj (aL (i:=8) bE.nd rfl (by walk_at "o") (ak C'41 (hr.m rfl) (paC (pv 0) (paC (pv 4) (paC (pv 2) ae)))))))))) (aj (d7 (eZ K rfl LD L8 L9 en (pv 5) (paC (bg (mC K rfl) (pv 8) bL (bt (pv 2))) ae))))))) (aj (ay (pv 5)))))),(kA K mg TC)⟩
def sk(D:aV K mg "_law_within" iu)(T:Txt mg)(TC:TxC K):kK P w K mg base:=D.oP2 kj (by walk_at "b2") rX rfl rfl λ_ _ _ _ _ _ _ hr hu=>⟨_,(ah (ef z_ rfl (bp K rfl (pv 0)) (aq (i:=2) kj.nd rfl (by walk_at "o")) (aj (cu (PW.pt (yw (aW yr (ai (bj K rfl) rfl T.b_len gV (paC (pv 2) ae)) (ai (bj K rfl) rfl T.b_len gV (paC (bx (dM K rfl) (pv 0) (pv 1) (λ_ _=>rfl)) ae)) (aS _)) (uv (aW Hy (eZ K rfl LJ MN MO qU (pv 2) (paC (bx (dM K rfl) (pv 0) (pv 1) (λ_ _=>rfl)) ae)) aw (aS _))))) (aj (ay oW)) a9))) (aj (ay (cv (J5 K rfl) (bx (dM K rfl) (pv 0) (pv 1) (λ_ _=>rfl)) (bg (mC K rfl) (pv 0) bL (bt (pv 1))) (by with_unfolding_all rfl))))),(kB K mg TC)⟩
def ul(D:aV K mg "_law_apart" jG)(T:Txt mg)(TC:TxC K)(C'43:kJ P w K mg base)(C'44:kK P w K mg base):l8 P w K mg base:=D.oR2 lU (by walk_at "b3") ud rfl rfl λ_ _ _ _ _ _ _ hr hu=>⟨_,(ah (aL (i:=3) lU.nd rfl (by walk_at "o") (ak C'43 (hr.m rfl) (paC (pv 0) (paC (pv 1) (paC (pv 2) ae))))) (aj (ay (aP (wi:=(oX (aG (tCB (mj K) (aG (aF 3) cP)) cP))) (g:=(aU 0)) (tts:=(IW (tB (df (spP K dX) [] E0 (aG (aF 1) (aG (aF 0) cP)))))) (te:=(tOp (lQ K) (aF 1) (aF 0))) ["_law_k","_law_pieces_here"] [none,some 3] rfl (bY rfl T.b_range (paC (ai (bj K rfl) rfl T.b_len gV (paC (pv 3) ae)) ae)) (λ_ _ _ _=>⟨(aq (i:=0) (by show so (["_law_k","_law_pieces_here"]:List Str);decide +kernel) rfl (by walk_at "o")),(ik (eX (ck (ak C'44 (hr.m rfl) (paC (pv 1) (paC (pv 0) ae)))))),(bx (dM K rfl) (pv 1) (pv 0) (λ_ _=>rfl))⟩) (by kernel_rfl))))),(lY K mg TC)⟩
def sr(D:aV K mg "_law_counts" iw)(T:Txt mg)(TC:TxC K)(C'39:bJ P w K mg base):kL P w K mg base:=D.oR2 rJ (by walk_at "b3") rZ rfl rfl λ_ _ _ _ _ _ _ hr hu=>⟨_,(aj (ay (aP (wi:=(oX (aG (aF 1) cP))) (g:=(aU 0)) (tts:=fK) (te:=(tOp (pq K) (tC (V.int 1)) (df (spR K aE) [] E0 (aG (aF 1) (aG (aF 2) cP))))) ["_law_k","_law_stream_here","_law_most"] [none,some 0,some 2] rfl (bY rfl T.b_range (paC (pv 1) ae)) (λ_ _ _ _=>⟨(aq (i:=0) (by show so (["_law_k","_law_stream_here","_law_most"]:List Str);decide +kernel) rfl (by walk_at "o")),aR,(bd (bZ K rfl) aw (ak C'39 (hr.m rfl) (paC (pv 1) (paC (pv 2) ae))))⟩) (by kernel_rfl)))),(kC K mg TC)⟩
def yo(D:aV K mg "_law_lap" nF)(T:Txt mg)(TC:TxC K):lL P w K mg base:=D.oP2 qm (by walk_at "b2") yg rfl rfl λ_ _ _ _ _ _ _ hr hu=>⟨_,(ah (ef z_ rfl (sN rfl T.b_range (paC (bd qX (ai (zI rfl) rfl T.b_min boot_min (paC (ai (bj K rfl) rfl T.b_len gV (paC (pv 0) ae)) (paC (ai (bj K rfl) rfl T.b_len gV (paC (pv 1) ae)) ae))) aw) (paC aw (paC (DW yD aw) ae)))) (aq (i:=2) qm.nd rfl (by walk_at "o")) (aj (cu (aW (ju K rfl hu) (bg (mC K rfl) (pv 0) (bt (bd qX (ai (bj K rfl) rfl T.b_len gV (paC (pv 0) ae)) (pv 2))) bL) (bg (mC K rfl) (pv 1) bL (bt (pv 2))) (aS _)) (aj (ay (pv 2))) a9))) (aj (ay aw))),(qy K mg TC)⟩
def um(D:aV K mg "_law_whole" jH)(T:Txt mg)(TC:TxC K):l9 P w K mg base:=D.oP2 tS (by walk_at "b1") uf rfl rfl λ_ _ _ _ _ _ _ hr hu=>⟨_,(aj (ay (g6 (ai (zA K rfl) rfl T.b_isinstance MK (paC (pv 0) (paC (jp (v:=.ty "int") rfl T.b_int boot_int rfl) ae))) (ig (yz (ai (zA K rfl) rfl T.b_isinstance MK (paC (pv 0) (paC (jp (v:=.ty "bool") rfl T.b_bool boot_bool rfl) ae)))))))),(lZ K mg TC)⟩
def oU(D:aV K mg "_law_shuffled" fo)(T:Txt mg)(TC:TxC K)(C'39:bJ P w K mg base):eU P w K mg base:=D.oR2 eN (by walk_at "b2") ot rfl rfl λ_ _ _ _ _ _ _ hr hu=>⟨_,(ah (aL (i:=2) eN.nd rfl (by walk_at "o") (bf (CZ K rfl) rfl T.b_list Os (paC (pv 1) ae))) (ah (aL (i:=3) eN.nd rfl (by walk_at "o") (eh ae)) (ah (qF z_ (aW (zS K rfl hu) (pv 2) (eh ae) (aS _)) (aj (d7 (eZ K rfl LD L8 L9 en (pv 3) (paC (eZ K rfl LD PySem.F.slot_list_pop PySem.F.type_list_pop Bu (pv 2) (paC (ak C'39 (hr.m rfl) (paC (pv 0) (paC (ai (bj K rfl) rfl T.b_len gV (paC (pv 2) ae)) ae))) ae)) ae))))) (aj (ay (pv 3)))))),(iN K mg TC)⟩
def su(D:aV K mg "_law_lesser" iy)(T:Txt mg)(TC:TxC K)(C'39:bJ P w K mg base):kM P w K mg base:=D.oR2 kl (by walk_at "b4") r8 rfl rfl λ_ _ _ _ _ _ _ hr hu=>⟨_,(ah (qF z_ (aW yr (pv 3) aw (aS _)) (ah (cu (PW.pt (yw (aW (ju K rfl hu) (bg (mC K rfl) (pv 1) (bt (bd qX (ai (bj K rfl) rfl T.b_len gV (paC (pv 1) ae)) (pv 3))) bL) (bg (mC K rfl) (pv 2) bL (bt (pv 3))) (aS _)) (uv (aW (ju K rfl hu) (ak C'39 (hr.m rfl) (paC (pv 0) (paC aw ae))) aw (aS _))))) (aj (ay (pv 3))) a9) (aj (aL (i:=3) kl.nd rfl (by walk_at "o") (bd qX (pv 3) aw))))) (aj (ay aw))),(kE K mg TC)⟩
def wo(D:aV K mg "_law_laid" ly)(T:Txt mg)(TC:TxC K)(C'47:lL P w K mg base)(C'50:kM P w K mg base)(C'39:bJ P w K mg base):oM P w K mg base:=D.oR2 bI (by walk_at "b2") vS rfl rfl λ_ _ _ _ _ _ _ hr hu=>⟨_,(ah (aL (i:=2) bI.nd rfl (by walk_at "o") (bg (mC K rfl) (dh (l:=[112,113]) (by decide +kernel)) bL (bt (bd tw (ak C'39 (hr.m rfl) (paC (pv 0) (paC aw ae))) aw)))) (ah (aL (i:=3) bI.nd rfl (by walk_at "o") (dh (l:=[]) (by decide +kernel))) (ah (ef z_ rfl (bp K rfl (pv 1)) (aq (i:=4) bI.nd rfl (by walk_at "o")) (ah (aL (i:=5) bI.nd rfl (by walk_at "o") (ak C'39 (hr.m rfl) (paC (pv 0) (paC aw ae)))) (ah (aL (i:=6) bI.nd rfl (by walk_at "o") aw) (ah (kQ (cu (PW.pt (yw (aW (zS K rfl hu) (pv 3) (dh (l:=[]) (by decide +kernel)) (aS _)) (uv (aW yr (pv 5) aw (aS _))))) (aj (aL (i:=6) bI.nd rfl (by walk_at "o") (ak C'47 (hr.m rfl) (paC (pv 3) (paC (pv 4) ae))))) a9)) (ah (kQ (cu (aW (ju K rfl hu) (pv 5) aw (aS _)) (aj (aL (i:=6) bI.nd rfl (by walk_at "o") (ak C'50 (hr.m rfl) (paC (pv 0) (paC (pv 3) (paC (pv 4) (paC (pv 6) ae))))))) a9)) (ah (kQ (cu (aW (ju K rfl hu) (pv 5) aw (aS _)) (aj (aL (i:=2) bI.nd rfl (by walk_at "o") (bd (bZ K rfl) (pv 2) (bg (mC K rfl) (dh (l:=[98,97]) (by decide +kernel)) bL (bt (ak C'39 (hr.m rfl) (paC (pv 0) (paC aw ae)))))))) a9)) (ah (aL (i:=2) bI.nd rfl (by walk_at "o") (bd (bZ K rfl) (pv 2) (bg (mC K rfl) (pv 4) (bt (pv 6)) bL))) (aj (aL (i:=3) bI.nd rfl (by walk_at "o") (pv 4)))))))))) (aj (ay (bd (bZ K rfl) (pv 2) (bg (mC K rfl) (dh (l:=[113,112]) (by decide +kernel)) bL (bt (bd tw (ak C'39 (hr.m rfl) (paC (pv 0) (paC aw ae))) aw))))))))),(ou K mg TC)⟩
def yp(D:aV K mg "_law_row" nG)(T:Txt mg)(TC:TxC K)(C'49:eU P w K mg base):qC P w K mg base:=D.oR2 lC (by walk_at "b2") yi rfl rfl λ_ _ _ _ _ _ _ hr hu=>⟨_,(ah (aL (i:=2) lC.nd rfl (by walk_at "o") (eh ae)) (ah (ef z_ rfl (bY rfl T.b_range (paC (ai (bj K rfl) rfl T.b_len gV (paC (pv 1) ae)) ae)) (aq (i:=3) lC.nd rfl (by walk_at "o")) (aj (d7 (eZ K rfl LD PySem.F.slot_list_extend PySem.F.type_list_extend yT (pv 2) (paC (bd mf (eh (paC (pv 3) ae)) (bx (dM K rfl) (pv 1) (pv 3) (λ_ _=>rfl))) ae))))) (aj (ay (ak C'49 (hr.m rfl) (paC (pv 0) (paC (pv 2) ae))))))),(qz K mg TC)⟩
def sv(D:aV K mg "_law_places" iA)(T:Txt mg)(TC:TxC K):kN P w K mg base:=D.oP2 rK (by walk_at "b2") se rfl rfl λ_ _ _ _ _ _ _ hr hu=>⟨_,(aj (ay (aP (wi:=(oX (aG (tCB (mj K) (aG (aF 0) cP)) cP))) (g:=(aU 0)) (tts:=(uz (tOp (zR K false) (tSl (EC K) (aF 2) (uA (aF 0)) (uA (tOp (pq K) (aF 0) (tCB (mj K) (aG (aF 1) cP))))) (aF 1)))) (te:=(aF 0)) ["_law_at","_law_piece","_law_text"] [none,some 1,some 0] rfl (bY rfl T.b_range (paC (ai (bj K rfl) rfl T.b_len gV (paC (pv 0) ae)) ae)) (λ_ _ _ _=>⟨(aq (i:=0) (by show so (["_law_at","_law_piece","_law_text"]:List Str);decide +kernel) rfl (by walk_at "o")),(ik (aW (ju K rfl hu) (bg (mC K rfl) (pv 2) (bt (pv 0)) (bt (bd (bZ K rfl) (pv 0) (ai (bj K rfl) rfl T.b_len gV (paC (pv 1) ae))))) (pv 1) (aS _))),(pv 0)⟩) (by kernel_rfl)))),(kF K mg TC)⟩
def wq(D:aV K mg "_law_more" lz)(T:Txt mg)(TC:TxC K)(C'22:gZ P w K mg base)(C'39:bJ P w K mg base)(C'53:kN P w K mg base)(C'37:cr P w K mg base):oN P w K mg base:=D.oR2 gN (by walk_at "b4") vU rfl rfl λ_ _ _ _ _ _ _ hr hu=>⟨_,(ah (aL (i:=4) gN.nd rfl (by walk_at "o") (ak C'39 (hr.m rfl) (paC (pv 0) (paC (ai (bj K rfl) rfl T.b_len gV (paC (pv 1) ae)) ae)))) (ah (aL (i:=5) gN.nd rfl (by walk_at "o") (bd (bZ K rfl) (bd (bZ K rfl) (bg (mC K rfl) (pv 2) bL (bt (pv 4))) (eh (paC (bd (bZ K rfl) (bx (dM K rfl) (pv 2) (pv 4) (λ_ _=>rfl)) aw) ae))) (bg (mC K rfl) (pv 2) (bt (bd (bZ K rfl) (pv 4) aw)) bL))) (ah (aL (i:=6) gN.nd rfl (by walk_at "o") (ak C'37 (hr.m rfl) (paC (ke C'22 (hr.m rfl) (paC (pv 1) (paC (pv 5) ae))) ae))) (ah (cu (PW.pt (yx (aW Ez (ai (bj K rfl) rfl T.b_len gV (paC (pv 6) ae)) (ai (bj K rfl) rfl T.b_len gV (paC (pv 3) ae)) (aS _)) (wv (aW yr (ai (bj K rfl) rfl T.b_len gV (paC (pv 6) ae)) (bd (bZ K rfl) (ai (bj K rfl) rfl T.b_len gV (paC (pv 3) ae)) (ai (bj K rfl) rfl T.b_len gV (paC (bx (dM K rfl) (pv 1) (pv 4) (λ_ _=>rfl)) ae))) (aS _))))) (aj (ay oW)) a9) (ah (cu (aW Ez (ai (bj K rfl) rfl T.b_len gV (paC (ak C'53 (hr.m rfl) (paC (pv 6) (paC (bx (dM K rfl) (pv 1) (pv 4) (λ_ _=>rfl)) ae))) ae)) (bx (dM K rfl) (pv 5) (pv 4) (λ_ _=>rfl)) (aS _)) (aj (ay oW)) a9) (aj (ay (IX (cv Ez (ai (bj K rfl) rfl T.b_len gV (paC (ak C'53 (hr.m rfl) (paC (pv 3) (paC (bx (dM K rfl) (pv 1) (pv 4) (λ_ _=>rfl)) ae))) ae)) (bx (dM K rfl) (pv 5) (pv 4) (λ_ _=>rfl)) (aS _)) (ig (cv (ju K rfl hu) (pv 6) (pv 3) (aS _))))))))))),(oy K mg TC)⟩
def pZ(D:aV K mg "_law_renamed" gG)(T:Txt mg)(TC:TxC K)(C'22:gZ P w K mg base)(C'49:eU P w K mg base)(C'37:cr P w K mg base):jn P w K mg base:=D.oR2 fq (by walk_at "b4") pO rfl rfl λ_ _ _ _ _ _ _ hr hu=>⟨_,(ah (aL (i:=4) fq.nd rfl (by walk_at "o") (ak C'49 (hr.m rfl) (paC (pv 0) (paC (bf (zM K rfl rfl) rfl T.b_list Os (paC (mW rfl T.b_range (paC (ai (bj K rfl) rfl T.b_len gV (paC (pv 1) ae)) ae)) ae)) ae)))) (ah (aL (i:=5) fq.nd rfl (by walk_at "o") (ke C'22 (hr.m rfl) (paC (aP (wi:=(gu K (aF 4))) (g:=(aU 0)) (tts:=fK) (te:=(tOp (lQ K) (aF 1) (aF 0))) ["_law_k","_law_pieces_here"] [none,some 1] rfl (bp K rfl (pv 4)) (λ_ _ _ _=>⟨(aq (i:=0) (by show so (["_law_k","_law_pieces_here"]:List Str);decide +kernel) rfl (by walk_at "o")),aR,(bx (dM K rfl) (pv 1) (pv 0) (λ_ _=>rfl))⟩) (by kernel_rfl)) (paC (bf (dN K rfl) rfl T.b_tuple Mc (paC (aP (wi:=(gu K (aF 4))) (g:=(aU 0)) (tts:=fK) (te:=(tOp (lQ K) (aF 1) (aF 0))) ["_law_k","_law_counts_here"] [none,some 2] rfl (bp K rfl (pv 4)) (λ_ _ _ _=>⟨(aq (i:=0) (by show so (["_law_k","_law_counts_here"]:List Str);decide +kernel) rfl (by walk_at "o")),aR,(bx (dM K rfl) (pv 1) (pv 0) (λ_ _=>rfl))⟩) (by kernel_rfl)) ae)) ae)))) (aj (ay (cv (ju K rfl hu) (ak C'37 (hr.m rfl) (paC (pv 5) ae)) (pv 3) (aS _)))))),(jh K mg TC)⟩
def p5(D:aV K mg "_law_bounded" gI)(T:Txt mg)(TC:TxC K)(C'51:oM P w K mg base)(C'47:lL P w K mg base)(C'52:qC P w K mg base)(C'48:l9 P w K mg base)(C'26:jl P w K mg base)(C'25:uh P w K mg base)(C'24:oE P w K mg base):jo P w K mg base:=D.oR2 cE (by walk_at "b3") pQ rfl rfl λ_ _ _ _ _ _ _ hr hu=>⟨_,(ah (uG (wi:=(gu K (p8 K (aF 1) "pieces"))) (g:=(aU 0)) (tts:=fK) (te:=(tCB (EQ K) (aG (qN [none,some 0] (gu K (p8 K (aF 1) "pieces")) (aU 0) fK (df (spP K d4) [] E0 (aG (aF 1) (aG (aF 0) cP)))) cP))) (i:=3) ["_law_one","_law_often"] [none,some 1] cE.nd rfl (Or.inl rfl) rfl (bp K rfl (aX K rfl (pv 1) rfl)) (λ_ _ _ _=>⟨(aq (i:=0) (by show so (["_law_one","_law_often"]:List Str);decide +kernel) rfl (by walk_at "o")),aR,(ai (HB K rfl rfl) rfl T.b_max boot_max (paC (aP (wi:=(gu K (p8 K (aF 1) "pieces"))) (g:=(aU 0)) (tts:=fK) (te:=(df (spP K d4) [] E0 (aG (aF 1) (aG (aF 0) cP)))) ["_law_other","_law_one"] [none,some 0] rfl (bp K rfl (aX K rfl (pv 1) rfl)) (λ_ _ _ _=>⟨(aq (i:=0) (by show so (["_law_other","_law_one"]:List Str);decide +kernel) rfl (by walk_at "o")),aR,(ak C'47 (hr.m rfl) (paC (pv 1) (paC (pv 0) ae)))⟩) (by kernel_rfl)) ae))⟩) (by kernel_rfl)) (ah (aL (i:=4) cE.nd rfl (by walk_at "o") (ak C'26 (hr.m rfl) (paC (pv 1) (paC (iZ (paC (pv 3) (paC (bd mf (eh (paC aw ae)) (ai (bj K rfl) rfl T.b_len gV (paC (pv 3) ae))) ae))) ae)))) (ah (aL (i:=5) cE.nd rfl (by walk_at "o") (ak C'51 (hr.m rfl) (paC (pv 0) (paC (aP (wi:=(gu K (df (spR K iW) [] E0 (aG (aF 0) (aG (p8 K (aF 1) "counts") cP))))) (g:=(aU 0)) (tts:=fK) (te:=(tOp (lQ K) (p8 K (aF 1) "pieces") (aF 0))) ["_law_one","_law_often"] [none,some 1] rfl (bp K rfl (ak C'52 (hr.m rfl) (paC (pv 0) (paC (aX K rfl (pv 1) rfl) ae)))) (λ_ _ _ _=>⟨(aq (i:=0) (by show so (["_law_one","_law_often"]:List Str);decide +kernel) rfl (by walk_at "o")),aR,(bx (dM K rfl) (aX K rfl (pv 1) rfl) (pv 0) (λ_ _=>rfl))⟩) (by kernel_rfl)) ae)))) (ah (cu (PW.pt (yx (eX (ck (ak C'48 (hr.m rfl) (paC (pv 4) ae)))) (yx (aW yr (pv 4) (ai (bj K rfl) rfl T.b_len gV (paC (pv 2) ae)) (aS _)) (wv (aW Ez (ai (bj K rfl) rfl T.b_len gV (paC (pv 5) ae)) (ai (bj K rfl) rfl T.b_len gV (paC (pv 2) ae)) (aS _)))))) (aj (ay oW)) a9) (ah (aL (i:=6) cE.nd rfl (by walk_at "o") (ak C'24 (hr.m rfl) (paC (pv 1) (paC (ak C'25 (hr.m rfl) (paC (pv 1) (paC (pv 5) ae))) ae)))) (aj (ay (g6 (cv (ju K rfl hu) (ak C'24 (hr.m rfl) (paC (pv 1) (paC (ak C'25 (hr.m rfl) (paC (pv 1) (paC (pv 2) ae))) ae))) (pv 2) (aS _)) (g6 (cv CT (ai (bj K rfl) rfl T.b_len gV (paC (pv 2) ae)) (ai (bj K rfl) rfl T.b_len gV (paC (pv 6) ae)) (aS _)) (ig (cv CT (ai (bj K rfl) rfl T.b_len gV (paC (pv 6) ae)) (ai (bj K rfl) rfl T.b_len gV (paC (pv 5) ae)) (aS _)))))))))))),(ji K mg TC)⟩
def IE(D:aV K mg "law" Cp)(T:Txt mg)(TC:TxC K)(C'15:pR P w K mg base)(C'22:gZ P w K mg base)(C'45:l8 P w K mg base)(C'56:jo P w K mg base)(C'46:kL P w K mg base)(C'54:oN P w K mg base)(C'39:bJ P w K mg base)(C'55:jn P w K mg base)(C'38:kI P w K mg base)(C'35:oJ P w K mg base)(C'37:cr P w K mg base):IC P w K mg base:=D.oP2 nK (by walk_at "b1") IB rfl rfl λ_ _ _ _ _ _ _ hr hu=>⟨_,(ah (ef z_ rfl (bY rfl T.b_range (paC (ai (He rfl) rfl T.b_max boot_max (paC aw (paC (ai (zI rfl) rfl T.b_min boot_min (paC aw (paC (ai (bj K rfl) rfl T.b_len gV (paC (pv 0) ae)) ae))) ae))) ae)) (aq (i:=1) nK.nd rfl (by walk_at "o")) (ah (aL (i:=2) nK.nd rfl (by walk_at "o") (ak C'38 (hr.m rfl) (paC (pv 0) (paC (pv 1) ae)))) (ah (aL (i:=3) nK.nd rfl (by walk_at "o") (ak C'45 (hr.m rfl) (paC (pv 2) (paC (bd (bZ K rfl) aw (ak C'39 (hr.m rfl) (paC (pv 2) (paC aw ae)))) (paC aw ae))))) (ah (aL (i:=4) nK.nd rfl (by walk_at "o") (ak C'46 (hr.m rfl) (paC (pv 2) (paC (ai (bj K rfl) rfl T.b_len gV (paC (pv 3) ae)) (paC aw ae))))) (ah (aL (i:=5) nK.nd rfl (by walk_at "o") (ke C'22 (hr.m rfl) (paC (bf (dN K rfl) rfl T.b_tuple Mc (paC (pv 3) ae)) (paC (pv 4) ae)))) (ah (aL (i:=6) nK.nd rfl (by walk_at "o") (ak C'37 (hr.m rfl) (paC (pv 5) ae))) (ah (cu (PW.pt (yx (eX (ck (ak C'54 (hr.m rfl) (paC (pv 2) (paC (pv 3) (paC (pv 4) (paC (pv 6) ae))))))) (wv (eX (ck (ak C'55 (hr.m rfl) (paC (pv 2) (paC (pv 3) (paC (pv 4) (paC (pv 6) ae)))))))))) (aj (ay oW)) a9) (ah (cu (eX (ck (ak C'56 (hr.m rfl) (paC (pv 2) (paC (pv 5) (paC (pv 6) ae)))))) (aj (ay oW)) a9) (aj (cu (aW (zS K rfl hu) (ak C'37 (hr.m rfl) (paC (ke C'22 (hr.m rfl) (paC (pv 3) (paC (bd mf (eh (paC aw ae)) (ai (bj K rfl) rfl T.b_len gV (paC (pv 3) ae))) ae))) ae)) (ak C'35 (hr.m rfl) (paC (ke C'15 (hr.m rfl) (paC (pv 3) ae)) ae)) (aS _)) (aj (ay oW)) a9)))))))))) (aj (ay oW))),(DL K mg TC)⟩
end
variable {w:World}{K:b_}{h:Heap}{mg:Str->Option Value}
def IF{l:OE}{fa:Addr}(X:K.In h)(G:h.Ns mainGlobals mg)(hfa:mg "law"=some (.ref fa)){C_Family:Addr}(aC_Family:t_ K mainGlobals "Family"=some (some (.ref C_Family)))(pg_Family:MC K C_Family Str.empty=true)(hd_Family:MQ K C_Family=true)(po_Family:Nr K C_Family=true)(sa_Family:j_ K (.ref C_Family) "__setattr__"=some (some (.builtin "object.__setattr__")))(mk_Family:NO K C_Family=true)(kc_Family:x_ K (.ref C_Family)=true)(n_Family_pieces:j_ K (.ref C_Family) "pieces"=some none)(n_Family_kept:j_ K (.ref C_Family) "kept"=some none)(n_Family_words:j_ K (.ref C_Family) "words"=some none)(n_Family_left:j_ K (.ref C_Family) "left"=some none)(n_Family_laps:j_ K (.ref C_Family) "laps"=some none)(n_Family_total:j_ K (.ref C_Family) "total"=some none){C_Often:Addr}(aC_Often:t_ K mainGlobals "Often"=some (some (.ref C_Often)))(pg_Often:MC K C_Often Str.empty=true)(hd_Often:MQ K C_Often=true)(po_Often:Nr K C_Often=true)(sa_Often:j_ K (.ref C_Often) "__setattr__"=some (some (.builtin "object.__setattr__")))(mk_Often:NO K C_Often=true)(kc_Often:x_ K (.ref C_Often)=true)(n_Often_pieces:j_ K (.ref C_Often) "pieces"=some none)(n_Often_counts:j_ K (.ref C_Often) "counts"=some none)(n_Often_laps:j_ K (.ref C_Often) "laps"=some none)(n_Often_total:j_ K (.ref C_Often) "total"=some none)(d1:de K "is_row" rD)(d2:de K "is_number" jC)(d3:de K "lap" Fj){f4:Addr}{oc4 kV4 dc4 pm4 cd4 ct4:Value}{od4 an4 dd4:Option Addr}{sl4 st4:Array (Option Value)}{dT4:Addr}{n4:Nat}{u4_0 u4_1:Tok}(a4:t_ K mainGlobals "is_text"=some (some (.ref f4)))(l4:K.lookup f4=some ⟨oc4,od4,.func (B_ "is_text" "is_text" (bQ fU) (bi fU) (af fU) (.ref dT4) kV4 dc4 pm4 an4 cd4 ct4),sl4⟩)(c4:Lx K cd4 "is_text"=true)(k4:x_ K (.ref f4)=true)(t4:K.lookup dT4=some ⟨.type "tuple",dd4,.seq [.int 0 u4_0,.int 4000 u4_1].toArray n4,st4⟩)(d5:de K "places" rE)(d6:de K "first_place" gB){f7:Addr}{oc7 kV7 dc7 pm7 cd7 ct7:Value}{od7 an7:Option Addr}{sl7:Array (Option Value)}(a7:j_ K (.ref C_Family) "many"=some (some (.ref f7)))(i7:Nq K (.ref f7)=true)(l7:K.lookup f7=some ⟨oc7,od7,.func (B_ "many" "Family.many" (bQ bX) (bi bX) (af bX) .none kV7 dc7 pm7 an7 cd7 ct7),sl7⟩)(c7:Lx K cd7 "Family.many"=true)(k7:x_ K (.ref f7)=true)(d8:de K "glue_all" lf)(d9:de K "steps_of" lg)(d10:de K "members" nC)(d11:de K "is_ahead" ll)(d12:de K "heads_of" lp)(d13:de K "choices_left" fm)(d14:de K "_law_stream" iq)(d15:de K "_law_next" lu)(d16:de K "_law_within" iu)(d17:de K "_law_lap" nF)(d18:de K "_law_whole" jH)(d19:de K "_law_places" iA)(d20:de K "are_numbers" gA)(d21:de K "all_laps" k8)(d22:de K "is_whole" k9)(d23:de K "check_pieces" fj)(d24:de K "stands_within" eG)(d25:de K "row_in" rF)(d26:de K "foremost" lm)(d27:de K "check_few_words" dq)(d28:de K "sets_left" jF)(d29:de K "_law_word" lv)(d30:de K "_law_cut" nE)(d31:de K "_law_counts" iw)(d32:de K "_law_shuffled" fo)(d33:de K "_law_lesser" iy)(d34:de K "are_prices" ip)(d35:de K "is_kept" nB)(d36:de K "left_row" lc)(d37:de K "check_counts" fk)(d38:de K "is_full_row" gD)(d39:de K "all_ends" lq)(d40:de K "_law_base" lw)(d41:de K "_law_laid" ly)(d42:de K "_law_row" nG)(d43:de K "is_price_paper" dO){f44:Addr}{oc44 kV44 dc44 pm44 cd44 ct44:Value}{od44 an44:Option Addr}{sl44:Array (Option Value)}(a44:j_ K (.ref C_Family) "__init__"=some (some (.ref f44)))(i44:Nq K (.ref f44)=true)(l44:K.lookup f44=some ⟨oc44,od44,.func (B_ "__init__" "Family.__init__" (bQ bW) (bi bW) (af bW) .none kV44 dc44 pm44 an44 cd44 ct44),sl44⟩)(c44:Lx K cd44 "Family.__init__"=true)(k44:x_ K (.ref f44)=true)(d45:de K "check_apart" gC)(d46:de K "row_text" lh)(d47:de K "foremost_text" eH)(d48:de K "_law_pieces" ir)(d49:de K "pays_laps" jD){f50:Addr}{oc50 kV50 dc50 pm50 cd50 ct50:Value}{od50 an50:Option Addr}{sl50:Array (Option Value)}(a50:j_ K (.ref C_Often) "__init__"=some (some (.ref f50)))(i50:Nq K (.ref f50)=true)(l50:K.lookup f50=some ⟨oc50,od50,.func (B_ "__init__" "Often.__init__" (bQ cp) (bi cp) (af cp) .none kV50 dc50 pm50 an50 cd50 ct50),sl50⟩)(c50:Lx K cd50 "Often.__init__"=true)(k50:x_ K (.ref f50)=true)(d51:de K "shortest" lr)(d52:de K "shortest_often" dP)(d53:de K "_law_apart" jG)(d54:de K "often_bound" gE)(d55:de K "_law_more" lz)(d56:de K "_law_renamed" gG)(d57:de K "_law_bounded" gI)(d58:de K "law" Cp)(z1:t_ K mainGlobals "abs"=some none)(z2:t_ K mainGlobals "all"=some none)(z3:t_ K mainGlobals "any"=some none)(z4:t_ K mainGlobals "bool"=some none)(z5:t_ K mainGlobals "enumerate"=some none)(z6:t_ K mainGlobals "int"=some none)(z7:t_ K mainGlobals "isinstance"=some none)(z8:t_ K mainGlobals "len"=some none)(z9:t_ K mainGlobals "list"=some none)(z10:t_ K mainGlobals "max"=some none)(z11:t_ K mainGlobals "min"=some none)(z12:t_ K mainGlobals "range"=some none)(z13:t_ K mainGlobals "sorted"=some none)(z14:t_ K mainGlobals "str"=some none)(z15:t_ K mainGlobals "sum"=some none)(z16:t_ K mainGlobals "tuple"=some none)(z17:t_ K mainGlobals "zip"=some none){ty1:Tok}(y1:t_ K mainGlobals "MOST_COUNT"=some (some (.int 9 ty1))){ty2:Tok}(y2:t_ K mainGlobals "MOST_PIECES"=some (some (.int 40 ty2))){ty3:Tok}(y3:t_ K mainGlobals "MOST_PRODUCT"=some (some (.int 500 ty3))){ty4:Tok}(y4:t_ K mainGlobals "MOST_SHORTEST_WORDS"=some (some (.int 12 ty4))){ty5:Tok}(y5:t_ K mainGlobals "MOST_SIGNS"=some (some (.int 60 ty5))):
  ∃fd:L1,(∀(s:d_) (v:Value),Ow s fd ⟨[v],[]⟩ [("_law_script",v)])/\∀base:Heap,K.In base->base.Ns mainGlobals mg->qG l.prog w K mg base CX0 8 fa fd ["_law_script"] (xM K):=by
 have eC_Family:=wI aC_Family;have eC_Often:=wI aC_Often;have TC:TxC K:=⟨by rw [eC_Family];exact⟨pg_Family,hd_Family,po_Family,sa_Family⟩,by show j_ K (.ref (bw K "Family")) "pieces"=some none;rw [eC_Family];exact n_Family_pieces,by show j_ K (.ref (bw K "Family")) "kept"=some none;rw [eC_Family];exact n_Family_kept,by show j_ K (.ref (bw K "Family")) "words"=some none;rw [eC_Family];exact n_Family_words,by show j_ K (.ref (bw K "Family")) "left"=some none;rw [eC_Family];exact n_Family_left,by show j_ K (.ref (bw K "Family")) "laps"=some none;rw [eC_Family];exact n_Family_laps,by show j_ K (.ref (bw K "Family")) "total"=some none;rw [eC_Family];exact n_Family_total,by rw [eC_Often];exact⟨pg_Often,hd_Often,po_Often,sa_Often⟩,by show j_ K (.ref (bw K "Often")) "pieces"=some none;rw [eC_Often];exact n_Often_pieces,by show j_ K (.ref (bw K "Often")) "counts"=some none;rw [eC_Often];exact n_Often_counts,by show j_ K (.ref (bw K "Often")) "laps"=some none;rw [eC_Often];exact n_Often_laps,by show j_ K (.ref (bw K "Often")) "total"=some none;rw [eC_Often];exact n_Often_total⟩
 have D'0:=aN d1 X G;have D'1:=aN d2 X G;have D'5:=aN d3 X G;have D'7:wG K mg "is_text" fU [.int 0,.int 4000]:=⟨⟨f4,dT4,oc4,od4,an4,dd4,kV4,dc4,pm4,cd4,ct4,sl4,st4,[.int 0 u4_0,.int 4000 u4_1],n4,l4,c4,k4,Mf X G a4,t4,(.cons ⟨_,rfl⟩ (.cons ⟨_,rfl⟩ .nil))⟩⟩
 have D'9:=aN d5 X G;have D'10:=aN d6 X G;have D'16:wJ K (bw K "Family") "many" "Family.many" bX:=by rw [eC_Family];exact⟨⟨f7,_,wB (st:=bX) l7 c7 k7,⟨a7,i7,k7⟩⟩⟩
 have D'17:=aN d8 X G;have D'21:=aN d9 X G;have D'27:=aN d10 X G;have D'28:=aN d11 X G;have D'31:=aN d12 X G;have D'36:=aN d13 X G;have D'38:=aN d14 X G;have D'39:=aN d15 X G;have D'44:=aN d16 X G;have D'47:=aN d17 X G;have D'48:=aN d18 X G;have D'53:=aN d19 X G;have D'2:=aN d20 X G;have D'6:=aN d21 X G
 have D'8:=aN d22 X G;have D'11:=aN d23 X G;have D'12:=aN d24 X G;have D'25:=aN d25 X G;have D'29:=aN d26 X G;have D'30:=aN d27 X G;have D'32:=aN d28 X G;have D'40:=aN d29 X G;have D'41:=aN d30 X G;have D'46:=aN d31 X G;have D'49:=aN d32 X G;have D'50:=aN d33 X G;have D'3:=aN d34 X G;have D'13:=aN d35 X G
 have D'14:=aN d36 X G;have D'20:=aN d37 X G;have D'23:=aN d38 X G;have D'33:=aN d39 X G;have D'42:=aN d40 X G;have D'51:=aN d41 X G;have D'52:=aN d42 X G;have D'4:=aN d43 X G;have D'15:qb K mg (bw K "Family") "Family" "Family.__init__" bW:=by rw [eC_Family];exact⟨⟨f44,_,wB (st:=bW) l44 c44 k44,⟨mk_Family,a44,i44,kc_Family⟩,Mf X G aC_Family⟩⟩
 have D'19:=aN d45 X G;have D'24:=aN d46 X G;have D'34:=aN d47 X G;have D'43:=aN d48 X G;have D'18:=aN d49 X G;have D'22:qb K mg (bw K "Often") "Often" "Often.__init__" cp:=by rw [eC_Often];exact⟨⟨f50,_,wB (st:=cp) l50 c50 k50,⟨mk_Often,a50,i50,kc_Often⟩,Mf X G aC_Often⟩⟩
 have D'35:=aN d51 X G;have D'37:=aN d52 X G;have D'45:=aN d53 X G;have D'26:=aN d54 X G;have D'54:=aN d55 X G;have D'55:=aN d56 X G;have D'56:=aN d57 X G;have D'57:=aN d58 X G;have T:Txt mg:=⟨v_ X G z1,v_ X G z2,v_ X G z3,v_ X G z4,v_ X G z5,v_ X G z6,v_ X G z7,v_ X G z8,v_ X G z9,v_ X G z10,v_ X G z11,v_ X G z12,v_ X G z13,v_ X G z14,v_ X G z15,v_ X G z16,v_ X G z17,⟨_,Mf X G y1⟩,⟨_,Mf X G y2⟩,⟨_,Mf X G y3⟩,⟨_,Mf X G y4⟩,⟨_,Mf X G y5⟩⟩
 refine GL (st:=Cp) hfa D'57 (λ_ _ _ _ _ _ s v=>.of_eq rfl) λbase=>?_;have C'0:=A5 l.prog w base D'0 T TC;have C'1:=ui l.prog w base D'1 T TC;have C'5:=ID l.prog w base D'5 T TC;have C'7:=yk l.prog w base D'7 T TC;have C'9:=A6 l.prog w base D'9 T TC;have C'10:=pT l.prog w base D'10 T TC;have C'16:=pV l.prog w base D'16 T TC
 have C'17:=vY l.prog w base D'17 T TC;have C'21:=vZ l.prog w base D'21 T TC;have C'27:=ym l.prog w base D'27 T TC;have C'28:=wb l.prog w base D'28 T TC;have C'31:=wd l.prog w base D'31 T TC;have C'36:=oS l.prog w base D'36 T TC;have C'38:=si l.prog w base D'38 T TC;have C'39:=wl l.prog w base D'39 T TC
 have C'44:=sk l.prog w base D'44 T TC;have C'47:=yo l.prog w base D'47 T TC;have C'48:=um l.prog w base D'48 T TC;have C'53:=sv l.prog w base D'53 T TC;have C'2:=pS l.prog w base D'2 T TC C'1 C'0;have C'6:=vV l.prog w base D'6 T TC C'5;have C'8:=vW l.prog w base D'8 T TC C'1
 have C'11:=oO l.prog w base D'11 T TC C'7;have C'12:=my l.prog w base D'12 T TC C'10;have C'25:=A7 l.prog w base D'25 T TC C'9;have C'29:=wc l.prog w base D'29 T TC C'28;have C'30:=kO l.prog w base D'30 T TC C'16;have C'32:=uk l.prog w base D'32 T TC C'27;have C'40:=wm l.prog w base D'40 T TC C'39
 have C'41:=yn l.prog w base D'41 T TC C'39;have C'46:=sr l.prog w base D'46 T TC C'39;have C'49:=oU l.prog w base D'49 T TC C'39;have C'50:=su l.prog w base D'50 T TC C'39;have C'3:=sf l.prog w base D'3 T TC C'2;have C'13:=yl l.prog w base D'13 T TC C'12;have C'14:=vX l.prog w base D'14 T TC C'10 C'12
 have C'20:=oQ l.prog w base D'20 T TC C'0 C'8;have C'23:=pX l.prog w base D'23 T TC C'2;have C'33:=wf l.prog w base D'33 T TC C'29;have C'42:=wn l.prog w base D'42 T TC C'39 C'40;have C'51:=wo l.prog w base D'51 T TC C'47 C'50 C'39;have C'52:=yp l.prog w base D'52 T TC C'49
 have C'4:=lM l.prog w base D'4 T TC C'3 C'0;have C'15:=pU l.prog w base D'15 T TC C'6 C'11 C'13 C'14;have C'19:=pW l.prog w base D'19 T TC C'13;have C'24:=v9 l.prog w base D'24 T TC C'17 C'23;have C'34:=mB l.prog w base D'34 T TC C'33 C'29 C'31
 have C'43:=sj l.prog w base D'43 T TC C'42 C'41 C'39 C'40;have C'18:=uj l.prog w base D'18 T TC C'4;have C'22:=sh l.prog w base D'22 T TC C'6 C'19 C'20 C'11 C'21;have C'35:=wg l.prog w base D'35 T TC C'16 C'30 C'34 C'32;have C'37:=lN l.prog w base D'37 T TC C'36 C'34 C'21
 have C'45:=ul l.prog w base D'45 T TC C'43 C'44;have C'26:=pY l.prog w base D'26 T TC C'18;have C'54:=wq l.prog w base D'54 T TC C'22 C'39 C'53 C'37;have C'55:=pZ l.prog w base D'55 T TC C'22 C'49 C'37;have C'56:=p5 l.prog w base D'56 T TC C'51 C'47 C'52 C'48 C'26 C'25 C'24
 exact (IE l.prog w base D'57 T TC C'15 C'22 C'45 C'56 C'46 C'54 C'39 C'55 C'38 C'35 C'37).imp λ_ _ _ _ h=>EH h
end K57

open PySem PySem.W PyProof.Rows
local macro_rules | `(tactic| walk_at "fn") => `(tactic| (refine' L2.HY ?a ?l ?c ?k; (case a => k_is); (case l => k_is); (case c => k_is); (case k => k_is)))
local macro_rules | `(tactic| walk_at "xi") => `(tactic| (refine' L2.Ka ?a ?l ?g ?h ?s ?c ?k; (case a => k_is); (case l => k_is); (case g => k_is); (case h => k_is); (case s => k_is); (case c => k_is); (case k => k_is)))
local macro_rules | `(tactic| walk_at "xj") => `(tactic| (refine' L2.Kb ?i ?t ?l ?c ?k ?n; (case i => k_is); (case t => k_is); (case l => k_is); (case c => k_is); (case k => k_is); (case n => k_is)))
set_option maxRecDepth 100000 in
set_option maxHeartbeats 0 in
theorem PySem.Challenge.cw_shortglue_k57_whole_more_often_holds : PySem.Challenge.rw_shortglue_k57_whole_more_often.Holds := by
  refine topHd ?_
  k_fill
  refine L2.GM (l := PySem.Challenge.rw_shortglue_k57_whole_more_often) (k := 8) (x := "_law_script") rfl rfl ⟨rfl, by decide, by decide⟩ (fun w h Y => PySem.W.kIn_of Y) ?F
  case F =>
    intro w mg fa h KX G hmg
    refine' K57.IF KX G hmg ?aC_Family ?pg_Family ?hd_Family ?po_Family ?sa_Family ?mk_Family ?kc_Family ?n_Family_pieces ?n_Family_kept ?n_Family_words ?n_Family_left ?n_Family_laps ?n_Family_total ?aC_Often ?pg_Often ?hd_Often ?po_Often ?sa_Often ?mk_Often ?kc_Often ?n_Often_pieces ?n_Often_counts ?n_Often_laps ?n_Often_total ?d1 ?d2 ?d3 ?a4 ?l4 ?c4 ?k4 ?t4 ?d5 ?d6 ?a7 ?i7 ?l7 ?c7 ?k7 ?d8 ?d9 ?d10 ?d11 ?d12 ?d13 ?d14 ?d15 ?d16 ?d17 ?d18 ?d19 ?d20 ?d21 ?d22 ?d23 ?d24 ?d25 ?d26 ?d27 ?d28 ?d29 ?d30 ?d31 ?d32 ?d33 ?d34 ?d35 ?d36 ?d37 ?d38 ?d39 ?d40 ?d41 ?d42 ?d43 ?a44 ?i44 ?l44 ?c44 ?k44 ?d45 ?d46 ?d47 ?d48 ?d49 ?a50 ?i50 ?l50 ?c50 ?k50 ?d51 ?d52 ?d53 ?d54 ?d55 ?d56 ?d57 ?d58 ?z1 ?z2 ?z3 ?z4 ?z5 ?z6 ?z7 ?z8 ?z9 ?z10 ?z11 ?z12 ?z13 ?z14 ?z15 ?z16 ?z17 ?y1 ?y2 ?y3 ?y4 ?y5
    (case aC_Family => k_is)
    (case pg_Family => k_is)
    (case hd_Family => k_is)
    (case po_Family => k_is)
    (case sa_Family => k_is)
    (case mk_Family => k_is)
    (case kc_Family => k_is)
    (case n_Family_pieces => k_is)
    (case n_Family_kept => k_is)
    (case n_Family_words => k_is)
    (case n_Family_left => k_is)
    (case n_Family_laps => k_is)
    (case n_Family_total => k_is)
    (case aC_Often => k_is)
    (case pg_Often => k_is)
    (case hd_Often => k_is)
    (case po_Often => k_is)
    (case sa_Often => k_is)
    (case mk_Often => k_is)
    (case kc_Often => k_is)
    (case n_Often_pieces => k_is)
    (case n_Often_counts => k_is)
    (case n_Often_laps => k_is)
    (case n_Often_total => k_is)
    (case d1 => walk_at "fn")
    (case d2 => walk_at "fn")
    (case d3 => walk_at "fn")
    (case a4 => k_is)
    (case l4 => k_is)
    (case c4 => k_is)
    (case k4 => k_is)
    (case t4 => k_is)
    (case d5 => walk_at "fn")
    (case d6 => walk_at "fn")
    (case a7 => k_is)
    (case i7 => k_is)
    (case l7 => k_is)
    (case c7 => k_is)
    (case k7 => k_is)
    (case d8 => walk_at "fn")
    (case d9 => walk_at "fn")
    (case d10 => walk_at "fn")
    (case d11 => walk_at "fn")
    (case d12 => walk_at "fn")
    (case d13 => walk_at "fn")
    (case d14 => walk_at "fn")
    (case d15 => walk_at "fn")
    (case d16 => walk_at "fn")
    (case d17 => walk_at "fn")
    (case d18 => walk_at "fn")
    (case d19 => walk_at "fn")
    (case d20 => walk_at "fn")
    (case d21 => walk_at "fn")
    (case d22 => walk_at "fn")
    (case d23 => walk_at "fn")
    (case d24 => walk_at "fn")
    (case d25 => walk_at "fn")
    (case d26 => walk_at "fn")
    (case d27 => walk_at "fn")
    (case d28 => walk_at "fn")
    (case d29 => walk_at "fn")
    (case d30 => walk_at "fn")
    (case d31 => walk_at "fn")
    (case d32 => walk_at "fn")
    (case d33 => walk_at "fn")
    (case d34 => walk_at "fn")
    (case d35 => walk_at "fn")
    (case d36 => walk_at "fn")
    (case d37 => walk_at "fn")
    (case d38 => walk_at "fn")
    (case d39 => walk_at "fn")
    (case d40 => walk_at "fn")
    (case d41 => walk_at "fn")
    (case d42 => walk_at "fn")
    (case d43 => walk_at "fn")
    (case a44 => k_is)
    (case i44 => k_is)
    (case l44 => k_is)
    (case c44 => k_is)
    (case k44 => k_is)
    (case d45 => walk_at "fn")
    (case d46 => walk_at "fn")
    (case d47 => walk_at "fn")
    (case d48 => walk_at "fn")
    (case d49 => walk_at "fn")
    (case a50 => k_is)
    (case i50 => k_is)
    (case l50 => k_is)
    (case c50 => k_is)
    (case k50 => k_is)
    (case d51 => walk_at "fn")
    (case d52 => walk_at "fn")
    (case d53 => walk_at "fn")
    (case d54 => walk_at "fn")
    (case d55 => walk_at "fn")
    (case d56 => walk_at "fn")
    (case d57 => walk_at "fn")
    (case d58 => walk_at "fn")
    (case z1 => k_is)
    (case z2 => k_is)
    (case z3 => k_is)
    (case z4 => k_is)
    (case z5 => k_is)
    (case z6 => k_is)
    (case z7 => k_is)
    (case z8 => k_is)
    (case z9 => k_is)
    (case z10 => k_is)
    (case z11 => k_is)
    (case z12 => k_is)
    (case z13 => k_is)
    (case z14 => k_is)
    (case z15 => k_is)
    (case z16 => k_is)
    (case z17 => k_is)
    (case y1 => k_is)
    (case y2 => k_is)
    (case y3 => k_is)
    (case y4 => k_is)
    (case y5 => k_is)
