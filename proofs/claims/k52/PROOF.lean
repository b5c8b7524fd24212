import PyProof.Rows.All
import Wide.All
import OpenK.AllK
import Wide.FinOn
import Lean
import PyProof.EqAt
import PyProof.EqKinds
import PyProof.TupleCall
import KE.KSortTup
import PyProof.FString
import PyProof.StrBlock
import KE.KRevSl
import PyProof.StrLawsReplace
import PyProof.StrCalls6
import PyProof.MinMaxWalk
import PyProof.WalkInts
import PyProof.NeKinds
import KE.KEqDict
import PyProof.Rows.SumAny
import KE.KMinKey
import PyProof.Rows.CallKwBuiltin
import KE.KIntText
import PySem.Challenge.RW_shortglue_k52_whole_turned_pieces
set_option Elab.async false
set_option linter.all false
set_option maxRecDepth 100000
set_option bootstrap.genMatcherCode false
set_option compiler.extract_closed false
open List (all_cons all_eq_true all_map any_cons any_eq_false any_map append_assoc append_eq_nil_iff append_nil append_of_mem append_toArray concat_eq_append cons_append cons_lt_cons_iff contains_iff_mem countP_cons drop_drop drop_eq_getElem_cons drop_eq_nil_of_le drop_left drop_one drop_suffix drop_take drop_zero eq_nil_iff_forall_not_mem eq_nil_of_length_eq_zero eq_nil_or_concat eq_of_mem_replicate eraseIdxIfInBounds_toArray eraseIdx_eq_take_drop_succ ext_getElem ext_getElem? extract_eq_take_drop extract_toArray filterMap_append filterMap_cons filterMap_eq_map filterMap_map filter_append filter_congr filter_cons filter_eq_nil_iff find?_cons find?_eq_none find?_eq_some_iff_append flatMap_append flatMap_cons flatMap_nil flatten_cons flatten_nil foldl_cons forIn_cons forIn_nil getD_eq_getElem?_getD getElem?_append_left getElem?_append_right getElem?_cons_succ getElem?_eq_getElem getElem?_eq_none getElem?_inj getElem?_map getElem?_range getElem?_replicate getElem?_reverse getElem?_set_ne getElem?_set_self getElem?_take getElem?_take_of_lt getElem?_toArray getElem?_zip_eq_some getElem_cons_drop getElem_inj getElem_map getElem_mem getElem_of_mem getElem_range getElem_tail getElem_toArray getElem_zip infix_refl isEmpty_iff length_append length_cons length_drop length_eq_zero_iff length_eraseIdx length_filter_le length_flatten length_map length_nil length_pos_iff length_pos_of_mem length_range length_replicate length_reverse length_set length_singleton length_tail length_take length_zip lookup_append lookup_cons map_append map_congr_left map_cons map_drop map_eq_nil_iff map_fst_zip map_id map_map map_nil map_replicate map_snd_zip map_take mem_append mem_append_left mem_append_right mem_cons mem_cons_of_mem mem_cons_self mem_filter mem_filterMap mem_flatMap mem_flatten mem_iff_getElem mem_iff_getElem? mem_map mem_map_of_mem mem_of_getElem? mem_of_mem_drop mem_of_mem_take mem_range mem_range'_1 mem_replicate mem_reverse mem_singleton mergeSort_perm nil_append nil_prefix nil_suffix nodup_cons nodup_nil nodup_range not_mem_nil of_mem_zip pairwise_append pairwise_cons pairwise_iff_getElem pairwise_lt_range pairwise_map pairwise_mergeSort perm_append_comm perm_append_singleton perm_ext_iff_of_nodup prefix_append prefix_refl range_succ range_succ_eq_map replicate_succ reverse_append reverse_cons reverse_infix reverse_reverse set_cons_succ set_cons_zero size_toArray suffix_append suffix_iff_eq_drop sum_append sum_cons sum_replicate_nat tail_cons take_add take_add_one take_append_drop take_left take_length take_nil take_of_length_le take_prefix take_sublist take_succ take_succ_cons take_take take_zero zipIdx_cons zipIdx_nil zip_append zip_cons_cons zip_nil_left zip_nil_right)
open Nat (add_assoc add_comm add_le_add_left add_mul add_sub_cancel and_one_is_mod div_add_mod eq_zero_or_pos le_add_right le_antisymm le_of_ble_eq_true le_of_eq le_of_lt le_of_not_lt le_of_succ_le le_succ log2_lt lt_log2_self lt_of_le_of_lt lt_of_lt_of_le lt_or_ge lt_succ_of_lt lt_succ_self lt_trans max_le min_eq_left min_eq_right min_le_right min_self mod_lt mul_comm mul_le_mul mul_le_mul_right mul_pos mul_succ mul_zero ne_of_gt ne_of_lt not_lt not_lt_zero not_succ_le_self pow_le_pow_right pow_pos pow_succ sub_le sub_self succ_le_succ succ_mul succ_ne_self succ_pos testBit_eq_decide_div_mod_eq testBit_lt_two_pow testBit_two_pow_add_gt testBit_two_pow_mul_add testBit_two_pow_sub_one zero_le)
open Int (add_zero ediv_nonneg ediv_one emod_lt_of_pos emod_nonneg fdiv_eq_ediv_of_nonneg fmod_eq_emod_of_nonneg le_ediv_of_mul_le mul_le_mul_of_nonneg_left natAbs_natCast natCast_add natCast_ediv natCast_nonneg natCast_pow natCast_zero neg_neg ofNat_le toNat_natCast toNat_of_nonneg zero_mul)
open Bool (and_eq_false_imp and_eq_true and_eq_true_iff beq_eq_decide_eq false_eq_true not_eq_true not_not or_eq_true)
local macro_rules | `(tactic| walk_at "o")=>`(tactic| first | exact Or.inl rfl | exact Or.inr rfl | exact Or.inr (Or.inl rfl) | exact Or.inr (Or.inr rfl))
set_option maxHeartbeats 4000000
noncomputable section
open And renaming intro→r_
open Array renaming length_toList→y_,mk→M1,perm_iff_toList_perm→Of,toList→OB
open Bool renaming and_false→O0,eq_iff_iff→MI,false_ne_true→k_,false_or→NS,or_true→OQ,true_or→OP
open Classical renaming choose_spec→OU
open False renaming elim→Mq
open ForInStep renaming yield→LZ
open Int renaming emod_lt_of_pos→O9,emod_nonneg→O8,le_refl→Oq,le_trans→Pj,zero_add→ON
open List renaming Nodup→o_,all_eq_true→Na,append_nil→LA,cons_lt_cons_iff→Mx,contains_iff_mem→Nd,countP_cons→O6,drop_eq_nil_of_le→M7,ext_getElem?→NG,filterMap_cons→M8,filterMap_map→Ot,getD_eq_getElem?_getD→cy,getElem?_append_left→MJ,getElem?_append_right→Mf,getElem?_cons_succ→Nu,getElem?_eq_getElem→cx,getElem?_eq_none→v_,getElem?_eq_some_iff→i_,getElem?_map→h_,getElem?_range→LQ,getElem?_set_ne→p_,getElem?_set_self→so,getElem_mem→Ml,getElem_of_mem→Mm,length_eq_zero_iff→Mh,length_filter_le→Nf,length_pos_iff→O_,length_range→tj,length_reverse→LD,length_set→L0,lookup_cons→Me,lookup→M9,map_congr_left→LW,map_eq_nil_iff→Nb,mem_append_left→M2,mem_append_right→u_,mem_append→MA,mem_cons_of_mem→m_,mem_cons→A_,mem_filterMap→MO,mem_map_of_mem→Ma,mem_map→LJ,mem_of_getElem?→Eo,mem_range'_1→N4,mem_singleton→G_,nodup_cons→NM,nodup_range→NU,of_mem_zip→NN,pairwise_cons→Nn,pairwise_lt_range→On,pairwise_map→NI,prefix_append→Ow,range'→Nw,range→e_,replicate→u1,reverse_cons→N1,reverse_infix→MU,take_append_drop→L4,take_of_length_le→L9
open List.Perm renaming refl→O5
open Nat renaming ble→Pa,le_add_right→N5,le_of_ble_eq_true→Oo,le_of_eq→Oz,le_of_succ_le→NQ,le_refl→gV,le_trans→s_,lt_irrefl→K_,lt_of_lt_of_le→w_,lt_or_ge→ML,lt_succ_of_lt→M6,lt_succ_self→OD,min_eq_left→Om,min_eq_right→OK,mul_le_mul→Pg,ne_of_gt→Oa,ne_of_lt→H_,not_lt_zero→Ny,pow_le_pow_right→My,sub_zero→N2,testBit_lt_two_pow→Og,testBit_two_pow_mul_add→Nz,zero_add→N6,zero_le→LY
open Nat.succ renaming inj→Pi
open Ne renaming symm→MW
open Option renaming isSome_iff_exists→MP,map_eq_some_iff→Ms
open Option.some renaming inj→q_
open Or renaming inl→Pf
open Prod renaming ext→Oy,fst→B_,snd→MF
open Prod.mk renaming injEq→Os
open PyProof renaming noPylong_small→OC
open PyProof.Rows renaming AllBare→Oi,IntsAre→Mt,boot_isinstance→M4,boot_list→NP,boot_tuple→MV,callWith_kw→Ox,callWith_type1→LF,kws_cons→OV,kws_nil→O7,listUpdate_at→Ov,slot_tuple_getitem→Lx
open PySem renaming Around→C0,BindsTo→OE,Builtin→NZ,DictEntry→Pb,FuncData→L7,IsPair→Nt,IsPart→OH,NameKind→L8,OsState→Np,Params→N9,Program→t_,PyData→Nr,Shared→c_,Within→Ph,boot_len→j_,call_meets→OJ,codeAny_builtin→Mr,codeAny_mono→OF,concat_meets→OG,mem_of_lookup→MX,noFill_tuple_add→OA,plainId_quiet→MT,pushCells_keeps→NW,sizeLine_eq→Md,slot_list_getitem→Ol,wpAny_Call_Name_kw→MD,wpAny_bind→cn,wpAny_callSpecial?_slot→LK,wpAny_call_entry→L3,wpAny_execs_nil→NV,wpAny_field→LP,wpAny_holding→I_,wpAny_letGo→Mw,wpAny_mono→Ly,wpAny_newList→Ou,wpAny_newObj_type→LH,wpAny_of_eq→O4,wpAny_onRaise→NR,wpAny_passesOwn→MH,wpAny_pure→f_,wpAny_pyIter_list→MK,wpAny_rule→NO,wpAny_seqItems→LB,wpAny_setField_rec→ME,wpAny_standAt→MN,wpAny_truthy_bool→J_,wpAny_tryCatch→Mb,wpAny_typeOf→OI,wpAny_updateSeq_pair→NT,wpAny_updateSeq→M3
open PySem.Around renaming under_plainId→Mn
open PySem.AutoSeq1 renaming wpAny_loadPart'→MS
open PySem.Builtin renaming bitAnd→MY
open PySem.Builtin.Builtins renaming bindParams→Mv
open PySem.Builtin.List renaming listExtendWith→N7,listTooLong→MR
open PySem.Builtin.Range renaming rangeFitsLong→N3,rangeSize→L1,small→Nh
open PySem.Builtin.Slice renaming sliceAdjust→Ng,sliceApplied→Oc,slicePlaces→MG
open PySem.Builtin.SmallTypes renaming nextOf→z_,ownedTupleHandOut→Ni,ownedTupleIsFree→LX
open PySem.Builtin.Str renaming occurrences→Nx,strSliceIndices→L5,subAt→NF
open PySem.Builtin.Tuple renaming tupleExact→MQ,tupleItemsOf→Od
open PySem.Calls renaming Name_function_global→N_
open PySem.F renaming args_tuple_add_2→Nj,entry_tuple_add→Nv,plainAttrs_list→LL,plainAttrs_str→Mc,slot_list_append→Mi,slot_str_find→NJ,slot_str_join→OW,slot_tuple_add→NE,type_list_append→Mj,type_str_find→NK,type_str_join→OX
open PySem.Heap renaming ExtBut→O3,SameBut→NA,get?_push_ne→MM,get?_push_of_some→d_,get?_push_size→g_,get?_update_other→C_,get?_update_self→Mg,lt_size→n_,size_push→Lz,size_update→MZ
open PySem.NameKind renaming cell→M5,free→Nm
open PySem.Obj renaming mapSeq→Lw
open PySem.PassesOwn renaming never→E_
open PySem.PyData renaming canLay0→Oe,depth→OM,eqvAll→Nk,eqv→M_,int→OL
open PySem.SeqAt renaming shaped→L_
open PySem.Str renaming ofString→Mu
open PySem.StrLaws renaming occBody→NX
open PySem.Value renaming bool→Mo,float→OY,int→NL,none→L6,ref→l_,str→N8,type→Mz
open PySem.W renaming Frag→b_,OpenLaw→OT,boot_heap→FX,cellsFrom_some→M0,codeIn→LN,emptyDict→LV,findIn→pf,fnOf→F_,hasDictIn→NB,instObj→Mp,isFn→N0,keepIn→D_,kia_one→LR,kitAny→NH,kitOne→MC,kitx_dict→ND,kitx_list→NC,lookIn→Ob,makesIn→OS,methodObj→Oh,mg_none_of→x_,mg_of→Nl,nsIn→we,plainGet_of→NY,plainGet→Nc,plainOver→Oj,takerIn→OR,typeIn→OZ
open PySem.W.KasT renaming kasWp_bind→Nq
open Sum renaming inl→Pd,inr→Pe
open True renaming intro→MB
namespace L2
open PySem PySem.W
noncomputable def jp(tb:String->Option NZ)(p:t_)(w:World)(n₀:Nat)(ann:Option Value):Nat->SharedT->Thread->Option SharedT
 | 0,_,_=>none
 | n+1,s,t=>match through t with
  | true=>some s
  | false=>match stepOk n₀ ann t with
   | false=>none
   | true=>match stepT (denote tb) p w s t with
    | some (s',t')=>jp tb p w n₀ ann n s' t'
    | none=>none
variable {w:World}
theorem mT{tb:String->Option NZ}{p:t_}{n₀:Nat}{ann:Option Value}:∀{n:Nat}{s s':SharedT}{t:Thread},jp tb p w n₀ ann n s t=some s'->topRun tb p w n₀ ann n s.abs t=some s'.abs
 | 0,_,_,_,h=>by cases h
 | n+1,s,s',t,h=>by
  unfold jp at h;unfold topRun
  cases he:through t with
  | true=>rw [he] at h;cases h;rfl
  | false =>
   rw [he] at h
   cases hk:stepOk n₀ ann t with
   | false=>rw [hk] at h;cases h
   | true =>
    rw [hk] at h
    cases hs:stepT (denote tb) p w s t with
    | none=>rw [hs] at h;cases h
    | some r=>obtain⟨s₂,t₂⟩:=r;rw [hs] at h;rw [stepT_spec hs];exact mT h
noncomputable def wI:List Obj->Nat->BT->BT
 | [],_,t=>t
 | o::r,i,t=>wI r (i+1) (t.ins i o)
noncomputable def DF(P:N9):BT:=wI (FX P).objs.toList 0 .nil
theorem Bm:∀P,absHeap (DF P) (FX P).objs.size (FX P).life=FX P:=λP=>by kernel_rfl
variable {q:t_}{loose:List Str}{α:Type}
theorem Kg{p:t_}{Xt:c_->Bool}{Yf:c_->α}{Ya:World->α}{N:Nat}{g0:Bool}{m₀:Nat}{ann:Option Value}(e:opening p=plainProg p.main.scope.names)(hN:Pa 600 N=true)(f:∀s,fenceModules? p s=some s)(size:∀w:World,((FX w.params).isNs mainGlobals && (M1 []:Array GenState).size == 0,(FX w.params).objs.size,(FX w.params).nsMap mainGlobals "__annotations__")=(true,m₀,ann))(run:∀(w:World) (os:Np),(jp treeTable p w m₀ ann N ⟨DF w.params,m₀,(FX w.params).life,M1 [],boot_drawn,boot_toks,os⟩ (topStub p)).map (λsT=>((staticsOk (importedModules p.main.body) (FX w.params) sT.abs.heap && namesBound p sT.abs.heap && gensDone sT.abs && laidKept (FX w.params) sT.abs.heap),openSeen q loose (importedModules p.main.body) Xt g0 sT.abs,Yf sT.abs))=some (true,openGood q loose,Ya w)):LeftO p q loose Xt Yf Ya N g0:=λw=>by
 obtain⟨⟨h,gs,d,k,os⟩,e,e'⟩:=Ms.mp (boot_open e hN f w);obtain⟨rfl,rfl,rfl,rfl⟩:h=FX w.params/\gs=M1 []/\d=boot_drawn/\k=boot_toks:=by simpa using e'
 obtain⟨z1,z2,z3⟩:_/\_/\_:=by simpa only [Os] using size w
 obtain⟨sT,r,l⟩:=Ms.mp (run w os);obtain⟨l1,l2,l3⟩:_/\_/\_:=by simpa only [Os] using l
 have r:=mT r
 rw [show SharedT.abs ⟨DF w.params,m₀,(FX w.params).life,M1 [],boot_drawn,boot_toks,os⟩=⟨FX w.params,M1 [],boot_drawn,boot_toks,os⟩ by
  unfold SharedT.abs;dsimp only;rw [<- z2,Bm]] at r
 have t:topFrom treeTable p w N ⟨FX w.params,M1 [],boot_drawn,boot_toks,os⟩=some sT.abs:=by
  unfold topFrom;dsimp only;rw [z1,z2,z3,r];show (match staticsOk (importedModules p.main.body) (FX w.params) sT.abs.heap && namesBound p sT.abs.heap && gensDone sT.abs && laidKept (FX w.params) sT.abs.heap with|true=>_|false=>_)=_;rw [l1]
 unfold openEnds;rw [e];show (topFrom treeTable p w N _).map _=_;rw [t];exact congrArg some (Oy l2 l3)
end L2
namespace L2
open PySem PySem.W
variable {α β:Type}
noncomputable def fs(x:α×β):α:=Prod.rec (λa _=>a) x
noncomputable def sn(x:α×β):β:=Prod.rec (λ_ b=>b) x
noncomputable def fg(x:α×β):α:=Prod.rec (λa _=>a) x
noncomputable def sg(x:α×β):β:=Prod.rec (λ_ b=>b) x
variable {q:t_}{loose:List Str}{env:Env}
theorem DG{p:t_}{Xt:c_->Bool}{Yf:c_->α}{Ya:World->α}{N:Nat}{g0:Bool}{m₀:Nat}{ann:Option Value}{l rest:List Stmt}{c:Code}{qp pa pb p1:Pos}{n0 nb n1 n2:Nat}{SA S1:World->Np->SharedT}(e:opening p=plainProg p.main.scope.names)(hN:Pa 600 N=true)(f:∀s,fenceModules? p s=some s)(size:∀w:World,((FX w.params).isNs mainGlobals && (M1 []:Array GenState).size == 0,(FX w.params).objs.size,(FX w.params).nsMap mainGlobals "__annotations__")=(true,m₀,ann))(pre:∀(w:World) (os:Np),topGo treeTable p w m₀ ann n0 ⟨FX w.params,M1 [],boot_drawn,boot_toks,os⟩ (topStub p)=some ((SA w os).abs,⟨denote treeTable (.body (l++rest) env),c,pa,[topFrame qp]⟩))(blk:∀(w:World) (os:Np),segRun treeTable p w m₀ ann 1 nb (SA w os).abs (blockOf (l++rest) env c pa [topFrame qp])=some (.next,(SA w os).abs,c,pb))(one:∀(w:World) (os:Np),segRunT treeTable p w m₀ ann 1 n1 (SA w os) (piecesOf l env c pb [topFrame qp])=some (.next,S1 w os,c,p1))(hn:N=n0+(nb+(n1+n2)))(run1:∀(w:World) (os:Np),(jp treeTable p w m₀ ann n2 (S1 w os) (restOf rest env c p1 [topFrame qp])).map (λsT=>fs (openSeen q loose (importedModules p.main.body) Xt g0 sT.abs))=some (fg (openGood q loose)))(run:∀(w:World) (os:Np),(jp treeTable p w m₀ ann n2 (S1 w os) (restOf rest env c p1 [topFrame qp])).map (λsT=>((staticsOk (importedModules p.main.body) (FX w.params) sT.abs.heap && namesBound p sT.abs.heap && gensDone sT.abs && laidKept (FX w.params) sT.abs.heap),sn (openSeen q loose (importedModules p.main.body) Xt g0 sT.abs),Yf sT.abs))=some (true,sg (openGood q loose),Ya w)):LeftO p q loose Xt Yf Ya N g0:=λw=>by
 obtain⟨⟨h,gs,d,k,os⟩,e,e'⟩:=Ms.mp (boot_open e hN f w);obtain⟨rfl,rfl,rfl,rfl⟩:h=FX w.params/\gs=M1 []/\d=boot_drawn/\k=boot_toks:=by simpa using e'
 obtain⟨z1,z2,z3⟩:_/\_/\_:=by simpa only [Os] using size w
 obtain⟨sT,r,l⟩:=Ms.mp (run w os);obtain⟨s1,r1,l0⟩:=Ms.mp (run1 w os);obtain rfl:=q_ (r.symm.trans r1);obtain⟨l1,l2,l3⟩:_/\_/\_:=by simpa only [Os] using l
 have r:=go_top (pre w os) (piece_block (blk w os) (piece_app (segRun_of (one w os)) (mT r)));rw [<- hn] at r
 have t:topFrom treeTable p w N ⟨FX w.params,M1 [],boot_drawn,boot_toks,os⟩=some sT.abs:=by
  unfold topFrom;dsimp only;rw [z1,z2,z3,r];show (match staticsOk (importedModules p.main.body) (FX w.params) sT.abs.heap && namesBound p sT.abs.heap && gensDone sT.abs && laidKept (FX w.params) sT.abs.heap with|true=>_|false=>_)=_;rw [l1]
 unfold openEnds;rw [e];show (topFrom treeTable p w N _).map _=_;rw [t];exact congrArg some (Oy (Oy l0 l2) l3)
noncomputable def zhE(P:N9)(x:Str)(t:Nat)(v:Value):Pb:=⟨PyData.keyHash P x,.str x t,v⟩
noncomputable def zhT(xs:List Value):Obj:=⟨.type "tuple",none,.seq xs.toArray 0,#[]⟩
noncomputable def zhF(xs:List Value):Obj:=⟨.none,none,.fields xs.toArray,#[]⟩
noncomputable def zhD(es:List Pb)(n:Nat):Obj:=⟨.type "dict",none,.dict es.toArray n,#[]⟩
noncomputable def zhG(c:Str)(xs:List Value):Obj:=⟨.type c.toString,none,.fields xs.toArray,#[]⟩
noncomputable def FJ(xs:List Obj):List (Nat×Obj)->List Obj
 | []=>xs
 | p::r=>FJ (xs.set p.1 p.2) r
noncomputable def zhM(p:t_)(i j:Nat):Stmt:=match p.main.body.getD i (.Pass ⟨0,0,0,0⟩) with
 | .ClassDef _ _ _ body _ _ _ _ _ _ _=>body.getD j (.Pass ⟨0,0,0,0⟩)
 | s=>s
noncomputable def zhN(k:Value)(s:Stmt)(x q:Str)(g:Addr)(m c:Value):Obj:=match s with
 | .FunctionDef _ a b _ _ _ sc _ _ _=>⟨k,none,.func { name:=x,qualname:=q,params:=a,body:=.stmts b,scope:=sc,globals:=g,closure:=[],defaults:=.none,kwdefaults:=.none,pyModule:=m,code:=c },#[]⟩
 | _=>default
noncomputable def zhK(x q:Str)(t l n f e:Nat)(b:Bool)(j k r:Value)(u:Nat):Obj:=⟨.type "code",none,.fields #[.str x t,.str q (t+1),.str "/claim/cut.py" (t+2),.int l 0,.int n 0,.int 0 0,.int 0 0,.int f 0,.ref e,.bool b,.int 181 0,.ref (e+1),.none,j,k,r,.int u 0,.int l 0,.str "/claim/cut.py" (u+1)],#[]⟩
noncomputable def zhQ:Value:=.str "shortglue.errors" 187
noncomputable def zhU(P:N9)(x:Str)(a t l n:Nat)(es:List Pb)(f:List Value):List Obj:=[zhT [.ref 24],zhG "builtin_function_or_method" [.builtin "type.__prepare__",.type "type"],zhD (zhE P "__module__" (t+7) zhQ::zhE P "__qualname__" (t+9) (.str x (t+8))::zhE P "__firstlineno__" (t+11) (.int l (t+10))::es) n,zhT [],zhF f,zhK x x (t+2) l 0 0 (a+3) false .none .none .none (t+5),⟨.type "frame",none,.plain,#[some (.ref (a+5)),some (.ref 3),some (.ref (a+2)),none,some zhQ,none,some (.ref 0)]⟩,zhT []]
noncomputable def zhV(P:N9)(x:Str)(a t l c:Nat)(es:List Pb):List Obj:=[zhD (zhE P "__module__" (t+7) zhQ::zhE P "__firstlineno__" (t+11) (.int l (t+10))::es) 2,⟨.type "type",none,.cls { name:=x,bases:=[.ref 24],mro:=[.ref c,.ref 24,.type "ValueError",.type "Exception",.type "BaseException",.type "object"],ns:=c - 1,qualname:=x,hasDict:=true,slotNames:=[],subclasses:=[],abstract:=false,collection:=none,hasDel:=false },#[some (.ref a),none,some (.str x t),some (.str x (t+8)),some (.builtin "ValueError.__new__"),some (.bool true)]⟩,zhG "super" [.ref c,.ref c,.ref c],zhG "builtin_function_or_method" [.builtin "object.__init_subclass__",.ref c]]
noncomputable def zhX(P:N9)(x:Str)(a t l:Nat):List Obj:=zhU P x a t l 4 [zhE P "__static_attributes__" (t+12) (.ref (a+7))] []++zhV P x a t l (a+9) [zhE P "__static_attributes__" (t+12) (.ref (a+7)),zhE P "__doc__" (t+13) .none]
noncomputable def zhY(P:N9)(p:t_)(x q f:Str)(i a t l:Nat):List Obj:=zhU P x a t l 5 [zhE P "__init__" (t+19) (.ref (a+13)),zhE P "__static_attributes__" (t+21) (.ref (a+14))] [.int (l+2:Nat) 0,.int 4 0,.ref (a+12)]++[zhF [],zhT [.str "self" (t+15),.str f (t+16)],zhT [],zhN .none (zhM p i 0) "__init__" q 0 .none .none,zhK "__init__" q (t+12) (l+2) 2 3 (a+7) true (.ref (a+9)) (.ref (a+10)) (.ref (a+11)) (t+17),zhN (.type "function") (zhM p i 0) "__init__" q 3 zhQ (.ref (a+12)),zhT [.str f (t+20)]]++zhV P x a t l (a+16) [zhE P "__init__" (t+19) (.ref (a+13)),zhE P "__static_attributes__" (t+21) (.ref (a+14)),zhE P "__doc__" (t+22) .none]
end L2
section
open PySem PySem.W PyProof.Rows L2
noncomputable def zzA(P:N9):BT:=wI ((FX P).objs.toList++[zhT [],
  zhF [],
  ⟨(.type "code"),none,(.fields #[(.str "<module>" 182),(.str "<module>" 183),(.str "/claim/cut.py" 184),(.int (1) 0),(.int (0) 0),(.int (0) 0),(.int (0) 0),(.int (0) 0),(.ref 11),(.bool false),(.int (181) 0),(.ref 12),.none,.none,.none,.none,(.int (185) 0),(.int (1) 0),(.str "/claim/cut.py" 186)]),#[]⟩,
  ⟨(.type "frame"),none,.plain,#[(some (.ref 13)),(some (.ref 3)),(some (.ref 3)),none,(some (.str "__main__" 164)),none,(some (.ref 0))]⟩]) 0 .nil
noncomputable def zz1(P:N9):BT:=wI (FJ (FX P).objs.toList [(3,zhD [zhE P "__name__" 165 (.str "shortglue.kinds" 323),zhE P "__doc__" 166 .none,zhE P "__package__" 167 .none,zhE P "__loader__" 168 (.builtin "__main__.__loader__#opaque"),zhE P "__spec__" 169 .none,zhE P "__annotations__" 170 (.ref 6),zhE P "__builtins__" 171 (.ref 4),zhE P "__file__" 173 (.str "/claim/cut.py" 172),zhE P "__cached__" 174 .none,zhE P "GlueError" 206 (.ref 24),zhE P "TooMany" 231 (.ref 44),zhE P "NoPiece" 256 (.ref 63),zhE P "NoOrder" 272 (.ref 75),zhE P "NotHeld" 297 (.ref 94),zhE P "TooGreat" 322 (.ref 113),zhE P "is_row" 331 (.ref 122),zhE P "is_number" 338 (.ref 129),zhE P "are_numbers" 344 (.ref 134),zhE P "are_prices" 350 (.ref 139)] 19)]++[zhT [],
  zhF [(.int (2) 0),(.int (0) 0),(.ref 20),(.int (4) 0),(.int (0) 0),(.ref 33),(.int (8) 0),(.int (0) 0),(.ref 52),(.int (12) 0),(.int (0) 0),(.ref 71),(.int (14) 0),(.int (0) 0),(.ref 83),(.int (18) 0),(.int (0) 0),(.ref 102),(.int (23) 0),(.int (0) 0),(.ref 121),(.int (25) 0),(.int (0) 0),(.ref 128),(.int (27) 0),(.int (0) 0),(.ref 133),(.int (29) 0),(.int (0) 0),(.ref 138)],
  ⟨(.type "code"),none,(.fields #[(.str "<module>" 182),(.str "<module>" 183),(.str "/claim/cut.py" 184),(.int (1) 0),(.int (0) 0),(.int (0) 0),(.int (0) 0),(.int (0) 0),(.ref 11),(.bool false),(.int (181) 0),(.ref 12),.none,.none,.none,.none,(.int (185) 0),(.int (1) 0),(.str "/claim/cut.py" 186)]),#[]⟩,
  ⟨(.type "frame"),none,.plain,#[(some (.ref 13)),(some (.ref 3)),(some (.ref 3)),none,(some (.str "__main__" 164)),none,(some (.ref 0))]⟩,
  zhT [(.type "ValueError")],
  zhG "builtin_function_or_method" [(.builtin "type.__prepare__"),(.type "type")],
  zhD [zhE P "__module__" 196 (.str "shortglue.errors" 187),zhE P "__qualname__" 198 (.str "GlueError" 197),zhE P "__firstlineno__" 200 (.int (2) 199),zhE P "__static_attributes__" 201 (.ref 22)] 4,
  zhT [],
  zhF [],
  ⟨(.type "code"),none,(.fields #[(.str "GlueError" 191),(.str "GlueError" 192),(.str "/claim/cut.py" 193),(.int (2) 0),(.int (0) 0),(.int (0) 0),(.int (0) 0),(.int (0) 0),(.ref 18),(.bool false),(.int (181) 0),(.ref 19),.none,.none,.none,.none,(.int (194) 0),(.int (2) 0),(.str "/claim/cut.py" 195)]),#[]⟩,
  ⟨(.type "frame"),none,.plain,#[(some (.ref 20)),(some (.ref 3)),(some (.ref 17)),none,(some (.str "shortglue.errors" 187)),none,(some (.ref 0))]⟩,
  zhT [],
  zhD [zhE P "__module__" 196 (.str "shortglue.errors" 187),zhE P "__firstlineno__" 200 (.int (2) 199),zhE P "__static_attributes__" 201 (.ref 22),zhE P "__weakref__" 203 (.ref 25),zhE P "__doc__" 204 .none] 3,
  ⟨(.type "type"),none,(.cls { name:="GlueError",bases:=[(.type "ValueError")],mro:=[(.ref 24),(.type "ValueError"),(.type "Exception"),(.type "BaseException"),(.type "object")],ns:=23,qualname:="GlueError",hasDict:=true,slotNames:=[],subclasses:=[(.ref 44),(.ref 63),(.ref 75),(.ref 94),(.ref 113)],abstract:=false,collection:=none,hasDel:=false }),#[(some (.ref 15)),none,(some (.str "GlueError" 189)),(some (.str "GlueError" 197)),(some (.builtin "ValueError.__new__")),(some (.bool true))]⟩,
  ⟨(.type "getset_descriptor"),none,(.fields #[(.str "__weakref__" 202),(.ref 24),(.builtin "ExceptionGroup.__weakref__"),.none]),#[]⟩,
  zhG "super" [(.ref 24),(.ref 24),(.ref 24)],
  zhG "builtin_function_or_method" [(.builtin "object.__init_subclass__"),(.ref 24)]]++zhY P PySem.Challenge.pw_shortglue_k52_whole_turned_pieces "TooMany" "TooMany.__init__" "most" 2 28 207 4++zhY P PySem.Challenge.pw_shortglue_k52_whole_turned_pieces "NoPiece" "NoPiece.__init__" "at" 3 47 232 8++zhX P "NoOrder" 66 257 12++zhY P PySem.Challenge.pw_shortglue_k52_whole_turned_pieces "NotHeld" "NotHeld.__init__" "at" 5 78 273 14++zhY P PySem.Challenge.pw_shortglue_k52_whole_turned_pieces "TooGreat" "TooGreat.__init__" "most" 6 97 298 18++[zhT [],
  zhF [],
  zhT [(.str "thing" 328)],
  zhT [],
  zhN .none (zhM PySem.Challenge.pw_shortglue_k52_whole_turned_pieces 8 0) "is_row" "is_row" 0 .none .none,
  ⟨(.type "code"),none,(.fields #[(.str "is_row" 325),(.str "is_row" 326),(.str "/claim/cut.py" 327),(.int (23) 0),(.int (1) 0),(.int (0) 0),(.int (0) 0),(.int (3) 0),(.ref 116),(.bool true),(.int (181) 0),(.ref 117),.none,(.ref 118),(.ref 119),(.ref 120),(.int (329) 0),(.int (23) 0),(.str "/claim/cut.py" 330)]),#[]⟩,
  zhN (.type "function") (zhM PySem.Challenge.pw_shortglue_k52_whole_turned_pieces 8 0) "is_row" "is_row" 3 (.str "shortglue.kinds" 323) (.ref 121),
  zhT [],
  zhF [],
  zhT [(.str "thing" 335)],
  zhT [],
  zhN .none (zhM PySem.Challenge.pw_shortglue_k52_whole_turned_pieces 9 0) "is_number" "is_number" 0 .none .none,
  ⟨(.type "code"),none,(.fields #[(.str "is_number" 332),(.str "is_number" 333),(.str "/claim/cut.py" 334),(.int (25) 0),(.int (1) 0),(.int (0) 0),(.int (0) 0),(.int (3) 0),(.ref 123),(.bool true),(.int (181) 0),(.ref 124),.none,(.ref 125),(.ref 126),(.ref 127),(.int (336) 0),(.int (25) 0),(.str "/claim/cut.py" 337)]),#[]⟩,
  zhN (.type "function") (zhM PySem.Challenge.pw_shortglue_k52_whole_turned_pieces 9 0) "is_number" "is_number" 3 (.str "shortglue.kinds" 323) (.ref 128),
  zhT [],
  zhF [],
  zhN .none (zhM PySem.Challenge.pw_shortglue_k52_whole_turned_pieces 10 0) "are_numbers" "are_numbers" 0 .none .none,
  ⟨(.type "code"),none,(.fields #[(.str "are_numbers" 339),(.str "are_numbers" 340),(.str "/claim/cut.py" 341),(.int (27) 0),(.int (2) 0),(.int (0) 0),(.int (0) 0),(.int (3) 0),(.ref 130),(.bool true),(.int (181) 0),(.ref 131),.none,.none,.none,(.ref 132),(.int (342) 0),(.int (27) 0),(.str "/claim/cut.py" 343)]),#[]⟩,
  zhN (.type "function") (zhM PySem.Challenge.pw_shortglue_k52_whole_turned_pieces 10 0) "are_numbers" "are_numbers" 3 (.str "shortglue.kinds" 323) (.ref 133),
  zhT [],
  zhF [],
  zhN .none (zhM PySem.Challenge.pw_shortglue_k52_whole_turned_pieces 11 0) "are_prices" "are_prices" 0 .none .none,
  ⟨(.type "code"),none,(.fields #[(.str "are_prices" 345),(.str "are_prices" 346),(.str "/claim/cut.py" 347),(.int (29) 0),(.int (2) 0),(.int (0) 0),(.int (0) 0),(.int (3) 0),(.ref 135),(.bool true),(.int (181) 0),(.ref 136),.none,.none,.none,(.ref 137),(.int (348) 0),(.int (29) 0),(.str "/claim/cut.py" 349)]),#[]⟩,
  zhN (.type "function") (zhM PySem.Challenge.pw_shortglue_k52_whole_turned_pieces 11 0) "are_prices" "are_prices" 3 (.str "shortglue.kinds" 323) (.ref 138)]) 0 .nil
noncomputable def zzV:Env:={ scope:=(PySem.Challenge.pw_shortglue_k52_whole_turned_pieces).main.scope,locals:=mainNs,globals:=mainNs,cells:=[],code:=(.ref 13),frame:=some 14 }
abbrev zzC:Code:=.body ((behindTheImports PySem.Challenge.pw_shortglue_k52_whole_turned_pieces).take 12++(behindTheImports PySem.Challenge.pw_shortglue_k52_whole_turned_pieces).drop 12) zzV
abbrev FK(w:World)(os:Np):SharedT:=⟨zzA w.params,15,(FX w.params).life,M1 [],boot_drawn,187,os⟩
abbrev IU(w:World)(os:Np):SharedT:=⟨zz1 w.params,140,(FX w.params).life,M1 [],boot_drawn,351,os⟩
theorem FL:∀(w:World) (os:Np),topGo treeTable PySem.Challenge.pw_shortglue_k52_whole_turned_pieces w 11 (some (.ref 6)) 12 ⟨FX w.params,M1 [],boot_drawn,boot_toks,os⟩ (topStub PySem.Challenge.pw_shortglue_k52_whole_turned_pieces)=some ((FK w os).abs,⟨denote treeTable zzC,zzC,⟨0,0,0,0⟩,[topFrame ⟨0,0,0,0⟩]⟩):=by intro w os;kernel_rfl
theorem FO:∀(w:World) (os:Np),segRun treeTable PySem.Challenge.pw_shortglue_k52_whole_turned_pieces w 11 (some (.ref 6)) 1 1 (FK w os).abs (blockOf ((behindTheImports PySem.Challenge.pw_shortglue_k52_whole_turned_pieces).take 12++(behindTheImports PySem.Challenge.pw_shortglue_k52_whole_turned_pieces).drop 12) zzV zzC ⟨0,0,0,0⟩ [topFrame ⟨0,0,0,0⟩])=some (.next,(FK w os).abs,zzC,⟨0,0,0,0⟩):=by intro w os;kernel_rfl
theorem FP:∀(w:World) (os:Np),segRunT treeTable PySem.Challenge.pw_shortglue_k52_whole_turned_pieces w 11 (some (.ref 6)) 1 1508 (FK w os) (piecesOf ((behindTheImports PySem.Challenge.pw_shortglue_k52_whole_turned_pieces).take 12) zzV zzC ⟨0,0,0,0⟩ [topFrame ⟨0,0,0,0⟩])=some (.next,IU w os,zzC,⟨29,0,30,76⟩):=by intro w os;kernel_rfl
end
section
open PySem PySem.W PyProof.Rows
noncomputable def xH:t_:=PySem.W.view PySem.Challenge.pw_shortglue_k52_whole_turned_pieces [1,2,3,4,5,6,8,9,10,11,12,14,16,17,18,19,20,21,23,24,26,27,29,30,31,33,34,36,37,39,40,42,43,45,46,47,48,49,50,51,52,53,54,55,57,58,59,60,61,62,63,64,65,66,67,68,69,70,71,72,73,74,75,76,77]
theorem IV:∀(w:World) (os:Np),(L2.jp treeTable PySem.Challenge.pw_shortglue_k52_whole_turned_pieces w 11 (some (.ref 6)) 1900 (IU w os) (restOf ((behindTheImports PySem.Challenge.pw_shortglue_k52_whole_turned_pieces).drop 12) zzV zzC ⟨29,0,30,76⟩ [topFrame ⟨0,0,0,0⟩])).map (λsT=>L2.fs (openSeen xH [PySem.Str.ofString "is_text"] (importedModules PySem.Challenge.pw_shortglue_k52_whole_turned_pieces.main.body) (λs=>xlAt xH [] s && recOk (RowW.records (OpenRow.toRowW (OpenLaw.row PySem.Challenge.rw_shortglue_k52_whole_turned_pieces))) s) true sT.abs))=some (L2.fg (openGood xH [PySem.Str.ofString "is_text"])):=by intro w os;kernel_rfl
local macro_rules | `(tactic| o_head $H)=>`(tactic| (refine holds_open (q:=xH) (loose:=[PySem.Str.ofString "is_text"]) (Xt:=fun s=>xlAt xH [] s && recOk (RowW.records (OpenRow.toRowW (OpenLaw.row PySem.Challenge.rw_shortglue_k52_whole_turned_pieces))) s) (XP:=XL xH []) (Yf:=Hook.obs $H) (Ya:=Hook.val $H) (YP:=Hook.says $H) (N:=3421) ?hl (Hook.of $H) (Hook.keeps $H) (fun s e=>xl_of s (and_eq_true_iff.mp e).1) XL.keeps (by rfl) (by rfl) (by rfl) (fun s e=>recFacts_of (and_eq_true_iff.mp e).2) (by rfl) (by first | assumption | decide +kernel) (by decide +kernel) ⟨rfl,rfl,rfl,rfl,rfl,by decide +kernel⟩ ?hw ?hc;(case hl=>(refine L2.DG (p:=PySem.Challenge.pw_shortglue_k52_whole_turned_pieces) (m₀:=11) (ann:=some (.ref 6)) (SA:=FK) (S1:=IU) (n2:=1900) (by kernel_rfl) (by rfl) (fun s=>by kernel_rfl) (fun w=>by kernel_rfl) FL FO FP (by rfl) IV ?_;intro w os;kernel_rfl))))
set_option maxRecDepth 100000 in
set_option maxHeartbeats 0 in
open_top topHd for PySem.Challenge.rw_shortglue_k52_whole_turned_pieces
end
-- CHANGE: your row's module here,as the last of these rows
namespace L2
open PySem PySem.Spec PyProof.Rows
abbrev Key:=Sum Int Str
noncomputable def FQ:Key->Value->Bool
 | .inl k,v=>Value.isInt k v
 | .inr x,v=>Value.isStrOf x v
noncomputable def K5(w:World):Key->Int
 | .inl k=>hashInt k
 | .inr x=>hashStr w x
theorem bS:∀{k:Key}{v:Value},FQ k v=true->(∃i t,k=Pd i/\v=NL i t)\/(∃x t,k=Pe x/\v=N8 x t)
 | .inl i,v,h=>by
  obtain⟨t,e⟩:=Value.isInt_shape (k:=i) (v:=v) h;exact .inl ⟨i,t,rfl,e⟩
 | .inr x,v,h=>by
  obtain⟨t,e⟩:=Value.isStrOf_shape (x:=x) (v:=v) h;exact .inr ⟨x,t,rfl,e⟩
def FS(a b:Int):decide ((Pd a:Key)=Pd b)=(a == b):=by
 by_cases e:a=b
 .subst e;simp
 .have h:¬ (Pd a:Key)=Pd b:=λq=>e (Sum.inl.inj q);rw [decide_eq_false h];exact (beq_eq_false_iff_ne.mpr e).symm
def FT(a b:Str):decide ((Pe a:Key)=Pe b)=decide (a=b):=by
 by_cases e:a=b
 .subst e;simp
 .have h:¬ (Pe a:Key)=Pe b:=λq=>e (Sum.inr.inj q);rw [decide_eq_false h,decide_eq_false e]
def FU(a:Int)(b:Str):decide ((Pd a:Key)=Pe b)=false:=decide_eq_false (λq=>nomatch q)
def FW(a:Str)(b:Int):decide ((Pe a:Key)=Pd b)=false:=decide_eq_false (λq=>nomatch q)
noncomputable def qE(prog:t_)(w:World):PySem.KeyKind prog w Key where
 is:=FQ
 hash:=K5 w
 inj:=λv a b ha hb=>by
  rcases bS ha with ⟨i,t,rfl,rfl⟩|⟨x,t,rfl,rfl⟩
  .rcases bS hb with ⟨j,u,rfl,e⟩|⟨y,u,rfl,e⟩
   .injection e with e1 _;rw [e1]
   .exact nomatch e
  .rcases bS hb with ⟨j,u,rfl,e⟩|⟨y,u,rfl,e⟩
   .exact nomatch e
   .injection e with e1 _;rw [e1]
 byValue:=λk v h=>by
  rcases bS h with ⟨i,t,rfl,rfl⟩|⟨x,t,rfl,rfl⟩ <;> rfl
 pyHash:=λhv h=>by
  rcases bS hv with ⟨i,t,rfl,rfl⟩|⟨x,t,rfl,rfl⟩
  .exact wpAny_pyHash_int h
  .exact wpAny_pyHash_str h
 eqBool:=λhu hv h=>by
  rcases bS hu with ⟨i,t,rfl,rfl⟩|⟨x,t,rfl,rfl⟩
  .rcases bS hv with ⟨j,u,rfl,rfl⟩|⟨y,u,rfl,rfl⟩
   .rw [FS] at h;exact wpAny_eqBool_int h
   .rw [FU] at h;exact SeqAt.EqAt.int_str i t y u _ _ _ _ h
  .rcases bS hv with ⟨j,u,rfl,rfl⟩|⟨y,u,rfl,rfl⟩
   .rw [FW] at h;exact SeqAt.EqAt.str_int x t j u _ _ _ _ h
   .rw [FT] at h;exact wpAny_eqBool_str h
 «strs»:=λk x t v h=>by
  rcases bS h with ⟨i,u,rfl,e⟩|⟨y,u,rfl,e⟩
  .exact nomatch e
  .injection e with e1 _;subst e1;cases v <;> rfl
inductive V where
 | non|bl (b:Bool)|int (i:Int)|str (x:Str)|byt (b:Array UInt8)|flt (b:UInt64)|ref (a:Addr)|ty (n:String)
 deriving DecidableEq
noncomputable def c9:V->Value->Prop
 | .non,u=>u=L6
 | .bl b,u=>u=Mo b
 | .int i,u=>∃t,u=NL i t
 | .str x,u=>∃t,u=N8 x t
 | .byt b,u=>∃t,u=Value.bytes b t
 | .flt b,u=>∃t,u=OY b t
 | .ref a,u=>u=l_ a
 | .ty n,u=>u=Mz n
abbrev bK:List V->List Value->Prop:=Paired c9
variable {xs:List V}{us:List Value}
def bK.length(r:bK xs us):xs.length=us.length:=Paired.length r
theorem bK.get:∀{xs:List V}{us:List Value}{i:Nat}{x:V},bK xs us->xs[i]?=some x->∃u,us[i]?=some u/\c9 x u
 | _,_,_,_,.nil,e=>by simp at e
 | _,_,0,_,.cons r _,e=>by simp at e;subst e;exact⟨_,rfl,r⟩
 | _,_,i+1,x,.cons _ t,e=>by
  obtain⟨u,h1,h2⟩:=bK.get (i:=i) (x:=x) t (by simpa using e);exact⟨u,by simpa using h1,h2⟩
variable {u:Value}
theorem bK.set{x:V}(r:c9 x u):∀{xs:List V}{us:List Value} (i:Nat),bK xs us->bK (xs.set i x) (us.set i u)
 | _,_,_,.nil=>.nil
 | _,_,0,.cons _ t=>.cons r t
 | _,_,i+1,.cons q t=>.cons q (bK.set r i t)
theorem bK.append:∀{xs ys:List V}{us ws:List Value},bK xs us->bK ys ws->bK (xs++ys) (us++ws)
 | _,_,_,_,.nil,s=>s
 | _,_,_,_,.cons r t,s=>.cons r (bK.append t s)
theorem bK.take:∀{xs:List V}{us:List Value} (n:Nat),bK xs us->bK (xs.take n) (us.take n)
 | _,_,0,_=>.nil
 | _,_,_+1,.nil=>.nil
 | _,_,n+1,.cons r t=>.cons r (bK.take n t)
theorem bK.drop:∀{xs:List V}{us:List Value} (n:Nat),bK xs us->bK (xs.drop n) (us.drop n)
 | _,_,0,r=>r
 | _,_,_+1,.nil=>.nil
 | _,_,n+1,.cons _ t=>bK.drop n t
noncomputable def Bk:Option V->Option Value->Prop
 | some v,some u=>c9 v u
 | none,none=>True
 | _,_=>False
noncomputable def KV{κ:Type}:List (κ×V)->List (κ×Value)->Prop:=Paired λ(p:κ×V) (q:κ×Value)=>p.1=q.1/\c9 p.2 q.2
noncomputable def kV:Key->V
 | .inl i=>.int i
 | .inr x=>.str x
inductive HO where
 | lst (xs:List V)
 | tup (xs:List V)
 | dK (kvs:List (Key×V))|dT (kvs:List (List Key×V))
 | set (S:Int->Bool) (n:Nat)
 | ins (C dx:Addr) (fs:List (Str×V))
 | own (x:Addr)
 | xd (fs:List (Str×V))
 | met (f x:Addr)
 | rng (lo hi:Int)
 | frz (o:Obj) (u:HO)
 | tbl (ps:Array Value)
 | ext (φ:Heap->Prop)
abbrev Hp:=Addr->Option HO
noncomputable def upd(H:Hp)(a:Addr)(o:HO):Hp:=λb=>if b=a then some o else H b
variable {H:Hp}{o:HO}
def aY{a:Addr}:upd H a o a=some o:=by unfold upd;rw [if_pos rfl]
def aI{a b:Addr}(h:b≠a):upd H a o b=H b:=by unfold upd;rw [if_neg h]
def bf{a b:Addr}(h:H a=some o)(h':H b=none):a≠b:=by
 intro e;subst e;rw [h] at h';cases h'
noncomputable def uO(H:Hp)(h:Heap)(a:Addr)(q:Str):List Value->Prop
 | []=>True
 | .int _ _::.int _ _::.ref c::r=>H c=some (.own a)/\(∃(oc:Obj) (vs:Array Value) (t:Tok),h.get? c=some oc/\oc.data=.fields vs/\vs[1]?=some (.str q t))/\uO H h a q r
 | _=>False
variable {H':Hp}{h h':Heap}
theorem uO.stay{a:Addr}{q:Str}(k:∀b u,H b=some (.own a)->h.get? b=some u->h'.get? b=some u)(ho:∀b,H b=some (.own a)->H' b=some (.own a)):∀l:List Value,uO H h a q l->uO H' h' a q l
 | [],_=>trivial
 | .int _ _::.int _ _::.ref c::r,x=>by
  obtain⟨x1,⟨oc,vs,t,e1,e2,e3⟩,x2⟩:=x;exact⟨ho _ x1,⟨oc,vs,t,k _ _ x1 e1,e2,e3⟩,uO.stay k ho r x2⟩
noncomputable def Bn(H:Hp)(h:Heap)(a:Addr)(ps:Array Value):Prop:=∃(q:Str) (t:Tok) (more real:Array Value),ps=#[.str q t]++more/\h.get? a=some { cls:=.none,data:=.fields real }/\uO H h a q real.toList
section
variable (P:t_) (w:World)
noncomputable def cm(H:Hp)(h:Heap)(a:Addr):HO->Prop
 | .lst xs=>xs.length<=sizeLine/\∃(its:List Value) (n:Nat),bK xs its/\h.get? a=some { cls:=.type "list",data:=.seq its.toArray n }
 | .tup xs=>xs.length<=sizeLine/\∃its:List Value,bK xs its/\IsTup h a its.toArray
 | .dK kvs=>kvs.length<=sizeLine/\(a == sysModules)=false/\∃vs,KV kvs vs/\h.DictOf (qE P w) a vs
 | .dT kvs=>kvs.length<=sizeLine/\(a == sysModules)=false/\∃xs:List (List Key×Addr×Value),
   Paired (λ(p:List Key×V) (q:List Key×Addr×Value)=>p.1=q.1/\H q.2.1=some (.tup (p.1.map kV))/\c9 p.2 q.2.2) kvs xs /\
   ∃o es ep,h.get? a=some o/\o.ExactDict/\o.data=.dict es ep/\es.toList=xs.map (entryOfKey (tupleKind (qE P w)))/\(xs.map (·.1)).Nodup
 | .set S n=>h.SetOf (intKind P w) a S n
 | .ins C dx fs=>H dx=some (.own a)/\fs.length<=1000/\dx≠a/\h.get? a=some (Mp C dx) /\
   ∃mA,h.Ns1 dx mA/\(∀f,Bk (fs.lookup f) (mA f))/\Ph mA (fs.map (·.1))
 | .own _=>∃o,h.get? a=some o
 | .xd fs=>∃mA,h.Ns1 a mA/\∀f,Bk (fs.lookup f) (mA f)
 | .rng lo hi=>∃t u v,h.get? a=some { cls:=.type "range",data:=.fields #[.int lo t,.int hi u,.int 1 v] }
 | .frz o u=>h.get? a=some o/\cm H h a u
 | .tbl ps=>Bn H h a ps
 | .met f x=>h.get? a=some (Oh (.ref f) (.ref x))
 | .ext φ=>φ h/\(∃o,h.get? a=some o)/\∀h1 h2:Heap,φ h1->(∀o,h1.get? a=some o->h2.get? a=some o)->φ h2
noncomputable def HOk(H:Hp)(h:Heap):Prop:=∀a o,H a=some o->cm P w H h a o
end
section
variable {P:t_}{w:World}{a:Addr}
def cm.lt(x:cm P w H h a o):a<h.objs.size:=by
 cases o with
 | lst xs=>obtain⟨_,_,_,_,e⟩:=x;exact n_ e
 | tup xs=>obtain⟨_,_,_,p⟩:=x;exact p.lt
 | dK kvs=>obtain⟨_,_,_,_,o,_,_,e,_⟩:=x;exact n_ e
 | dT kvs=>obtain⟨_,_,_,_,o,_,_,e,_⟩:=x;exact n_ e
 | set S n=>obtain⟨o,_,_,_,e,_⟩:=x;exact n_ e
 | ins C dx fs=>obtain⟨_,_,_,e,_⟩:=x;exact n_ e
 | own y=>obtain⟨_,e⟩:=x;exact n_ e
 | xd fs=>obtain⟨_,⟨_,_,_,e,_⟩,_⟩:=x;exact n_ e
 | rng lo hi=>obtain⟨_,_,_,e⟩:=x;exact n_ e
 | frz ob u=>obtain⟨e,_⟩:=x;exact n_ e
 | tbl ps=>obtain⟨_,_,_,_,_,e,_⟩:=x;exact n_ e
 | met f y=>exact n_ (show h.get? a=some _ from x)
 | ext φ=>obtain⟨_,⟨_,e⟩,_⟩:=x;exact n_ e
variable {α β:Type}
theorem Paired.mapP{F G:α->β->Prop}:∀{l₁:List α}{l₂:List β},Paired F l₁ l₂->(∀a b,F a b->G a b)->Paired G l₁ l₂
 | _,_,.nil,_=>.nil
 | _,_,.cons r t,f=>.cons (f _ _ r) (Paired.mapP t f)
def cm.stay(x:cm P w H h a o)(k:∀b u,(b=a\/H b=some (.own a))->h.get? b=some u->h'.get? b=some u)(ho:∀b,H b=some (.own a)->H' b=some (.own a))(ht:∀b xs,H b=some (.tup xs)->H' b=some (.tup xs)):cm P w H' h' a o:=by
 induction o with
 | lst xs=>obtain⟨z,its,n,r,e⟩:=x;exact⟨z,its,n,r,k _ _ (.inl rfl) e⟩
 | tup xs=>obtain⟨z,its,r,ob,e,c⟩:=x;exact⟨z,its,r,ob,k _ _ (.inl rfl) e,c⟩
 | dK kvs=>obtain⟨z,y,vs,r,ob,es,ep,e,c⟩:=x;exact⟨z,y,vs,r,ob,es,ep,k _ _ (.inl rfl) e,c⟩
 | dT kvs =>
  obtain⟨z,y,xs,r,ob,es,ep,e,c⟩:=x;exact⟨z,y,xs,Paired.mapP r λp q z=>⟨z.1,ht _ _ z.2.1,z.2.2⟩,ob,es,ep,k _ _ (.inl rfl) e,c⟩
 | set S n=>obtain⟨ob,es,ep,t,e,c⟩:=x;exact⟨ob,es,ep,t,k _ _ (.inl rfl) e,c⟩
 | ins C dx fs =>
  obtain⟨d,z,ne,e,mA,⟨od,es,ep,e2,c⟩,r⟩:=x;exact⟨ho _ d,z,ne,k _ _ (.inl rfl) e,mA,⟨od,es,ep,k _ _ (.inr d) e2,c⟩,r⟩
 | own y=>obtain⟨ob,e⟩:=x;exact⟨ob,k _ _ (.inl rfl) e⟩
 | xd fs=>obtain⟨mA,⟨od,es,ep,e,c⟩,r⟩:=x;exact⟨mA,⟨od,es,ep,k _ _ (.inl rfl) e,c⟩,r⟩
 | rng lo hi=>obtain⟨t,u,v,e⟩:=x;exact⟨t,u,v,k _ _ (.inl rfl) e⟩
 | frz ob u ih=>obtain⟨e,q⟩:=x;exact⟨k _ _ (.inl rfl) e,ih q⟩
 | tbl ps =>
  obtain⟨q,t,more,real,e1,e,r⟩:=x;exact⟨q,t,more,real,e1,k a _ (.inl rfl) e,uO.stay (λb u z=>k b u (.inr z)) ho _ r⟩
 | met f y =>
  have e:h.get? a=some (Oh (.ref f) (.ref y)):=x;show h'.get? a=some (Oh (.ref f) (.ref y));exact k a _ (.inl rfl) e
 | ext φ=>obtain⟨p,⟨o,e⟩,st⟩:=x;exact⟨st _ _ p λo q=>k _ _ (.inl rfl) q,⟨o,k _ _ (.inl rfl) e⟩,st⟩
def HOk.lt(x:HOk P w H h)(e:H a=some o):a<h.objs.size:=(x a o e).lt
def HOk.fresh(x:HOk P w H h)(e:h.objs.size<=a):H a=none:=by
 cases q:H a with
 | none=>rfl
 | some u=>exact absurd (w_ (x.lt q) e) (K_ _)
def HOk.kept(x:HOk P w H h)(k:∀b u,h.get? b=some u->h'.get? b=some u):HOk P w H h':=λa o e =>
 (x a o e).stay (λb u _ q=>k b u q) (λ_ q=>q) λ_ _ q=>q
def HOk.laid(x:HOk P w H h)(k:∀b u,h.get? b=some u->h'.get? b=some u)(hp:h.objs.size<=a)(new:cm P w (upd H a o) h' a o):HOk P w (upd H a o) h':=λb u e=>by
 have hn:=x.fresh hp
 by_cases hb:b=a
 .subst hb;rw [aY] at e;cases e;exact new
 .rw [aI hb] at e;exact (x b u e).stay (λc v _ q=>k c v q) (λc q=>by rw [aI (bf q hn)];exact q) λc xs q=>by rw [aI (bf q hn)];exact q
end
noncomputable def Rd(H:Hp)(a:Addr)(u:HO):Prop:=H a=some u\/∃o,H a=some (.frz o u)
variable {w:World}
def Rd.ok{P:t_}{a:Addr}{u:HO}(r:Rd H a u)(x:HOk P w H h):cm P w H h a u:=by
 rcases r with r|⟨o,r⟩
 .exact x a u r
 .obtain⟨_,q⟩:=x a _ r;exact q
noncomputable def Mut:Option HO->Prop
 | some (.lst _)=>True
 | some (.dK _)=>True
 | some (.dT _)=>True
 | some (.set _ _)=>True
 | some (.ins _ _ _)=>True
 | some (.ext _)=>True
 | _=>False
section
variable {P:t_}{x e:Addr}{o':HO}
def HOk.write(ok:HOk P w H h)(mu:Mut (H x))(he:e=x\/H e=some (.own x))(k:∀b u,b≠e->h.get? b=some u->h'.get? b=some u)(heo:∃u,h'.get? e=some u)(new:cm P w (upd H x o') h' x o'):HOk P w (upd H x o') h':=λb u q=>by
 have nown:∀c y,H c=some (.own y)->c≠x:=λc y r z=>by subst z;rw [r] at mu;exact mu
 have ntup:∀c xs,H c=some (.tup xs)->c≠x:=λc xs r z=>by subst z;rw [r] at mu;exact mu
 by_cases hb:b=x
 .subst hb;rw [aY] at q;cases q;exact new
 .rw [aI hb] at q
  by_cases hbe:b=e
  .have q':H b=some (.own x):=by
    rcases he with z|z
    .exact absurd (hbe.trans z) hb
    .rw [hbe];exact z
   rw [q] at q';cases q';obtain⟨v,hv⟩:=heo;exact⟨v,by rw [hbe];exact hv⟩
  .refine (ok b u q).stay (λc v hc r=>k c v ?_ r) (λc r=>by rw [aI (nown c b r)];exact r) λc xs r=>by rw [aI (ntup c xs r)];exact r
   rcases hc with rfl|hc
   .exact hbe
   .rintro rfl
    rcases he with z|z
    .exact nown c b hc z
    .rw [hc] at z;cases z;exact hb rfl
end
structure Un (fs ex:List Addr) (H H':Hp) (h h':Heap):Prop where
 keep:∀b o,h.get? b=some o->H b=none->b∉fs->b∉ex->h'.get? b=some o
 slot:∀b o,h.get? b=some o->H b=none->b∈fs->b∉ex->∃sl,h'.get? b=some { o with slots:=sl }
 free:∀b o,h.get? b=some o->H b=none->b∉ex->H' b=none
 there:∀b o,h.get? b=some o->b∉ex->∃o',h'.get? b=some o'
 tups:∀b xs,H b=some (.tup xs)->H' b=some (.tup xs)
 frzs:∀b o u,H b=some (.frz o u)->H' b=some (.frz o u)
 tbls:∀b ps,H b=some (.tbl ps)->∃more,H' b=some (.tbl (ps++more))
section
variable {fs ex:List Addr}{H1:Hp}{h1:Heap}
def Un.any(u:Un fs ex H H1 h h1){b:Addr}{ob:Obj}(q:h.get? b=some ob)(n:H b=none)(hx:b∉ex):∃sl,h1.get? b=some { ob with slots:=sl }:=by
 by_cases hb:b∈fs
 .exact u.slot b ob q n hb hx
 .exact⟨ob.slots,u.keep b ob q n hb hx⟩
def Un.kept(k:∀b u,h.get? b=some u->h'.get? b=some u):Un fs ex H H h h' :=
 ⟨λb ob q _ _ _=>k b ob q,λb ob q _ _ _=>⟨ob.slots,k b ob q⟩,λ_ _ _ n _=>n,λb ob q _=>⟨ob,k b ob q⟩,λ_ _ q=>q,λ_ _ _ q=>q,λ_ ps q=>⟨#[],by rw [q];simp⟩⟩
def Un.refl:Un fs ex H H h h:=Un.kept λ_ _ q=>q
variable {a:Addr}
def Un.laid(k:∀b u,h.get? b=some u->h'.get? b=some u)(hp:h.objs.size<=a)(hn:H a=none):Un fs ex H (upd H a o) h h' where
 keep:=λb u q _ _ _=>k b u q
 slot:=λb u q _ _ _=>⟨u.slots,k b u q⟩
 free:=λb u q n _=>by rw [aI (H_ (w_ (n_ q) hp))];exact n
 there:=λb u q _=>⟨u,k b u q⟩
 tups:=λb xs q=>by rw [aI (bf q hn)];exact q
 frzs:=λb u xs q=>by rw [aI (bf q hn)];exact q
 tbls:=λb ps q=>⟨#[],by rw [aI (bf q hn),q];simp⟩
variable {x e:Addr}
def Un.write(mu:Mut (H x))(he:e=x\/H e=some (.own x))(k:∀b u,b≠e->h.get? b=some u->h'.get? b=some u)(heo:∃u,h'.get? e=some u):Un fs ex H (upd H x o) h h':=by
 have hx:∀b,H b=none->b≠x:=λb n z=>by subst z;rw [n] at mu;exact mu
 have hb:∀b,H b=none->b≠e:=λb n z=>by
  subst z
  rcases he with r|r
  .exact hx b n r
  .rw [n] at r;cases r
 have hm:∀b u,H b=some u->¬ Mut (some u)->b≠x:=λb u q nm z=>by subst z;rw [q] at mu;exact nm mu
 refine⟨λb u q n _ _=>k b u (hb b n) q,λb u q n _ _=>⟨u.slots,k b u (hb b n) q⟩,λb u q n _=>by rw [aI (hx b n)];exact n,λb u q _=>?_,
  λb xs q=>by rw [aI (hm b _ q λz=>z)];exact q,λb u xs q=>by rw [aI (hm b _ q λz=>z)];exact q,λb ps q=>⟨#[],by rw [aI (hm b _ q λz=>z),q];simp⟩⟩
 by_cases hbe:b=e
 .subst hbe;exact heo
 .exact⟨u,k b u hbe q⟩
end
noncomputable def trk(h:Heap)(H:Hp):List Addr:=(e_ h.objs.size).filter λa=>(H a).isSome
noncomputable def FY(h:Heap)(H:Hp):Heap:=PySem.W.hideAll h (trk h H)
def yQ(h:Heap)(H:Hp):(FY h H).objs.size=h.objs.size:=PySem.W.hideAll_size _ _
def Bo{b:Addr}{o:Obj}(e:h.get? b=some o)(n:H b=none):(FY h H).get? b=some o :=
 PySem.W.hideAll_get _ e λhm=>by
  have q:(H b).isSome=true:=(mem_filter.mp hm).2;rw [n] at q;simp at q
def DH{b:Addr}{o:Obj}(e:(FY h H).get? b=some o):h.get? b=some o/\H b=none:=by
 have e':h.get? b=some o:=PySem.W.of_hideAll (trk h H) e;refine⟨e',?_⟩
 cases q:H b with
 | none=>rfl
 | some x =>
  have hm:b∈trk h H:=mem_filter.mpr ⟨mem_range.mpr (n_ e'),by simp [q]⟩;have z:(FY h H).get? b=none:=PySem.W.hideAll_none (trk h H) hm;rw [z] at e;cases e
noncomputable def sm(base:Heap)(H:Hp):Prop:=∀(P:Addr) (r:List Nat),base.life.registered=P::r->∃(t:Tok) (more:Array Value),H P=some (.tbl (#[.str ⟨r.toArray⟩ t]++more))
variable {base:Heap}
def sm.un{fs ex:List Addr}(x:sm base H)(u:Un fs ex H H' h h'):sm base H':=λP r e=>by
 obtain⟨t,more,q⟩:=x P r e;obtain⟨m2,q2⟩:=u.tbls P _ q;exact⟨t,more++m2,by rw [q2,Array.append_assoc]⟩
noncomputable def FZ(h:Heap)(H:Hp):Heap:={ FY h H with life:={} }
structure Mod (K:b_) (mg:Str->Option Value) (base:Heap):Prop where
 kin:K.In base
 glob:base.Ns mainGlobals mg
 blt:∃mb,base.Ns builtinsNs mb/\∀x:Str,x≠"__name__"->mb x=bootBuiltins x
 nolimit:base.NoLimit
structure Cx where
 prog:t_
 w:World
 K:b_
 mg:Str->Option Value
 base:Heap
 A:C0
 N:List Str
 s₀:c_
 H₀:Hp
 env:Env
 outer:List Env
 stack:List Env
 ex:List Addr
 fn:Str->Bool
 calm:Bool
 pn:List (Addr×Obj)
 xe:Value->c_->Prop
noncomputable def frs(l:List Env):List Addr:=l.filterMap (·.frame)
abbrev Cx.fs(X:Cx):List Addr:=frs X.outer
noncomputable def Vis(sc:Scope)(x:Str):Prop:=sc.names.lookup x=some .local\/sc.names.lookup x=some .cell\/sc.names.lookup x=some .free
noncomputable def Loc(sc:Scope)(x:Str):Prop:=sc.names.lookup x=some .local\/sc.names.lookup x=some .cell
noncomputable def K6(env:Env)(h:Heap)(m:Str->Option Value)(x:Str)(u:Value):Prop :=
 (env.kindOf x=some .local/\m x=some u)\/((env.kindOf x=some .cell\/env.kindOf x=some .free)/\∃c,env.cells.lookup x=some c/\h.IsCell c (some u))
structure Cx.Ok (X:Cx):Prop where
 mod:Mod X.K X.mg X.base
 kind:X.env.scope.kind=.function
 glob:X.env.globals=mainGlobals
 blt:X.env.builtins=builtinsNs
 above:X.s₀.heap.objs.size<=X.env.locals
 inj:∀x y c,X.env.cells.lookup x=some c->X.env.cells.lookup y=some c->x=y
 has:∀x,(X.env.kindOf x=some .cell\/X.env.kindOf x=some .free)->∃c,X.env.cells.lookup x=some c
 cab:∀x c,X.fn x=true->X.env.cells.lookup x=some c->X.s₀.heap.objs.size<=c
 hd:X.calm=true->X.A.handled=none
 frames:X.A.frames=some X.stack
 stk:X.stack=X.outer\/(X.stack=X.env::X.outer/\X.env.frame=some X.env.locals)
 exf:∀b∈X.ex,b≠X.env.locals/\∀x c,X.env.cells.lookup x=some c->c≠b
 bs:∀b o,X.base.get? b=some o->X.s₀.heap.get? b=some o/\X.H₀ b=none
 bsz:X.base.objs.size<=X.s₀.heap.objs.size
 noex:∀b o,X.base.get? b=some o->b∉X.ex
 exfs:∀b∈X.ex,b∉X.fs
 funs:X.s₀.heap.FunFrames X.base X.outer
 frf:∀b∈X.fs,X.H₀ b=none
 tb:sm X.base X.H₀
structure Inv (X:Cx) (pins:List (Addr×Obj)) (σ:List (Option V)) (H:Hp) (s:c_):Prop where
 ok:X.Ok
 os:s.os=X.s₀.os
 bare:Oi s.gens
 base:Un X.fs X.ex X.H₀ H X.s₀.heap s.heap
 loc:∃m,s.heap.Ns X.env.locals m/\∀(i:Nat) (x:Str) (v:V),X.N[i]?=some x->σ[i]?=some (some v)->Vis X.env.scope x->∃u,c9 v u/\K6 X.env s.heap m x u
 cell:∀x c,X.env.cells.lookup x=some c->∃v,s.heap.IsCell c v
 free:H X.env.locals=none
 freeC:∀x c,X.env.cells.lookup x=some c->H c=none
 pin:∀p∈X.pn++pins,s.heap.get? p.1=some p.2/\H p.1=none/\p.1≠X.env.locals/\p.1∉X.fs/\∀v,p.2.data≠.cell v
 hok:HOk X.prog X.w H s.heap
 len:σ.length=X.N.length
variable {X:Cx}
def Cx.Ok.nofr(ok:X.Ok){b:Addr}{o:Obj}(e:X.base.get? b=some o):b∉X.fs:=λhb=>by
 have:=(ok.funs.mem hb).1;rw [e] at this;cases this
variable {pins:List (Addr×Obj)}{σ:List (Option V)}{s:c_}
def Inv.bs(I:Inv X pins σ H s):∀b o,X.base.get? b=some o->s.heap.get? b=some o/\H b=none:=λb o e =>
 ⟨I.base.keep b o (I.ok.bs b o e).1 (I.ok.bs b o e).2 (I.ok.nofr e) (I.ok.noex b o e),I.base.free b o (I.ok.bs b o e).1 (I.ok.bs b o e).2 (I.ok.noex b o e)⟩
def Inv.bk(I:Inv X pins σ H s):∀b o,X.base.get? b=some o->s.heap.get? b=some o:=λb o e=>(I.bs b o e).1
def Inv.mod(I:Inv X pins σ H s):Mod X.K X.mg X.base:=I.ok.mod
def Inv.kIn(I:Inv X pins σ H s):X.K.In s.heap:=I.ok.mod.kin.keeps I.bk
def Inv.lt(I:Inv X pins σ H s):X.env.locals<s.heap.objs.size:=let ⟨_,hn,_⟩:=I.loc;hn.lt
def Inv.sz(I:Inv X pins σ H s):X.s₀.heap.objs.size<=s.heap.objs.size:=s_ I.ok.above (le_of_lt I.lt)
def Inv.nofs(I:Inv X pins σ H s){a:Addr}(h:s.heap.objs.size<=a):a∉X.fs:=λhb=>by
 obtain⟨_,o,ho,_⟩:=I.ok.funs.mem hb;exact absurd (w_ (n_ ho) (s_ I.sz h)) (K_ _)
def Inv.cne(I:Inv X pins σ H s):∀x c,X.env.cells.lookup x=some c->c≠X.env.locals:=λx c e z=>by
 obtain⟨v,o,ho,hd⟩:=I.cell x c e;obtain⟨m,⟨o',es,ep,ho',hd',_⟩,_⟩:=I.loc;rw [z,ho'] at ho;cases ho;rw [hd'] at hd;cases hd
def Inv.funs(I:Inv X pins σ H s):s.heap.FunFrames X.base X.outer:=by
 have all:∀(l:List Env),(∀b∈frs l,b∈X.fs)->X.s₀.heap.FunFrames X.base l->s.heap.FunFrames X.base l:=by
  intro l
  induction l with
  | nil=>intro _ _;trivial
  | cons env r ih =>
   intro hs hl;obtain⟨hk,⟨L,o,hf,hn,ho,hd⟩,hr⟩:=hl;have hL:L∈X.fs:=hs L (by unfold frs;rw [M8,hf];exact mem_cons_self);obtain⟨sl,e⟩:=I.base.slot L o ho (I.ok.frf L hL) hL λz=>I.ok.exfs L z hL;exact⟨hk,⟨L,_,hf,hn,e,hd⟩,ih (λb hb=>hs b (by unfold frs;rw [M8,hf];exact m_ _ hb)) hr⟩
 exact all X.outer (λ_ hb=>hb) I.ok.funs
def Inv.stack(I:Inv X pins σ H s):s.heap.FunFrames X.base X.stack:=by
 rcases I.ok.stk with e|⟨e,hf⟩
 .rw [e];exact I.funs
 .rw [e];obtain⟨m,hn,_⟩:=I.loc;refine .cons (by rw [I.ok.kind];decide) hf hn ?_ I.funs;exact Heap.get?_none_of_le (s_ I.ok.bsz I.ok.above)
def Inv.stkSub(I:Inv X pins σ H s):∀b∈frs X.stack,b∈X.env.locals::X.fs:=λb hb=>by
 rcases I.ok.stk with e|⟨e,hf⟩
 .rw [e] at hb;exact m_ _ hb
 .rw [e] at hb;unfold frs at hb;rw [M8,hf] at hb;exact hb
def Inv.stkFree(I:Inv X pins σ H s):∀b∈frs X.stack,H b=none:=λb hb=>by
 rcases A_.mp (I.stkSub b hb) with e|hb
 .rw [e];exact I.free
 .obtain⟨_,o,ho,_⟩:=I.ok.funs.mem hb;exact I.base.free b o ho (I.ok.frf b hb) λz=>I.ok.exfs b z hb
variable {t':Nat}
def Inv.step{g':Array GenState}{d':Drawn}{ch:List Addr}(I:Inv X pins σ H s)(hch:∀b∈ch,(b∈X.ex\/X.s₀.heap.objs.size<=b)/\b≠X.env.locals/\(∀x c,X.env.cells.lookup x=some c->c≠b)/\∀p∈X.pn++pins,p.1≠b)(keep:∀b o,b≠X.env.locals->b∉X.fs->b∉ch->s.heap.get? b=some o->H b=none->h'.get? b=some o)(slot:∀b o,b≠X.env.locals->b∈X.fs->b∉ch->s.heap.get? b=some o->H b=none->∃sl,h'.get? b=some { o with slots:=sl })(free:∀b o,b∉ch->s.heap.get? b=some o->H b=none->H' b=none)(there:∀b o,b∉ch->s.heap.get? b=some o->∃o',h'.get? b=some o')(tups:∀b xs,H b=some (.tup xs)->H' b=some (.tup xs))(frzs:∀b o u,H b=some (.frz o u)->H' b=some (.frz o u))(tbls:∀b ps,H b=some (.tbl ps)->∃more,H' b=some (.tbl (ps++more)))(ns:∀m,s.heap.Ns X.env.locals m->h'.Ns X.env.locals m)(hok:HOk X.prog X.w H' h')(hg:Oi g'):
  Inv X pins σ H' { s with heap:=h',gens:=g',drawn:=d',toks:=t' }:=by
 have neL:∀b o,X.s₀.heap.get? b=some o->b≠X.env.locals:=λb o e=>H_ (w_ (n_ e) I.ok.above)
 have neC:∀b o,X.s₀.heap.get? b=some o->b∉X.ex->b∉ch:=λb o e hx hb=>by
  rcases (hch b hb).1 with z|z
  .exact hx z
  .exact absurd (w_ (n_ e) z) (K_ _)
 have cellK:∀x c,X.env.cells.lookup x=some c->∀v,s.heap.IsCell c v->h'.IsCell c v:=λx c e v ⟨o,ho,hd⟩=>by
  have nch:c∉ch:=λz=>(hch c z).2.2.1 x c e rfl
  by_cases hc:c∈X.fs
  .obtain⟨sl,q⟩:=slot c o (I.cne x c e) hc nch ho (I.freeC x c e);exact⟨_,q,hd⟩
  .exact⟨o,keep c o (I.cne x c e) hc nch ho (I.freeC x c e),hd⟩
 refine⟨I.ok,I.os,hg,⟨λb o e n hb hx=>?_,λb o e n hb hx=>?_,λb o e n hx=>?_,λb o e hx=>?_,λb xs e=>tups b xs (I.base.tups b xs e),λb o xs e=>frzs b o xs (I.base.frzs b o xs e),λb ps e=>?_⟩,?_,λx c e=>?_,?_,λx c e=>?_,λp hp=>?_,hok,I.len⟩
 .exact keep b o (neL b o e) hb (neC b o e hx) (I.base.keep b o e n hb hx) (I.base.free b o e n hx)
 .obtain⟨sl,e1⟩:=I.base.slot b o e n hb hx;obtain⟨sl',e2⟩:=slot b _ (neL b o e) hb (neC b o e hx) e1 (I.base.free b o e n hx);exact⟨sl',e2⟩
 .obtain⟨o',e1⟩:=I.base.there b o e hx;exact free b o' (neC b o e hx) e1 (I.base.free b o e n hx)
 .obtain⟨o',e1⟩:=I.base.there b o e hx;exact there b o' (neC b o e hx) e1
 .obtain⟨m1,e1⟩:=I.base.tbls b ps e;obtain⟨m2,e2⟩:=tbls b _ e1;exact⟨m1++m2,by rw [e2,Array.append_assoc]⟩
 .obtain⟨m,hn,hl⟩:=I.loc;refine⟨m,ns m hn,λi x v e1 e2 e3=>?_⟩;obtain⟨u,r,l⟩:=hl i x v e1 e2 e3;refine⟨u,r,?_⟩
  rcases l with l|⟨k,c,e,z⟩
  .exact .inl l
  .exact .inr ⟨k,c,e,cellK x c e _ z⟩
 .obtain⟨v,z⟩:=I.cell x c e;exact⟨v,cellK x c e v z⟩
 .obtain⟨m,⟨o,_,_,ho,_⟩,_⟩:=I.loc;exact free _ o (λz=>(hch _ z).2.1 rfl) ho I.free
 .obtain⟨v,o,ho,hd⟩:=I.cell x c e;exact free c o (λz=>(hch c z).2.2.1 x c e rfl) ho (I.freeC x c e)
 .obtain⟨e,n,ne,nf,d⟩:=I.pin p hp;have nch:p.1∉ch:=λz=>(hch p.1 z).2.2.2 p hp rfl;exact⟨keep p.1 p.2 ne nf nch e n,free p.1 p.2 nch e n,ne,nf,d⟩
def Inv.un(I:Inv X pins σ H s)(u:Un X.fs [] H H' s.heap h')(hok:HOk X.prog X.w H' h'):Inv X pins σ H' { s with heap:=h',toks:=t' }:=by
 obtain⟨m,⟨o,es,ep,ho,r⟩,_⟩:=id I.loc;obtain⟨sl,hL⟩:=u.any ho I.free (by simp)
 exact I.step (g':=s.gens) (d':=s.drawn) (ch:=[]) (λ_ z=>nomatch z) (λb o _ hb _ e n=>u.keep b o e n hb (by simp)) (λb o _ hb _ e n=>u.slot b o e n hb (by simp)) (λb o _ e n=>u.free b o e n (by simp)) (λb o _ e=>u.there b o e (by simp)) u.tups u.frzs u.tbls (λm' hm=>by
  obtain⟨o',es',ep',ho',r'⟩:=hm;rw [ho] at ho';cases ho';exact⟨_,es',ep',hL,r'⟩) hok I.bare
def Inv.call{g':Array GenState}{d':Drawn}{ch:List Addr}(I:Inv X pins σ H s)(u:Un (frs X.stack) ch H H' s.heap h')(hok:HOk X.prog X.w H' h')(hg:Oi g')(hch:∀b∈ch,(b∈X.ex\/X.s₀.heap.objs.size<=b)/\b≠X.env.locals/\(∀x c,X.env.cells.lookup x=some c->c≠b)/\∀p∈X.pn++pins,p.1≠b):
  Inv X pins σ H' { s with heap:=h',gens:=g',drawn:=d',toks:=t' }:=by
 obtain⟨m,⟨o,es,ep,ho,r⟩,_⟩:=id I.loc;obtain⟨sl,hL⟩:=u.any ho I.free λz=>(hch _ z).2.1 rfl
 exact I.step (ch:=ch) hch (λb o hL hb hc e n=>u.keep b o e n (λz=>(A_.mp (I.stkSub b z)).elim hL hb) hc) (λb o _ _ hc e n=>u.any e n hc) (λb o hc e n=>u.free b o e n hc) (λb o hc e=>u.there b o e hc) u.tups u.frzs u.tbls (λm' hm=>by
  obtain⟨o',es',ep',ho',r'⟩:=hm;rw [ho] at ho';cases ho';exact⟨_,es',ep',hL,r'⟩) hok hg
def Inv.turned{it:Addr}(I:Inv X pins σ H s)(k:∀b o,b≠it->s.heap.get? b=some o->h'.get? b=some o)(hn:H it=none)(hL:it≠X.env.locals)(h1:it∈X.ex\/X.s₀.heap.objs.size<=it)(h2:∀x c,X.env.cells.lookup x=some c->c≠it)(h3:∀p∈X.pn++pins,p.1≠it):Inv X pins σ H { s with heap:=h',toks:=t' }:=by
 have nit:∀b u,H b=some u->b≠it:=λb u e z=>by rw [z,hn] at e;cases e
 refine I.step (g':=s.gens) (d':=s.drawn) (ch:=[it]) (λb hb=>?_) (λb o _ _ hc e _=>k b o (λz=>hc (by simp [z])) e) (λb o _ _ hc e _=>⟨o.slots,k b o (λz=>hc (by simp [z])) e⟩) (λ_ _ _ _ n=>n)
  (λb o hc e=>⟨o,k b o (λz=>hc (by simp [z])) e⟩) (λ_ _ e=>e) (λ_ _ _ e=>e) (λb ps e=>⟨#[],by rw [e];simp⟩) (λm hm=>?_) (λb u e=>?_) I.bare
 .have e:b=it:=by simpa using hb
  subst e;exact⟨h1,hL,h2,h3⟩
 .obtain⟨o,es,ep,ho,r⟩:=hm;exact⟨o,es,ep,k _ o (MW hL) ho,r⟩
 .refine (I.hok b u e).stay (λc v hc q=>k c v ?_ q) (λ_ q=>q) λ_ _ q=>q
  rcases hc with z|z
  .rw [z];exact nit b u e
  .exact nit c _ z
def Inv.tok(I:Inv X pins σ H s)(t:Nat):Inv X pins σ H { s with toks:=t }:=I.un (h':=s.heap) (t':=t) Un.refl I.hok
def Inv.kept(I:Inv X pins σ H s)(k:∀b u,s.heap.get? b=some u->h'.get? b=some u):Inv X pins σ H { s with heap:=h',toks:=t' }:=I.un (Un.kept k) (I.hok.kept k)
def Inv.laid{a:Addr}(I:Inv X pins σ H s)(k:∀b u,s.heap.get? b=some u->h'.get? b=some u)(hp:s.heap.objs.size<=a)(new:cm X.prog X.w (upd H a o) h' a o):
  Inv X pins σ (upd H a o) { s with heap:=h',toks:=t' }:=I.un (Un.laid k hp (I.hok.fresh hp)) (I.hok.laid k hp new)
def Inv.write{x e:Addr}(I:Inv X pins σ H s)(mu:Mut (H x))(he:e=x\/H e=some (.own x))(k:∀b u,b≠e->s.heap.get? b=some u->h'.get? b=some u)(heo:∃u,h'.get? e=some u)(new:cm X.prog X.w (upd H x o) h' x o):Inv X pins σ (upd H x o) { s with heap:=h',toks:=t' }:=I.un (Un.write mu he k heo) (I.hok.write mu he k heo new)
def Inv.pins_of{pins':List (Addr×Obj)}(I:Inv X pins σ H s)(h:∀p∈pins',s.heap.get? p.1=some p.2/\H p.1=none/\p.1≠X.env.locals/\p.1∉X.fs/\∀v,p.2.data≠.cell v):Inv X pins' σ H s :=
 ⟨I.ok,I.os,I.bare,I.base,I.loc,I.cell,I.free,I.freeC,λp hp=>(MA.mp hp).elim (λz=>I.pin p (M2 _ z)) (h p),I.hok,I.len⟩
variable {N:List Str}{i j:Nat}{x:Str}
def wJ(hN:N.Nodup)(a:N[i]?=some x)(b:N[j]?=some x):i=j:=by
 obtain⟨h1,e1⟩:=i_.mp a;obtain⟨h2,e2⟩:=i_.mp b;exact (getElem_inj hN).mp (e1.trans e2.symm)
variable {M:Model}{A:C0}{E:Value->c_->Prop}{v:V}
theorem yR{Q:Unit->c_->Prop}(I:Inv X pins σ H s)(hN:X.N.Nodup)(hi:X.N[i]?=some x)(hx:Loc X.env.scope x)(r:c9 v u)(h:∀s',Inv X pins (σ.set i (some v)) H s'->(∃a,NA a s.heap s'.heap/\(a=X.env.locals\/X.env.cells.lookup x=some a))->Q () s')(hf:X.fn x=true\/X.env.scope.names.lookup x=some .local:=by first|exact .inl rfl|exact .inr rfl|assumption):wpAny M A (storeName X.env x u) Q E s:=by
 obtain⟨m,hn,hl⟩:=id I.loc;have hcls:(X.env.scope.kind == .class || (X.env.scope.kind == .module && X.env.locals != X.env.globals))=false:=by rw [I.ok.kind];rfl
 have hiσ:i<σ.length:=by rw [I.len];exact (i_.mp hi).1
 have cne:=I.cne
 have tracked:∀{a:Addr}{h':Heap},(∃o,s.heap.get? a=some o/\H a=none)->NA a s.heap h'->HOk X.prog X.w H h':=λ{a h'} ha hs b ob e=>by
  obtain⟨_,_,hfree⟩:=ha;refine (I.hok b ob e).stay (λc w' hc q=>(hs.2 c ?_).trans q) (λ_ q=>q) λ_ _ q=>q;rintro rfl
  rcases hc with rfl|hc
  .rw [hfree] at e;cases e
  .rw [hfree] at hc;cases hc
 rcases hx with hk|hk
 .refine wpAny_storeName_local hk hn (λh' hn' hs=>?_) hcls;obtain⟨oL,_,_,hoL,_⟩:=id hn
  refine h _ ⟨I.ok,I.os,I.bare,⟨λb o e n hb hx=>?_,λb o e n hb hx=>?_,I.base.free,λb o e hx=>?_,I.base.tups,I.base.frzs,I.base.tbls⟩,⟨_,hn',λj y v' e1 e2 e3=>?_⟩,λy c e=>?_,I.free,I.freeC,λp hp=>?_,tracked ⟨oL,hoL,I.free⟩ hs,by simpa using I.len⟩ ⟨_,hs,.inl rfl⟩
  .exact (hs.2 b (H_ (w_ (n_ e) I.ok.above))).trans (I.base.keep b o e n hb hx)
  .obtain⟨sl,e1⟩:=I.base.slot b o e n hb hx;exact⟨sl,(hs.2 b (H_ (w_ (n_ e) I.ok.above))).trans e1⟩
  .obtain⟨o',e1⟩:=I.base.there b o e hx;exact⟨o',(hs.2 b (H_ (w_ (n_ e) I.ok.above))).trans e1⟩
  .by_cases hj:j=i
   .subst hj;rw [hi] at e1;cases e1;rw [so hiσ] at e2;cases e2;exact⟨u,r,.inl ⟨hk,by simp⟩⟩
   .rw [p_ (MW hj)] at e2;obtain⟨u',r',q⟩:=hl j y v' e1 e2 e3;refine⟨u',r',?_⟩
    rcases q with ⟨k,e⟩|⟨k,c,e,z⟩
    .refine .inl ⟨k,?_⟩;have:y≠x:=λe=>hj (wJ hN e1 (e ▸ hi));simp [this,e]
    .exact .inr ⟨k,c,e,z.sameBut hs (cne y c e)⟩
  .obtain⟨w',z⟩:=I.cell y c e;exact⟨w',z.sameBut hs (cne y c e)⟩
  .obtain⟨e,n,ne,nf,d⟩:=I.pin p hp;exact⟨(hs.2 p.1 ne).trans e,n,ne,nf,d⟩
 .have hfn:X.fn x=true:=by
   rcases hf with z|z
   .exact z
   .rw [z] at hk;cases hk
  obtain⟨c,hc⟩:=I.ok.has x (.inl hk);obtain⟨w',z⟩:=I.cell x c hc;refine wpAny_storeName_cell I.ok.kind hk hc z (λh' hc' hs=>?_);obtain⟨oc,hoc,hocd⟩:=id z
  refine h { s with heap:=h' } ⟨I.ok,I.os,I.bare,⟨λb o e n hb hx=>?_,λb o e n hb hx=>?_,I.base.free,λb o e hx=>?_,I.base.tups,I.base.frzs,I.base.tbls⟩,⟨m,hn.sameBut hs (MW (cne x c hc)),λj y v' e1 e2 e3=>?_⟩,λy c' e=>?_,I.free,I.freeC,λp hp=>?_,tracked ⟨oc,hoc,I.freeC x c hc⟩ hs,by simpa using I.len⟩ ⟨c,hs,.inr hc⟩
  .exact (hs.2 b (H_ (w_ (n_ e) (I.ok.cab x c hfn hc)))).trans (I.base.keep b o e n hb hx)
  .obtain⟨sl,e1⟩:=I.base.slot b o e n hb hx;exact⟨sl,(hs.2 b (H_ (w_ (n_ e) (I.ok.cab x c hfn hc)))).trans e1⟩
  .obtain⟨o',e1⟩:=I.base.there b o e hx;exact⟨o',(hs.2 b (H_ (w_ (n_ e) (I.ok.cab x c hfn hc)))).trans e1⟩
  .by_cases hj:j=i
   .subst hj;rw [hi] at e1;cases e1;rw [so hiσ] at e2;cases e2;exact⟨u,r,.inr ⟨.inl hk,c,hc,hc'⟩⟩
   .rw [p_ (MW hj)] at e2;obtain⟨u',r',q⟩:=hl j y v' e1 e2 e3;refine⟨u',r',?_⟩
    rcases q with q|⟨k,c',e,z'⟩
    .exact .inl q
    .refine .inr ⟨k,c',e,z'.sameBut hs ?_⟩;rintro rfl;exact hj (wJ hN e1 (I.ok.inj _ _ _ e hc ▸ hi))
  .by_cases hcc:c'=c
   .subst hcc;exact⟨_,hc'⟩
   .obtain⟨w2,z2⟩:=I.cell y c' e;exact⟨w2,z2.sameBut hs hcc⟩
  .obtain⟨e,n,ne,nf,d⟩:=I.pin p hp;refine⟨(hs.2 p.1 ?_).trans e,n,ne,nf,d⟩;intro q;rw [q,hoc] at e;have q':oc=p.2:=q_ e;exact d w' (by rw [<- q'];exact hocd)
theorem mJ{Q:Unit->c_->Prop}(I:Inv X pins σ H s)(hN:X.N.Nodup)(hi:X.N[i]?=some x)(hx:Loc X.env.scope x)(r:c9 v u)(h:∀s',Inv X pins (σ.set i (some v)) H s'->Q () s')(hf:X.fn x=true\/X.env.scope.names.lookup x=some .local:=by first|exact .inl rfl|exact .inr rfl|assumption):wpAny M A (storeName X.env x u) Q E s :=
 yR I hN hi hx r (λs' I' _=>h s' I') hf
def Inv.call'{s':c_}{ch:List Addr}(I:Inv X pins σ H s)(ho:s'.os=s.os)(u:Un (frs X.stack) ch H H' s.heap s'.heap)(hok:HOk X.prog X.w H' s'.heap)(hg:Oi s'.gens)(hch:∀b∈ch,(b∈X.ex\/X.s₀.heap.objs.size<=b)/\b≠X.env.locals/\(∀x c,X.env.cells.lookup x=some c->c≠b)/\∀p∈X.pn++pins,p.1≠b):Inv X pins σ H' s':=by
 obtain⟨h',g',d',t',o'⟩:=s';have e:o'=s.os:=ho;subst e;exact I.call (g':=g') (t':=t') (d':=d') u hok hg hch
abbrev XK:=Value->Option Addr->Hp->Prop
abbrev St:=List (Option V)
abbrev VK:=V->Hp->Prop
abbrev TE:=St->Hp->VK->Prop
abbrev TT:=St->Hp->(Bool->Hp->Prop)->Prop
abbrev TA:=St->Hp->(List V->Hp->Prop)->Prop
structure Fy where
 nx:St->Hp->Prop
 rt:VK
 bk:St->Hp->Prop:=λ_ _=>False
 ct:St->Hp->Prop:=λ_ _=>False
abbrev TS:=Fy->St->Hp->Prop
noncomputable def EP(X:Cx)(pins:List (Addr×Obj))(σ:St)(Q:VK)(u:Value)(s':c_):Prop:=∃v H',Inv X pins σ H' s'/\c9 v u/\Q v H'
noncomputable def TP(X:Cx)(pins:List (Addr×Obj))(σ:St)(Q:Bool->Hp->Prop)(b:Bool)(s':c_):Prop:=∃H',Inv X pins σ H' s'/\Q b H'
noncomputable def AP(X:Cx)(pins:List (Addr×Obj))(σ:St)(Q:List V->Hp->Prop)(us:List Value)(s':c_):Prop:=∃vs H',Inv X pins σ H' s'/\bK vs us/\Q vs H'
noncomputable def SP(X:Cx)(pins:List (Addr×Obj))(D:Fy)(f:Flow)(s':c_):Prop :=
 match f with
 | .next=>∃σ' H',Inv X pins σ' H' s'/\D.nx σ' H'
 | .brk=>∃σ' H',Inv X pins σ' H' s'/\D.bk σ' H'
 | .cont=>∃σ' H',Inv X pins σ' H' s'/\D.ct σ' H'
 | .ret u=>∃v σ' H',Inv X pins σ' H' s'/\c9 v u/\D.rt v H'
noncomputable def PE(X:Cx)(e:Expr)(t:TE):Prop :=
 ∀(pins:List (Addr×Obj)) (s:c_) (σ:St) (H:Hp) (Q:VK),Inv X pins σ H s->t σ H Q->wpAny (model X.prog X.w) X.A (eval e X.env) (EP X pins σ Q) X.xe s
noncomputable def PT(X:Cx)(e:Expr)(t:TT):Prop :=
 ∀(pins:List (Addr×Obj)) (s:c_) (σ:St) (H:Hp) (Q:Bool->Hp->Prop),Inv X pins σ H s->t σ H Q->wpAny (model X.prog X.w) X.A (isTrue e X.env (eval e X.env)) (TP X pins σ Q) X.xe s
noncomputable def PW(X:Cx)(e:Expr)(t:TT):Prop :=
 ∀(whole:Sem Value) (pins:List (Addr×Obj)) (s:c_) (σ:St) (H:Hp) (Q:Bool->Hp->Prop),Inv X pins σ H s->t σ H Q->wpAny (model X.prog X.w) X.A (isTrue e X.env whole) (TP X pins σ Q) X.xe s
variable {e:Expr}
def PW.pt{t:TT}(h:PW X e t):PT X e t:=h _
noncomputable def PA(X:Cx)(es:List Expr)(t:TA):Prop :=
 ∀(pos:Pos) (pins:List (Addr×Obj)) (s:c_) (σ:St) (H:Hp) (Q:List V->Hp->Prop),Inv X pins σ H s->t σ H Q->wpAny (model X.prog X.w) X.A (spliced (backTo pos (starEach es X.env))) (AP X pins σ Q) X.xe s
noncomputable def PS(X:Cx)(st:Stmt)(t:TS):Prop :=
 ∀(pins:List (Addr×Obj)) (s:c_) (σ:St) (H:Hp) (D:Fy),Inv X pins σ H s->t D σ H->wpAny (model X.prog X.w) X.A (exec st X.env) (SP X pins D) X.xe s
noncomputable def PSs(X:Cx)(st:List Stmt)(t:TS):Prop :=
 ∀(pins:List (Addr×Obj)) (s:c_) (σ:St) (H:Hp) (D:Fy),Inv X pins σ H s->t D σ H->wpAny (model X.prog X.w) X.A (execs st X.env) (SP X pins D) X.xe s
variable {α:Type}
def thn{t:Sem α}{Q Q':α->c_->Prop}(h:wpAny M A t Q E s)(hQ:∀a s,Q a s->Q' a s):wpAny M A t Q' E s:=Ly h hQ λ_ _ x=>x
noncomputable def aJ(i:Nat):TE:=λσ H Q=>∃v,σ[i]?=some (some v)/\Q v H
def tC(v:V):TE:=λ_ H Q=>Q v H
variable {pos:Pos}
def F4(hN:X.N[i]?=some x)(hv:Vis X.env.scope x)(hd:(x == ("__debug__":Str))=false:=by decide)(hcd:(x == ("__classdict__":Str))=false:=by decide):PE X (.Name x pos) (aJ i):=by
 intro pins s σ H Q I h;obtain⟨v,e,h⟩:=h;obtain⟨m,hn,hl⟩:=I.loc;obtain⟨u,r,l⟩:=hl i x v hN e hv;have fin:EP X pins σ Q u s:=⟨v,H,I,r,h⟩
 rcases l with ⟨hk,hm⟩|⟨hk,c,hc,hcell⟩
 .exact wpAny_Name (wpAny_loadName_local I.ok.kind hk hn hm fin) hd
 .rcases hk with hk|hk
  .exact wpAny_Name (wpAny_loadName_cell I.ok.kind hk hc hcell fin) hd
  .exact wpAny_Name (wpAny_loadName_free I.ok.kind hk hc hcell fin hcd) hd
def ao{i j pos}:PE X (.Constant (.int i) j pos) (tC (.int i)):=λ_ _ _ H _ I h=>wpAny_Constant_int ⟨.int i,H,I.tok _,⟨_,rfl⟩,h⟩
def md{b j pos}:PE X (.Constant (.bool b) j pos) (tC (.bl b)):=λ_ _ _ H _ I h=>Constant_bool ⟨.bl b,H,I,rfl,h⟩
def F8{j pos}:PE X (.Constant .none j pos) (tC .non):=λ_ _ _ H _ I h=>Constant_none ⟨.non,H,I,rfl,h⟩
def Ga{x j pos}:PE X (.Constant (.str x) j pos) (tC (.str x)):=λ_ _ _ H _ I h=>Calls.Constant_str ⟨.str x,H,I.tok _,⟨_,rfl⟩,h⟩
noncomputable def Gl(X:Cx)(x:Str):Prop:=X.env.kindOf x=some .globalImplicit
variable {Q:Value->c_->Prop}
def uP{σ:St}(I:Inv X pins σ H s)(hg:Gl X x)(hm:X.mg x=some u)(h:Q u s)(hd:(x == ("__debug__":Str))=false:=by decide):wpAny (model X.prog X.w) X.A (eval (.Name x pos) X.env) Q E s :=
 N_ I.ok.kind hg (Calls.loadGlobal_global (by rw [I.ok.glob];exact I.mod.glob.keeps I.bk) hm h) hd
def jd{σ:St}(I:Inv X pins σ H s)(hg:Gl X x)(hm:X.mg x=none)(hv:bootBuiltins x=some u)(h:Q u s)(hn:x≠"__name__":=by decide)(hd:(x == ("__debug__":Str))=false:=by decide):wpAny (model X.prog X.w) X.A (eval (.Name x pos) X.env) Q E s:=by
 obtain⟨mb,h1,h2⟩:=I.mod.blt;exact N_ I.ok.kind hg (Calls.loadGlobal_builtin (by rw [I.ok.glob];exact I.mod.glob.keeps I.bk) hm (by rw [I.ok.blt];exact h1.keeps I.bk) ((h2 x hn).trans hv) h) hd
def DI(hg:Gl X x)(hm:X.mg x=some u)(r:c9 v u)(hd:(x == ("__debug__":Str))=false:=by decide):PE X (.Name x pos) (tC v) :=
 λ_ _ _ H _ I h=>uP I hg hm ⟨v,H,I,r,h⟩ hd
def jq(hg:Gl X x)(hm:X.mg x=none)(hv:bootBuiltins x=some u)(r:c9 v u)(hn:x≠"__name__":=by decide)(hd:(x == ("__debug__":Str))=false:=by decide):PE X (.Name x pos) (tC v) :=
 λ_ _ _ H _ I h=>jd I hg hm hv ⟨v,H,I,r,h⟩ hn hd
noncomputable def tB(t:TE):TT:=λσ H Q=>t σ H λx H1=>∃c,x=.bl c/\Q c H1
def Gb{t:TE}(h:PE X e t)(he:∀whole,isTrue e X.env whole=(do let v <- whole;standAt e.pos;holding [v] (truthy v)):=by intro _;rfl):PT X e (tB t):=by
 intro pins s σ H Q I hw;refine isTrue_plain (thn (h pins s σ H _ I hw) λv s1 ⟨x,H1,I1,r1,q1⟩=>?_) (he _);obtain⟨d,rfl,q⟩:=q1;cases r1;exact J_ ⟨H1,I1,q⟩
noncomputable def Kh(t u:TT):TT:=λσ H Q=>t σ H λc H1=>if c=true then u σ H1 Q else Q false H1
noncomputable def tOr(t u:TT):TT:=λσ H Q=>t σ H λc H1=>if c=true then Q true H1 else u σ H1 Q
noncomputable def IW(t:TT):TT:=λσ H Q=>t σ H λc H1=>Q (!c) H1
variable {a:Expr}{tA:TT}
def mU(ha:PT X a tA):PW X (.BoolOp .And [a] pos) tA:=by
 intro wh pins s σ H Q I h;refine isTrue_and (thn (ha pins s σ H Q I h) λc s1 e=>?_)
 cases c with
 | true=>exact isTrue_and_nil e
 | false=>exact e
def j8(ha:PT X a tA):PW X (.BoolOp .Or [a] pos) tA:=by
 intro wh pins s σ H Q I h;refine isTrue_or (thn (ha pins s σ H Q I h) λc s1 e=>?_)
 cases c with
 | false=>exact isTrue_or_nil e
 | true=>exact e
variable {b:Expr}{tB':TT}{rest:List Expr}
def sr(ha:PT X a tA)(hb:PW X (.BoolOp .And (b::rest) pos) tB'):PW X (.BoolOp .And (a::b::rest) pos) (Kh tA tB'):=by
 intro wh pins s σ H Q I h;refine isTrue_and (thn (ha pins s σ H _ I h) λc s1 ⟨H1,I1,q1⟩=>?_)
 cases c with
 | true=>exact hb wh pins s1 σ H1 Q I1 q1
 | false=>exact⟨H1,I1,q1⟩
def mW(ha:PT X a tA)(hb:PW X (.BoolOp .Or (b::rest) pos) tB'):PW X (.BoolOp .Or (a::b::rest) pos) (tOr tA tB'):=by
 intro wh pins s σ H Q I h;refine isTrue_or (thn (ha pins s σ H _ I h) λc s1 ⟨H1,I1,q1⟩=>?_)
 cases c with
 | true=>exact⟨H1,I1,q1⟩
 | false=>exact hb wh pins s1 σ H1 Q I1 q1
def fS(ha:PT X a tA):PT X (.UnaryOp .Not a pos) (IW tA):=by
 intro pins s σ H Q I h;exact isTrue_not (ha pins s σ H (λc H1=>Q (!c) H1) I h)
variable {ta tb:TE}
noncomputable def DJ(ta tb:TE):TE:=λσ H Q=>ta σ H λx H1=>∃c,x=.bl c/\if c=true then tb σ H1 Q else Q (.bl false) H1
noncomputable def Ki(ta tb:TE):TE:=λσ H Q=>ta σ H λx H1=>∃c,x=.bl c/\if c=true then Q (.bl true) H1 else tb σ H1 Q
noncomputable def Gc(ta:TE):TE:=λσ H Q=>ta σ H λx H1=>∃c,x=.bl c/\Q (.bl (!c)) H1
def fT{op}{t:TE}(h:PE X a t):PE X (.BoolOp op [a] pos) t:=λpins s σ H Q I hw=>BoolOp_one (h pins s σ H Q I hw)
def gX(ha:PE X a ta)(hb:PE X (.BoolOp .And (b::rest) pos) tb):PE X (.BoolOp .And (a::b::rest) pos) (DJ ta tb):=by
 intro pins s σ H Q I h;refine BoolOp_and (thn (ha pins s σ H _ I h) λv s1 ⟨x,H1,I1,r1,q1⟩=>?_);obtain⟨c,rfl,q1⟩:=q1;cases r1;refine J_ ?_
 cases c with
 | true=>exact hb pins s1 σ H1 Q I1 q1
 | false=>exact⟨.bl false,H1,I1,rfl,q1⟩
def Gd(ha:PE X a ta)(hb:PE X (.BoolOp .Or (b::rest) pos) tb):PE X (.BoolOp .Or (a::b::rest) pos) (Ki ta tb):=by
 intro pins s σ H Q I h;refine BoolOp_or (thn (ha pins s σ H _ I h) λv s1 ⟨x,H1,I1,r1,q1⟩=>?_);obtain⟨c,rfl,q1⟩:=q1;cases r1;refine J_ ?_
 cases c with
 | false=>exact hb pins s1 σ H1 Q I1 q1
 | true=>exact⟨.bl true,H1,I1,rfl,q1⟩
def yS(ha:PE X a ta):PE X (.UnaryOp .Not a pos) (Gc ta):=by
 intro pins s σ H Q I h;refine UnaryOp_ (thn (ha pins s σ H _ I h) λv s1 ⟨x,H1,I1,r1,q1⟩=>?_);obtain⟨c,rfl,q1⟩:=q1;cases r1;exact not_of (J_ ⟨.bl (!c),H1,I1,rfl,q1⟩)
noncomputable def tIf(t:TT)(ta tb:TE):TE:=λσ H Q=>t σ H λc H1=>if c=true then ta σ H1 Q else tb σ H1 Q
def qF{c:Expr}(hc:PT X c tA)(ha:PE X a ta)(hb:PE X b tb):PE X (.IfExp c a b pos) (tIf tA ta tb):=by
 intro pins s σ H Q I h;refine wpAny_IfExp (thn (hc pins s σ H _ I h) λd s1 ⟨H1,I1,q1⟩=>?_)
 cases d with
 | true=>exact ha pins s1 σ H1 Q I1 q1
 | false=>exact hb pins s1 σ H1 Q I1 q1
noncomputable def SqL(K:b_)(H:Hp)(a:Addr)(xs:List V):Prop :=
 Rd H a (.lst xs) \/
  ∃(o:Obj) (its:Array Value) (n:Nat),K.lookup a=some o/\o.cls=.type "list"/\o.dict=none/\o.data=.seq its n/\its.size<=sizeLine/\bK xs its.toList
noncomputable def SqT(K:b_)(H:Hp)(a:Addr)(xs:List V):Prop :=
 Rd H a (.tup xs) \/
  ∃(o:Obj) (its:Array Value) (n:Nat),K.lookup a=some o/\o.cls=.type "tuple"/\o.data=.seq its n/\its.size<=sizeLine/\bK xs its.toList
noncomputable def K7:Value->Option V
 | .none=>some .non
 | .bool b=>some (.bl b)
 | .int i _=>some (.int i)
 | .str x _=>some (.str x)
 | .bytes b _=>some (.byt b)
 | .float b _=>some (.flt b)
 | .ref a=>some (.ref a)
 | .type n=>some (.ty n)
 | _=>none
def c9.abs{x:V}(r:c9 x u):K7 u=some x:=by
 cases x with
 | non=>cases r;rfl
 | bl _=>cases r;rfl
 | int _=>obtain⟨t,rfl⟩:=r;rfl
 | str _=>obtain⟨t,rfl⟩:=r;rfl
 | byt _=>obtain⟨t,rfl⟩:=r;rfl
 | flt _=>obtain⟨t,rfl⟩:=r;rfl
 | ref _=>cases r;rfl
 | ty _=>cases r;rfl
variable {y:V}
def c9.inj{x:V}(r:c9 x u)(q:c9 y u):x=y:=q_ (r.abs.symm.trans q.abs)
theorem bK.inj:∀{xs ys:List V}{us:List Value},bK xs us->bK ys us->xs=ys
 | _,_,_,.nil,.nil=>rfl
 | _,_,_,.cons r t,.cons r' t'=>by rw [r.inj r',bK.inj t t']
variable {a:Addr}{K:b_}
def SqL.of(h:H a=some (.lst xs)):SqL K H a xs:=.inl (.inl h)
def SqT.of(h:H a=some (.tup xs)):SqT K H a xs:=.inl (.inl h)
variable {σ:St}
def Inv.list(I:Inv X pins σ H s)(h:SqL X.K H a xs):∃its:List Value,bK xs its/\PlainL s.heap a its.toArray/\xs.length<=sizeLine:=by
 rcases h with h|⟨o,its,n,hk,hc,hd,hs,hz,r⟩
 .obtain⟨z,its,n,r,e⟩:=h.ok I.hok;exact⟨its,r,⟨_,n,e,rfl,rfl,rfl⟩,z⟩
 .refine⟨its.toList,r,⟨o,n,I.kIn a o hk,hc,hd,by simpa using hs⟩,?_⟩;have e:=r.length;simp only [y_] at e;omega
def Inv.tuple(I:Inv X pins σ H s)(h:SqT X.K H a xs):∃its:List Value,bK xs its/\IsTup s.heap a its.toArray/\xs.length<=sizeLine:=by
 rcases h with h|⟨o,its,n,hk,hc,hs,hz,r⟩
 .obtain⟨z,its,r,p⟩:=h.ok I.hok;exact⟨its,r,p,z⟩
 .refine⟨its.toList,r,⟨o,I.kIn a o hk,hc,n,by simpa using hs⟩,?_⟩;have e:=r.length;simp only [y_] at e;omega
variable {ys:List V}
def Inv.list_inj(I:Inv X pins σ H s)(h:SqL X.K H a xs)(h':SqL X.K H a ys):xs=ys:=by
 obtain⟨its,r,⟨o,n,e,_,_,d⟩,_⟩:=I.list h;obtain⟨its',r',⟨o',n',e',_,_,d'⟩,_⟩:=I.list h';rw [e] at e';cases e';rw [d] at d';injection d' with d1 _;have:its=its':=by simpa using congrArg OB d1
 subst this;exact r.inj r'
def Inv.tuple_inj(I:Inv X pins σ H s)(h:SqT X.K H a xs)(h':SqT X.K H a ys):xs=ys:=by
 obtain⟨its,r,⟨o,e,_,n,d⟩,_⟩:=I.tuple h;obtain⟨its',r',⟨o',e',_,n',d'⟩,_⟩:=I.tuple h';rw [e] at e';cases e';rw [d] at d';injection d' with d1 _;have:its=its':=by simpa using congrArg OB d1
 subst this;exact r.inj r'
abbrev Cx.wish(X:Cx)(E:Value->c_->Prop):Cx:={ X with xe:=E }
abbrev Cx.nox(X:Cx):Cx:=X.wish λ_ _=>False
def Cx.Ok.wish(ok:X.Ok)(E:Value->c_->Prop):(X.wish E).Ok :=
 ⟨ok.mod,ok.kind,ok.glob,ok.blt,ok.above,ok.inj,ok.has,ok.cab,ok.hd,ok.frames,ok.stk,ok.exf,ok.bs,ok.bsz,ok.noex,ok.exfs,ok.funs,ok.frf,ok.tb⟩
def Cx.Ok.unwish(ok:(X.wish E).Ok):X.Ok :=
 ⟨ok.mod,ok.kind,ok.glob,ok.blt,ok.above,ok.inj,ok.has,ok.cab,ok.hd,ok.frames,ok.stk,ok.exf,ok.bs,ok.bsz,ok.noex,ok.exfs,ok.funs,ok.frf,ok.tb⟩
def Inv.wish(I:Inv X pins σ H s)(E:Value->c_->Prop):Inv (X.wish E) pins σ H s:=⟨I.ok.wish E,I.os,I.bare,I.base,I.loc,I.cell,I.free,I.freeC,I.pin,I.hok,I.len⟩
def Inv.unwish(I:Inv (X.wish E) pins σ H s):Inv X pins σ H s:=⟨I.ok.unwish,I.os,I.bare,I.base,I.loc,I.cell,I.free,I.freeC,I.pin,I.hok,I.len⟩
def SP.unwish{D:Fy}{f:Flow}{s':c_}(h:SP (X.wish E) pins D f s'):SP X pins D f s':=by
 cases f with
 | next=>obtain⟨σ',H',I,q⟩:=h;exact⟨σ',H',I.unwish,q⟩
 | brk=>obtain⟨σ',H',I,q⟩:=h;exact⟨σ',H',I.unwish,q⟩
 | cont=>obtain⟨σ',H',I,q⟩:=h;exact⟨σ',H',I.unwish,q⟩
 | ret u=>obtain⟨v,σ',H',I,r,q⟩:=h;exact⟨v,σ',H',I.unwish,r,q⟩
def PSs.nox{st:List Stmt}{t:TS}(h:PSs X.nox st t):PSs X st t:=λpins s σ H D I hw =>
 Ly (h pins s σ H D (I.wish _) hw) (λ_ _ q=>q.unwish) λ_ _ z=>Mq z
def Ge:TS:=λD σ H=>D.nx σ H
variable {t u:TS}
noncomputable def Kj(t u:TS):TS:=λD σ H=>t { D with nx:=u D } σ H
def bb:PSs X [] Ge:=λ_ _ σ H _ I h=>NV ⟨σ,H,I,h⟩
variable {st:Stmt}{rest:List Stmt}
def af(h1:PS X st t)(h2:PSs X rest u):PSs X (st::rest) (Kj t u):=by
 intro pins s σ H D I h;refine wpAny_execs_cons (thn (h1 pins s σ H { D with nx:=u D } I h) λf s1 q=>?_)
 cases f with
 | next =>
  obtain⟨σ',H',I',q⟩:=q;exact h2 pins s1 σ' H' D I' q
 | ret v=>exact q
 | brk=>exact q
 | cont=>exact q
def aj(h1:PS X st t):PSs X [st] t:=by
 intro pins s σ H D I h;refine wpAny_execs_cons (thn (h1 pins s σ H D I h) λf s1 q=>?_)
 cases f with
 | next=>exact NV q
 | ret v=>exact q
 | brk=>exact q
 | cont=>exact q
def Inv.quiet(I:Inv X pins σ H s):interactive X.env=false:=by simp [interactive,I.ok.kind]
variable {te:TE}
noncomputable def Gf(te:TE):TS:=λD σ H=>te σ H λ_ H1=>D.nx σ H1
def jr(he:PE X e te)(hs:swapsWith e none pos.line X.env=pure false:=by rfl):PS X (.Expr e pos) (Gf te):=by
 intro pins s σ H D I h;exact wpAny_Expr_any (thn (he pins s σ H _ I h) λv s1 ⟨x,H1,I1,r1,q1⟩=>⟨σ,H1,I1,q1⟩) I.quiet hs
def Kk(te:TE):TS:=λD σ H=>te σ H D.rt
def aB(he:PE X e te):PS X (.Return (some e) pos) (Kk te):=by
 intro pins s σ H D I h;exact wpAny_Return_some (thn (he pins s σ H _ I h) λv s1 ⟨x,H1,I1,r1,q1⟩=>⟨x,σ,H1,I1,r1,q1⟩)
noncomputable def Kl(c:TT)(t u:TS):TS:=λD σ H=>c σ H λb H1=>if b=true then t D σ H1 else u D σ H1
def cv{c:Expr}{a b:List Stmt}{tc:TT}(hc:PT X c tc)(ha:PSs X a t)(hb:PSs X b u):PS X (.If c a b pos) (Kl tc t u):=by
 intro pins s σ H D I h;refine wpAny_If (thn (hc pins s σ H _ I h) λd s1 ⟨H1,I1,q1⟩=>?_)
 cases d with
 | true=>exact ha pins s1 σ H1 D I1 q1
 | false=>exact hb pins s1 σ H1 D I1 q1
def Cz:TS:=λ_ _ _=>False
def j9:PS X st Cz:=λ_ _ _ _ _ _ h=>h.elim
abbrev TG:=V->St->Hp->(St->Hp->Prop)->Prop
abbrev TGs:=List V->St->Hp->(St->Hp->Prop)->Prop
noncomputable def PG(X:Cx)(target:Expr)(t:TG):Prop :=
 ∀(pins:List (Addr×Obj)) (s:c_) (σ:St) (H:Hp) (v:V) (u:Value) (Q:St->Hp->Prop),Inv X pins σ H s->c9 v u->t v σ H Q ->
  wpAny (model X.prog X.w) X.A (assign target X.env u) (λ_ s'=>∃σ' H',Inv X pins σ' H' s'/\Q σ' H') X.xe s
noncomputable def PGs(X:Cx)(ts:List Expr)(t:TGs):Prop :=
 ∀(pins:List (Addr×Obj)) (s:c_) (σ:St) (H:Hp) (vs:List V) (us:List Value) (Q:St->Hp->Prop),Inv X pins σ H s->bK vs us->t vs σ H Q ->
  wpAny (model X.prog X.w) X.A (assignInOrder ((assignEach ts X.env).map (·.2)) us) (λ_ s'=>∃σ' H',Inv X pins σ' H' s'/\Q σ' H') X.xe s
abbrev IX:=V->V->V->Hp->(Hp->Prop)->Prop
noncomputable def Km(X:Cx)(t:IX):Prop :=
 ∀(pins:List (Addr×Obj)) (s:c_) (σ:St) (H:Hp) (o i v:V) (ov iv u:Value) (Q:Hp->Prop),Inv X pins σ H s->c9 o ov->c9 i iv->c9 v u->t o i v H Q ->
  wpAny (model X.prog X.w) X.A (setItem ov iv u) (λ_ s'=>∃H',Inv X pins σ H' s'/\Q H') X.xe s
abbrev TIp:=V->V->Hp->VK->Prop
noncomputable def PIp(X:Cx)(op:Operator)(t:TIp):Prop :=
 ∀(pins:List (Addr×Obj)) (s:c_) (σ:St) (H:Hp) (x y:V) (v u:Value) (Q:VK),Inv X pins σ H s->c9 x v->c9 y u->t x y H Q ->
  wpAny (model X.prog X.w) X.A (inplaceOp op v u) (EP X pins σ Q) X.xe s
noncomputable def aS(i:Nat):TG:=λv σ H Q=>Q (σ.set i (some v)) H
theorem ar(hN:X.N.Nodup)(hi:X.N[i]?=some x)(hx:Loc X.env.scope x)(hf:X.fn x=true\/X.env.scope.names.lookup x=some .local:=by first|exact .inl rfl|exact .inr rfl|assumption):PG X (.Name x pos) (aS i):=by
 intro pins s σ H v u Q I r h;exact wpAny_assign_Name (mJ I hN hi hx r (λs' I'=>⟨_,H,I',h⟩) hf)
def uK:TGs:=λvs σ H Q=>vs=[]/\Q σ H
noncomputable def cP(t:TG)(u:TGs):TGs:=λvs σ H Q=>∃v r,vs=v::r/\t v σ H λσ' H'=>u r σ' H' Q
def bT:PGs X [] uK:=by
 intro pins s σ H vs us Q I r h;obtain⟨e,h⟩:=h;subst e;cases r;exact assignInOrder_nil ⟨σ,H,I,h⟩
variable {es:List Expr}
def aG{t:TG}{u:TGs}(h1:PG X e t)(h2:PGs X es u)(hs:(assignEach (e::es) X.env).map (·.2)=assign e X.env::(assignEach es X.env).map (·.2):=by rfl):PGs X (e::es) (cP t u):=by
 intro pins s σ H vs us Q I r h;obtain⟨v,vr,e1,h⟩:=h;subst e1
 cases r with
 | cons r rr =>
  rw [hs];refine assignInOrder_cons (thn (h1 pins s σ H _ _ _ I r h) λ_ s1 ⟨σ1,H1,I1,q1⟩=>?_);exact h2 pins s1 σ1 H1 _ _ Q I1 rr q1
noncomputable def K8(K:b_)(n:Nat)(t:TGs):TG:=λv σ H Q=>∃a xs,v=.ref a/\SqT K H a xs/\xs.length=n/\t xs σ H Q
variable {k n:Nat}
def Gg{t:TGs}(hc:X.calm=true)(h:PGs X es t)(hn:(assignEach es X.env).length=n:=by rfl)(hst:(assignEach es X.env).findIdx? (·.1)=none:=by rfl):PG X (.Tuple es k pos) (K8 X.K n t):=by
 intro pins s σ H v u Q I r hw;obtain⟨a,xs,e1,hq,hl,hw⟩:=hw;subst e1;cases r;obtain⟨its,rv,ht,hz⟩:=I.tuple hq;refine assign_Tuple_tuple (I.ok.hd hc) ht (by simp [hn,<- hl,rv.length]) hst λh' hx=>?_;have I1:Inv X pins σ H { s with heap:=h' }:=I.kept (t':=s.toks) λb o e=>hx b o (H_ (n_ e)) e;exact h pins _ σ H xs _ Q I1 (by simpa using rv) hw
noncomputable def Kn(to ti:TE)(t:IX):TG:=λv σ H Q=>to σ H λo H1=>ti σ H1 λi H2=>t o i v H2 λH3=>Q σ H3
def CA{o i:Expr}{to ti:TE}{t:IX}(ho:PE X o to)(hi:PE X i ti)(hs:Km X t)(ha:∀v,assign (.Subscript o i pos) X.env v=(do
   let ov <- holding [v] (eval o X.env)
   let iv <- holding [v,ov] (eval i X.env)
   standAt pos
   holding [v,ov,iv] (setItem ov iv v)
   release [v,ov,iv] []):=by intro _;rfl):PG X (.Subscript o i pos) (Kn to ti t):=by
 intro pins s σ H v u Q I r h;rw [ha];refine cn (I_ (thn (ho pins s σ H _ I h) λov s1 ⟨x,H1,I1,r1,q1⟩=>?_));refine cn (I_ (thn (hi pins s1 σ H1 _ I1 q1) λiv s2 ⟨y,H2,I2,r2,q2⟩=>?_));refine cn (MN (cn (I_ (thn (hs pins s2 σ H2 x y v ov iv u _ I2 r1 r2 r q2) λ_ s3 ⟨H3,I3,q3⟩=>?_))));exact wpAny_release ⟨σ,H3,I3,q3⟩
noncomputable def Fz(te:TE)(g:TG):TS:=λD σ H=>te σ H λx H1=>g x σ H1 D.nx
variable {tg:Expr}{g:TG}
def wK(he:PE X e te)(hg:PG X tg g)(hs:swapsWithSole [tg] e pos.line X.env=pure false:=by rfl)(hw:swappedStores [tg] e X.env=pure none:=by rfl)(h1:(assignEach [tg] X.env).map (·.2)=[assign tg X.env]:=by rfl):PS X (.Assign [tg] e pos) (Fz te g):=by
 intro pins s σ H D I h;refine wpAny_Assign_stores (thn (he pins s σ H _ I h) λv s1 ⟨x,H1,I1,r1,q1⟩=>?_) hs hw;rw [h1];exact thn (hg pins s1 σ H1 x v _ I1 r1 q1) λ_ s2 q=>q
theorem aF{pos':Pos}(hN:X.N.Nodup)(hi:X.N[i]?=some x)(hx:Loc X.env.scope x)(he:PE X e te)(hs:swapsWith e (some (.Name x pos')) pos.line X.env=pure false:=by rfl)(hf:X.fn x=true\/X.env.scope.names.lookup x=some .local:=by first|exact .inl rfl|exact .inr rfl|assumption):
  PS X (.Assign [.Name x pos'] e pos) (Fz te (aS i)):=by
 intro pins s σ H D I h;refine wpAny_Assign_Name (thn (he pins s σ H _ I h) λv s1 ⟨y,H1,I1,r1,q1⟩=>?_) hs;exact mJ I1 hN hi hx r1 (λs2 I2=>⟨_,H1,I2,q1⟩) hf
noncomputable def Ko(i:Nat)(te:TE)(ti:TIp):TS:=λD σ H=>∃x,σ[i]?=some (some x)/\te σ H λy H1=>ti x y H1 λz H2=>D.nx (σ.set i (some z)) H2
theorem Gh{op:Operator}{ti:TIp}{pos':Pos}(hN:X.N.Nodup)(hi:X.N[i]?=some x)(hx:Loc X.env.scope x)(he:PE X e te)(ho:PIp X op ti)(hf:X.fn x=true\/X.env.scope.names.lookup x=some .local:=by first|exact .inl rfl|exact .inr rfl|assumption):
  PS X (.AugAssign (.Name x pos') op e pos) (Ko i te ti):=by
 intro pins s σ H D I h;obtain⟨v,e1,h⟩:=h;obtain⟨m,hn,hl⟩:=I.loc;have vis:Vis X.env.scope x:=by rcases hx with k|k;exact .inl k;exact .inr (.inl k)
 obtain⟨u,r,l⟩:=hl i x v hi e1 vis;refine wpAny_AugAssign_Name ?_
 have go:wpAny (model X.prog X.w) X.A (eval e X.env) (λw s₂=>wpAny (model X.prog X.w) X.A (inplaceOp op u w) (λr s₃=>wpAny (model X.prog X.w) X.A (storeName X.env x r) (λ_=>SP X pins D .next) X.xe s₃) X.xe s₂) X.xe s:=by
  refine thn (he pins s σ H _ I h) λw s1 ⟨y,H1,I1,r1,q1⟩=>?_;refine thn (ho pins s1 σ H1 v y u w _ I1 r r1 q1) λz s2 ⟨zv,H2,I2,r2,q2⟩=>?_;exact mJ I2 hN hi hx r2 (λs3 I3=>⟨_,H2,I3,q2⟩) hf
 rcases l with ⟨hk,hm⟩|⟨hk,c,hc,hcell⟩
 .exact wpAny_loadName_local I.ok.kind hk hn hm go
 .rcases hk with hk|hk
  .exact wpAny_loadName_cell I.ok.kind hk hc hcell go
  .rcases hx with k|k
   .have:X.env.scope.names.lookup x=some .free:=hk;rw [k] at this;cases this
   .have:X.env.scope.names.lookup x=some .free:=hk;rw [k] at this;cases this
noncomputable def CB(c:TT)(tb:TS):TS:=λD σ H=>∃W:Nat->St->Hp->Prop,(∃m,W m σ H)/\∀m σ H,W m σ H ->
 c σ H λb H1=>if b=true then ∃N:St->Hp->Prop,(∀σ' H',N σ' H'->∃m',m'<m/\W m' σ' H')/\tb { D with nx:=N,ct:=N,bk:=D.nx } σ H1 else D.nx σ H1
def wL{c:Expr}{body:List Stmt}{tc:TT}{tb:TS}(hp:PassesOwn (model X.prog X.w) X.A X.env X.xe)(hc:PT X c tc)(hb:PSs X body tb):PS X (.While c body [] pos) (CB tc tb):=by
 intro pins s σ H D I h;obtain⟨W,⟨m0,w0⟩,turn⟩:=h;refine wpAny_While (codeAny_whileLoop (λn s'=>∃σ' H',Inv X pins σ' H' s'/\W n σ' H') ?_ m0 ⟨σ,H,I,w0⟩);rintro n s1 ⟨σ1,H1,I1,w1⟩;refine MH hp (thn (hc pins s1 σ1 H1 _ I1 (turn n σ1 H1 w1)) λb s2 ⟨H2,I2,q2⟩=>?_)
 cases b with
 | true =>
  obtain⟨N,hN,q2⟩:=q2;rw [if_pos rfl];refine MH hp (thn (hb pins s2 σ1 H2 _ I2 q2) λf s3 q3=>?_)
  cases f with
  | next =>
   obtain⟨σ3,H3,I3,n3⟩:=q3;obtain⟨m',hm,w3⟩:=hN σ3 H3 n3;exact⟨m',hm,σ3,H3,I3,w3⟩
  | cont =>
   obtain⟨σ3,H3,I3,n3⟩:=q3;obtain⟨m',hm,w3⟩:=hN σ3 H3 n3;exact⟨m',hm,σ3,H3,I3,w3⟩
  | brk=>exact q3
  | ret v=>exact q3
 | false =>
  rw [if_neg k_];exact NV ⟨σ1,H2,I2,q2⟩
structure It where
 go:Nat->Hp->Prop
 yld:Nat->Hp->V->Hp->Prop
 stop:Nat->Hp->Prop
noncomputable def uQ(X:Cx)(pins:List (Addr×Obj))(H:Hp)(b:Addr):Prop :=
 H b=none/\b≠X.env.locals/\b∉X.fs/\(b∈X.ex\/X.s₀.heap.objs.size<=b)/\(∀x c,X.env.cells.lookup x=some c->c≠b)/\∀p∈X.pn++pins,p.1≠b
def Inv.fpOk{b:Addr}(I:Inv X pins σ H s)(hb:s.heap.objs.size<=b)(hn:H' b=none):uQ X pins H' b:=by
 refine⟨hn,Oa (w_ I.lt hb),I.nofs hb,.inr (s_ I.sz hb),λx c e z=>?_,λp hp z=>?_⟩
 .obtain⟨v,q⟩:=I.cell x c e;exact absurd (w_ q.lt (by rw [z];exact hb)) (K_ _)
 .exact absurd (w_ (n_ (I.pin p hp).1) (by rw [z];exact hb)) (K_ _)
structure DK (P:t_) (w:World) (K:b_) (tg:Expr) (J:It) (fp:List Addr) (it:Addr) (tn:Nat->Heap->Prop):Prop where
 mem:it∈fp
 obj:∀i h,tn i h->∀b∈fp,∃o,h.get? b=some o/\∀v,o.data≠.cell v
 keep:∀i h h',tn i h->(∀b∈fp,∀o,h.get? b=some o->h'.get? b=some o)->tn i h'
 item:∀(X:Cx),X.prog=P->X.w=w->X.K=K->X.calm=true->∀(i:Nat) (pins:List (Addr×Obj)) (s:c_) (σ:St) (H:Hp) (E:Value->c_->Prop),Inv X pins σ H s->(∀b∈fp,uQ X pins H b)->tn i s.heap->J.go i H ->
  wpAny (model P w) X.A (pyNext (.ref it)) (λr s1=>∃u,r=some u /\
   wpAny (model P w) X.A (letOwnedTupleGo tg (.ref it) u) (λ_ s2=>∃x H',Inv X pins σ H' s2/\c9 x u/\J.yld i H x H'/\tn (i+1) s2.heap/\∀b∈fp,H' b=none) E s1) E s
 done:∀(X:Cx),X.prog=P->X.w=w->X.K=K->X.calm=true->∀(i:Nat) (pins:List (Addr×Obj)) (s:c_) (σ:St) (H:Hp) (E:Value->c_->Prop),Inv X pins σ H s->(∀b∈fp,uQ X pins H b)->tn i s.heap->J.stop i H ->
  wpAny (model P w) X.A (pyNext (.ref it)) (λr s1=>r=none/\Inv X pins σ H s1) E s
 self:∀(A:C0) (i:Nat) (s:c_) (Q:Value->c_->Prop) (E:Value->c_->Prop),tn i s.heap->Q (.ref it) s->wpAny (model P w) A (pyIter (.ref it)) Q E s
abbrev TI:=St->Hp->(It->Hp->Prop)->Prop
noncomputable def PIE(X:Cx)(pins:List (Addr×Obj))(σ:St)(tg:Expr)(R:It->Hp->Prop)(itv:Value)(s2:c_):Prop :=
 ∃(it:Addr) (fp:List Addr) (tn:Nat->Heap->Prop) (J:It) (H':Hp),itv=.ref it/\Inv X pins σ H' s2/\DK X.prog X.w X.K tg J fp it tn/\tn 0 s2.heap/\(∀b∈fp,uQ X pins H' b)/\R J H'
noncomputable def PI(X:Cx)(tg iter:Expr)(wi:TI):Prop :=
 ∀(pins:List (Addr×Obj)) (s:c_) (σ:St) (H:Hp) (R:It->Hp->Prop),Inv X pins σ H s->wi σ H R ->
  wpAny (model X.prog X.w) X.A (eval iter X.env) (λv s1=>wpAny (model X.prog X.w) X.A (pyIter v) (PIE X pins σ tg R) X.xe s1) X.xe s
def DL{it:Addr}{u:Value}{o:Obj}{n:String}{vs:Array Value}{Q:Unit->c_->Prop}(ho:s.heap.get? it=some o)(hc:o.cls=.type n)(hd:o.data=.fields vs)(hn:["enumerate","zip","dict_itemiterator","dict_reverseitemiterator","odict_iterator","itertools.zip_longest","itertools.pairwise"].contains n=false)(hQ:Q () s):wpAny M A (letOwnedTupleGo tg (.ref it) u) Q E s:=by
  unfold letOwnedTupleGo
  cases tg <;> first
    | exact f_ hQ
    | (cases u <;> first
        | exact f_ hQ
        | (refine cn (wpAny_load ho ?_)
           rw [hc,hd];show wpAny M A (if (["enumerate","zip","dict_itemiterator","dict_reverseitemiterator","odict_iterator","itertools.zip_longest","itertools.pairwise"].contains n && vs[0]? == some (rawInt _))=true then _ else _) Q E s;rw [if_neg (by intro h;rw [hn,Bool.false_and] at h;cases h)];exact f_ hQ))
noncomputable def Itl(K:b_)(a:Addr):It :=
 ⟨λi H=>∃xs x,SqL K H a xs/\xs[i]?=some x,λi H x H'=>H'=H/\∀xs,SqL K H a xs->xs[i]?=some x,λi H=>∃xs,SqL K H a xs/\xs.length<=i⟩
noncomputable def Itt(K:b_)(a:Addr):It :=
 ⟨λi H=>∃xs x,SqT K H a xs/\xs[i]?=some x,λi H x H'=>H'=H/\∀xs,SqT K H a xs->xs[i]?=some x,λi H=>∃xs,SqT K H a xs/\xs.length<=i⟩
noncomputable def Itr(lo:Int)(n:Nat):It:=⟨λi _=>i<n,λi H x H'=>H'=H/\x=.int (lo+i),λi _=>n<=i⟩
def yT{P:t_}(a it:Addr):DK P w K tg (Itl K a) [it] it (λi h=>h.IsListIter it a i) where
 mem:=by simp
 obj:=λi h st b hb=>by
  have e:b=it:=by simpa using hb
  subst e;obtain⟨o,e,c,d⟩:=st;exact⟨o,e,λv z=>by rw [d] at z;cases z⟩
 keep:=λi h h' st k=>st.at λo e=>k it (by simp) o e
 item:=by
  intro X hP hw hK hc i pins s σ H E I hf st hg;subst hP hw hK;obtain⟨xs,x,hq,hx⟩:=hg;obtain⟨its,rv,p,hz⟩:=I.list hq;obtain⟨u,hu,ru⟩:=rv.get hx;obtain⟨f0,f1,f2,f3,f4,f5⟩:=hf it (by simp);refine wpAny_pyNext_list_item st p.isList (x:=u) (by simpa using hu) λh' st' sb=>?_;have I1:Inv X pins σ H { s with heap:=h' }:=I.turned (t':=s.toks) (λb o hb e=>(sb.2 b hb).trans e) f0 f1 f3 f4 f5;obtain⟨o,e,c,d⟩:=id st'
  exact⟨u,rfl,DL (s:={ s with heap:=h' }) e c d (by decide) ⟨x,H,I1,ru,⟨rfl,λys hy=>by rw [I.list_inj hy hq];exact hx⟩,st',λb hb=>(hf b hb).1⟩⟩
 done:=by
  intro X hP hw hK hc i pins s σ H E I hf st hg;subst hP hw hK;obtain⟨xs,hq,hx⟩:=hg;obtain⟨its,rv,p,hz⟩:=I.list hq;obtain⟨f0,f1,f2,f3,f4,f5⟩:=hf it (by simp);have hl:=rv.length;exact wpAny_pyNext_list_end (I.ok.hd hc) st p.isList (by simp;omega) λh' eb=>⟨rfl,I.turned (t':=s.toks) (λb o hb e=>eb b o hb e) f0 f1 f3 f4 f5⟩
 self:=λ_ _ _ _ _ st h=>wpAny_pyIter_listiter st h
def xI{P:t_}(a it:Addr):DK P w K tg (Itt K a) [it] it (λi h=>h.IsTupleIter it a i) where
 mem:=by simp
 obj:=λi h st b hb=>by
  have e:b=it:=by simpa using hb
  subst e;obtain⟨o,e,c,d⟩:=st;exact⟨o,e,λv z=>by rw [d] at z;cases z⟩
 keep:=λi h h' st k=>st.at λo e=>k it (by simp) o e
 item:=by
  intro X hP hw hK hc i pins s σ H E I hf st hg;subst hP hw hK;obtain⟨xs,x,hq,hx⟩:=hg;obtain⟨its,rv,p,hz⟩:=I.tuple hq;obtain⟨u,hu,ru⟩:=rv.get hx;obtain⟨f0,f1,f2,f3,f4,f5⟩:=hf it (by simp);refine wpAny_pyNext_tuple_item st (show s.heap.IsTuple a its.toArray from p) (x:=u) (by simpa using hu) λh' st' sb=>?_;have I1:Inv X pins σ H { s with heap:=h' }:=I.turned (t':=s.toks) (λb o hb e=>(sb.2 b hb).trans e) f0 f1 f3 f4 f5
  obtain⟨o,e,c,d⟩:=id st';exact⟨u,rfl,DL (s:={ s with heap:=h' }) e c d (by decide) ⟨x,H,I1,ru,⟨rfl,λys hy=>by rw [I.tuple_inj hy hq];exact hx⟩,st',λb hb=>(hf b hb).1⟩⟩
 done:=by
  intro X hP hw hK hc i pins s σ H E I hf st hg;subst hP hw hK;obtain⟨xs,hq,hx⟩:=hg;obtain⟨its,rv,p,hz⟩:=I.tuple hq;obtain⟨f0,f1,f2,f3,f4,f5⟩:=hf it (by simp);have hl:=rv.length;exact wpAny_pyNext_tuple_end (I.ok.hd hc) st (show s.heap.IsTuple a its.toArray from p) (by simp;omega) λh' eb=>⟨rfl,I.turned (t':=s.toks) (λb o hb e=>eb b o hb e) f0 f1 f3 f4 f5⟩
 self:=λ_ _ _ _ _ st h=>wpAny_pyIter_tupleiter st h
def xJ{P:t_}(it:Addr)(lo:Int)(n:Nat):DK P w K tg (Itr lo n) [it] it (λi h=>IsRangeIter h it (lo+(i:Nat)*1) ((n:Int) - (i:Nat)) 1) where
 mem:=by simp
 obj:=λi h st b hb=>by
  have e:b=it:=by simpa using hb
  subst e
  exact⟨_,st,λv z=>by
   have z':Data.fields _=Data.cell v:=z;cases z'⟩
 keep:=λi h h' st k=>k it (by simp) _ st
 item:=by
  intro X hP hw hK hc i pins s σ H E I hf st hg;subst hP hw hK;obtain⟨f0,f1,f2,f3,f4,f5⟩:=hf it (by simp);have W:=Walks.range (prog:=X.prog) (w:=X.w) (I.ok.hd hc) it lo 1 n;refine W.item i s _ _ hg st λv h' tk hv st' kk=>?_;obtain⟨t,rfl⟩:=hv;have I1:Inv X pins σ H { s with heap:=h',toks:=tk }:=I.turned (λb o hb e=>kk b o (by simpa using hb) e) f0 f1 f3 f4 f5;refine⟨_,rfl,DL (s:={ s with heap:=h',toks:=tk }) (n:="range_iterator") st' rfl rfl (by decide) ⟨.int (lo+i),H,I1,⟨t,?_⟩,⟨rfl,rfl⟩,st',λb hb=>(hf b hb).1⟩⟩
  rw [Int.mul_one]
 done:=by
  intro X hP hw hK hc i pins s σ H E I hf st hg;subst hP hw hK;obtain⟨f0,f1,f2,f3,f4,f5⟩:=hf it (by simp);exact wpAny_pyNext_range_end (I.ok.hd hc) st (by have:n<=i:=hg;omega) λh' eb=>⟨rfl,I.turned (t':=s.toks) (λb o hb e=>eb b o hb e) f0 f1 f3 f4 f5⟩
 self:=λ_ _ _ _ _ st h=>wpAny_pyIter_rangeiter st h
def Bp{R:It->Hp->Prop}{lo hi:Int}{t u v:Tok}{tk:Nat}(I:Inv X pins σ H s)(h1:-(2^62)<=lo)(h2:lo<2^62)(h3:-(2^62)<=hi)(h4:hi<2^62)(q:R (Itr lo (hi - lo).toNat) H):wpAny (model X.prog X.w) X.A (pyIter (.ref s.heap.objs.size)) (PIE X pins σ tg R) E { s with heap:=s.heap.push { cls:=.type "range",data:=.fields #[.int lo t,.int hi u,.int 1 v] },toks:=tk }:=by
 refine wpAny_pyIter_range (IsRange.new ..) (small_one h1 h2 h3 h4) ?_;have I1:Inv X pins σ H { s with heap:=s.heap.push { cls:=.type "range",data:=.fields #[.int lo t,.int hi u,.int 1 v] },toks:=tk }:=I.kept λb o e=>d_ _ e
 refine⟨(s.heap.push { cls:=.type "range",data:=.fields #[.int lo t,.int hi u,.int 1 v] }).objs.size,[(s.heap.push { cls:=.type "range",data:=.fields #[.int lo t,.int hi u,.int 1 v] }).objs.size],_,_,H,rfl,
  I1.kept (t':=tk) λb o e=>d_ _ e,xJ _ lo (hi - lo).toNat,?_,λb hb=>?_,q⟩
 .have e1:lo+((0:Nat):Int)*1=lo:=by simp
  have e2:(((hi - lo).toNat:Nat):Int) - ((0:Nat):Int)=L1 lo hi 1:=by rw [rangeSize_one];split <;> omega
  show IsRangeIter _ _ (lo+((0:Nat):Int)*1) ((((hi - lo).toNat:Nat):Int) - ((0:Nat):Int)) 1;rw [e1,e2];exact g_ _ rfl
 .have e:b=(s.heap.push { cls:=.type "range",data:=.fields #[.int lo t,.int hi u,.int 1 v] }).objs.size:=by simpa using hb
  subst e;exact I1.fpOk (gV _) (I1.hok.fresh (gV _))
noncomputable def su(ta:TA):TI:=λσ H R=>ta σ H λvs H1=>∃j:Int,vs=[.int j]/\-(2^62)<=j/\j<2^62/\R (Itr 0 j.toNat) H1
def de{a:Expr}{ta:TA}{p:Pos}(hg:Gl X "range")(hm:X.mg "range"=none)(ha:PA X [a] ta)(hs:starEach [a] X.env=[(false,eval a X.env)]:=by rfl):PI X tg (.Call (.Name "range" p) [a] [] pos) (su ta):=by
 intro pins s σ H R I h;refine Call_ (jd I hg hm boot_range (LF (thn (ha pos pins s σ H _ I h) λus s1 ⟨vs,H1,I1,r1,q1⟩=>?_) hs rfl));obtain⟨j,e,q1,q2,q⟩:=q1;subst e
 cases r1 with
 | cons r rr =>
  cases rr;obtain⟨t,rfl⟩:=r;exact call_range_1 (Bp I1 (by omega) (by omega) q1 q2 (by simpa using q))
noncomputable def Kp(wi:TI)(g:TG)(tb:TS):TS:=λD σ H=>wi σ H λJ H1=>∃W:Nat->Nat->St->Hp->Prop,(∃m,W 0 m σ H1)/\∀i m σ H,W i m σ H ->
 (J.stop i H/\D.nx σ H)\/(J.go i H/\∃N:St->Hp->Prop,(∀σ' H',N σ' H'->∃m',m'<m/\W (i+1) m' σ' H')/\∀x H',J.yld i H x H'->g x σ H' λσ2 H2=>tb { D with nx:=N,ct:=N,bk:=D.nx } σ2 H2)
noncomputable def mX(fp:List Addr)(h:Heap):List (Addr×Obj):=fp.filterMap λb=>(h.get? b).map λo=>(b,o)
def cY{fp:List Addr}{b:Addr}{o:Obj}(hb:b∈fp)(e:h.get? b=some o):(b,o)∈mX fp h:=MO.mpr ⟨b,hb,by rw [e];rfl⟩
def yU{fp:List Addr}{p:Addr×Obj}(hp:p∈mX fp h):p.1∈fp/\h.get? p.1=some p.2:=by
 obtain⟨b,hb,e⟩:=MO.mp hp
 cases q:h.get? b with
 | none=>rw [q] at e;cases e
 | some o =>
  rw [q] at e;have e':(b,o)=p:=q_ e;subst e';exact⟨hb,q⟩
def Inv.pinned{fp:List Addr}(I:Inv X pins σ H s)(hf:∀b∈fp,uQ X pins H b)(ho:∀b∈fp,∃o,s.heap.get? b=some o/\∀v,o.data≠.cell v):Inv X (pins++mX fp s.heap) σ H s :=
 I.pins_of λp hp=>(MA.mp hp).elim (λz=>I.pin p (u_ _ z)) λz=>by
  obtain⟨hb,e⟩:=yU z;obtain⟨f0,f1,f2,_⟩:=hf p.1 hb;obtain⟨o,e',d⟩:=ho p.1 hb;rw [e] at e';cases e';exact⟨e,f0,f1,f2,d⟩
def Inv.unpinned{pl:List (Addr×Obj)}(I:Inv X (pins++pl) σ H s):Inv X pins σ H s:=I.pins_of λp hp=>I.pin p (u_ _ (M2 _ hp))
def eC{iter:Expr}{body:List Stmt}{wi:TI}{tb:TS}(hp:PassesOwn (model X.prog X.w) X.A X.env X.xe)(hc:X.calm=true)(hi:PI X tg iter wi)(hg:PG X tg g)(hb:PSs X body tb)(hs:∀x,foldedSetIterable iter X.env x=pure x:=by intro _;rfl):PS X (.For tg iter body [] pos) (Kp wi g tb):=by
 intro pins s σ H D I h;refine wpAny_For (thn (hi pins s σ H _ I h) λv s1 h1=>thn h1 λitv s2 h2=>?_) hs;obtain⟨it,fp,tn,J,H2,e,I2,T,st2,f2,W,⟨m0,w0⟩,turn⟩:=h2;subst e
 -- what stays true of the iterator's objects through the loop
 have stat:∀{H':Hp},(∀b∈fp,H' b=none)->∀b∈fp,uQ X pins H' b:=λhn b hb=>⟨hn b hb,(f2 b hb).2⟩
 refine codeAny_forLoop_any (λn s'=>∃i σ' H',Inv X pins σ' H' s'/\tn i s'.heap/\(∀b∈fp,H' b=none)/\W i n σ' H') ?_ m0 ⟨0,σ,H2,I2,st2,λb hb=>(f2 b hb).1,w0⟩;rintro n s3 ⟨i,σ3,H3,I3,st3,fr3,w3⟩
 rcases turn i n σ3 H3 w3 with ⟨stop,qn⟩|⟨go,N,hN,step⟩
 .refine MH hp (thn (T.done X rfl rfl rfl hc i pins s3 σ3 H3 X.xe I3 (stat fr3) st3 stop) λr s4 ⟨hr,I4⟩=>?_);subst hr;exact NV ⟨σ3,H3,I4,qn⟩
 .refine MH hp (thn (T.item X rfl rfl rfl hc i pins s3 σ3 H3 X.xe I3 (stat fr3) st3 go) λr s4 ⟨u,hr,h4⟩=>?_);subst hr;refine MH hp (thn h4 λ_ s5 ⟨x,H5,I5,r5,y5,st5,fr5⟩=>?_);have I5':=I5.pinned (stat fr5) (T.obj _ _ st5);refine MH hp (thn (hg _ s5 σ3 H5 x u _ I5' r5 (step x H5 y5)) λ_ s6 ⟨σ6,H6,I6,q6⟩=>?_);refine MH hp (thn (hb _ s6 σ6 H6 _ I6 q6) λf s7 q7=>?_)
  have again:∀{σ7:St}{H7:Hp},Inv X (pins++mX fp s5.heap) σ7 H7 s7->N σ7 H7->∃m,m<n/\∃i σ' H',Inv X pins σ' H' s7/\tn i s7.heap/\(∀b∈fp,H' b=none)/\W i m σ' H':=λ{σ7 H7} I7 n7=>by
   obtain⟨m',hm,w7⟩:=hN σ7 H7 n7;refine⟨m',hm,i+1,σ7,H7,I7.unpinned,T.keep _ _ _ st5 λb hb o e=>(I7.pin (b,o) (u_ _ (u_ _ (cY hb e)))).1,λb hb=>?_,w7⟩;obtain⟨o,e,d⟩:=T.obj _ _ st5 b hb;exact (I7.pin (b,o) (u_ _ (u_ _ (cY hb e)))).2.1
  cases f with
  | next=>obtain⟨σ7,H7,I7,n7⟩:=q7;exact again I7 n7
  | cont=>obtain⟨σ7,H7,I7,n7⟩:=q7;exact again I7 n7
  | brk=>obtain⟨σ7,H7,I7,q7⟩:=q7;exact⟨σ7,H7,I7.unpinned,q7⟩
  | ret v=>obtain⟨x7,σ7,H7,I7,r7,q7⟩:=q7;exact⟨x7,σ7,H7,I7.unpinned,r7,q7⟩
abbrev R2:=V->V->Hp->VK->Prop
noncomputable def OpR(X:Cx)(f:Value->Value->Sem Value)(r:R2):Prop :=
 ∀(pins:List (Addr×Obj)) (s:c_) (σ:St) (H:Hp) (x y:V) (v u:Value) (Q:VK),Inv X pins σ H s->c9 x v->c9 y u->r x y H Q ->
  wpAny (model X.prog X.w) X.A (f v u) (EP X pins σ Q) X.xe s
noncomputable def UnR(X:Cx)(f:Value->Sem Value)(r:V->Hp->VK->Prop):Prop :=
 ∀(pins:List (Addr×Obj)) (s:c_) (σ:St) (H:Hp) (x:V) (v:Value) (Q:VK),Inv X pins σ H s->c9 x v->r x H Q ->
  wpAny (model X.prog X.w) X.A (f v) (EP X pins σ Q) X.xe s
noncomputable def bJ(X:Cx)(f:Value)(r:List V->Hp->VK->Prop):Prop :=
 ∀(pins:List (Addr×Obj)) (s:c_) (σ:St) (H:Hp) (xs:List V) (us:List Value) (Q:VK),Inv X pins σ H s->bK xs us->r xs H Q ->
  wpAny (model X.prog X.w) X.A (call f us) (EP X pins σ Q) X.xe s
noncomputable def K9(X:Cx)(r:V->Hp->(Bool->Hp->Prop)->Prop):Prop :=
 ∀(pins:List (Addr×Obj)) (s:c_) (σ:St) (H:Hp) (x:V) (v:Value) (Q:Bool->Hp->Prop),Inv X pins σ H s->c9 x v->r x H Q ->
  wpAny (model X.prog X.w) X.A (truthy v) (TP X pins σ Q) X.xe s
noncomputable def tOp(r:R2)(ta tb:TE):TE:=λσ H Q=>ta σ H λx H1=>tb σ H1 λy H2=>r x y H2 Q
noncomputable def tUn(r:V->Hp->VK->Prop)(ta:TE):TE:=λσ H Q=>ta σ H λx H1=>r x H1 Q
noncomputable def rI(C:Int->Int->Prop)(g:Int->Int->V):R2:=λx y H Q=>∃i j,x=.int i/\y=.int j/\C i j/\Q (g i j) H
noncomputable def rI0(g:Int->Int->V):R2:=λx y H Q=>∃i j,x=.int i/\y=.int j/\Q (g i j) H
noncomputable def rU(g:Int->V):V->Hp->VK->Prop:=λx H Q=>∃i,x=.int i/\Q (g i) H
variable {a:Expr}
def IY(ha:PE X a ta)(hb:PE X b tb){R:V->V->Hp->Prop}(I:Inv X pins σ H s)(h:ta σ H λx H1=>tb σ H1 λy H2=>R x y H2){f:Value->Value->Sem Value}(hf:∀v u s2 x y H2,Inv X pins σ H2 s2->c9 x v->c9 y u->R x y H2->wpAny (model X.prog X.w) X.A (f v u) Q X.xe s2):
  wpAny (model X.prog X.w) X.A (eval a X.env) (λv s₁=>wpAny (model X.prog X.w) X.A (eval b X.env) (λu s₂=>wpAny (model X.prog X.w) X.A (f v u) Q X.xe s₂) X.xe s₁) X.xe s:=by
 refine thn (ha pins s σ H _ I h) λv s1 ⟨x,H1,I1,r1,q1⟩=>?_;refine thn (hb pins s1 σ H1 _ I1 q1) λu s2 ⟨y,H2,I2,r2,q2⟩=>?_;exact hf v u s2 x y H2 I2 r1 r2 q2
variable {r:R2}
def bc{op:Operator}(ho:OpR X (binaryOp op) r)(ha:PE X a ta)(hb:PE X b tb):PE X (.BinOp a op b pos) (tOp r ta tb):=by
 intro pins s σ H Q I h;exact wpAny_BinOp (IY ha hb I h λv u s2 x y H2 I2 rx ry q=>ho pins s2 σ H2 x y v u Q I2 rx ry q)
def yV{op:UnaryOp}{r:V->Hp->VK->Prop}(ho:UnR X (unaryOp op) r)(ha:PE X a ta):PE X (.UnaryOp op a pos) (tUn r ta):=by
 intro pins s σ H Q I h;exact UnaryOp_ (thn (ha pins s σ H _ I h) λv s1 ⟨x,H1,I1,r1,q1⟩=>ho pins s1 σ H1 x v Q I1 r1 q1)
def opI{f:Value->Value->Sem Value}{C:Int->Int->Prop}{g:Int->Int->Int}(rule:∀(i j:Int) (t u:Tok) (s:c_) (Q:Value->c_->Prop) (E:Value->c_->Prop),C i j->Q (.int (g i j) s.toks) { s with toks:=s.toks+1 }->wpAny (model X.prog X.w) X.A (f (.int i t) (.int j u)) Q E s):
  OpR X f (rI C λi j=>.int (g i j)):=by
 intro pins s σ H x y v u Q I rx ry h;obtain⟨i,j,rfl,rfl,hc,q⟩:=h;obtain⟨t,rfl⟩:=rx;obtain⟨t',rfl⟩:=ry;exact rule i j t t' s _ _ hc ⟨.int (g i j),H,I.tok _,⟨_,rfl⟩,q⟩
def ID{f:Value->Value->Sem Value}{g:Int->Int->Int}(rule:∀(i j:Int) (t u:Tok) (s:c_) (Q:Value->c_->Prop) (E:Value->c_->Prop),Q (.int (g i j) s.toks) { s with toks:=s.toks+1 }->wpAny (model X.prog X.w) X.A (f (.int i t) (.int j u)) Q E s):
  OpR X f (rI0 λi j=>.int (g i j)):=by
 intro pins s σ H x y v u Q I rx ry h;obtain⟨i,j,rfl,rfl,q⟩:=h;obtain⟨t,rfl⟩:=rx;obtain⟨t',rfl⟩:=ry;exact rule i j t t' s _ _ ⟨.int (g i j),H,I.tok _,⟨_,rfl⟩,q⟩
def FA{f:Value->Value->Sem Value}{g:Int->Int->Bool}(rule:∀(i j:Int) (t u:Tok) (s:c_) (Q:Value->c_->Prop) (E:Value->c_->Prop),Q (.bool (g i j)) s->wpAny (model X.prog X.w) X.A (f (.int i t) (.int j u)) Q E s):
  OpR X f (rI0 λi j=>.bl (g i j)):=by
 intro pins s σ H x y v u Q I rx ry h;obtain⟨i,j,rfl,rfl,q⟩:=h;obtain⟨t,rfl⟩:=rx;obtain⟨t',rfl⟩:=ry;exact rule i j t t' s _ _ ⟨.bl (g i j),H,I,rfl,q⟩
noncomputable def IZ(i j:Int):Prop:=0<j/\j<1073741824
noncomputable def Kq(i j:Int):Prop:=0<=j/\j<=1000000/\i.natAbs<2^64
noncomputable def IE(i j:Int):Prop:=(-(2^64)<i/\i<2^64)\/(-(2^64)<j/\j<2^64)
def IE.ok{i j:Int}(h:IE i j):IntMulOk i j:=by
 rcases h with ⟨h1,h2⟩|⟨h1,h2⟩
 .exact .of_left (intBits_le_64 h1 h2)
 .exact .of_right (intBits_le_64 h1 h2)
def xK(k:Nat):(0:Int)<=2^k:=by
 rw [two_pow_cast];exact natCast_nonneg _
def Gi:OpR X (binaryOp .Add) (rI0 λi j=>.int (i+j)):=ID λ_ _ _ _ _ _ _ q=>add_int q
def Gj:OpR X (binaryOp .Sub) (rI0 λi j=>.int (i - j)):=ID λ_ _ _ _ _ _ _ q=>sub_int q
def Gk:OpR X (binaryOp .Mult) (rI IE λi j=>.int (i*j)):=opI λ_ _ _ _ _ _ _ hc q=>mul_int q hc.ok
def DM:OpR X (binaryOp .FloorDiv) (rI IZ λi j=>.int (i / j)):=opI λi j _ _ _ _ _ hc q=>by
 have h1:(0:Int)<j:=hc.1;have h2:j<1073741824:=hc.2;exact floordiv_int (by omega) (by rw [fdiv_eq_ediv_of_nonneg i (by omega)];exact q) (.inl (OC (by omega)))
def Gm:OpR X (binaryOp .Mod) (rI (λ_ j=>0<j) λi j=>.int (i % j)):=opI λi j _ _ _ _ _ hc q=>by
 have h1:(0:Int)<j:=hc;exact mod_int' (by omega) (by rw [fmod_eq_emod_of_nonneg i (by omega)];exact q)
def Gn:OpR X (binaryOp .LShift) (rI Kq λi j=>.int (i*2^j.toNat)):=opI λ_ _ _ _ _ _ _ hc q=>lshift_int_small hc.1 hc.2.1 hc.2.2 q
def Go:OpR X (binaryOp .RShift) (rI (λ_ j=>0<=j) λi j=>.int (i / 2^j.toNat)):=opI λi j _ _ _ _ _ hc q =>
 rshift_int hc (by rw [fdiv_eq_ediv_of_nonneg i (xK _)];exact q)
def Gp:OpR X (binaryOp .BitAnd) (rI0 λi j=>.int (MY i j)):=ID λ_ _ _ _ _ _ _ q=>and_int q
def DN:OpR X (inplaceOp .Add) (rI0 λi j=>.int (i+j)):=ID λ_ _ _ _ _ _ _ q=>iadd_int q
def unI{f:Value->Sem Value}{g:Int->Int}(rule:∀(i:Int) (t:Tok) (s:c_) (Q:Value->c_->Prop) (E:Value->c_->Prop),Q (.int (g i) s.toks) { s with toks:=s.toks+1 }->wpAny (model X.prog X.w) X.A (f (.int i t)) Q E s):
  UnR X f (rU λi=>.int (g i)):=by
 intro pins s σ H x v Q I rx h;obtain⟨i,rfl,q⟩:=h;obtain⟨t,rfl⟩:=rx;exact rule i t s _ _ ⟨.int (g i),H,I.tok _,⟨_,rfl⟩,q⟩
def sv:UnR X (unaryOp .USub) (rU λi=>.int (-i)):=unI λ_ _ _ _ _ q=>neg_int q
noncomputable def Kr:V->V->Bool
 | .non,.non=>true|.non,.int _=>true|.int _,.non=>true|.non,.bl _=>true|.bl _,.non=>true|.non,.str _=>true|.str _,.non=>true
 | .int _,.int _=>true|.bl _,.bl _=>true|.str _,.str _=>true|.byt _,.byt _=>true
 | .int _,.str _=>true|.str _,.int _=>true|.bl _,.str _=>true|.str _,.bl _=>true
 | _,_=>false
noncomputable def rEq:R2:=λx y H Q=>Kr x y=true/\Q (.bl (decide (x=y))) H
noncomputable def rNe:R2:=λx y H Q=>Kr x y=true/\Q (.bl (!decide (x=y))) H
def yW{i j:Int}:decide (V.int i=V.int j)=(i == j):=by
 rw [MI];simp
def CC{i j:Bool}:decide (V.bl i=V.bl j)=(i == j):=by
 rw [MI];simp
def yX{i j:Str}:decide (V.str i=V.str j)=(i == j):=by
 rw [MI];simp
def yY{i j:Array UInt8}:decide (V.byt i=V.byt j)=(i.toList == j.toList):=by
 rw [MI];cases i;cases j;simp
def bD{Q:VK}{k k':Bool}(I:Inv X pins σ H s)(q:Q (.bl k) H)(e:k=k'):EP X pins σ Q (.bool k') s:=by
 subst e;exact⟨.bl k,H,I,rfl,q⟩
def I0:OpR X (compareOp .Eq) rEq:=by
 intro pins s σ H x y v u Q I rx ry h;obtain⟨hs,q⟩:=h
 cases x with
 | non =>
  cases rx
  cases y with
  | non=>cases ry;exact PySem.EqNone.eq_none_none (bD I q (by simp))
  | bl j=>cases ry;exact PySem.EqNone.eq_none_bool (bD I q (by simp))
  | int j=>obtain⟨t',rfl⟩:=ry;exact PySem.EqNone.eq_none_int (bD I q (by simp))
  | str j=>obtain⟨t',rfl⟩:=ry;exact PySem.EqNone.eq_none_str (bD I q (by simp))
  | _=>exact absurd (show false=true from hs) k_
 | bl i =>
  cases rx
  cases y with
  | non=>cases ry;exact PySem.EqNone.eq_bool_none (bD I q (by simp))
  | bl j=>cases ry;exact eq_bool (bD I q CC)
  | str j=>obtain⟨t',rfl⟩:=ry;exact PySem.EqMixed.eq_bool_str (bD I q (by simp))
  | _=>exact absurd (show false=true from hs) k_
 | int i =>
  obtain⟨t,rfl⟩:=rx
  cases y with
  | non=>cases ry;exact PySem.EqNone.eq_int_none (bD I q (by simp))
  | int j=>obtain⟨t',rfl⟩:=ry;exact eq_int (bD I q yW)
  | str j=>obtain⟨t',rfl⟩:=ry;exact PySem.EqMixed.eq_int_str (bD I q (by simp))
  | _=>exact absurd (show false=true from hs) k_
 | str i =>
  obtain⟨t,rfl⟩:=rx
  cases y with
  | non=>cases ry;exact PySem.EqNone.eq_str_none (bD I q (by simp))
  | bl j=>cases ry;exact PySem.EqMixed.eq_str_bool (bD I q (by simp))
  | int j=>obtain⟨t',rfl⟩:=ry;exact PySem.EqMixed.eq_str_int (bD I q (by simp))
  | str j=>obtain⟨t',rfl⟩:=ry;exact eq_str (bD I q yX)
  | _=>exact absurd (show false=true from hs) k_
 | byt i =>
  obtain⟨t,rfl⟩:=rx
  cases y with
  | byt j=>obtain⟨t',rfl⟩:=ry;exact PySem.W.eq_bytes (bD I q yY)
  | _=>exact absurd (show false=true from hs) k_
 | _=>cases y <;> exact absurd (show false=true from hs) k_
def Ja:OpR X (compareOp .NotEq) rNe:=by
 intro pins s σ H x y v u Q I rx ry h;obtain⟨hs,q⟩:=h
 cases x with
 | non =>
  cases rx
  cases y with
  | non=>cases ry;exact PySem.EqNone.ne_none_none (bD I q (by simp))
  | bl j=>cases ry;exact PySem.EqNone.ne_none_bool (bD I q (by simp))
  | int j=>obtain⟨t',rfl⟩:=ry;exact PySem.EqNone.ne_none_int (bD I q (by simp))
  | str j=>obtain⟨t',rfl⟩:=ry;exact PySem.EqNone.ne_none_str (bD I q (by simp))
  | _=>exact absurd (show false=true from hs) k_
 | bl i =>
  cases rx
  cases y with
  | non=>cases ry;exact PySem.EqNone.ne_bool_none (bD I q (by simp))
  | bl j=>cases ry;exact ne_bool (bD I q (congrArg not CC))
  | str j=>obtain⟨t',rfl⟩:=ry;exact PySem.EqMixed.ne_bool_str (bD I q (by simp))
  | _=>exact absurd (show false=true from hs) k_
 | int i =>
  obtain⟨t,rfl⟩:=rx
  cases y with
  | non=>cases ry;exact PySem.EqNone.ne_int_none (bD I q (by simp))
  | int j=>obtain⟨t',rfl⟩:=ry;exact ne_int (bD I q (congrArg not yW))
  | str j=>obtain⟨t',rfl⟩:=ry;exact PySem.EqMixed.ne_int_str (bD I q (by simp))
  | _=>exact absurd (show false=true from hs) k_
 | str i =>
  obtain⟨t,rfl⟩:=rx
  cases y with
  | non=>cases ry;exact PySem.EqNone.ne_str_none (bD I q (by simp))
  | bl j=>cases ry;exact PySem.EqMixed.ne_str_bool (bD I q (by simp))
  | int j=>obtain⟨t',rfl⟩:=ry;exact PySem.EqMixed.ne_str_int (bD I q (by simp))
  | str j=>obtain⟨t',rfl⟩:=ry;exact ne_str (bD I q (congrArg not yX))
  | _=>exact absurd (show false=true from hs) k_
 | byt i =>
  obtain⟨t,rfl⟩:=rx
  cases y with
  | byt j=>obtain⟨t',rfl⟩:=ry;exact PySem.W.ne_bytes (bD I q (congrArg not yY))
  | _=>exact absurd (show false=true from hs) k_
 | _=>cases y <;> exact absurd (show false=true from hs) k_
def Jb:OpR X (compareOp .Lt) (rI0 λi j=>.bl (decide (i<j))):=FA λ_ _ _ _ _ _ _ q=>lt_int q
def Jc:OpR X (compareOp .LtE) (rI0 λi j=>.bl (decide (i<=j))):=FA λ_ _ _ _ _ _ _ q=>le_int q
def Jd:OpR X (compareOp .Gt) (rI0 λi j=>.bl (decide (j<i))):=FA λ_ _ _ _ _ _ _ q=>gt_int q
def Je:OpR X (compareOp .GtE) (rI0 λi j=>.bl (decide (j<=i))):=FA λ_ _ _ _ _ _ _ q=>ge_int q
def yZ:OpR X (compareOp .Lt) (λx y H Q=>∃i j,x=.str i/\y=.str j/\Q (.bl (decide (i.cps.toList<j.cps.toList))) H):=by
 intro pins s σ H x y v u Q I rx ry h;obtain⟨i,j,rfl,rfl,q⟩:=h;obtain⟨t,rfl⟩:=rx;obtain⟨t',rfl⟩:=ry;exact lt_str (bD I q rfl)
variable {r':R2}
def OpR.or{f:Value->Value->Sem Value}(h:OpR X f r)(h':OpR X f r'):OpR X f (λx y H Q=>r x y H Q\/r' x y H Q):=by
 intro pins s σ H x y v u Q I rx ry q
 rcases q with q|q
 .exact h pins s σ H x y v u Q I rx ry q
 .exact h' pins s σ H x y v u Q I rx ry q
variable {op:CmpOp}
def aN(b:Expr)(h:op≠.In:=by decide)(h2:op≠.NotIn:=by decide):behindInMarks op b=false:=by
 have e1:(op == CmpOp.In)=false:=by cases op <;> first|rfl|exact absurd rfl h
 have e2:(op == CmpOp.NotIn)=false:=by cases op <;> first|rfl|exact absurd rfl h2
 cases b <;> simp [behindInMarks,e1,e2]
def cQ(ho:OpR X (compareOp op) r)(ha:PE X a ta)(hb:PE X b tb)(hm:behindInMarks op b=false):PE X (.Compare a [op] [b] pos) (tOp r ta tb):=by
 intro pins s σ H Q I h;exact wpAny_Compare1 (IY ha hb I h λv u s2 x y H2 I2 rx ry q=>ho pins s2 σ H2 x y v u Q I2 rx ry q) hm
noncomputable def qG(t:TE):TT:=λσ H Q=>t σ H λx H'=>∃k,x=.bl k/\Q k H'
def aK(ho:OpR X (compareOp op) r)(ha:PE X a ta)(hb:PE X b tb)(hm:behindInMarks op b=false):PT X (.Compare a [op] [b] pos) (qG (tOp r ta tb)):=by
 intro pins s σ H Q I h
 refine wpAny_isTrue_Compare1 (thn (ha pins s σ H _ I h) λv s1 ⟨x,H1,I1,r1,q1⟩=>thn (hb pins s1 σ H1 _ I1 q1) λu s2 ⟨y,H2,I2,r2,q2⟩ =>
  thn (ho pins s2 σ H2 x y v u _ I2 r1 r2 q2) λc s3 ⟨z,H3,I3,r3,k,e,q3⟩=>?_) hm
 subst e;cases r3;exact J_ ⟨H3,I3,q3⟩
variable {tc:TE}
noncomputable def wM(r r':R2)(ta tb tc:TE):TE:=λσ H Q=>ta σ H λx H1=>tb σ H1 λy H2=>r x y H2 λz H3=>∃k,z=.bl k /\
 (if k=true then tc σ H3 λw' H4=>r' y w' H4 Q else Q (.bl false) H3)
variable {c:Expr}
def wN{op':CmpOp}(ho:OpR X (compareOp op) r)(ho':OpR X (compareOp op') r')(ha:PE X a ta)(hb:PE X b tb)(hc:PE X c tc)(hm:lastMarks [op,op'] [b,c]=false:=by with_unfolding_all rfl):PE X (.Compare a [op,op'] [b,c] pos) (wM r r' ta tb tc):=by
 intro pins s σ H Q I h
 refine Compare_chain (thn (ha pins s σ H _ I h) λv s1 ⟨x,H1,I1,r1,q1⟩=>chain_link (thn (hb pins s1 σ H1 _ I1 q1) λu s2 ⟨y,H2,I2,r2,q2⟩ =>
  thn (ho pins s2 σ H2 x y v u _ I2 r1 r2 q2) λd s3 ⟨z,H3,I3,r3,k,e,q3⟩=>?_)) hm
 subst e;cases r3;refine J_ ?_
 cases k with
 | false=>exact ite_ff ⟨.bl false,H3,I3,rfl,q3⟩
 | true=>exact ite_tt (chain_last (thn (hc pins s3 σ H3 _ I3 q3) λw' s4 ⟨z',H4,I4,r4,q4⟩=>ho' pins s4 σ H4 y z' u w' Q I4 r2 r4 q4))
def Bq{op':CmpOp}(ho:OpR X (compareOp op) r)(ho':OpR X (compareOp op') r')(ha:PE X a ta)(hb:PE X b tb)(hc:PE X c tc)(hm:lastMarks [op,op'] [b,c]=false:=by with_unfolding_all rfl):PT X (.Compare a [op,op'] [b,c] pos) (qG (wM r r' ta tb tc)):=by
 intro pins s σ H Q I h
 refine isTrue_chain (thn (ha pins s σ H _ I h) λv s1 ⟨x,H1,I1,r1,q1⟩=>test_link (thn (hb pins s1 σ H1 _ I1 q1) λu s2 ⟨y,H2,I2,r2,q2⟩ =>
  thn (ho pins s2 σ H2 x y v u _ I2 r1 r2 q2) λd s3 ⟨z,H3,I3,r3,k,e,q3⟩=>?_)) hm
 subst e;cases r3;refine J_ ?_
 cases k with
 | false =>
  obtain⟨k',e',q'⟩:=q3;cases e';exact ite_ff ⟨H3,I3,q'⟩
 | true =>
  refine ite_tt (test_last (thn (hc pins s3 σ H3 _ I3 q3) λw' s4 ⟨z',H4,I4,r4,q4⟩=>thn (ho' pins s4 σ H4 y z' u w' _ I4 r2 r4 q4) λd' s5 ⟨z2,H5,I5,r5,k2,e2,q5⟩=>?_));subst e2;cases r5;exact J_ ⟨H5,I5,q5⟩
noncomputable def IF(K:b_)(x:V)(H:Hp)(k:Bool):Prop :=
 match x with
 | .non=>k=false
 | .bl b=>k=b
 | .int i=>k=(i != 0)
 | .str y=>y.length<=sizeLine/\k=((y.length:Int) != 0)
 | .byt y=>y.size<=sizeLine/\k=((y.size:Int) != 0)
 | .ref p=>(∃xs,SqL K H p xs/\k=!xs.isEmpty)\/(∃xs,SqT K H p xs/\k=!xs.isEmpty)\/∃kvs,H p=some (.dK kvs)/\k=!kvs.isEmpty
 | _=>False
def xL{κ:Type}{kvs:List (κ×V)}{vs:List (κ×Value)}(r:KV kvs vs):(!vs.isEmpty)=!kvs.isEmpty:=by
 cases r <;> rfl
variable {its:List Value}
def pZ(r:bK xs its):(!its.toArray.isEmpty)=!xs.isEmpty:=by
 cases r <;> simp
def mY:(sizeLine:Nat)<2^63:=by rw [Md];decide
def CD:K9 X (λx H Q=>∃k,IF X.K x H k/\Q k H):=by
 intro pins s σ H x v Q I rx h;obtain⟨k,e,q⟩:=h;have hl:=mY;have hs:sizeLine=16777216:=Md
 cases x with
 | non =>
  cases rx;have e':k=false:=e;subst e';exact truthy_none ⟨H,I,q⟩
 | bl b =>
  cases rx;have e':k=b:=e;subst e';exact J_ ⟨H,I,q⟩
 | int i =>
  obtain⟨t,rfl⟩:=rx;have e':k=(i != 0):=e;subst e';exact PySem.P.truthy_int ⟨H,I,q⟩
 | str y =>
  obtain⟨t,rfl⟩:=rx;obtain⟨hy,e'⟩:y.length<=sizeLine/\k=((y.length:Int) != 0):=e;subst e';exact PySem.P.truthy_str (by omega) ⟨H,I.tok _,q⟩
 | byt y =>
  obtain⟨t,rfl⟩:=rx;obtain⟨hy,e'⟩:y.size<=sizeLine/\k=((y.size:Int) != 0):=e;subst e';exact PySem.W.truthy_bytes (by omega) ⟨H,I.tok _,q⟩
 | ref p =>
  cases rx;have e':(∃xs,SqL X.K H p xs/\k=!xs.isEmpty)\/(∃xs,SqT X.K H p xs/\k=!xs.isEmpty)\/∃kvs,H p=some (.dK kvs)/\k=!kvs.isEmpty:=e
  rcases e' with ⟨xs,hx,e'⟩|⟨xs,hx,e'⟩|⟨kvs,hx,e'⟩
  .subst e';obtain⟨its,r,pl,hz⟩:=I.list hx;have hlen:=r.length;exact wpAny_truthy_list pl.isList (by simp only [size_toArray];omega) ⟨H,I.tok _,by rw [pZ r];exact q⟩
  .subst e';obtain⟨its,r,pl,hz⟩:=I.tuple hx;have hlen:=r.length;exact truthy_tuple pl (by simp only [size_toArray];omega) ⟨H,I.tok _,by rw [pZ r];exact q⟩
  .subst e';obtain⟨hz,hS,vs,r,m⟩:kvs.length<=sizeLine/\(p == sysModules)=false/\∃vs,KV kvs vs/\s.heap.DictOf (qE X.prog X.w) p vs:=I.hok p _ hx;have hlen:kvs.length=vs.length:=Paired.length r;exact wpAny_truthy_dict hS m (by omega) ⟨H,I.tok _,by rw [xL r];exact q⟩
 | _=>exact (show False from e).elim
def Br(ha:PE X a ta)(he:∀whole,isTrue a X.env whole=(do let v <- whole;standAt a.pos;holding [v] (truthy v))):
  PT X a (λσ H Q=>ta σ H λx H'=>∃k,IF X.K x H' k/\Q k H'):=by
 intro pins s σ H Q I h;exact isTrue_plain (thn (ha pins s σ H _ I h) λv s1 ⟨x,H1,I1,r1,q1⟩=>CD pins s1 σ H1 x v Q I1 r1 q1) (he _)
def xM:OpR X (binaryOp .Add) (λx y H Q=>∃i j,x=.str i/\y=.str j/\i.length+j.length<=sizeLine/\Q (.str (i++j)) H):=by
 intro pins s σ H x y v u Q I rx ry h;obtain⟨i,j,rfl,rfl,hz,q⟩:=h;obtain⟨t,rfl⟩:=rx;obtain⟨t',rfl⟩:=ry;exact add_str (λt' tk=>⟨.str (i++j),H,I.tok _,⟨_,rfl⟩,q⟩) hz
def fJ{x:V}(r:bK [x] us):∃u,us=[u]/\c9 x u:=by
 cases r with
 | cons r1 r2=>cases r2;exact⟨_,rfl,r1⟩
def Bs{x:V}(r:bK [x,y] us):∃u w',us=[u,w']/\c9 x u/\c9 y w':=by
 cases r with
 | cons r1 r2 =>
  cases r2 with
  | cons r3 r4=>cases r4;exact⟨_,_,rfl,r1,r3⟩
def Bt:bJ X (.builtin "abs") (λxs H Q=>∃i,xs=[.int i]/\Q (.int (if i<0 then -i else i)) H):=by
 intro pins s σ H xs us Q I r h;obtain⟨i,rfl,q⟩:=h;obtain⟨u,rfl,t,rfl⟩:=fJ r;exact call_abs_int λu tk=>⟨.int (if i<0 then -i else i),H,I.tok _,⟨_,rfl⟩,q⟩
def y0(hc:X.calm=true):bJ X (.builtin "max") (λxs H Q=>∃i j,xs=[.int i,.int j]/\Q (.int (if j > i then j else i)) H):=by
 intro pins s σ H xs us Q I r h;obtain⟨i,j,rfl,q⟩:=h;obtain⟨u,w',rfl,⟨t,rfl⟩,⟨t',rfl⟩⟩:=Bs r;refine max_two_ints (I.ok.hd hc) λh' tk k=>⟨_,H,I.kept k,?_,q⟩
 by_cases hj:j > i
 .rw [if_pos hj,if_pos hj];exact⟨_,rfl⟩
 .rw [if_neg hj,if_neg hj];exact⟨_,rfl⟩
def y4(hc:X.calm=true):bJ X (.builtin "min") (λxs H Q=>∃i j,xs=[.int i,.int j]/\Q (.int (if j<i then j else i)) H):=by
 intro pins s σ H xs us Q I r h;obtain⟨i,j,rfl,q⟩:=h;obtain⟨u,w',rfl,⟨t,rfl⟩,⟨t',rfl⟩⟩:=Bs r;refine min_two_ints (I.ok.hd hc) λh' tk k=>⟨_,H,I.kept k,?_,q⟩
 by_cases hj:j<i
 .rw [if_pos hj,if_pos hj];exact⟨_,rfl⟩
 .rw [if_neg hj,if_neg hj];exact⟨_,rfl⟩
structure DO (h:Heap) (x dx C:Addr) (mA:Str->Option Value):Prop where
 obj:h.get? x=some (Mp C dx)
 ns:h.Ns1 dx mA
 ne:dx≠x
def y6{dx:Addr}{mA:Str->Option Value}(n:h.Ns1 dx mA):∃od,h.get? dx=some od/\∀name,Ob name od=some (mA name):=by
 obtain⟨o,es,ep,ho,hd,hk,_,hm⟩:=n;refine⟨o,ho,λname=>?_⟩;have e:=hm name;unfold nsFind findBy at e;rw [<- Array.find?_toList] at e;unfold Ob;rw [hd];dsimp only
 split
 .rename_i y q;rw [q] at e;exact congrArg some e
 .rename_i q;rw [q] at e
  have a:es.toList.any (·.refKey)=false:=by
   rw [any_eq_false];intro y hy;obtain⟨z,t,hkey⟩:=hk y (Array.mem_toList_iff.mp hy);simp [DictEntry.refKey,hkey]
  have a':¬ es.toList.any (·.refKey)=true:=by rw [a];exact k_
  rw [if_neg a'];exact congrArg some e
variable {C:Addr}
def DO.look{x dx:Addr}{mA:Str->Option Value}(I:DO h x dx C mA):∃od,PySem.W.InstAt h x (Mp C dx) C (some od)/\∀name,Ob name od=some (mA name) :=
 let ⟨od,ho,hl⟩:=y6 I.ns
 ⟨od,⟨I.obj,rfl,rfl,ho⟩,hl⟩
variable {prog:t_}{x dx:Addr}{mA:Str->Option Value}{name:Str}{v:Value}
def DP{expr:Bool}(X:K.In s.heap)(I:DO s.heap x dx C mA)(hg:Nc K C name=true)(hh:NB K C=true)(ha:pf K (.ref C) name=some none)(hv:mA name=some v)(hv':PySem.W.handedIn v=true)(h:Q v { s with toks:=s.toks+1 }):
  wpAny (model prog w) A (getAttr (.ref x) name expr) Q E s:=by
 obtain⟨od,J,hl⟩:=I.look;exact PySem.W.get_value X J (NY hg).1 (PySem.W.findObj_own hh ha rfl (by rw [hl,hv])) hv' h
variable {f:Addr}
def Bu{pl:Sem Bool}{Q:Value×List Value->c_->Prop}(X:K.In s.heap)(I:DO s.heap x dx C mA)(hg:Nc K C name=true)(hf:pf K (.ref C) name=some (some (.ref f)))(ht:N0 K (.ref f)=true)(hv:mA name=none)(h:Q (.ref f,[.ref x]) s):
  wpAny (model prog w) A (getMethod (.ref x) name pl) Q E s:=by
 obtain⟨od,J,hl⟩:=I.look;exact PySem.W.method_fn X J (NY hg).1 (NY hg).2 hf (beq_iff_eq.mp ht) (by show (Ob name od).map (·.isSome)=some false;rw [hl,hv];rfl) h
def DQ{ns:List Str}{Q:Unit->c_->Prop}(X:K.In s.heap)(I:DO s.heap x dx C mA)(hs:pf K (.ref C) "__setattr__"=some (some (.builtin "object.__setattr__")))(hp:Oj K C=true)(ht:OR K C name=some none)(hh:NB K C=true)(hw:Ph mA ns)(hsz:ns.length<=sizeLine)(h:∀h',DO h' x dx C (λy=>if y=name then some v else mA y)->NA dx s.heap h'->Q () { s with heap:=h',toks:=s.toks+2 }):
  wpAny (model prog w) A (setAttr (.ref x) name v) Q E s:=by
 obtain⟨od,J,hl⟩:=I.look;refine PySem.W.set_plain X J hs (PySem.W.osa_open (s:={ s with toks:=s.toks+1 }) (r:=none) X J hp ht λb=>?_);obtain⟨cd,hc,hd'⟩:=PySem.W.any_some hh;have hx:s.heap.get? x=some ⟨.ref C,some dx,.plain,#[]⟩:=I.obj;refine cn (f_ (cn (cn (wpAny_loadPart hx (cn (PySem.W.Looks.here (s:={ s with toks:=s.toks+1 }) (PySem.W.looks_clsIn X hc) ?_))))))
 rw [hd'];refine f_ (a:=some dx) (cn (f_ (cn ?_)));refine wpAny_nsSet1 (s:={ s with toks:=s.toks+1 }) I.ns λh' hn2 hs2=>?_;obtain⟨oD,esD,epD,hoD,hdD,hcD⟩:=hn2.count (PySem.Within.cons name v hw);refine cn (wpAny_lookBehind hoD (by rw [hdD];exact pastItsLine_dict (s_ hcD (by rw [length_cons];omega))) ?_);exact f_ (h _ ⟨(hs2.2 _ (MW I.ne)).trans I.obj,hn2,I.ne⟩ hs2)
def Bv{R:Result->c_->Prop}{vs:List Value}{kw:List (Str×Value)}(X:K.In s.heap)(hm:OS K C=true)(hi:pf K (.ref C) "__init__"=some (some (.ref f)))(hf:OZ K (.ref f)=some (.type "function"))(h:codeAny (model prog w) (A.under (.builtin "type.__call__" ⟨.ref C::vs,kw⟩)) (.call (.ref f) ⟨.ref (s.heap.objs.size+1)::vs,kw⟩) (PySem.W.InitBack (s.heap.objs.size+1) R)
   { s with heap:=(s.heap.push LV).push (Mp C s.heap.objs.size) }):
  codeAny (model prog w) A (.call (.ref C) ⟨vs,kw⟩) R s:=by
 obtain⟨hh,g,d,t,os⟩:=s;exact PySem.W.make_core (PySem.W.makes_of X hm) (PySem.W.looks_findIn X hi) (λself=>PySem.W.bind_fn X self hf) (.inl rfl) h
noncomputable def p5(f:Str)(v:V):List (Str×V)->List (Str×V)
 | []=>[(f,v)]
 | (g,x)::r=>if g=f then (g,v)::r else (g,x)::p5 f v r
theorem mZ(f g:Str)(v:V):∀fs:List (Str×V),(p5 f v fs).lookup g=if g=f then some v else fs.lookup g
 | []=>by
  show M9 g [(f,v)]=_
  by_cases h:g=f
  .have hb:(g == f)=true:=beq_iff_eq.mpr h;simp only [M9,hb,if_pos h]
  .have hb:(g == f)=false:=beq_eq_false_iff_ne.mpr h;simp only [M9,hb,if_neg h]
 | (k,x)::r=>by
  have ih:=mZ f g v r;rw [show p5 f v ((k,x)::r)=(if k=f then (k,v)::r else (k,x)::p5 f v r) from rfl]
  by_cases hk:k=f
  .rw [if_pos hk]
   by_cases h:g=k
   .have hb:(g == k)=true:=beq_iff_eq.mpr h;simp only [M9,hb,if_pos (h.trans hk)]
   .have hb:(g == k)=false:=beq_eq_false_iff_ne.mpr h;simp only [M9,hb,if_neg (λe:g=f=>h (e.trans hk.symm))]
  .rw [if_neg hk]
   by_cases h:g=k
   .have hb:(g == k)=true:=beq_iff_eq.mpr h;simp only [M9,hb,if_neg (λe:g=f=>hk (h.symm.trans e))]
   .have hb:(g == k)=false:=beq_eq_false_iff_ne.mpr h;simp only [M9,hb];exact ih
theorem m5(f:Str)(v:V):∀fs:List (Str×V),f∈(p5 f v fs).map (·.1)/\∀g,g∈fs.map (·.1)->g∈(p5 f v fs).map (·.1)
 | []=>⟨by simp [p5],λg h=>by simp at h⟩
 | (k,x)::r=>by
  obtain⟨i1,i2⟩:=m5 f v r;rw [show p5 f v ((k,x)::r)=(if k=f then (k,v)::r else (k,x)::p5 f v r) from rfl]
  by_cases hk:k=f
  .rw [if_pos hk];subst hk;exact⟨by simp,λg h=>by simpa using h⟩
  .rw [if_neg hk]
   refine⟨?_,λg h=>?_⟩
   .rw [map_cons];exact m_ _ i1
   .rw [map_cons] at h ⊢
    rcases A_.mp h with e|e
    .exact A_.mpr (.inl e)
    .exact m_ _ (i2 g e)
theorem m7(f:Str)(v:V):∀fs:List (Str×V),(p5 f v fs).length<=fs.length+1
 | []=>by simp [p5]
 | (k,x)::r=>by
  have ih:=m7 f v r;rw [show p5 f v ((k,x)::r)=(if k=f then (k,v)::r else (k,x)::p5 f v r) from rfl]
  by_cases hk:k=f
  .rw [if_pos hk,length_cons,length_cons];omega
  .rw [if_neg hk,length_cons,length_cons];omega
def Bk.some_of{v:V}{o:Option Value}(r:Bk (some v) o):∃u,o=some u/\c9 v u:=by
 cases o with
 | none=>exact (show False from r).elim
 | some u=>exact⟨u,rfl,r⟩
def Bk.none_of{o:Option Value}(r:Bk none o):o=none:=by
 cases o with
 | none=>rfl
 | some u=>exact (show False from r).elim
def y8{v:V}{u:Value}(r:c9 v u):PySem.W.handedIn u=true:=by
 cases v with
 | non=>cases (show u=L6 from r);rfl
 | bl b=>cases (show u=Mo b from r);rfl
 | int i=>obtain⟨t,e⟩:=(show ∃t,u=NL i t from r);cases e;rfl
 | str x=>obtain⟨t,e⟩:=(show ∃t,u=N8 x t from r);cases e;rfl
 | byt b=>obtain⟨t,e⟩:=(show ∃t,u=Value.bytes b t from r);cases e;rfl
 | flt b=>obtain⟨t,e⟩:=(show ∃t,u=OY b t from r);cases e;rfl
 | ref a=>cases (show u=l_ a from r);rfl
 | ty n=>cases (show u=Mz n from r);rfl
section
variable {P:t_}{a:Addr}{fs:List (Str×V)}
def m8(hok:HOk P w H h)(e:H a=some (.ins C dx fs)):∃mA,DO h a dx C mA/\(∀f,Bk (fs.lookup f) (mA f))/\Ph mA (fs.map (·.1))/\fs.length<=1000/\H dx=some (.own a):=by
 obtain⟨d,z,ne,ob,mA,n,r,q⟩:=(show cm P w H h a (.ins C dx fs) from hok a _ e)
 exact⟨mA,⟨ob,n,ne⟩,r,q,z,d⟩
end
structure Cls (K:b_) (C:Addr):Prop where
 pg:Nc K C Str.empty=true
 hd:NB K C=true
 po:Oj K C=true
 sa:pf K (.ref C) "__setattr__"=some (some (.builtin "object.__setattr__"))
def Cls.get(c:Cls K C)(f:Str):Nc K C f=true:=c.pg
noncomputable def eE(K:b_)(C:Addr)(f:Str):Prop:=pf K (.ref C) f=some none
def eE.taker{f:Str}(n:eE K C f):OR K C f=some none:=by
 unfold OR;rw [show pf K (.ref C) f=some none from n];rfl
structure IG (K:b_) (C:Addr) (m:Str) (f:Addr):Prop where
 at_:pf K (.ref C) m=some (some (.ref f))
 fn:N0 K (.ref f)=true
 kp:D_ K (.ref f)=true
section
variable {a:Addr}{fs:List (Str×V)}{f:Str}{v:V}
def xN{b:Bool}(I:Inv X pins σ H s)(e:H a=some (.ins C dx fs))(c:Cls X.K C)(n:eE X.K C f)(l:fs.lookup f=some v)(h:∀u s',Inv X pins σ H s'->c9 v u->Q u s'):wpAny (model X.prog X.w) A (getAttr (.ref a) f b) Q E s:=by
 obtain⟨mA,O,r,_,_,_⟩:=m8 I.hok e;obtain⟨u,hu,ru⟩:=Bk.some_of (v:=v) (o:=mA f) (by rw [<- l];exact r f);exact DP I.kIn O (c.get f) c.hd n hu (y8 ru) (h u _ (I.tok _) ru)
def xO{m:Str}{g:Addr}{pl:Sem Bool}{Q:Value×List Value->c_->Prop}(I:Inv X pins σ H s)(e:H a=some (.ins C dx fs))(c:Cls X.K C)(k:IG X.K C m g)(l:fs.lookup m=none)(h:Q (.ref g,[.ref a]) s):wpAny (model X.prog X.w) A (getMethod (.ref a) m pl) Q E s:=by
 obtain⟨mA,O,r,_,_,_⟩:=m8 I.hok e;have hn:mA m=none:=Bk.none_of (by rw [<- l];exact r m);exact Bu I.kIn O (c.get m) k.at_ k.fn hn h
def xP{u:Value}{Q:Unit->c_->Prop}(I:Inv X pins σ H s)(e:H a=some (.ins C dx fs))(c:Cls X.K C)(n:eE X.K C f)(hl:fs.length<1000)(ry:c9 y u)(h:∀s',Inv X pins σ (upd H a (.ins C dx (p5 f y fs))) s'->Q () s'):wpAny (model X.prog X.w) A (setAttr (.ref a) f u) Q E s:=by
 obtain⟨mA,O,r,wi,_,ho⟩:=m8 I.hok e;have hz:(fs.map (·.1)).length<=sizeLine:=by rw [length_map,Md];omega
 refine DQ I.kIn O c.sa c.po n.taker c.hd wi hz λh' O' sb=>h _ ?_;have hd:∃o,h'.get? dx=some o:=let ⟨o,_,_,e',_⟩:=O'.ns;⟨o,e'⟩
 refine I.write (x:=a) (e:=dx) (by rw [e];exact MB) (.inr ho) (λb q hb z=>(sb.2 b hb).trans z) hd ?_
 refine⟨by rw [aI O.ne];exact ho,?_,O.ne,O'.obj,_,O'.ns,λg=>?_,λg hg=>?_⟩
 .have:=m7 f y fs;omega
 .show Bk ((p5 f y fs).lookup g) (if g=f then some u else mA g);rw [mZ]
  by_cases q:g=f
  .rw [if_pos q,if_pos q];exact ry
  .rw [if_neg q,if_neg q];exact r g
 .by_cases q:g=f
  .rw [q];exact (m5 f y fs).1
  .refine (m5 f y fs).2 g (wi g λz=>hg ?_);show (if g=f then some u else mA g)=none;rw [if_neg q];exact z
def Inv.made(I:Inv X pins σ H s):Inv X pins σ (upd (upd H s.heap.objs.size (.own (s.heap.objs.size+1))) (s.heap.objs.size+1) (.ins C s.heap.objs.size []))
  { s with heap:=(s.heap.push LV).push (Mp C s.heap.objs.size) }:=by
 have e1:(s.heap.push LV).get? s.heap.objs.size=some LV:=g_ s.heap rfl
 have e2:((s.heap.push LV).push (Mp C s.heap.objs.size)).get? (s.heap.objs.size+1)=some (Mp C s.heap.objs.size):=by
  have:=g_ (s.heap.push LV) (o:=Mp C s.heap.objs.size) rfl
  rwa [Lz] at this
 have e3:(s.heap.push LV).Ns s.heap.objs.size (λ_=>none):=⟨LV,#[],_,e1,rfl,(λe he=>absurd he (by simp)),λ_=>rfl⟩
 have I1:=I.laid (a:=s.heap.objs.size) (o:=.own (s.heap.objs.size+1)) (h':=s.heap.push LV) (t':=s.toks) (λb u q=>d_ _ q) (gV _) ⟨_,e1⟩;refine I1.laid (a:=s.heap.objs.size+1) (o:=.ins C s.heap.objs.size []) (t':=s.toks) (λb u q=>d_ _ q) (Oz (Lz _ _)) ?_;have ne:s.heap.objs.size≠s.heap.objs.size+1:=H_ (OD _)
 refine⟨by rw [aI ne,aY],LY _,ne,e2,λ_=>none,(Heap.Ns1.of_empty e3).at λo q=>d_ _ q,λ_=>MB,λy hy=>absurd rfl hy⟩
variable {env:Env}
def DR(hb:attributeBase e f env (eval e env)=eval e env)(h:wpAny (model prog w) A (eval e env) (λo s₁=>wpAny (model prog w) A (getAttr o f true) Q E s₁) E s):wpAny (model prog w) A (eval (.Attribute e f pos) env) Q E s :=
 Attribute_any_ h (by rw [arm_eval_Attribute,hb])
end
noncomputable def y9(K:b_)(ta:TE)(f:Str):TE:=λσ H Q=>ta σ H λx H1=>∃a C dx fs v,x=.ref a/\H1 a=some (.ins C dx fs)/\Cls K C/\eE K C f/\fs.lookup f=some v/\Q v H1
noncomputable def Ks(K:b_)(ta tv:TE)(f:Str):TS:=λD σ H=>tv σ H λy H1=>ta σ H1 λx H2=>∃a C dx fs,x=.ref a/\H2 a=some (.ins C dx fs)/\Cls K C/\eE K C f/\fs.length<1000 /\
 D.nx σ (upd H2 a (.ins C dx (p5 f y fs)))
variable {f:Str}
def Gq(he:PE X e ta)(hb:attributeBase e f X.env (eval e X.env)=eval e X.env):PE X (.Attribute e f pos) (y9 X.K ta f):=by
 intro pins s σ H Q I h;refine DR hb (thn (he pins s σ H _ I h) λu s1 ⟨x,H1,I1,rx,a,C,dx,fs,v,ex,ea,c,n,l,q⟩=>?_);subst ex;obtain rfl:u=l_ a:=rx;exact xN I1 ea c n l λu' s2 I2 ru=>⟨v,H1,I2,ru,q⟩
variable {o value:Expr}{pos':Pos}{tv:TE}
def m9(ha:PE X o ta)(hv:PE X value tv)(hs:swapsWith value (some (.Attribute o f pos')) pos.line X.env=pure false):PS X (.Assign [.Attribute o f pos'] value pos) (Ks X.K ta tv f):=by
 intro pins s σ H D I h;refine plainObj_wpAny_Assign_Attribute (thn (hv pins s σ H _ I h) λu s1 ⟨y,H1,I1,ry,q⟩=>thn (ha pins s1 σ H1 _ I1 q) λov s2 ⟨x,H2,I2,rx,a,C,dx,fs,ex,ea,c,n,l,q2⟩=>?_) hs;subst ex;obtain rfl:ov=l_ a:=rx;exact xP I2 ea c n l ry λs3 I3=>⟨σ,_,I3,q2⟩
inductive sj (K:b_) (H:Hp):V->Value->Prop where
 | non:sj K H .non (.type "NoneType")
 | bl (x:Bool):sj K H (.bl x) (.type "bool")
 | int (i:Int):sj K H (.int i) (.type "int")
 | str (x:Str):sj K H (.str x) (.type "str")
 | flt (x:UInt64):sj K H (.flt x) (.type "float")
 | lst {a:Addr}{xs:List V} (e:H a=some (.lst xs)):sj K H (.ref a) (.type "list")
 | frz {a:Addr}{o:Obj}{xs:List V} (e:H a=some (.frz o (.lst xs))):sj K H (.ref a) (.type "list")
 | tup {a:Addr}{xs:List V} (e:H a=some (.tup xs)):sj K H (.ref a) (.type "tuple")
 | dK {a:Addr}{kvs:List (Key×V)} (e:H a=some (.dK kvs)):sj K H (.ref a) (.type "dict")
 | dT {a:Addr}{kvs:List (List Key×V)} (e:H a=some (.dT kvs)):sj K H (.ref a) (.type "dict")
 | ins {a C dx:Addr}{fs:List (Str×V)} (e:H a=some (.ins C dx fs)) (cl:Cls K C) (ha:pf K (.ref C) "__class__"=some (some (.builtin "object.__class__")))
   (hn:PySem.W.specialIn K (.builtin "object.__class__") "__get__"=some (some (.builtin "getset_descriptor.__get__"))) (htk:PySem.W.takesIn K (.builtin "object.__class__")=some true)
   (hm:PySem.W.mroIn K C (.type "object")=some true):sj K H (.ref a) (.ref C)
variable {c:Value}{b:Bool}
def za{x:V}{u t:Value}(I:Inv X pins σ H s)(rx:c9 x u)(ty:sj X.K H x t)(e:MC X.K t c=some b)(h:∀tk,Q (.bool b) { s with toks:=tk }):
  wpAny (model X.prog X.w) A (call (.builtin "isinstance") [u,c]) Q E s:=by
 cases ty with
 | non=>cases (show u=L6 from rx);exact LR PySem.W.kitx_none I.kIn MB e (λz=>nomatch z) h
 | bl y=>cases (show u=Mo y from rx);exact LR PySem.W.kitx_bool I.kIn MB e (λz=>nomatch z) h
 | int i=>obtain⟨t,q⟩:=(show ∃t,u=NL i t from rx);cases q;exact LR PySem.W.kitx_int I.kIn MB e (λz=>nomatch z) h
 | str y=>obtain⟨t,q⟩:=(show ∃t,u=N8 y t from rx);cases q;exact LR PySem.W.kitx_str I.kIn MB e (λz=>nomatch z) h
 | flt y=>obtain⟨t,q⟩:=(show ∃t,u=OY y t from rx);cases q;exact LR PySem.W.kitx_float I.kIn MB e (λz=>nomatch z) h
 | @lst a xs ea =>
  cases (show u=l_ a from rx);obtain⟨_,_,n,_,h1⟩:=(show cm X.prog X.w H s.heap a (.lst xs) from I.hok a _ ea)
  exact LR NC I.kIn ⟨_,h1,rfl⟩ e (λz=>nomatch z) h
 | @frz a ob xs ea =>
  cases (show u=l_ a from rx);obtain⟨_,_,_,n,_,h1⟩:=(show cm X.prog X.w H s.heap a (.frz ob (.lst xs)) from I.hok a _ ea)
  exact LR NC I.kIn ⟨_,h1,rfl⟩ e (λz=>nomatch z) h
 | @tup a xs ea =>
  cases (show u=l_ a from rx);obtain⟨_,_,_,p⟩:=(show cm X.prog X.w H s.heap a (.tup xs) from I.hok a _ ea)
  obtain⟨o,h1,h2,_⟩:=p;exact LR PySem.W.kitx_tuple I.kIn ⟨o,h1,h2⟩ e (λz=>nomatch z) h
 | @dK a kvs ea =>
  cases (show u=l_ a from rx);obtain⟨_,_,vs,_,p⟩:=(show cm X.prog X.w H s.heap a (.dK kvs) from I.hok a _ ea)
  obtain⟨o,es,ep,h1,h2,_⟩:=p;exact LR ND I.kIn ⟨o,h1,h2.1⟩ e (λz=>nomatch z) h
 | @dT a kvs ea =>
  cases (show u=l_ a from rx);obtain⟨_,_,xs,_,o,es,ep,h1,h2,_⟩:=(show cm X.prog X.w H s.heap a (.dT kvs) from I.hok a _ ea)
  exact LR ND I.kIn ⟨o,h1,h2.1⟩ e (λz=>nomatch z) h
 | @ins a C dx fs ea cl ha hn htk hm =>
  cases (show u=l_ a from rx);obtain⟨mA,O,_⟩:=m8 I.hok ea;obtain⟨od,J,_⟩:=O.look;exact LR (PySem.W.kitx_own (cl.get _) cl.hd ha hn htk hm) I.kIn J e (λz=>nomatch z) h
structure fR (k:Nat) (A:C0):Prop where
 hd:A.handled=none
 dp:A.depth+3*k+5<recursionLimit
 un:A.units+16*k+200<cLine
def fR.mono(r:fR k A)(h:j<=k):fR j A:=⟨r.hd,by have:=r.dp;omega,by have:=r.un;omega⟩
def fR.deeper(r:fR (k+1) A)(env:Env):fR k (A.deeper env) :=
 ⟨r.hd,by have:=r.dp;show A.depth+1+3*k+5<_;omega,by have:=r.un;show A.units+3+16*k+200<_;omega⟩
def xQ{kw:List (Str×Value)}:(A.under (.builtin "type.__call__" ⟨.ref C::us,kw⟩)).depth=A.depth+1:=by
 first|rfl|simp [Around.under,Code.weight,Code.isCreation,Code.isGuard,Code.isCaller,Code.frames,Code.isFrame,guardIds]
def xR{kw:List (Str×Value)}:(A.under (.builtin "type.__call__" ⟨.ref C::us,kw⟩)).units=A.units+1:=by
 first|rfl|simp [Around.under,Code.cUnits,Code.frames,Code.isFrame]
def fR.make(r:fR (k+1) A)(C:Addr)(us:List Value)(kw:List (Str×Value)):fR k (A.under (.builtin "type.__call__" ⟨.ref C::us,kw⟩)) :=
 ⟨r.hd,by have:=r.dp;rw [xQ];omega,by have:=r.un;rw [xR];omega⟩
def fR.depth(r:fR k A):A.depth<recursionLimit:=by have:=r.dp;omega
def fR.units(r:fR k A):A.units+64<cLine:=by have:=r.un;omega
def bU:TA:=λ_ H Q=>Q [] H
noncomputable def ax(ta:TE)(tr:TA):TA:=λσ H Q=>ta σ H λx H1=>tr σ H1 λxs H2=>Q (x::xs) H2
def ae:PA X [] bU:=λ_ _ _ _ H Q I h=>Calls.spliced_nil ⟨[],H,I,.nil,h⟩
variable {t:TA}
def DS(ha:PE X e te)(hr:PA X es t)(hs:starEach (e::es) X.env=(false,eval e X.env)::starEach es X.env:=by rfl):PA X (e::es) (ax te t):=by
 intro pos pins s σ H Q I h;rw [hs];show wpAny _ _ (spliced ((false,eval e X.env)::backTo pos (starEach es X.env))) _ _ s;refine Calls.spliced_cons (thn (ha pins s σ H _ I h) λu s1 ⟨x,H1,I1,r1,q1⟩=>?_);exact thn (hr pos pins s1 σ H1 _ I1 q1) λus s2 ⟨xs,H2,I2,r2,q2⟩=>⟨x::xs,H2,I2,.cons r1 r2,q2⟩
noncomputable def sk(t:TA):TE:=λσ H Q=>t σ H λxs H1=>xs.length<=sizeLine/\∀p,H1 p=none->Q (.ref p) (upd H1 p (.tup xs))
noncomputable def Jf(t:TA):TE:=λσ H Q=>t σ H λxs H1=>xs.length<=sizeLine/\∀p,H1 p=none->Q (.ref p) (upd H1 p (.lst xs))
def df{x1}(h:PA X es t):PE X (.Tuple es x1 pos) (sk t):=by
 intro pins s σ H Q I hq;refine wpAny_Tuple_spliced (thn (h pos pins s σ H _ I hq) λus s1 ⟨xs,H1,I1,r,z,q⟩=>⟨by rw [<- r.length];exact z,?_⟩);have hf:H1 s1.heap.objs.size=none:=I1.hok.fresh (gV _);refine⟨.ref s1.heap.objs.size,upd H1 s1.heap.objs.size (.tup xs),I1.laid (t':=s1.toks) (λb u e=>d_ _ e) (gV _) ?_,rfl,q _ hf⟩;exact⟨z,us,r,⟨_,g_ _ rfl,rfl,_,rfl⟩⟩
def fj(h:PA X es t):PE X (.List es pos) (Jf t):=by
 intro pins s σ H Q I hq;refine wpAny_List_spliced (thn (h pos pins s σ H _ I hq) λus s1 ⟨xs,H1,I1,r,z,q⟩=>⟨by rw [<- r.length];exact z,?_⟩);have hf:H1 s1.heap.objs.size=none:=I1.hok.fresh (gV _);refine⟨.ref s1.heap.objs.size,upd H1 s1.heap.objs.size (.lst xs),I1.laid (t':=s1.toks) (λb u e=>d_ _ e) (gV _) ?_,rfl,q _ hf⟩;exact⟨z,us,0,r,g_ _ rfl⟩
abbrev Sp:=List V->Hp->VK->XK->Prop
abbrev CXT:=List Env->Hp->c_->XK->Value->c_->Prop
structure DT (P:t_) (w:World) (K:b_) (mg:Str->Option Value) (base:Heap) (A:C0) (outer:List Env) (s:c_) (H:Hp):Prop where
 frames:A.frames=some outer
 mod:Mod K mg base
 bs:∀b o,base.get? b=some o->s.heap.get? b=some o/\H b=none
 bsz:base.objs.size<=s.heap.objs.size
 funs:s.heap.FunFrames base outer
 frf:∀b∈frs outer,H b=none
 hok:HOk P w H s.heap
 bare:Oi s.gens
 tb:sm base H
noncomputable def CE(outer:List Env)(P:t_)(w:World)(H:Hp)(s:c_)(Q:VK)(u:Value)(s':c_):Prop :=
 ∃v H',s'.os=s.os/\Oi s'.gens/\Un (frs outer) [] H H' s.heap s'.heap/\HOk P w H' s'.heap/\c9 v u/\Q v H'
noncomputable def CR(CX:CXT)(outer:List Env)(P:t_)(w:World)(H:Hp)(s:c_)(Q:VK)(E:XK)(r:Result)(s':c_):Prop :=
 match r with
 | .ok (.ret u)=>CE outer P w H s Q u s'
 | .ok _=>False
 | .error e=>CX outer H s E e s'
structure qH (P:t_) (w:World) (K:b_) (mg:Str->Option Value) (base:Heap) (CX:CXT) (k:Nat) (f:Addr) (fd:L7) (ps:List Str) (sp:Sp):Prop where
 len:∀vs H Q E,sp vs H Q E->vs.length=ps.length
 run:∀(A:C0) (outer:List Env) (s:c_) (H:Hp) (args:Args) (us:List Value) (vs:List V) (Q:VK) (E:XK),fR k A->DT P w K mg base A outer s H->OE s fd args (ps.zip us)->bK vs us->sp vs H Q E ->
  codeAny (model P w) A (.call (.ref f) args) (CR CX outer P w H s Q E) s
variable {mg:Str->Option Value}{fd:L7}
def qH.imp{P:t_}{CX:CXT}{f:Addr}{ps:List Str}{sp sp':Sp}(F:qH P w K mg base CX k f fd ps sp)(h:∀vs H Q E,sp' vs H Q E->sp vs H Q E):qH P w K mg base CX k f fd ps sp' :=
 ⟨λvs H Q E q=>F.len vs H Q E (h _ _ _ _ q),λA outer s H args us vs Q E hr he hb hv hs=>F.run A outer s H args us vs Q E hr he hb hv (h _ _ _ _ hs)⟩
def DT.make{P:t_}{outer:List Env}(e:DT P w K mg base A outer s H)(C:Addr)(us:List Value)(kw:List (Str×Value)):
  DT P w K mg base (A.under (.builtin "type.__call__" ⟨.ref C::us,kw⟩)) outer s H:=⟨by first|exact e.frames|(simpa [Around.under,Code.envs,Code.isFrame,pushEnvs] using e.frames),e.mod,e.bs,e.bsz,e.funs,e.frf,e.hok,e.bare,e.tb⟩
def Inv.env0(I:Inv X pins σ H s):DT X.prog X.w X.K X.mg X.base X.A X.stack s H :=
 ⟨I.ok.frames,I.ok.mod,I.bs,s_ I.ok.bsz I.sz,I.stack,I.stkFree,I.hok,I.bare,I.ok.tb.un I.base⟩
variable {s':c_}
def Inv.after{Q:VK}{u:Value}(I:Inv X pins σ H s)(h:CE X.stack X.prog X.w H s Q u s'):EP X pins σ Q u s':=by
 obtain⟨v,H',os,bare,un,hok,r,q⟩:=h;obtain⟨hh,g,d,t,os'⟩:=s';obtain rfl:os'=s.os:=os;exact⟨v,H',I.call (h':=hh) (g':=g) (d':=d) (t':=t) (ch:=[]) un hok bare (λb z=>absurd z (by simp)),r,q⟩
noncomputable def cq(sp:Sp)(dvs:List V)(E:XK)(t:TA):TE:=λσ H Q=>t σ H λvs H1=>sp (vs++dvs) H1 Q E
noncomputable def DU(C:Addr)(m:Str)(sp:Sp)(dvs:List V)(E:XK)(ta:TE)(t:TA):TE:=λσ H Q=>ta σ H λx H1=>∃a dx fs,x=.ref a/\H1 a=some (.ins C dx fs)/\fs.lookup m=none /\
 t σ H1 λvs H2=>sp (x::(vs++dvs)) H2 Q E
noncomputable def Bw(C:Addr)(sp:Sp)(dvs:List V)(E:XK)(t:TA):TE:=λσ H Q=>t σ H λvs H1=>∀x dx,H1 x=none->H1 dx=none->dx≠x ->
 sp (.ref x::(vs++dvs)) (upd (upd H1 dx (.own x)) x (.ins C dx [])) (λv H2=>v=.non/\Q (.ref x) H2) E
noncomputable def me(K:b_)(fd:L7)(ps:List Str)(ds:List Value):Prop :=
 ∀(s:c_) (us:List Value),K.In s.heap->(us++ds).length=ps.length->OE s fd ⟨us,[]⟩ (ps.zip (us++ds))
def me.all{ps:List Str}(h:∀us:List Value,us.length=ps.length->bindArgs fd ⟨us,[]⟩=pure (ps.zip us)):me K fd ps []:=λs us _ hl=>by
 rw [LA] at hl ⊢;exact .of_eq (h us hl)
noncomputable def p6(CX:CXT)(X:Cx)(E:XK):Prop:=∀(pins:List (Addr×Obj)) (σ:St) (H:Hp) (s:c_) (e:Value) (s':c_),Inv X pins σ H s->CX X.stack H s E e s'->X.xe e s'
section
variable {CX:CXT}{f:Addr}{ps:List Str}{sp:Sp}{dvs:List V}{ds:List Value}{E:XK}{vs:List V}
def CF{Q:VK}(F:qH X.prog X.w X.K X.mg X.base CX k f fd ps sp)(hr:fR k X.A)(hb:me X.K fd ps ds)(hd:bK dvs ds)(hx:p6 CX X E)(I:Inv X pins σ H s)(r:bK vs us)(h:sp (vs++dvs) H Q E):wpAny (model X.prog X.w) X.A (call (.ref f) us) (EP X pins σ Q) X.xe s:=by
 have r2:bK (vs++dvs) (us++ds):=r.append hd;have hl:(us++ds).length=ps.length:=by rw [<- r2.length];exact F.len _ _ _ _ h
 refine wpAny_call (OF (F.run X.A X.stack s H ⟨us,[]⟩ (us++ds) (vs++dvs) Q E hr I.env0 (hb s us I.kIn hl) r2 h) λr s' hq=>?_)
 cases r with
 | error e=>exact hx pins σ H s e s' I hq
 | ok fl =>
  cases fl with
  | ret u=>exact I.after hq
  | next=>exact Mq hq
  | brk=>exact Mq hq
  | cont=>exact Mq hq
variable {x:Str}{p:Pos}
def zb(F:qH X.prog X.w X.K X.mg X.base CX k f fd ps sp)(hr:fR k X.A)(hg:Gl X x)(hm:X.mg x=some (.ref f))(hk:D_ X.K (.ref f)=true)(hb:me X.K fd ps ds)(hd:bK dvs ds)(hx:p6 CX X E)(ha:PA X (e::es) t)(hdb:(x == ("__debug__":Str))=false:=by decide)(he:starEach (e::es) X.env=(false,eval e X.env)::starEach es X.env:=by rfl)(hpl:(backTo pos (starEach es X.env)).any (·.1)=false:=by rfl):
  PE X (.Call (.Name x p) (e::es) [] pos) (cq sp dvs E t):=by
 intro pins s σ H Q I h;refine MD (uP I hg hm ?_ hdb);refine PySem.W.callWith_K (h₀:=X.base) I.ok.mod.kin hk (thn (ha pos pins s σ H _ I h) λus s1 ⟨vs,H1,I1,r,q⟩=>⟨I1.kIn,?_⟩) he hpl;exact CF F hr hb hd hx I1 r q
variable {m:Str}{apos:Pos}
def Bx{pl:Sem Bool}(he:PE X o ta)(c:Cls X.K C)(hm:IG X.K C m f)(F:qH X.prog X.w X.K X.mg X.base CX k f fd ps sp)(hr:fR k X.A)(hb:me X.K fd ps ds)(hd:bK dvs ds)(hx:p6 CX X E)(ht:eval (.Call (.Attribute o m apos) [] [] pos) X.env=(do
   let ov <- eval o X.env
   standAt apos.atName
   let (f,first) <- holding [ov] (getMethod ov m pl)
   callWith pos f first (backTo pos (starEach [] X.env)) (backToKw pos (keywordEach [] X.env))):=by rfl):
  PE X (.Call (.Attribute o m apos) [] [] pos) (DU C m sp dvs E ta bU):=by
 intro pins s σ H Q I h;refine PySem.W.methodCall_KW (pl:=pl) (thn (he pins s σ H _ I h) λu s1 ⟨x,H1,I1,rx,a,dx,fs,ex,ea,l,q⟩=>?_) ht;subst ex;obtain rfl:u=l_ a:=rx;refine xO I1 ea c hm l ?_;exact PySem.W.callWith_K0 (first:=[.ref a]) I1.kIn hm.kp (CF (us:=[.ref a]) (vs:=[.ref a]) F hr hb hd hx I1 (.cons rfl .nil) q)
structure Mk (K:b_) (C f:Addr):Prop where
 makes:OS K C=true
 init:pf K (.ref C) "__init__"=some (some (.ref f))
 fn:N0 K (.ref f)=true
 kp:D_ K (.ref C)=true
def By{Q:VK}(M:Mk X.K C f)(F:qH X.prog X.w X.K X.mg X.base CX k f fd ps sp)(hr:fR (k+1) X.A)(hb:me X.K fd ps ds)(hd:bK dvs ds)(hx:p6 CX X E)(I:Inv X pins σ H s)(r:bK vs us)(h:∀x dx,H x=none->H dx=none->dx≠x->sp (.ref x::(vs++dvs)) (upd (upd H dx (.own x)) x (.ins C dx [])) (λv H2=>v=.non/\Q (.ref x) H2) E):
  wpAny (model X.prog X.w) X.A (call (.ref C) us) (EP X pins σ Q) X.xe s:=by
 have hq:=h (s.heap.objs.size+1) s.heap.objs.size (I.hok.fresh (le_succ _)) (I.hok.fresh (gV _)) (H_ (OD _));have I2:=Inv.made (C:=C) I;have r2:bK (V.ref (s.heap.objs.size+1)::(vs++dvs)) (l_ (s.heap.objs.size+1)::(us++ds)):=.cons rfl (r.append hd)
 have hl:(l_ (s.heap.objs.size+1)::us++ds).length=ps.length:=by
  have e:=r2.length;rw [F.len _ _ _ _ hq] at e;exact e.symm
 refine wpAny_call (Bv (f:=f) I.kIn M.makes M.init (beq_iff_eq.mp M.fn) (OF (F.run _ X.stack _ _ ⟨l_ (s.heap.objs.size+1)::us,[]⟩ (l_ (s.heap.objs.size+1)::(us++ds)) _ _ E (hr.make C us [])
  (I2.env0.make C us []) (hb _ (l_ (s.heap.objs.size+1)::us) I2.kIn hl) r2 hq) λr s' hq'=>?_))
 cases r with
 | error e=>exact hx pins σ _ _ e s' I2 hq'
 | ok fl =>
  cases fl with
  | ret u =>
   obtain⟨v,H',I3,rv,ev,q3⟩:=I2.after hq';subst ev;exact⟨rv,⟨V.ref (s.heap.objs.size+1),H',I3,rfl,q3⟩⟩
  | next=>exact Mq hq'
  | brk=>exact Mq hq'
  | cont=>exact Mq hq'
def DW(M:Mk X.K C f)(F:qH X.prog X.w X.K X.mg X.base CX k f fd ps sp)(hr:fR (k+1) X.A)(hg:Gl X x)(hm:X.mg x=some (.ref C))(hb:me X.K fd ps ds)(hd:bK dvs ds)(hx:p6 CX X E)(ha:PA X (e::es) t)(hdb:(x == ("__debug__":Str))=false:=by decide)(he:starEach (e::es) X.env=(false,eval e X.env)::starEach es X.env:=by rfl)(hpl:(backTo pos (starEach es X.env)).any (·.1)=false:=by rfl):
  PE X (.Call (.Name x p) (e::es) [] pos) (Bw C sp dvs E t):=by
 intro pins s σ H Q I h;refine MD (uP I hg hm ?_ hdb);refine PySem.W.callWith_K (h₀:=X.base) I.ok.mod.kin M.kp (thn (ha pos pins s σ H _ I h) λus s1 ⟨vs,H1,I1,r,q⟩=>⟨I1.kIn,?_⟩) he hpl;exact By M F hr hb hd hx I1 r q
end
structure aw (N P:List Str) (sc:Scope):Prop where
 kind:sc.kind=.function
 co:sc.isCoroutine=false
 gen:sc.isGenerator=false
 nd:N.Nodup
 pre:N.take P.length=P
 par:∀x∈P,sc.names.lookup x=some .local\/sc.names.lookup x=some .cell
 nofree:∀y∈sc.names,y.2≠.free
theorem sw{kindOf:Str->Option L8}{x:Str}:∀{binds:List (Str×Value)}{m:Str->Option Value},(∀v,(x,v)∉binds)->bindL kindOf binds m x=m x
 | [],_,_=>rfl
 | (n,v)::r,m,h=>by
  unfold bindL;rw [sw λw hw=>h w (m_ _ hw)]
  split
  .have:x≠n:=by rintro rfl;exact h v mem_cons_self
   simp [this]
  .rfl
theorem sx{kindOf:Str->Option L8}{x:Str}:∀{binds:List (Str×Value)}{m:Str->Option Value},(∀v,(x,v)∉binds)->bindC kindOf binds m x=m x
 | [],_,_=>rfl
 | (n,v)::r,m,h=>by
  unfold bindC;rw [sx λw hw=>h w (m_ _ hw)]
  split
  .rfl
  .have:x≠n:=by rintro rfl;exact h v mem_cons_self
   simp [this]
theorem sy{kindOf:Str->Option L8}{x:Str}:∀{P:List Str}{vs:List Value}{i:Nat}{m:Str->Option Value},P.Nodup->P[i]?=some x->vs[i]?=some v->kindOf x=some .local ->
  bindL kindOf (P.zip vs) m x=some v
 | [],_,_,_,_,h,_,_=>by simp at h
 | _::_,[],_,_,_,_,h,_=>by simp at h
 | p::P,w::vs,0,m,nd,h1,h2,hk=>by
  simp at h1 h2;subst h1;subst h2;show bindL kindOf ((p,w)::P.zip vs) m p=_;unfold bindL;rw [sw λv hv=>(NM.mp nd).1 (NN hv).1,if_pos hk];simp
 | p::P,w::vs,i+1,m,nd,h1,h2,hk=>by
  show bindL kindOf ((p,w)::P.zip vs) m x=_;unfold bindL;exact sy (i:=i) (NM.mp nd).2 (by simpa using h1) (by simpa using h2) hk
theorem sA{kindOf:Str->Option L8}{x:Str}:∀{P:List Str}{vs:List Value}{i:Nat}{m:Str->Option Value},P.Nodup->P[i]?=some x->vs[i]?=some v->kindOf x≠some .local ->
  bindC kindOf (P.zip vs) m x=some v
 | [],_,_,_,_,h,_,_=>by simp at h
 | _::_,[],_,_,_,_,h,_=>by simp at h
 | p::P,w::vs,0,m,nd,h1,h2,hk=>by
  simp at h1 h2;subst h1;subst h2;show bindC kindOf ((p,w)::P.zip vs) m p=_;unfold bindC;rw [sx λv hv=>(NM.mp nd).1 (NN hv).1,if_neg hk];simp
 | p::P,w::vs,i+1,m,nd,h1,h2,hk=>by
  show bindC kindOf ((p,w)::P.zip vs) m x=_;unfold bindC;exact sA (i:=i) (NM.mp nd).2 (by simpa using h1) (by simpa using h2) hk
noncomputable def start(N:List Str)(vs:List V):St:=vs.map some++u1 (N.length - vs.length) none
noncomputable def wO(CX:CXT)(P:t_)(w:World)(K:b_)(mg:Str->Option Value)(base:Heap)(N:List Str)(qual:Str)(scope:Scope)(f:Addr)(cd:Value)(A:C0)(outer:List Env)(s:c_)(H:Hp)(E:XK):Cx where
 prog:=P
 w:=w
 K:=K
 mg:=mg
 base:=base
 A:=A.deeper (envOfC qual scope s.heap.objs.size f cd)
 N:=N
 s₀:=s
 H₀:=H
 env:=envOfC qual scope s.heap.objs.size f cd
 outer:=outer
 stack:=envOfC qual scope s.heap.objs.size f cd::outer
 ex:=[]
 calm:=true
 fn:=λ_=>true
 pn:=[]
 xe:=λe s'=>wpAny (model P w) (A.deeper (envOfC qual scope s.heap.objs.size f cd)) (leaving (envOfC qual scope s.heap.objs.size f cd) e) (λ_ s''=>CX outer H s E e s'') (λe' s''=>CX outer H s E e' s'') s'
def wP{sc:Scope}{x:Str}(h:sc.names.lookup x=some .cell):∃c,(cellsFrom n sc.names []).lookup x=some c:=by
 have q:=M0 sc.names n [] (.inl h);exact MP.mp q
variable {qual:Str}{scope:Scope}{vs:List V}
def zc{CX:CXT}{P:t_}{ps:List Str}{f:Addr}{cd:Value}{outer:List Env}{s1:c_}{E:XK}(S:aw N ps scope)(hd:A.handled=none)(e0:DT P w K mg base A outer s H)(hl:vs.length=ps.length)(r:bK vs us)(x:InCallC s s.heap.objs.size (bindL (envOfC qual scope s.heap.objs.size f cd).kindOf (ps.zip us) λ_=>none) (cellsFrom (s.heap.objs.size+1) scope.names []) (bindC (envOfC qual scope s.heap.objs.size f cd).kindOf (ps.zip us) λ_=>none) s1):
  Inv (wO CX P w K mg base N qual scope f cd A outer s H E) [] (start N vs) H s1:=by
 have hpl:ps.length<=N.length:=by have:=congrArg List.length S.pre;rw [length_take] at this;omega
 obtain⟨h1,tk,rfl,hk⟩:=x.done;have noA:∀b:Addr,b∉(wO CX P w K mg base N qual scope f cd A outer s H E).ex:=λb z=>absurd (show b∈([]:List Addr) from z) (by simp)
 refine⟨⟨e0.mod,S.kind,rfl,rfl,gV _,λy z c h1 h2=>?_,λy hy=>?_,λy c _ h=>?_,λ_=>hd,Around.frames_deeper e0.frames,.inr ⟨rfl,rfl⟩,λb z=>absurd z (noA b),e0.bs,e0.bsz,λb _ _=>noA b,λb z=>absurd z (noA b),e0.funs,e0.frf,e0.tb⟩,
  rfl,e0.bare,Un.kept hk,⟨_,x.toInCall.ns,λi y v h1 h2 h3=>?_⟩,λy c h=>⟨_,x.cell y c h⟩,e0.hok.fresh (gV _),λy c h=>?_,λp hp=>absurd (show p∈([]:List (Addr×Obj)) from hp) (by simp),e0.hok.kept hk,?_⟩
 .exact name_of_addr x.apart (MX h1) (MX h2)
 .have hy:scope.names.lookup y=some .cell\/scope.names.lookup y=some .free:=hy
  rcases hy with hy|hy
  .exact wP hy
  .exact absurd rfl (S.nofree _ (MX hy))
 .exact le_of_lt (x.above y c (MX h))
 .have hi:i<vs.length:=by
   unfold start at h2
   by_cases hi:i<vs.length
   .exact hi
   .rw [Mf (by simpa using hi)] at h2;rw [getElem?_replicate] at h2;split at h2 <;> cases h2
  have ha:vs[i]?=some v:=by
   unfold start at h2;rw [MJ (by simpa using hi),h_] at h2
   cases e:vs[i]? with
   | none=>rw [e] at h2;cases h2
   | some a=>rw [e] at h2;cases h2;rfl
  obtain⟨u,hu,rv⟩:=r.get ha
  have hp:ps[i]?=some y:=by
   rw [<- S.pre,getElem?_take_of_lt (by omega)];exact h1
  have ndP:ps.Nodup:=by rw [<- S.pre];exact S.nd.sublist (take_sublist _ _)
  refine⟨u,rv,?_⟩
  rcases S.par y (Eo hp) with k|k
  .exact .inl ⟨k,sy ndP hp hu k⟩
  .obtain⟨c,e⟩:=wP (n:=s.heap.objs.size+1) k;refine .inr ⟨.inl k,c,e,?_⟩;have q:=x.cell y c e;rw [sA ndP hp hu (by show scope.names.lookup y≠_;rw [k];decide)] at q;exact q
 .exact e0.hok.fresh (le_of_lt (x.above y c (MX h)))
 .unfold start;show _=N.length;rw [length_append,length_map,length_replicate];omega
variable {pm ct oc:Value}{an od:Option Addr}
def Gs{CX:CXT}{P:t_}{f:Addr}{params:Arguments}{body:List Stmt}{dV kV doc cdv:Value}{osl:Array (Option Value)}{ps:List Str}{sp:Sp}(lk:K.lookup f=some ⟨oc,od,.func (F_ name qual params body scope dV kV doc pm an cdv ct),osl⟩)(hcd:LN K cdv qual=true)(S:aw N ps scope)(len:∀vs H Q E,sp vs H Q E->vs.length=ps.length)(hbody:∀(A:C0) (outer:List Env) (s:c_) (H:Hp) (vs:List V) (Q:VK) (E:XK),fR k (A.deeper (envOfC qual scope s.heap.objs.size f cdv))->sp vs H Q E ->
   ∃t,PSs (wO CX P w K mg base N qual scope f cdv A outer s H E) body t/\t { nx:=λ_ H'=>Q .non H',rt:=Q } (start N vs) H):
  qH P w K mg base CX (k+1) f (F_ name qual params body scope dV kV doc pm an cdv ct) ps sp:=by
 refine⟨len,λA outer s H args us vs Q E hr e0 hb r hsp=>?_⟩;have hl:=len _ _ _ _ hsp;have KX:K.In s.heap:=e0.mod.kin.keeps λb o e=>(e0.bs b o e).1;have lim:s.heap.NoLimit:=e0.mod.nolimit.keeps λb o e=>(e0.bs b o e).1
 have hkind:∀y∈ps.zip us,scope.names.lookup y.1=some .local\/(scope.names.lookup y.1=some .cell/\((cellsFrom (s.heap.objs.size+1) scope.names []).lookup y.1).isSome=true):=λ⟨n,v⟩ hy=>by
  rcases S.par n (NN hy).1 with q|q
  .exact .inl q
  .exact .inr ⟨q,M0 _ _ _ (.inl q)⟩
 refine codeAny_call_function hr.depth (KX _ _ lk) rfl S.co S.gen rfl (PySem.W.codeRec_of KX hcd) (hb _ _ _ _ ?_);refine wpAny_newFunctionEnv_cells S.kind hkind λenv he s1 x=>?_;subst he;refine⟨lim.keeps x.toInCall.keep,codeAny_func ?_⟩;obtain⟨t,ht,hq⟩:=hbody A outer s H vs Q E (hr.deeper _) hsp;have I:Inv (wO CX P w K mg base N qual scope f cdv A outer s H E) [] (start N vs) H s1:=zc S hr.hd e0 hl r x
 refine Ly (ht [] s1 (start N vs) H _ I hq) (λfl s' hs=>?_) λe s' hs=>hs
 have fin:∀{σ':St}{H':Hp}{v:V}{u:Value},Inv (wO CX P w K mg base N qual scope f cdv A outer s H E) [] σ' H' s'->c9 v u->Q v H'->CE outer P w H s Q u s' :=
  λ{σ' H' v u} J rv q=>⟨v,H',J.os,J.bare,J.base,J.hok,rv,q⟩
 cases fl with
 | ret u =>
  obtain⟨v,σ',H',J,rv,q⟩:=hs;exact fin J rv q
 | next =>
  obtain⟨σ',H',J,q⟩:=hs;exact fin (v:=V.non) (u:=L6) J rfl q
 | brk =>
  obtain⟨_,_,_,q⟩:=hs;exact Mq q
 | cont =>
  obtain⟨_,_,_,q⟩:=hs;exact Mq q
section
variable {r:List V->Hp->VK->Prop}
noncomputable def tCB(r:List V->Hp->VK->Prop)(t:TA):TE:=λσ H Q=>t σ H λvs H1=>r vs H1 Q
variable {x:Str}{p:Pos}{id:String}
def Bz(hc:bJ X (.builtin id) r)(hg:Gl X x)(hm:X.mg x=none)(hv:bootBuiltins x=some (.builtin id))(ha:PA X (e::es) t)(hn:x≠"__name__":=by decide)(hdb:(x == ("__debug__":Str))=false:=by decide)(he:starEach (e::es) X.env=(false,eval e X.env)::starEach es X.env:=by rfl)(hpl:(backTo pos (starEach es X.env)).any (·.1)=false:=by rfl):PE X (.Call (.Name x p) (e::es) [] pos) (tCB r t):=by
 intro pins s σ H Q I h;refine MD (jd I hg hm hv ?_ hn hdb);exact PyProof.Rows.callWith_builtin1 (thn (ha pos pins s σ H _ I h) λus s1 ⟨vs,H1,I1,r1,q1⟩=>hc pins s1 σ H1 vs us Q I1 r1 q1) he hpl
variable {T:String}
def zd(hc:bJ X (.type T) r)(hg:Gl X x)(hm:X.mg x=none)(hv:bootBuiltins x=some (.type T))(ha:PA X (e::es) t)(hn:x≠"__name__":=by decide)(hdb:(x == ("__debug__":Str))=false:=by decide)(he:starEach (e::es) X.env=(false,eval e X.env)::starEach es X.env:=by rfl)(hpl:(backTo pos (starEach es X.env)).any (·.1)=false:=by rfl):PE X (.Call (.Name x p) (e::es) [] pos) (tCB r t):=by
 intro pins s σ H Q I h;refine MD (jd I hg hm hv ?_ hn hdb);exact LF (thn (ha pos pins s σ H _ I h) λus s1 ⟨vs,H1,I1,r1,q1⟩=>hc pins s1 σ H1 vs us Q I1 r1 q1) he hpl
end
end L2
namespace HT
open PySem PyProof.Rows
noncomputable def lexLt:List Int->List Int->Bool
 | [],[]=>false
 | [],_::_=>true
 | _::_,[]=>false
 | x::xs,y::ys=>if x=y then lexLt xs ys else decide (x<y)
def lexLt_cons(x y:Int)(xs ys:List Int):lexLt (x::xs) (y::ys)=if x=y then lexLt xs ys else decide (x<y):=rfl
def qI:lexLt [] []=false:=rfl
def pq(y:Int)(ys:List Int):lexLt [] (y::ys)=true:=rfl
def px(x:Int)(xs:List Int):lexLt (x::xs) []=false:=rfl
def BA(A:C0)(s:c_)(a:Int)(t:Tok)(c:Int)(u:Tok):∃e,SeqAt.EqAt A s (.int a t) (.int c u) e/\(e=true ↔ a=c) :=
 ⟨(a == c),SeqAt.EqAt.int_int a t c u,by simp⟩
def BB(A:C0)(s:c_)(a:Int)(t:Tok)(c:Int)(u:Tok)(prog:t_)(w:World)(E:Value->c_->Prop)(Q:Value->c_->Prop)(h:Q (.bool (decide (a<c))) s):
  wpAny (model prog w) A (richCompare .Lt (.int a t) (.int c u)) Q E s :=
 (PyProof.Rows.lt_int h:wpAny (model prog w) A (compareOp .Lt (.int a t) (.int c u)) Q E s)
section
open PySem.SeqAt
open PySem.AutoSeq1 (wpAny_loadPart')
open PySem.MeetsSeq PySem.MeetsSeq2 PySem.MeetsSeq3
def qJ(l b:Addr)(items items2:Array Value)(n n2:Nat)(dd dd2:Option Addr)(sl sl2:Array (Option Value))(ns ms:List Int)(hi:Mt items.toList ns)(hj:Mt items2.toList ms):
  Meets (NZ.«tuple.__lt__» ⟨[.ref l,.ref b],[]⟩)
   (λ_ R s=>s.heap.get? l=some { cls:=.type "tuple",dict:=dd,data:=.seq items n,slots:=sl }/\s.heap.get? b=some { cls:=.type "tuple",dict:=dd2,data:=.seq items2 n2,slots:=sl2 } /\
    R (.ok (.ret (.bool (lexLt ns ms)))) s) :=
 .of_wp λprog w A R s h=>by
  obtain⟨hp,g,d,tk,os⟩:=s;obtain⟨hl,hb,h⟩:=h;have f2:=AutoSeq1.sub_tuple_tuple;have z1:items.size=ns.length:=by rw [<- hi.length];simp
  have z2:items2.size=ms.length:=by rw [<- hj.length];simp
  wp_walk using wpAny_loadPart' hl,wpAny_loadPart' hb,wpAny_forIn_list _ (λrest b s'=>b.1=none/\s'=⟨hp,g,d,tk,os⟩/\∃(vs ws:List Value) (ns' ms':List Int),rest=vs.zip ws /\
   Mt vs ns'/\Mt ws ms'/\ns'.length+items2.size=ms'.length+items.size/\R (.ok (.ret (.bool (lexLt ns' ms')))) ⟨hp,g,d,tk,os⟩) _
  case turn =>
   rintro⟨y,x⟩ rest b s' ⟨hb',rfl,vs,ws,ns',ms',hz,hvi,hwi,hlen,hR⟩
   cases hvi with
   | nil=>rw [zip_nil_left] at hz;cases hz
   | cons a t hvi' =>
    cases hwi with
    | nil=>rw [zip_nil_right] at hz;cases hz
    | cons c u hwi' =>
     rw [zip_cons_cons] at hz;injection hz with hyx hrest;injection hyx with hy hx;subst hy hx;rw [lexLt_cons] at hR;simp only [length_cons] at hlen;obtain⟨e,he,hiff⟩:=BA A.in1 ⟨hp,g,d,tk,os⟩ a t c u;refine cn (he prog w _ _ ?_)
     cases e with
     | true =>
      rw [if_pos (hiff.mp rfl)] at hR
      wp_walk
      exact⟨rfl,rfl,_,_,_,_,hrest,hvi',hwi',by omega,hR⟩
     | false =>
      rw [if_neg (λq=>absurd (hiff.mpr q) k_)] at hR;have hri:=BB A.in1 ⟨hp,g,d,tk,os⟩ a t c u prog w
      wp_walk using hri
      exact⟨_,rfl,by simpa using hR⟩
  case fin =>
   rintro⟨b1,b2⟩ s' ⟨hb',rfl,vs,ws,ns',ms',hz,hvi,hwi,hlen,hR⟩;simp only at hb';subst hb'
   have hv:lexLt ns' ms'=decide (items.size<items2.size):=by
    cases hvi with
    | nil =>
     cases hwi with
     | nil =>
      simp only [length_nil] at hlen;rw [qI];exact (decide_eq_false (by omega)).symm
     | cons c u hw =>
      simp only [length_nil,length_cons] at hlen;rw [pq];exact (decide_eq_true (by omega)).symm
    | cons a t hv =>
     cases hwi with
     | nil =>
      simp only [length_nil,length_cons] at hlen;rw [px];exact (decide_eq_false (by omega)).symm
     | cons c u hw =>
      rw [zip_cons_cons] at hz;cases hz
   rw [hv] at hR
   wp_walk
   exact⟨_,rfl,by simpa [Builtin.Tuple.tupleCompareSizes] using hR⟩
  case h =>
   exact⟨rfl,rfl,items.toList,items2.toList,ns,ms,rfl,hi,hj,by omega,h⟩
end
variable {prog:t_}{w:World}{A:C0}{E:Value->c_->Prop}{s:c_}{items:Array Value}{ns:List Int}{Q:Value->c_->Prop}
def lt_tupInts{l b:Addr}{items2:Array Value}{ms:List Int}(hl:IsTup s.heap l items)(hb:IsTup s.heap b items2)(hi:Mt items.toList ns)(hj:Mt items2.toList ms)(hu:A.units<cLine)(h:Q (.bool (lexLt ns ms)) s):wpAny (model prog w) A (compareOp .Lt (.ref l) (.ref b)) Q E s:=by
 obtain⟨⟨cls,dd,data,sl⟩,ho,hc,n,hd⟩:=id hl;obtain⟨⟨cls2,dd2,data2,sl2⟩,ho2,hc2,n2,hd2⟩:=id hb;simp only at hc hd hc2 hd2;subst hc hd hc2 hd2
 exact richCompare_meets_room (op:=.Lt) ⟨_,ho,rfl⟩ ⟨_,ho2,rfl⟩ PySem.F.slot_tuple_lt PySem.F.entry_tuple_lt (PySem.F.args_tuple_lt_2 _ _) (qJ l b items items2 n n2 dd dd2 sl sl2 ns ms hi hj)
  ⟨ho,ho2,show Mo (lexLt ns ms)≠Value.notImplemented/\Q (.bool (lexLt ns ms)) s from ⟨(λx=>nomatch x),h⟩⟩ hu
def cat_tup{t b:Addr}{vs ws:List Value}(ht:IsTup s.heap t vs.toArray)(hb:IsTup s.heap b ws.toArray)(hv:vs≠[])(h1:ws=[]->Q (.ref t) s)(h2:ws≠[]->Q (.ref s.heap.objs.size) { s with heap:=s.heap.push { cls:=.type "tuple",data:=.seq (vs++ws).toArray } })(hsz:vs.length+ws.length<=sizeLine):wpAny (model prog w) A (binaryOp .Add (.ref t) (.ref b)) Q E s:=by
 obtain⟨⟨cls,dd,data,sl⟩,ho,hc,n,hd⟩:=id ht;obtain⟨⟨cls2,dd2,data2,sl2⟩,ho2,hc2,n2,hd2⟩:=id hb;simp only at hc hd hc2 hd2;subst hc hd hc2 hd2;have e:vs.toArray++ws.toArray=(vs++ws).toArray:=by simp
 by_cases hw:ws=[]
 .exact OG ⟨_,ho,rfl⟩ ⟨_,ho2,rfl⟩ OA seq_tuple_add NE Nv (Nj _ _)
   (tuple_addW1 t b vs.toArray ws.toArray n n2 dd dd2 sl sl2 (by simpa using hv) (by simp [hw])) ⟨ho,ho2,h1 hw⟩
 .refine OG ⟨_,ho,rfl⟩ ⟨_,ho2,rfl⟩ OA seq_tuple_add NE Nv (Nj _ _)
   (tuple_addW2 t b vs.toArray ws.toArray n n2 dd dd2 sl sl2 (by simpa using hv) (by simpa using hw) (by rw [size_toArray,size_toArray];exact hsz)) ⟨ho,ho2,?_⟩
  rw [e];exact h2 hw
noncomputable def sIx(n d:Nat):Option Int->Nat
 | none=>d
 | some v=>if v<0 then (v+(n:Int)).toNat else min v.toNat n
def sIx_nat(n d k:Nat):sIx n d (some (k:Int))=min k n:=by
 show (if (k:Int)<0 then ((k:Int)+(n:Int)).toNat else min (k:Int).toNat n)=min k n;rw [if_neg (by omega),toNat_natCast]
def sIx_le(n d:Nat)(hd:d<=n)(o:Option Int):sIx n d o<=n:=by
 cases o with
 | none=>exact hd
 | some v =>
  show (if v<0 then (v+(n:Int)).toNat else min v.toNat n)<=n
  by_cases hv:v<0
  .rw [if_pos hv];omega
  .rw [if_neg hv];exact min_le_right _ _
def clip_eq(v:Int)(n d:Nat):(if v<0 then max (v+(n:Int)) 0 else min v (n:Int))=((sIx n d (some v):Nat):Int):=by
 show (if v<0 then max (v+(n:Int)) 0 else min v (n:Int))=(((if v<0 then (v+(n:Int)).toNat else min v.toNat n):Nat):Int)
 by_cases hv:v<0
 .simp only [if_pos hv];omega
 .simp only [if_neg hv];omega
def xS(lo hi:Option Int)(n:Nat):Ng lo hi 1 (n:Int)=(((sIx n 0 lo:Nat):Int),((sIx n n hi:Nat):Int)):=by
 have h1:¬ ((1:Int)<0):=by omega
 unfold Ng;simp only [h1,if_false]
 refine Oy ?_ ?_
 .cases lo with
  | none=>rfl
  | some v=>exact clip_eq v n 0
 .cases hi with
  | none=>rfl
  | some v=>exact clip_eq v n n
def xT(i j:Nat):MG (i:Int) (j:Int) 1=j - i:=by
 unfold MG;have h1:(1:Int) > 0:=by omega
 simp only [h1,if_true,ediv_one];split <;> omega
def p7{v:Value}{o:Option Int}{Q:Option Int->c_->Prop}(p:OH v o)(h:Q o s):wpAny (model prog w) A (Builtin.Slice.slicePartIndex v) Q E s:=by
 cases p with
 | none=>exact slicePart_none h
 | int i t=>exact slicePart_int h
variable {lo hi:Option Int}{n:Nat}
def gY{sl:Addr}{vl vu:Value}{Q:Int×Int×Nat->c_->Prop}(hs:s.heap.IsSliceOf sl vl vu .none)(pl:OH vl lo)(pu:OH vu hi)(h:Q (((sIx n 0 lo:Nat):Int),1,sIx n n hi - sIx n 0 lo) s):wpAny (model prog w) A (Oc (.ref sl) (pure (n:Int))) Q E s:=by
 obtain⟨os,hos,hcs,hds⟩:=id hs;unfold Oc Builtin.Slice.sliceFields;refine cn (cn (LP hos hds (x:=vl) rfl (cn (LP hos hds (x:=vu) rfl (cn (LP hos hds (x:=.none) rfl (f_ ?_)))))));refine cn (slicePart_none ?_);show wpAny _ _ (if ((1:Int) == 0)=true then _ else _) _ _ s;rw [if_neg (by decide)];refine cn (p7 pl (cn (p7 pu (cn (f_ ?_)))))
 show wpAny _ _ (match Ng lo hi 1 (n:Int) with|(lo,hi)=>pure (lo,(1:Int),MG lo hi 1)) _ _ s;rw [xS lo hi n];show wpAny _ _ (pure (((sIx n 0 lo:Nat):Int),(1:Int),MG ((sIx n 0 lo:Nat):Int) ((sIx n n hi:Nat):Int) 1)) _ _ s;rw [xT];exact f_ h
def BC(xs:Array Value)(i k:Nat):((e_ k).filterMap λ(m:Nat)=>xs[((i:Int)+(m:Int)*1).toNat]?).toArray=((xs.toList.drop i).take k).toArray:=by
 have e:(λ(m:Nat)=>xs[((i:Int)+(m:Int)*1).toNat]?)=λm=>xs[i+m]?:=by
  funext m;have:((i:Int)+(m:Int)*1).toNat=i+m:=by omega
  rw [this]
 rw [e];have:=pick_run xs i k;rw [Ot] at this;have e2:((λx=>xs[x]?) ∘ λx=>i+x)=λm=>xs[i+m]?:=rfl;rw [e2] at this;rw [this]
def getItem_tuple_cut{t sl:Addr}{vl vu:Value}(ht:IsTup s.heap t items)(hs:s.heap.IsSliceOf sl vl vu .none)(pl:OH vl lo)(pu:OH vu hi)(hw:¬ (sIx items.size 0 lo=0/\sIx items.size items.size hi=items.size))(h:Q (.ref s.heap.objs.size) { s with heap:=s.heap.push { cls:=.type "tuple",data:=.seq ((items.toList.drop (sIx items.size 0 lo)).take (sIx items.size items.size hi - sIx items.size 0 lo)).toArray } })(hsz:items.size<=sizeLine):wpAny (model prog w) A (getItem (.ref t) (.ref sl)) Q E s:=by
 have htake:sizeOk (.seq ((items.toList.drop (sIx items.size 0 lo)).take (sIx items.size items.size hi - sIx items.size 0 lo)).toArray):=by
  show ((items.toList.drop (sIx items.size 0 lo)).take (sIx items.size items.size hi - sIx items.size 0 lo)).toArray.size<=sizeLine;rw [size_toArray,length_take,length_drop,y_];omega
 have hj:sIx items.size items.size hi<=items.size:=sIx_le _ _ (gV _) hi;obtain⟨os,hos,hcs,hds⟩:=id hs;have hTs:s.TypeIs (.ref sl) "slice":=⟨os,hos,hcs⟩
 unfold getItem
 try with_reducible refine I_ ?_
 first|refine cn (f_ ?_)|skip
 refine cn (wpAny_sequenceKey ht.typeIs (by decide) ?_)
 refine cn (LK (name:=Mu "__getitem__") ht.typeIs Lx
  (L3 Lx ht.typeIs entry_tuple_getitem ?_ (args_tuple_getitem _ _)))
 show wpAny _ _ (Od (.ref t) >>= _) _ _ s;refine cn (tupleItemsOf_ ht ?_);refine cn (OI hTs ?_);rw [if_pos (by decide)];refine cn (gY hs pl pu ?_)
 have hno:¬ ((((sIx items.size 0 lo:Nat):Int) == 0 && (1:Int) == 1 && (sIx items.size items.size hi - sIx items.size 0 lo) == items.size)=true):=by
  intro q;rw [and_eq_true,and_eq_true] at q;have q1:((sIx items.size 0 lo:Nat):Int)=0:=eq_of_beq q.1.1;have q2:sIx items.size items.size hi - sIx items.size 0 lo=items.size:=eq_of_beq q.2;exact hw ⟨by omega,by omega⟩
 show wpAny _ _ (if (((sIx items.size 0 lo:Nat):Int) == 0 && (1:Int) == 1 && (sIx items.size items.size hi - sIx items.size 0 lo) == items.size)=true then _ else _) _ _ s;rw [if_neg hno,BC]
 first
  | exact cn (m:=MQ _) (LH (f_ ⟨_,rfl,f_ h⟩) htake)
  | exact cn (m:=MQ _) (LH (cn (f_ (f_ ⟨_,rfl,f_ h⟩))) htake)
  | exact cn (cn (m:=MQ _) (LH (f_ (f_ ⟨_,rfl,f_ h⟩)) htake))
  | exact cn (cn (m:=MQ _) (LH (f_ ⟨_,rfl,f_ h⟩) htake))
end HT
namespace L2
open PySem PySem.Spec PyProof.Rows
abbrev TO:=St->Hp->(Option Int->Hp->Prop)->Prop
noncomputable def PO(X:Cx)(e:Option Expr)(t:TO):Prop :=
 ∀(pins:List (Addr×Obj)) (s:c_) (σ:St) (H:Hp) (Q:Option Int->Hp->Prop),Inv X pins σ H s->t σ H Q ->
  wpAny (model X.prog X.w) X.A (evalPart e X.env) (λu s'=>∃o H',Inv X pins σ H' s'/\OH u o/\Q o H') X.xe s
def ng:TO:=λ_ H Q=>Q none H
noncomputable def ze(t:TE):TO:=λσ H Q=>t σ H λx H1=>∃i,x=.int i/\Q (some i) H1
variable {ns:List Int}
def cZ:∀{us:List Value},bK (ns.map V.int) us->Mt us ns:=by
 induction ns with
 | nil=>intro us r;rw [map_nil] at r;cases r;exact .nil
 | cons n ns ih =>
  intro us r;rw [map_cons] at r
  cases r with
  | cons r1 r2 =>
   obtain⟨t,e⟩:=r1;subst e;exact .cons n t (ih r2)
variable {X:Cx}
def bO:PO X none ng:=by
 intro pins s σ H Q I h;rw [evalPart_none];exact f_ ⟨none,H,I,.none,h⟩
variable {e:Expr}{te:TE}
def bE(h:PE X e te):PO X (some e) (ze te):=by
 intro pins s σ H Q I hw;rw [evalPart_some];refine thn (h pins s σ H _ I hw) λu s1 ⟨x,H1,I1,r1,q1⟩=>?_;obtain⟨i,rfl,q⟩:=q1;obtain⟨t,rfl⟩:=r1;exact⟨some i,H1,I1,.int i t,q⟩
variable {lo hi:Option Expr}
noncomputable def SlR(X:Cx)(r:V->Option Int->Option Int->Hp->VK->Prop):Prop :=
 ∀(pins:List (Addr×Obj)) (s:c_) (σ:St) (H:Hp) (x:V) (v vl vu:Value) (lo hi:Option Int) (sl:Addr) (Q:VK),Inv X pins σ H s->c9 x v->s.heap.IsSliceOf sl vl vu .none->OH vl lo->OH vu hi->r x lo hi H Q ->
  ∃T id,typeLookup (.type T) "__getitem__"=pure (some (.builtin id))/\s.TypeIs v T/\wpAny (model X.prog X.w) X.A (getItem v (.ref sl)) (EP X pins σ Q) X.xe s
def SlR.or{r r':V->Option Int->Option Int->Hp->VK->Prop}(h:SlR X r)(h':SlR X r'):SlR X (λx lo hi H Q=>r x lo hi H Q\/r' x lo hi H Q):=by
 intro pins s σ H x v vl vu lo hi sl Q I rx hs pl pu q
 rcases q with q|q
 .exact h pins s σ H x v vl vu lo hi sl Q I rx hs pl pu q
 .exact h' pins s σ H x v vl vu lo hi sl Q I rx hs pl pu q
variable {tl th:TO}
noncomputable def tSl(r:V->Option Int->Option Int->Hp->VK->Prop)(te:TE)(tl th:TO):TE:=λσ H Q=>te σ H λx H1=>tl σ H1 λl H2=>th σ H2 λu H3=>r x l u H3 Q
variable {pos p2:Pos}
def bo{r:V->Option Int->Option Int->Hp->VK->Prop}(hr:SlR X r)(he:PE X e te)(hl:PO X lo tl)(hu:PO X hi th):PE X (.Subscript e (.Slice lo hi none p2) pos) (tSl r te tl th):=by
 intro pins s σ H Q I h;refine Subscript_ (thn (he pins s σ H _ I h) λv s1 ⟨x,H1,I1,r1,q1⟩=>?_);refine wpAny_Slice (thn (hl pins s1 σ H1 _ I1 q1) λvl s2 ⟨l,H2,I2,pl,q2⟩=>thn (hu pins s2 σ H2 _ I2 q2) λvu s3 ⟨u,H3,I3,pu,q3⟩=>?_);rw [evalPart_none];refine f_ ?_;have I4:Inv X pins σ H3 { s3 with heap:=s3.heap.push { cls:=.type "slice",data:=.fields #[vl,vu,.none] } }:=I3.kept (t':=s3.toks) λb ob q=>d_ _ q
 obtain⟨T,id,hT,ht,hg⟩:=hr pins { s3 with heap:=s3.heap.push { cls:=.type "slice",data:=.fields #[vl,vu,.none] } } σ H3 x v vl vu l u s3.heap.objs.size Q I4 r1 (Heap.IsSliceOf.new ..) pl pu q3;show wpAny (model X.prog X.w) X.A (subscriptTail e (.Slice lo hi none p2) v (.ref s3.heap.objs.size)) (EP X pins σ Q) X.xe { s3 with heap:=s3.heap.push { cls:=.type "slice",data:=.fields #[vl,vu,.none] } };exact tail_any (ops:=[.ref s3.heap.objs.size,v]) ht hT hg (by with_unfolding_all rfl)
noncomputable def DX(xs:List V)(lo hi:Option Int):List V:=(xs.drop (HT.sIx xs.length 0 lo)).take (HT.sIx xs.length xs.length hi - HT.sIx xs.length 0 lo)
def nh(xs:List V)(lo hi:Option Int):(DX xs lo hi).length<=xs.length:=by
 unfold DX;rw [length_take,length_drop];omega
noncomputable def Kt(K:b_):V->Option Int->Option Int->Hp->VK->Prop:=λx lo hi H Q=>∃a xs,x=.ref a/\SqT K H a xs /\
 ¬ (HT.sIx xs.length 0 lo=0/\HT.sIx xs.length xs.length hi=xs.length)/\∀p,H p=none->Q (.ref p) (upd H p (.tup (DX xs lo hi)))
def Gu:SlR X (Kt X.K):=by
 intro pins s σ H x v vl vu lo hi sl Q I rx hs pl pu h;obtain⟨a,xs,rfl,hx,hw,q⟩:=h;cases rx;obtain⟨its,r,ht,hz⟩:=I.tuple hx;have hlen:its.toArray.size=xs.length:=by rw [size_toArray];exact r.length.symm
 refine⟨"tuple",_,Lx.lookup,ht.typeIs,?_⟩;refine HT.getItem_tuple_cut ht hs pl pu (by rw [hlen];exact hw) ?_ (by rw [hlen];exact hz);rw [hlen];refine⟨.ref s.heap.objs.size,_,I.laid (t':=s.toks) (o:=.tup (DX xs lo hi)) (λb ob q=>d_ _ q) (gV _) ?_,rfl,q _ (I.hok.fresh (gV _))⟩;exact⟨s_ (nh xs lo hi) hz,_,(r.drop (HT.sIx xs.length 0 lo)).take (HT.sIx xs.length xs.length hi - HT.sIx xs.length 0 lo),IsTup.new _ _⟩
noncomputable def Gv(K:b_):R2:=λx y H Q=>∃a b xs ys,x=.ref a/\y=.ref b/\SqT K H a xs/\SqT K H b ys/\xs≠[]/\xs.length+ys.length<=sizeLine /\
 (ys=[]->Q (.ref a) H)/\(ys≠[]->∀p,H p=none->Q (.ref p) (upd H p (.tup (xs++ys))))
variable {xs:List V}{us:List Value}
def bK.nil_iff(r:bK xs us):us=[] ↔ xs=[]:=by
 cases r with
 | nil=>simp
 | cons _ _=>simp
def DY:OpR X (binaryOp .Add) (Gv X.K):=by
 intro pins s σ H x y v u Q I rx ry h;obtain⟨a,b,xs,ys,rfl,rfl,ha,hb,hx,hz,q1,q2⟩:=h;cases rx;cases ry;obtain⟨its,r1,p1,_⟩:=I.tuple ha;obtain⟨its2,r2,p2,_⟩:=I.tuple hb;refine HT.cat_tup p1 p2 (λz=>hx (r1.nil_iff.mp z)) (λz=>⟨.ref a,H,I,rfl,q1 (r2.nil_iff.mp z)⟩) (λz=>?_) (by rw [<- r1.length,<- r2.length];exact hz);refine⟨.ref s.heap.objs.size,_,I.laid (t':=s.toks) (o:=.tup (xs++ys)) (λb ob q=>d_ _ q) (gV _) ?_,rfl,q2 (λw=>z (r2.nil_iff.mpr w)) _ (I.hok.fresh (gV _))⟩
 exact⟨by rw [length_append];exact hz,_,r1.append r2,IsTup.new _ _⟩
noncomputable def ixN(n:Nat)(i:Int):Option Nat:=if 0<=i then (if i<n then some i.toNat else none) else if -(n:Int)<=i then some (i+n).toNat else none
variable {α:Type}
noncomputable def atI(xs:List α)(i:Int):Option α:=(ixN xs.length i).bind λj=>xs[j]?
variable {n j:Nat}
def uR{i:Int}(h:ixN n i=some j):seqIndex? i n=some j/\j<n/\-(n:Int)<=i/\i<n:=by
 unfold ixN at h
 by_cases h0:0<=i
 .rw [if_pos h0] at h
  by_cases h1:i<n
  .rw [if_pos h1] at h;have e:i.toNat=j:=q_ h;exact⟨by rw [seqIndex_of h0 h1,e],by omega,by omega,h1⟩
  .rw [if_neg h1] at h;cases h
 .rw [if_neg h0] at h
  by_cases h1:-(n:Int)<=i
  .rw [if_pos h1] at h;have e:(i+n).toNat=j:=q_ h;exact⟨by rw [seqIndex_neg (by omega) h1,e],by omega,h1,by omega⟩
  .rw [if_neg h1] at h;cases h
def uS{xs:List α}{i:Int}{v:α}(h:atI xs i=some v):∃j,seqIndex? i xs.length=some j/\xs[j]?=some v/\j<xs.length/\-(xs.length:Int)<=i/\i<xs.length:=by
 unfold atI at h
 cases e:ixN xs.length i with
 | none=>rw [e] at h;cases h
 | some j =>
  rw [e] at h;obtain⟨h1,h2,h3,h4⟩:=uR e;exact⟨j,h1,h,h2,h3,h4⟩
def DZ{xs:List α}{v:α}(h:xs[j]?=some v):atI xs (j:Int)=some v:=by
 have hj:j<xs.length:=(i_.mp h).1
 have e:ixN xs.length (j:Int)=some j:=by
  unfold ixN;rw [if_pos (by omega),if_pos (by omega)];simp
 unfold atI;rw [e];exact h
noncomputable def D0(b:Expr):Prop:=∀o i,subscripted b false o i=operate [o,i] (getItem o i)
noncomputable def IxR(X:Cx)(r:R2):Prop :=
 ∀(value slice:Expr) (pins:List (Addr×Obj)) (s:c_) (σ:St) (H:Hp) (x y:V) (v u:Value) (Q:VK),Inv X pins σ H s->c9 x v->c9 y u->r x y H Q ->
  subscripted slice false v u=operate [v,u] (getItem v u)->wpAny (model X.prog X.w) X.A (subscriptTail value slice v u) (EP X pins σ Q) X.xe s
noncomputable def MtR(X:Cx)(id:String)(r:V->List V->Hp->VK->Prop):Prop :=
 ∀(pins:List (Addr×Obj)) (s:c_) (σ:St) (H:Hp) (x:V) (xs:List V) (v:Value) (us:List Value) (Q:VK),Inv X pins σ H s->c9 x v->bK xs us->r x xs H Q ->
  wpAny (model X.prog X.w) X.A (call (.builtin id) (v::us)) (EP X pins σ Q) X.xe s
section
variable {r r':R2}
def IxR.or(h:IxR X r)(h':IxR X r'):IxR X (λx y H Q=>r x y H Q\/r' x y H Q):=by
 intro value slice pins s σ H x y v u Q I rx ry q hs
 rcases q with q|q
 .exact h value slice pins s σ H x y v u Q I rx ry q hs
 .exact h' value slice pins s σ H x y v u Q I rx ry q hs
variable {a b:Expr}{ta tb:TE}
def bz(hr:IxR X r)(ha:PE X a ta)(hb:PE X b tb)(hs:D0 b):PE X (.Subscript a b pos) (tOp r ta tb):=by
 intro pins s σ H Q I h;exact Subscript_ (IY ha hb I h λv u s2 x y H2 I2 rx ry q=>hr a b pins s2 σ H2 x y v u Q I2 rx ry q (hs _ _))
noncomputable def Ku(K:b_):R2:=λx y H Q=>∃p xs i v,x=.ref p/\y=.int i/\SqL K H p xs/\atI xs i=some v/\Q v H
noncomputable def Kv(K:b_):R2:=λx y H Q=>∃p xs i v,x=.ref p/\y=.int i/\SqT K H p xs/\atI xs i=some v/\Q v H
noncomputable def La:R2:=λx y H Q=>∃z i c,x=.str z/\y=.int i/\z.length<=sizeLine/\atI z.cps.toList i=some c/\Q (.str ⟨#[c]⟩) H
def D1:IxR X (Ku X.K):=by
 intro value slice pins s σ H x y v u Q I rx ry h hs;obtain⟨p,xs,i,z,rfl,rfl,hq,he,q⟩:=h;cases rx;obtain⟨t,rfl⟩:=ry;obtain⟨its,r,pl,hz⟩:=I.list hq;obtain⟨j,h1,h2,h3,h4,h5⟩:=uS he;obtain⟨w,ew,rw'⟩:=r.get h2;have hl:=r.length;have hn:=mY;have fin:EP X pins σ Q w s:=⟨z,H,I,rw',q⟩
 by_cases h0:0<=i
 .have hj:i.toNat=j:=by
   rw [seqIndex_of h0 h5] at h1;exact q_ h1
  exact item_listR pl.isList h0 (by omega) (by rw [hj];simpa using ew) fin hs
 .have hj:(i+(its.toArray.size:Int)).toNat=j:=by
   rw [seqIndex_neg (by omega) h4] at h1;rw [size_toArray,<- hl];exact q_ h1
  exact subscriptTail_builtinR (x:=w) pl.isList.typeIs Ol.lookup
   (wpAny_getItem_list_neg (Q:=λr s'=>r=w/\EP X pins σ Q r s') pl.isList (by omega) (by rw [size_toArray] <;> omega) (by omega) (by rw [hj];simpa using ew) ⟨rfl,fin⟩) hs
def Gw:IxR X (Kv X.K):=by
 intro value slice pins s σ H x y v u Q I rx ry h hs;obtain⟨p,xs,i,z,rfl,rfl,hq,he,q⟩:=h;cases rx;obtain⟨t,rfl⟩:=ry;obtain⟨its,r,pl,hz⟩:=I.tuple hq;obtain⟨j,h1,h2,h3,h4,h5⟩:=uS he;obtain⟨w,ew,rw'⟩:=r.get h2;have hl:=r.length;have hn:=mY;have fin:EP X pins σ Q w s:=⟨z,H,I,rw',q⟩
 exact subscriptTail_builtinR (x:=w) pl.typeIs slot_tuple_getitem.lookup
  (getItem_tuple (j:=j) (Q:=λr s'=>r=w/\EP X pins σ Q r s') pl (by omega) (by omega) (by rw [size_toArray,<- hl];exact h1) (by simpa using ew) ⟨rfl,fin⟩) hs
def Gx:IxR X La:=by
 intro value slice pins s σ H x y v u Q I rx ry h hs;obtain⟨z,i,c,rfl,rfl,hz,he,q⟩:=h;obtain⟨t,rfl⟩:=rx;obtain⟨t',rfl⟩:=ry;obtain⟨j,h1,h2,h3,h4,h5⟩:=uS he;have hl:z.cps.toList.length=z.length:=by simp [Str.length]
 rw [hl] at h1 h4 h5;have hn:=mY
 exact tail_any (typeIs_str s z t) slot_str_getitem.lookup (getItem_str (c:=c) (by
  have e1:decide (i < -(2^63:Int))=false:=decide_eq_false (by omega);have e2:decide (i >= 2^63)=false:=decide_eq_false (by omega);rw [e1,e2,Bool.or_false]) (by rw [h1];simpa using h2) ⟨.str ⟨#[c]⟩,H,I.tok _,⟨_,rfl⟩,q⟩) hs
def xU(its:List Value)(n j:Nat)(u:Value):Lw (·.setIfInBounds j u) { cls:=.type "list",data:=.seq its.toArray n }={ cls:=.type "list",data:=.seq (its.set j u).toArray n }:=by
 simp [Lw]
variable {pins:List (Addr×Obj)}{σ:St}{H:Hp}{s:c_}
def Inv.lst{p:Addr}(I:Inv X pins σ H s)(h:H p=some (.lst xs)):
  ∃(its:List Value) (n:Nat),bK xs its/\s.heap.get? p=some { cls:=.type "list",data:=.seq its.toArray n }/\xs.length<=sizeLine:=by
 obtain⟨z,its,n,r,e⟩:=I.hok p _ h;exact⟨its,n,r,e,z⟩
variable {its:List Value}
def Inv.lstUpd{p:Addr}{ys:List V}{its':List Value}{n':Nat}{f:Obj->Obj}(I:Inv X pins σ H s)(h:H p=some (.lst xs))(ho:s.heap.get? p=some { cls:=.type "list",data:=.seq its.toArray n })(hf:f { cls:=.type "list",data:=.seq its.toArray n }={ cls:=.type "list",data:=.seq its'.toArray n' })(r:bK ys its')(hz:ys.length<=sizeLine)(t:Nat):
  Inv X pins σ (upd H p (.lst ys)) { s with heap:=s.heap.update p f,toks:=t }:=by
 have e:(s.heap.update p f).get? p=some { cls:=.type "list",data:=.seq its'.toArray n' }:=by
  rw [Mg f ho (by rw [hf] <;> rfl),hf]
 refine I.write (x:=p) (e:=p) (by rw [h];trivial) (.inl rfl) (λb u hb q=>(C_ _ _ (MW hb)).trans q) ⟨_,e⟩ ?_;exact⟨hz,its',n',r,e⟩
noncomputable def Gy:V->V->V->Hp->(Hp->Prop)->Prop:=λo i v H Q=>∃p xs k j,o=.ref p/\i=.int k/\H p=some (.lst xs)/\ixN xs.length k=some j/\Q (upd H p (.lst (xs.set j v)))
def wQ:Km X Gy:=by
 intro pins s σ H o i v ov iv u Q I ro ri rv h;obtain⟨p,xs,k,j,rfl,rfl,hp,hj,q⟩:=h;cases ro;obtain⟨t,rfl⟩:=ri;obtain⟨its,n,r,ho,hz⟩:=I.lst hp;obtain⟨h1,h2,h3,h4⟩:=uR hj;have hl:=r.length;have hn:=mY
 have I':Inv X pins σ (upd H p (.lst (xs.set j v))) { s with heap:=s.heap.update p (Lw (·.setIfInBounds j u)) } :=
  I.lstUpd hp ho (xU its n j u) (r.set rv j) (by rw [L0];exact hz) s.toks
 by_cases h0:0<=k
 .have hk:k.toNat=j:=by
   rw [seqIndex_of h0 h4] at h1;exact q_ h1
  exact PySem.W.ki_setAt ho h0 (by omega) (by rw [size_toArray,<- hl];exact h4) (by rw [hk];exact⟨_,I',q⟩)
 .have hk:(k+(its.toArray.size:Int)).toNat=j:=by
   rw [seqIndex_neg (by omega) h3] at h1;rw [size_toArray,<- hl];exact q_ h1
  exact PySem.W.ki_setBack ho (by omega) (by rw [size_toArray,<- hl];exact h3) (by omega) (by rw [hk];exact⟨_,I',q⟩)
def sB(lo hi:Option Int)(n:Nat):(sliceBounds lo hi none n).1=((HT.sIx n 0 lo:Nat):Int)/\(sliceBounds lo hi none n).2.1=((HT.sIx n n hi:Nat):Int)/\(sliceBounds lo hi none n).2.2=1:=by
 refine⟨?_,?_,rfl⟩
 .cases lo with
  | none=>simp [sliceBounds,HT.sIx]
  | some i =>
   simp only [sliceBounds,HT.sIx,Option.getD_none,show (1:Int) > 0 by decide,if_true]
   by_cases h:i<0
   .simp only [h,if_true] <;> omega
   .simp only [h,if_false] <;> omega
 .cases hi with
  | none=>simp [sliceBounds,HT.sIx]
  | some i =>
   simp only [sliceBounds,HT.sIx,Option.getD_none,show (1:Int) > 0 by decide,if_true]
   by_cases h:i<0
   .simp only [h,if_true] <;> omega
   .simp only [h,if_false] <;> omega
def qK(its:List Value)(lo hi:Option Int):slicePick its.toArray lo hi none=((its.drop (HT.sIx its.length 0 lo)).take (HT.sIx its.length its.length hi - HT.sIx its.length 0 lo)).toArray:=by
 obtain⟨h1,h2,h3⟩:=sB lo hi its.toArray.size;unfold slicePick;rw [h1,h2,h3];simp only [sliceRange_one,pick_run,size_toArray] <;> rfl
noncomputable def Kw(K:b_):V->Option Int->Option Int->Hp->VK->Prop:=λx lo hi H Q=>∃a xs,x=.ref a/\SqL K H a xs/\∀p,H p=none->Q (.ref p) (upd H p (.lst (DX xs lo hi)))
def D2:SlR X (Kw X.K):=by
 intro pins s σ H x v vl vu lo hi sl Q I rx hs pl pu h;obtain⟨a,xs,rfl,hx,q⟩:=h;cases rx;obtain⟨its,r,ht,hz⟩:=I.list hx;have hlen:=r.length;refine⟨"list",_,Ol.lookup,ht.isList.typeIs,?_⟩;refine wpAny_getItem_list_slice ht.isList hs pl pu .none (by simp) ?_ (by rw [size_toArray] <;> omega);rw [qK,<- hlen];refine⟨.ref s.heap.objs.size,_,I.laid (t':=s.toks) (o:=.lst (DX xs lo hi)) (λb ob q=>d_ _ q) (gV _) ?_,rfl,q _ (I.hok.fresh (gV _))⟩
 exact⟨s_ (nh xs lo hi) hz,_,0,(r.drop (HT.sIx xs.length 0 lo)).take (HT.sIx xs.length xs.length hi - HT.sIx xs.length 0 lo),g_ _ rfl⟩
noncomputable def pz:V->Bool
 | .non=>true
 | .bl _=>true
 | .int _=>true
 | .str _=>true
 | _=>false
noncomputable def eqV:V->V->Bool
 | .non,.non=>true
 | .bl a,.bl b=>a == b
 | .bl a,.int b=>(if a then 1 else 0) == b
 | .int a,.bl b=>a == (if b then 1 else 0)
 | .int a,.int b=>a == b
 | .str a,.str b=>a == b
 | _,_=>false
variable {A:C0}{y:V}{u:Value}
def Gz{x:V}{v:Value}(ry:c9 y u)(rx:c9 x v)(fy:pz y=true)(fx:pz x=true):SeqAt.EqAt A s u v (eqV y x):=by
 cases y with
 | non =>
  cases ry
  cases x with
  | non=>cases rx;exact SeqAt.EqAt.same _
  | bl b=>cases rx;exact SeqAt.EqAt.none_bool b
  | int b=>obtain⟨t,rfl⟩:=rx;exact SeqAt.EqAt.none_int b t
  | str b=>obtain⟨t,rfl⟩:=rx;exact SeqAt.EqAt.none_str b t
  | _=>exact absurd (show false=true from fx) k_
 | bl a =>
  cases ry
  cases x with
  | non=>cases rx;exact SeqAt.EqAt.bool_none a
  | bl b=>cases rx;exact SeqAt.EqAt.bool_bool a b
  | int b=>obtain⟨t,rfl⟩:=rx;exact SeqAt.EqAt.bool_int a b t
  | str b=>obtain⟨t,rfl⟩:=rx;exact SeqAt.EqAt.bool_str a b t
  | _=>exact absurd (show false=true from fx) k_
 | int a =>
  obtain⟨t',rfl⟩:=ry
  cases x with
  | non=>cases rx;exact SeqAt.EqAt.int_none a t'
  | bl b=>cases rx;exact SeqAt.EqAt.int_bool a t' b
  | int b=>obtain⟨t,rfl⟩:=rx;exact SeqAt.EqAt.int_int a t' b t
  | str b=>obtain⟨t,rfl⟩:=rx;exact SeqAt.EqAt.int_str a t' b t
  | _=>exact absurd (show false=true from fx) k_
 | str a =>
  obtain⟨t',rfl⟩:=ry
  cases x with
  | non=>cases rx;exact SeqAt.EqAt.str_none a t'
  | bl b=>cases rx;exact SeqAt.EqAt.str_bool a t' b
  | int b=>obtain⟨t,rfl⟩:=rx;exact SeqAt.EqAt.str_int a t' b t
  | str b=>obtain⟨t,rfl⟩:=rx;exact SeqAt.EqAt.str_str a t' b t
  | _=>exact absurd (show false=true from fx) k_
 | _=>exact absurd (show false=true from fy) k_
noncomputable def eqU(x:V)(u:Value):Bool:=match u with
 | .none=>eqV .non x
 | .bool b=>eqV (.bl b) x
 | .int i _=>eqV (.int i) x
 | .str z _=>eqV (.str z) x
 | _=>false
def CG{x:V}(r:c9 y u)(f:pz y=true):eqU x u=eqV y x:=by
 cases y with
 | non=>cases r;rfl
 | bl b=>cases r;rfl
 | int i=>obtain⟨t,rfl⟩:=r;rfl
 | str z=>obtain⟨t,rfl⟩:=r;rfl
 | _=>exact absurd (show false=true from f) k_
theorem nk{x:V}:∀{xs:List V}{us:List Value},bK xs us->xs.all pz=true->us.any (eqU x)=xs.any λy=>eqV y x
 | _,_,.nil,_=>rfl
 | y::xs,u::us,.cons r t,f=>by
  rw [all_cons,and_eq_true] at f;rw [any_cons,any_cons,CG r f.1,nk t f.2]
theorem kc{x:V}{v:Value}(rx:c9 x v)(fx:pz x=true):∀{xs:List V}{us:List Value},bK xs us->xs.all pz=true->∀u∈us,SeqAt.EqAt A s u v (eqU x u)
 | _,_,.nil,_=>λu hu=>by cases hu
 | y::xs,u::us,.cons r t,f=>λu' hu=>by
  rw [all_cons,and_eq_true] at f
  rcases A_.mp hu with rfl|hu
  .rw [CG r f.1];exact Gz r rx f.1 fx
  .exact kc rx fx t f.2 u' hu
noncomputable def inV(x:V)(xs:List V):Bool:=xs.any λy=>eqV y x
noncomputable def rIn(K:b_)(neg:Bool):R2:=λx y H Q=>∃p xs,y=.ref p/\(SqL K H p xs\/SqT K H p xs)/\pz x=true/\xs.all pz=true/\Q (.bl (if neg then !inV x xs else inV x xs)) H
def zf:OpR X (compareOp .In) (rIn X.K false):=by
 intro pins s σ H x y v u Q I rx ry h;obtain⟨p,xs,rfl,hq,fx,fs,q⟩:=h;cases ry
 rcases hq with hq|hq
 .obtain⟨its,r,pl,hz⟩:=I.list hq;refine SeqAt.in_listAt (eqU x) pl.isList (λw hw=>kc rx fx r fs w (by simpa using hw)) ⟨.bl _,H,I,rfl,?_⟩;rw [show its.toArray.any (eqU x)=its.any (eqU x) by simp,nk r fs];exact q
 .obtain⟨its,r,pl,hz⟩:=I.tuple hq;refine SeqAt.in_tupleAt (eqU x) pl (λw hw=>kc rx fx r fs w (by simpa using hw)) ⟨.bl _,H,I,rfl,?_⟩;rw [show its.toArray.any (eqU x)=its.any (eqU x) by simp,nk r fs];exact q
def sC:OpR X (compareOp .NotIn) (rIn X.K true):=by
 intro pins s σ H x y v u Q I rx ry h;obtain⟨p,xs,rfl,hq,fx,fs,q⟩:=h;cases ry
 rcases hq with hq|hq
 .obtain⟨its,r,pl,hz⟩:=I.list hq;refine SeqAt.notIn_listAt (eqU x) pl.isList (λw hw=>kc rx fx r fs w (by simpa using hw)) ⟨.bl _,H,I,rfl,?_⟩;rw [show its.toArray.any (eqU x)=its.any (eqU x) by simp,nk r fs];exact q
 .obtain⟨its,r,pl,hz⟩:=I.tuple hq;refine SeqAt.notIn_tupleAt (eqU x) pl (λw hw=>kc rx fx r fs w (by simpa using hw)) ⟨.bl _,H,I,rfl,?_⟩;rw [show its.toArray.any (eqU x)=its.any (eqU x) by simp,nk r fs];exact q
def lM:bJ X (.builtin "len") (λxs H Q=>∃p ys,xs=[.ref p]/\(SqL X.K H p ys\/SqT X.K H p ys)/\Q (.int ys.length) H):=by
 intro pins s σ H xs us Q I r h;obtain⟨p,ys,rfl,hq,q⟩:=h;obtain⟨u,rfl,rx⟩:=fJ r;cases rx;have hn:=mY
 rcases hq with hq|hq
 .obtain⟨its,r',pl,hz⟩:=I.list hq;have hlen:=r'.length;exact Calls.call_len_list pl.isList (by simp only [size_toArray] <;> omega) ⟨.int ys.length,H,I.tok _,⟨s.toks+1,by rw [size_toArray,hlen]⟩,q⟩
 .obtain⟨its,r',pl,hz⟩:=I.tuple hq;have hlen:=r'.length;exact len_tuple pl (by simp only [size_toArray] <;> omega) ⟨.int ys.length,H,I.tok _,⟨s.toks+1,by rw [size_toArray,hlen]⟩,q⟩
def sD:bJ X (.builtin "len") (λxs H Q=>∃z,xs=[.str z]/\z.length<=sizeLine/\Q (.int z.length) H):=by
 intro pins s σ H xs us Q I r h;obtain⟨z,rfl,hz,q⟩:=h;obtain⟨u,rfl,t,rfl⟩:=fJ r;have hn:=mY;exact len_str (by omega) ⟨.int z.length,H,I.tok _,⟨_,rfl⟩,q⟩
def bJ.or{f:Value}{r r':List V->Hp->VK->Prop}(h:bJ X f r)(h':bJ X f r'):bJ X f (λxs H Q=>r xs H Q\/r' xs H Q):=by
 intro pins s σ H xs us Q I rs q
 rcases q with q|q
 .exact h pins s σ H xs us Q I rs q
 .exact h' pins s σ H xs us Q I rs q
def sE:bJ X (.type "list") (λxs H Q=>∃p ys,xs=[.ref p]/\(SqL X.K H p ys\/SqT X.K H p ys)/\∀l,H l=none->Q (.ref l) (upd H l (.lst ys))):=by
 intro pins s σ H xs us Q I r h;obtain⟨p,ys,rfl,hq,q⟩:=h;obtain⟨u,rfl,rx⟩:=fJ r;cases rx
 have fin:∀(its:List Value),bK ys its->ys.length<=sizeLine->∀(h':Heap) (c':Nat),(∀b o',s.heap.get? b=some o'->h'.get? b=some o') ->
   h'.get? s.heap.objs.size=some { cls:=.type "list",dict:=none,data:=.seq its.toArray c',slots:=#[] }->EP X pins σ Q (.ref s.heap.objs.size) { s with heap:=h' }:=λits r' hz h' c' kp e =>
  ⟨.ref s.heap.objs.size,_,I.laid (t':=s.toks) kp (gV _) (show cm X.prog X.w _ h' _ (.lst ys) from ⟨hz,its,c',r',e⟩),rfl,q _ (I.hok.fresh (gV _))⟩
 rcases hq with hq|hq
 .obtain⟨its,r',pl,hz⟩:=I.list hq;have hlen:=r'.length;obtain⟨o,ho,hc,n,hd⟩:=pl.isList;exact call_list_seq p (.inl rfl) ho hc hd (λh' c' kp e=>fin its r' hz h' c' kp e) (by simp only [size_toArray] <;> omega)
 .obtain⟨its,r',pl,hz⟩:=I.tuple hq;have hlen:=r'.length;obtain⟨o,ho,hc,n,hd⟩:=pl;exact call_list_seq p (.inr rfl) ho hc hd (λh' c' kp e=>fin its r' hz h' c' kp e) (by simp only [size_toArray] <;> omega)
def qL:bJ X (.type "tuple") (λxs H Q=>∃p ys,xs=[.ref p]/\((SqL X.K H p ys/\∀l,H l=none->Q (.ref l) (upd H l (.tup ys)))\/(SqT X.K H p ys/\Q (.ref p) H))):=by
 intro pins s σ H xs us Q I r h;obtain⟨p,ys,rfl,h⟩:=h;obtain⟨u,rfl,rx⟩:=fJ r;cases rx
 rcases h with ⟨hq,q⟩|⟨hq,q⟩
 .obtain⟨its,r',pl,hz⟩:=I.list hq;have hlen:=r'.length;refine call_tuple_list pl.isList (λh' kp=>?_) (by simp only [size_toArray] <;> omega);have I1:Inv X pins σ H { s with heap:=h' }:=I.kept (t':=s.toks) kp
  have I2:Inv X pins σ (upd H h'.objs.size (.tup ys)) { s with heap:=h'.push { cls:=.type "tuple",data:=.seq its.toArray } } :=
   I1.laid (t':=s.toks) (λb o e=>d_ _ e) (gV _) (show cm X.prog X.w _ _ _ (.tup ys) from ⟨hz,its,r',IsTup.new _ _⟩)
  exact⟨.ref h'.objs.size,_,I2,rfl,q _ (I1.hok.fresh (gV _))⟩
 .obtain⟨its,r',pl,hz⟩:=I.tuple hq;exact call_tuple_same pl ⟨.ref p,H,I,rfl,q⟩
noncomputable def tyV(K:b_)(T:String)(x:V)(H:Hp):Prop:=match x with
 | .str _=>T="str"
 | .int _=>T="int"
 | .ref p=>(T="list"/\∃xs,SqL K H p xs)\/(T="tuple"/\∃o,K.lookup p=some o/\o.cls=.type "tuple"/\o.dict=none) \/
   (T="dict"/\((∃kvs,H p=some (.dK kvs))\/∃kvs,H p=some (.dT kvs)))\/(T="set"/\∃S n,H p=some (.set S n))
 | _=>False
def CH{T:String}{x:V}{v:Value}(I:Inv X pins σ H s)(r:c9 x v)(ty:tyV X.K T x H):
  s.TypeIs v T/\∀a,v=.ref a->∃ob,s.heap.get? a=some ob/\ob.dict=none:=by
 cases x with
 | str z =>
  obtain⟨t,rfl⟩:=r;cases (show T="str" from ty);exact⟨typeIs_str s z t,λ_ e=>nomatch e⟩
 | int i =>
  obtain⟨t,rfl⟩:=r;cases (show T="int" from ty);exact⟨typeIs_int s i t,λ_ e=>nomatch e⟩
 | ref p =>
  cases r
  rcases ty with ⟨rfl,xs,hq⟩|⟨rfl,o,hk,hc,hd⟩|⟨rfl,hk⟩|⟨rfl,S,n,hk⟩
  .obtain⟨its,_,pl,_⟩:=I.list hq;refine⟨pl.isList.typeIs,λa e=>?_⟩;cases e;obtain⟨o,n,e,c,hd,_⟩:=pl;exact⟨o,e,hd⟩
  .refine⟨⟨o,I.kIn p o hk,hc⟩,λa e=>?_⟩;cases e;exact⟨o,I.kIn _ o hk,hd⟩
  .have z:∃o,s.heap.get? p=some o/\o.ExactDict:=by
    rcases hk with ⟨kvs,hk⟩|⟨kvs,hk⟩
    .obtain⟨_,_,_,_,o,_,_,e,ex,_⟩:=I.hok p _ hk;exact⟨o,e,ex⟩
    .obtain⟨_,_,_,_,o,_,_,e,ex,_⟩:=I.hok p _ hk;exact⟨o,e,ex⟩
   obtain⟨o,e,ex⟩:=z;refine⟨⟨o,e,ex.1⟩,λa e2=>?_⟩;cases e2;exact⟨o,e,ex.2.1⟩
  .obtain⟨o,_,_,_,e,ex,_⟩:=I.hok p _ hk;refine⟨⟨o,e,ex.1⟩,λa e2=>?_⟩;cases e2;exact⟨o,e,ex.2.1⟩
 | _=>exact Mq ty
noncomputable def IH(K:b_)(T:String)(r:V->List V->Hp->VK->Prop)(to:TE):TE:=λσ H Q=>to σ H λx H1=>tyV K T x H1/\r x [] H1 Q
noncomputable def tBM(K:b_)(T:String)(r:V->List V->Hp->VK->Prop)(to:TE)(t:TA):TE:=λσ H Q=>to σ H λx H1=>tyV K T x H1/\t σ H1 λxs H2=>r x xs H2 Q
variable {o:Expr}{to:TE}{name:Str}{apos cpos:Pos}{T id:String}{r:V->List V->Hp->VK->Prop}
def GA(pa:PlainAttrs T)(slot:Slot T name id)(hty:typeOf (.builtin id)=pure (.type "method_descriptor"))(hm:MtR X id r)(ho:PE X o to)(hbase:attributeBase o name X.env (eval o X.env)=eval o X.env:=by rfl)(hline:(apos.endLine == cpos.line)=true:=by rfl):PE X (.Call (.Attribute o name apos) [] [] cpos) (IH X.K T r to):=by
 intro pins s σ H Q I h;refine wpAny_Call_method0_late hbase hline (thn (ho pins s σ H _ I h) λv s1 ⟨x,H1,I1,r1,ty,q1⟩=>?_);obtain⟨h1,h2⟩:=CH I1 r1 ty;exact⟨T,id,pa,slot,hty,h1,h2,Calls.callWith_builtin rfl (PySem.evalArgs_none (hm pins s1 σ H1 x [] v [] Q I1 r1 .nil q1))⟩
variable {es:List Expr}{t:TA}
def Jg(pa:PlainAttrs T)(slot:Slot T name id)(hty:typeOf (.builtin id)=pure (.type "method_descriptor"))(hm:MtR X id r)(ho:PE X o to)(ha:PA X (e::es) t)(hbase:attributeBase o name X.env (eval o X.env)=eval o X.env:=by rfl)(hfew:((backTo cpos (starEach (e::es) X.env)).all (λx=>!x.1) && (backToKw cpos (keywordEach [] X.env)).all (λx=>x.1.isSome)
   && decide ((e::es).length+([]:List Keyword).length+(if ([]:List Keyword).isEmpty then 0 else 1)<30))=true:=by rfl)(hline:(apos.endLine == cpos.line)=true:=by rfl)(hs:starEach (e::es) X.env=(false,eval e X.env)::starEach es X.env:=by rfl)(hplain:(backTo cpos (starEach es X.env)).any (·.1)=false:=by rfl):
  PE X (.Call (.Attribute o name apos) (e::es) [] cpos) (tBM X.K T r to t):=by
 intro pins s σ H Q I h;refine wpAny_Call_method_late hbase hfew hline rfl (thn (ho pins s σ H _ I h) λv s1 ⟨x,H1,I1,r1,ty,q1⟩=>?_);obtain⟨h1,h2⟩:=CH I1 r1 ty;refine⟨T,id,pa,slot,hty,h1,h2,?_⟩;have hA:=ha cpos pins s1 σ H1 _ I1 q1;rw [hs] at hA ⊢;refine Calls.callWith_builtin (by show (false || (backTo cpos (starEach es X.env)).any (·.1))=false;rw [hplain] <;> rfl) (Calls.evalArgs_plain ?_);exact thn hA λus s2 ⟨vs,H2,I2,r2,q2⟩=>hm pins s2 σ H2 x vs v us Q I2 r1 r2 q2
end
noncomputable def MtM(X:Cx)(id:String)(r:V->List V->Hp->VK->Prop):Prop :=
 ∀(pins:List (Addr×Obj)) (s:c_) (σ:St) (H:Hp) (x:V) (xs:List V) (v:Value) (us:List Value) (Q:VK),Inv X pins σ H s->c9 x v->bK xs us->r x xs H Q ->
  wpAny (model X.prog X.w) X.A (call (.builtin id) (v::us)) (EP X pins σ Q) X.xe s
theorem bK.one:∀{x:V}{us:List Value},bK [x] us->∃u,us=[u]/\c9 x u
 | _,_,.cons r .nil=>⟨_,rfl,r⟩
theorem bK.zero:∀{us:List Value},bK [] us->us=[]
 | _,.nil=>rfl
theorem bK.eraseIdx:∀{xs:List V}{us:List Value} (i:Nat),bK xs us->bK (xs.eraseIdx i) (us.eraseIdx i)
 | _,_,_,.nil=>.nil
 | _,_,0,.cons _ t=>t
 | _,_,i+1,.cons r t=>.cons r (bK.eraseIdx i t)
def bK.reverse(h:bK xs us):bK xs.reverse us.reverse:=by
 induction h with
 | nil=>exact .nil
 | cons r t ih=>rw [N1,N1];exact bK.append ih (.cons r .nil)
theorem bK.rep(h:bK xs us):∀k:Nat,bK (u1 k xs).flatten (u1 k us).flatten
 | 0=>.nil
 | k+1=>by
  rw [replicate_succ,replicate_succ,flatten_cons,flatten_cons];exact bK.append h (bK.rep h k)
theorem sF:∀(l:List α) (i:Nat),(l.eraseIdx i).length<=l.length
 | [],_=>gV _
 | _::_,0=>le_succ _
 | _::r,i+1=>succ_le_succ (sF r i)
theorem sG(its:List Value):∀(k:Nat) (acc:List Value),
  List.foldl (λx1 x2=>x1++x2) acc.toArray (u1 k its.toArray)=(acc++(u1 k its).flatten).toArray
 | 0,acc=>by simp
 | k+1,acc=>by
  have e:acc.toArray++its.toArray=(acc++its).toArray:=by simp
  have e2:(acc++its)++(u1 k its).flatten=acc++(u1 (k+1) its).flatten:=by
   rw [replicate_succ,flatten_cons,append_assoc]
  rw [<- e2,<- sG its k (acc++its),<- e,replicate_succ,foldl_cons]
variable {pins:List (Addr×Obj)}{σ:St}{H:Hp}{s:c_}{l:Addr}{ys:List V}{its:List Value}{t':Nat}
def Inv.lset{its':List Value}{f:Array Value->Array Value}(I:Inv X pins σ H s)(hH:H l=some (.lst xs))(e:s.heap.get? l=some { cls:=.type "list",data:=.seq its.toArray n })(hf:f its.toArray=its'.toArray)(hv:bK ys its')(hz:ys.length<=sizeLine):
  Inv X pins σ (upd H l (.lst ys)) { s with heap:=s.heap.update l (Lw f),toks:=t' }:=by
 have q:=PySem.IsL.update e f;rw [hf] at q;refine I.write (x:=l) (e:=l) (by rw [hH];exact trivial) (.inl rfl) (λb' u hb hu=>(C_ s.heap (Lw f) (MW hb)).trans hu) ⟨_,q⟩ ?_;exact⟨hz,its',_,hv,q⟩
def Inv.lnew(I:Inv X pins σ H s)(hv:bK ys its)(hz:ys.length<=sizeLine):
  Inv X pins σ (upd H s.heap.objs.size (.lst ys)) { s with heap:=s.heap.push { cls:=.type "list",data:=.seq its.toArray },toks:=t' } :=
 I.laid (λ_ _ q=>d_ _ q) (gV _) ⟨hz,its,0,hv,g_ _ rfl⟩
def Inv.fresh(I:Inv X pins σ H s):H s.heap.objs.size=none:=I.hok.fresh (gV _)
def Inv.lstM(I:Inv X pins σ H s)(hH:H l=some (.lst xs)):xs.length<=sizeLine/\∃(its:List Value) (n:Nat),bK xs its/\xs.length=its.length/\s.heap.get? l=some { cls:=.type "list",data:=.seq its.toArray n }:=by
 obtain⟨z,its,n,r,e⟩:=I.hok l _ hH;exact⟨z,its,n,r,r.length,e⟩
def wR(h:n<=sizeLine):MR n=false:=by
 unfold MR;exact decide_eq_false (by omega)
noncomputable def zg:V->List V->Hp->VK->Prop:=λx vs H Q=>∃l xs y,x=.ref l/\vs=[y]/\H l=some (.lst xs)/\xs.length<sizeLine/\Q .non (upd H l (.lst (xs++[y])))
def eF:MtM X "list.append" zg:=by
 intro pins s σ H x vs v us Q I rx rv h;obtain⟨l,xs,y,rfl,rfl,hH,hz,q⟩:=h;cases rx;obtain⟨u,rfl,ru⟩:=rv.one;obtain⟨z,its,n,r,hl,e⟩:=I.lstM hH;refine OJ F.slot_list_append ⟨_,e,rfl⟩ F.entry_list_append (F.args_list_append_2 _ _) (PySem.list_append l its.toArray n u (by rw [size_toArray];omega)) ⟨e,?_⟩;refine⟨.non,_,I.lset (its':=its++[u]) hH e (by simp) (r.append (.cons ru .nil)) ?_,rfl,q⟩;rw [length_append,length_singleton]
 omega
noncomputable def zh:V->List V->Hp->VK->Prop:=λx vs H Q=>∃l b xs zs,x=.ref l/\vs=[.ref b]/\H l=some (.lst xs)/\H b=some (.lst zs)/\xs.length+zs.length<=sizeLine/\Q .non (upd H l (.lst (xs++zs)))
def zi:MtM X "list.extend" zh:=by
 intro pins s σ H x vs v us Q I rx rv h;obtain⟨l,b,xs,zs,rfl,rfl,hH,hB,hz,q⟩:=h;cases rx;obtain⟨u,rfl,ru⟩:=rv.one;cases ru;obtain⟨z,its,n,r,hl,e⟩:=I.lstM hH;obtain⟨z2,its2,n2,r2,hl2,e2⟩:=I.lstM hB;have hsz:its.toArray.size+its2.toArray.size<=sizeLine:=by rw [size_toArray,size_toArray];omega
 have hlong:¬ (!its.toArray.isEmpty && MR (its.toArray.size+its2.toArray.size))=true:=by
  rw [wR hsz,O0];exact k_
 refine OJ F.slot_list_extend ⟨_,e,rfl⟩ F.entry_list_extend (F.args_list_extend_2 _ _)
  (AutoSeq1.list_extend_list_list_0 l its.toArray n b its2.toArray n2 hlong (by rw [size_toArray];omega) (by omega)) ⟨e,e2,?_⟩
 refine⟨.non,_,I.lset (its':=its++its2) hH e (by simp) (r.append r2) ?_,rfl,q⟩;rw [length_append];omega
noncomputable def CI:V->List V->Hp->VK->Prop:=λx vs H Q=>∃l xs i k y,x=.ref l/\vs=[.int i]/\H l=some (.lst xs)/\-(2^63)<=i/\i<2^63/\seqIndex? i xs.length=some k/\xs[k]?=some y/\Q y (upd H l (.lst (xs.eraseIdx k)))
def BD:MtM X "list.pop" CI:=by
 intro pins s σ H x vs v us Q I rx rv h;obtain⟨l,xs,i,k,y,rfl,rfl,hH,h1,h2,hk,hy,q⟩:=h;cases rx;obtain⟨u,rfl,ru⟩:=rv.one;obtain⟨t,rfl⟩:=ru;obtain⟨z,its,n,r,hl,e⟩:=I.lstM hH;obtain⟨w,hw,rw'⟩:=r.get hy
 refine OJ F.slot_list_pop ⟨_,e,rfl⟩ F.entry_list_pop (F.args_list_pop_2 _ _)
  (MeetsSeq.list_pop_at l its.toArray n i t k w (fitsIndex_both h1 h2) (by rw [size_toArray,<- hl];exact hk) (by rw [<- Array.getElem?_toList];exact hw) (by rw [size_toArray];omega)) ⟨e,?_⟩
 refine⟨y,_,I.lset (its':=its.eraseIdx k) hH e ?_ (r.eraseIdx k) ?_,rw',q⟩
 .show its.toArray.eraseIdxIfInBounds k=(its.eraseIdx k).toArray;rw [eraseIdxIfInBounds_toArray]
 .have:=sF xs k;omega
noncomputable def Kx:R2:=λx y H Q=>∃l k xs,x=.ref l/\y=.int k/\H l=some (.lst xs)/\-(2^63)<=k/\k<2^63/\xs.length*k.toNat<=sizeLine /\
 ∀p,H p=none->Q (.ref p) (upd H p (.lst (u1 k.toNat xs).flatten))
def D3(xs:List α)(k:Nat):(u1 k xs).flatten.length=k*xs.length:=by
 induction k with
 | zero=>simp
 | succ k ih=>rw [replicate_succ,flatten_cons,length_append,ih,succ_mul,add_comm]
def GB:OpR X (binaryOp .Mult) Kx:=by
 intro pins s σ H x y v u Q I rx ry h;obtain⟨l,k,xs,rfl,rfl,hH,h1,h2,hz,q⟩:=h;cases rx;obtain⟨t,rfl⟩:=ry;obtain⟨z,its,n,r,hl,e⟩:=I.lstM hH;have hlen:its.toArray.size*k.toNat<=sizeLine:=by rw [size_toArray,<- hl];exact hz
 have hcap:¬ its.toArray.size*k.toNat > (2^63 - 1) / 8:=by
  have:(sizeLine:Nat)<=(2^63 - 1) / 8:=by decide
  omega
 have hfit:¬ (!Builtin.List.listFitsIndex k)=true:=by
  rw [fitsIndex_both h1 h2];exact k_
 have hlong:¬ MR (its.toArray.size*k.toNat)=true:=by
  rw [wR hlen];exact k_
 have hnew:List.foldl (λx1 x2=>x1++x2) #[] (u1 (if its.toArray.isEmpty=true then 0 else k.toNat) its.toArray)=(u1 k.toNat its).flatten.toArray:=by
  have f0:∀m:Nat,List.foldl (λx1 x2=>x1++x2) #[] (u1 m its.toArray)=(u1 m its).flatten.toArray:=λm=>by
   have:=sG its m [];rw [nil_append] at this;exact this
  rw [f0]
  cases its with
  | nil=>simp
  | cons a r'=>rw [if_neg (by simp)]
 refine wpAny_binaryOp_repeat_ref (T:="list") (U:="int") (by decide) ⟨_,e,rfl⟩ (λs'=>typeIs_int s' k t) noFill_list_mul F.fills_int_mul F.slot_int_rmul repeat_list F.slot_int_index.lookup
  (OJ F.slot_int_rmul (typeIs_int s k t) F.entry_int_rmul (F.args_int_rmul_2 _ _) (int___rmul___int_list k t l its.toArray n)
   ⟨e,rfl,⟨_,e,rfl⟩,OJ F.slot_list_mul ⟨_,e,rfl⟩ F.entry_list_mul (F.args_list_mul_2 _ _) (AutoListH.list___mul___list_int_3 l its.toArray n k t hfit hcap hlong) ⟨e,?_⟩⟩)
 rw [hnew];exact⟨.ref _,_,I.lnew (t':=s.toks) (r.rep k.toNat) (by rw [D3,mul_comm];exact hz),rfl,q _ I.fresh⟩
end L2
namespace Att
open PySem PySem.W PySem.Calls PyProof.Rows
variable {h:Heap}
def nq{P:N9}:∀(ns:List Int) (vs:List Value),WellAll P h vs (ns.map WData.int)->Mt vs ns:=by
 intro ns
 induction ns with
 | nil =>
  intro vs w;rw [map_nil] at w;cases w;exact .nil
 | cons n ns ih =>
  intro vs w;rw [map_cons] at w
  cases w with
  | cons a b =>
   cases a;exact .cons _ _ (ih _ b)
variable {n:Nat}
def zj{l:OpenLaw}(hn:l.most=some n){P:N9}{args:List WData}{vals:List Value}(hpre:l.row.toRowW.claim.pre args=true)(hwl:WellAll P h vals args):
  ∃a vs ns,vals=[l_ a]/\args=[WData.list (ns.map WData.int)]/\h.get? a=some { cls:=.type "list",data:=.seq vs.toArray }/\Mt vs ns/\ns.length<=n:=by
 have hsh:WShape.hasAll [] args [.list .int]=true:=(pre_splitW hpre).1;have hc:l.pre.holds [] { args:=args }=true:=(pre_splitW hpre).2;obtain⟨d,r,rfl,h1,h2⟩:=hasAllW_cons hsh;obtain rfl:=hasAllW_nil h2;obtain⟨xs,rfl,h3⟩:=hasW_list h1;obtain⟨ns,rfl⟩:=items_int h3
 have hlen:ns.length<=n:=by
  unfold OpenLaw.pre at hc
  have h4:(WTm.not (.lt (.lit (.int (n:Int))) (.len (.arg 0)))).holds [] { args:=[.list (ns.map .int)] }=true:=by
   have h4:=(holds_andW hc).1;rw [hn] at h4;exact h4
  have h5:=condW_of h4 (w_not (w_lt w_lit (w_len_list (w_arg rfl))));rw [length_map] at h5;refine le_of_not_lt λq=>?_;have q':(n:Int)<((ns.length:Nat):Int):=by omega
  first
   | (rw [decide_eq_true q'] at h5;exact absurd h5 (by decide))
   | (simp at h5;omega)
 cases hwl with
 | cons w1 w2 =>
  cases w2
  cases w1 with
  | list ho hall=>exact⟨_,_,ns,rfl,rfl,ho,nq ns _ hall,hlen⟩
def zk(l:OpenLaw)(args:List WData):l.row.toRowW.claim.post args (.bool true) args=true :=
 postW_of (r:=l.row.toRowW) (X:=(true == true))
  (show WShape.has [] (.bool true) .bool=true by first|rfl|decide|simp [WShape.has,WShape.arms,WShape.armsAll])
  (show (WTm.eq .res (.lit (.bool true))).value [] { args:=args,res:=some (.bool true),after:=args }=some (.bool (true == true)) from w_eq_bool (w_res rfl) w_lit) rfl
variable {q:t_}{loose:List Str}
def attach_call{l:OpenLaw}{XP:(Str->Option Value)->Heap->Prop}{YP:World->Heap->Prop}{d:DefRec}(hn:l.most=some n)(hdf:d.params.defaults=[])(call:∀(w:World) (s₀ s₁:c_) (mg mb:Str->Option Value) (fa:Addr) (o:Obj) (pm cd doc:Value) (a:Addr) (vs:List Value) (ns:List Int),
   Ground q loose [] XP w s₀ mg mb s₁.heap->YP w s₁.heap ->
   s₁.heap.get? fa=some o->o.data=.func (docDef d.name d.params d.body d.scope pm cd doc)->s₁.heap.CodeRec cd d.name->mg d.name=some (.ref fa) ->
   s₁.heap.get? a=some { cls:=.type "list",data:=.seq vs.toArray }->Mt vs ns->ns.length<=n->s₁.gens=#[] ->
   codeAny (model l.prog w) callerA (.call (.ref fa) ⟨[.ref a],[]⟩) (λr s'=>r=.ok (.ret (.bool true))/\OldK s₁.heap s'.heap/\s'.os=s₁.os/\Oi s'.gens) s₁):
  WalkO q loose XP YP l.row.toRowW d [] (λf vs=>PySem.call f vs):=by
 intro w s₀ s₁ mg mb G Y fa o pm cd doc dV kV ho hd hcd hD hmg hg args vals as hpre hlay hrd hwl hlo;obtain rfl:dV=.none:=Dflts.none hD hdf;obtain rfl:kV=.none:=Dflts.noKw hD;obtain⟨a,vs,ns,rfl,rfl,hobj,hints,hlen⟩:=zj hn hpre hwl;refine enter_call (OF (call w s₀ s₁ mg mb fa o pm cd doc a vs ns G Y ho (fd_plain hd) hcd hmg hobj hints hlen hg) λr s' hq=>?_);obtain⟨rfl,h2,h3,h4⟩:=hq;exact⟨.inl ⟨.bool true,.bool true,[],rfl,λ_=>rfl,.bool true,zk l _,λ_=>⟨List.Pairwise.nil,λ_ hm=>(nomatch hm)⟩⟩,h2,h3,h4⟩
end Att
namespace L2
open PySem PySem.Spec PyProof.Rows
theorem kd:∀{vs:List Value}{ns:List Int},Mt vs ns->bK (ns.map V.int) vs
 | _,_,.nil=>.nil
 | _,_,.cons n t h=>.cons ⟨t,rfl⟩ (kd h)
noncomputable def Jh(H:Hp):Prop:=∀b,H b=none\/∃o xs,H b=some (.frz o (.lst xs))
variable {w:World}{K:b_}{mg:Str->Option Value}{k:Nat}{fd:L7}{x:Str}{ns:List Int}
def BE{P:t_}{mb:Str->Option Value}{CX:CXT}{fa a:Addr}{sp:Sp}{s₁:c_}{vs:List Value}(KX:K.In s₁.heap)(hns:s₁.heap.Ns mainGlobals mg)(hb:s₁.heap.Ns builtinsNs mb)(hbb:∀x:Str,x≠"__name__"->mb x=bootBuiltins x)(hlim:s₁.heap.NoLimit)(hg:s₁.gens=#[])(ha:s₁.heap.get? a=some { cls:=.type "list",data:=.seq vs.toArray })(hi:Mt vs ns)(hl:ns.length<=sizeLine)(hr:fR k callerA)(F:∀base:Heap,K.In base->base.Ns mainGlobals mg->qH P w K mg base CX k fa fd [x] sp)(hbind:∀(s:c_) (u:Value),OE s fd ⟨[u],[]⟩ [(x,u)])(hsp:∀H:Hp,Jh H->SqL K H a (ns.map V.int)->sp [.ref a] H (λv _=>v=.bl true) λ_ _ _=>False)(hCX:∀H e s',CX [] H s₁ (λ_ _ _=>False) e s'->False):
  codeAny (model P w) callerA (.call (.ref fa) ⟨[.ref a],[]⟩) (λr s'=>r=.ok (.ret (.bool true))/\OldK s₁.heap s'.heap/\s'.os=s₁.os/\Oi s'.gens) s₁:=by
 have rv:=kd hi;have lenV:=hi.length
 -- from an abstract heap in which nothing but the script may be tracked
 have core:∀H:Hp,Jh H->SqL K H a (ns.map V.int)->HOk P w H s₁.heap->(∀b,H b≠none->b=a)->(H a≠none->K.lookup a=none) ->
   codeAny (model P w) callerA (.call (.ref fa) ⟨[.ref a],[]⟩) (λr s'=>r=.ok (.ret (.bool true))/\OldK s₁.heap s'.heap/\s'.os=s₁.os/\Oi s'.gens) s₁:=by
  intro H hO hS hok hA hK;have base_of:∀{b:Addr}{o:Obj},s₁.heap.get? b=some o->H b=none->(FZ s₁.heap H).get? b=some o:=λe n=>Bo e n
  have noA:∀{b:Addr}{o:Obj}{es:Array Pb}{ep:Nat},s₁.heap.get? b=some o->o.data=.dict es ep->H b=none:=λ{b o es ep} e d=>by
   cases q:H b with
   | none=>rfl
   | some u =>
    have e':b=a:=hA b (by rw [q];simp);subst e';rw [ha] at e;cases e;have d':Data.seq vs.toArray _=Data.dict es ep:=d;cases d'
  have nsK:∀{b:Addr}{m:Str->Option Value},s₁.heap.Ns b m->(FZ s₁.heap H).Ns b m:=λ{b m} ⟨o,es,ep,e,d,r⟩=>⟨o,es,ep,base_of e (noA e d),d,r⟩
  have hKb:K.In (FZ s₁.heap H):=λb o e=>base_of (KX b o e) (by
   cases q:H b with
   | none=>rfl
   | some u =>
    have e':b=a:=hA b (by rw [q];simp);subst e';rw [hK (by rw [q];simp)] at e;cases e)
  have hM:Mod K mg (FZ s₁.heap H):=⟨hKb,nsK hns,⟨mb,nsK hb,hbb⟩,let ⟨mc,h1,h2⟩:=hlim;⟨mc,nsK h1,h2⟩⟩
  have e0:DT P w K mg (FZ s₁.heap H) callerA [] s₁ H:=⟨rfl,hM,λb o e=>DH e,Oz (yQ _ _),trivial,λb hb=>absurd (show b∈([]:List Addr) from hb) (by simp),hok,.of_eq hg,λ_ _ z=>nomatch (show ([]:List Addr)=_ from z)⟩
  refine OF ((F _ hKb (nsK hns)).run callerA [] s₁ H ⟨[.ref a],[]⟩ [.ref a] [.ref a] _ _ hr e0 (hbind s₁ (.ref a)) (.cons rfl .nil) (hsp H hO hS)) λr s' h=>?_
  cases r with
  | error e=>exact (hCX H e s' h).elim
  | ok fl =>
   cases fl with
   | next=>exact Mq h
   | brk=>exact Mq h
   | cont=>exact Mq h
   | ret u =>
    obtain⟨v,H',os,bare,un,hok',r',q⟩:=h;have q':v=.bl true:=q;subst q';obtain rfl:u=Mo true:=r';refine⟨rfl,OldK.of_keep λb o e=>?_,os,bare⟩
    cases q:H b with
    | none=>exact un.keep b o e q (by intro z;exact absurd (show b∈([]:List Addr) from z) (by simp)) (by simp)
    | some u =>
     rcases hO b with z|⟨ob,xs,z⟩
     .rw [q] at z;cases z
     .have z2:=un.frzs b ob _ z;obtain⟨e1,_⟩:=hok b _ z;obtain⟨e2,_⟩:=hok' b _ z2;rw [e] at e1;cases e1;exact e2
 cases hk:K.lookup a with
 | some o =>
  -- the script is one of the module's own objects
  have e:=KX a o hk;rw [ha] at e;cases e;refine core (λ_=>none) (λ_=>.inl rfl) (.inr ⟨_,vs.toArray,_,hk,rfl,rfl,rfl,by rw [size_toArray,lenV];exact hl,by simpa using rv⟩) (λb u z=>by have z':(none:Option HO)=some u:=z;cases z') (λb z=>absurd rfl z) λz=>absurd rfl z
 | none =>
  refine core (λb=>if b=a then some (.frz { cls:=.type "list",data:=.seq vs.toArray } (.lst (ns.map V.int))) else none) (λb=>?_) (.inl (.inr ⟨{ cls:=.type "list",data:=.seq vs.toArray },if_pos rfl⟩)) (λb u z=>?_) (λb z=>?_) λ_=>hk
  .by_cases hb:b=a
   .exact .inr ⟨_,_,if_pos hb⟩
   .exact .inl (if_neg hb)
  .by_cases hb:b=a
   .have z':=(if_pos hb).symm.trans z;cases z';subst hb;exact⟨ha,by rw [length_map];exact hl,vs,_,rv,ha⟩
   .have z':=(if_neg hb).symm.trans z;cases z'
  .by_cases hb:b=a
   .exact hb
   .exact absurd (if_neg hb) z
variable {n:Nat}{q:t_}{loose:List Str}
def D4{l:OT}{XP:(Str->Option Value)->Heap->Prop}{YP:World->Heap->Prop}{d:DefRec}{K:N9->b_}{CX:World->CXT}{sp:World->Sp}(hn:l.most=some n)(hn2:n<=sizeLine)(hdf:d.params.defaults=[])(hr:fR k callerA)(hY:∀(w:World) (h:Heap),YP w h->(K w.params).In h)(F:∀(w:World) (mg:Str->Option Value) (fa:Addr) (h:Heap),(K w.params).In h->h.Ns mainGlobals mg->mg d.name=some (.ref fa) ->
   ∃fd:L7,(∀(s:c_) (u:Value),OE s fd ⟨[u],[]⟩ [(x,u)]) /\
    ∀base:Heap,(K w.params).In base->base.Ns mainGlobals mg->qH l.prog w (K w.params) mg base (CX w) k fa fd [x] (sp w))(hsp:∀(w:World) (H:Hp) (a:Addr) (ns:List Int),ns.length<=n->Jh H->SqL (K w.params) H a (ns.map V.int)->sp w [.ref a] H (λv _=>v=.bl true) λ_ _ _=>False)(hCX:∀(w:World) (H:Hp) (s:c_) (e:Value) (s':c_),CX w [] H s (λ_ _ _=>False) e s'->False):
  PySem.W.WalkO q loose XP YP l.row.toRowW d [] (λf vs=>PySem.call f vs):=by
 refine Att.attach_call hn hdf λw s₀ s₁ mg mb fa o pm cd doc a vs ns G Y ho hd hcd hmg hobj hints hlen hg=>?_;have KX:=hY w _ Y;obtain⟨fd,hb,hF⟩:=F w mg fa _ KX G.T.g hmg;exact BE KX G.T.g G.T.b G.T.builtins G.T.nolimit hg hobj hints (s_ hlen hn2) hr hF hb (λH hO hS=>hsp w H a ns hlen hO hS) λH e s'=>hCX w H s₁ e s'
noncomputable def zl(s:Stmt)(j:Nat):Stmt:=match s with
 | .ClassDef _ _ _ body _ _ _ _ _ _ _=>body.getD j (.Pass ⟨0,0,0,0⟩)
 | _=>.Pass ⟨0,0,0,0⟩
noncomputable def bV(s:Stmt):Arguments:=match s with
 | .FunctionDef _ a _ _ _ _ _ _ _ _=>a
 | _=>{ posonlyargs:=[],args:=[],vararg:=none,kwonlyargs:=[],kw_defaults:=[],kwarg:=none,defaults:=[] }
noncomputable def bn(s:Stmt):List Stmt:=match s with
 | .FunctionDef _ _ b _ _ _ _ _ _ _=>b
 | _=>[]
noncomputable def ah(s:Stmt):Scope:=match s with
 | .FunctionDef _ _ _ _ _ _ sc _ _ _=>sc
 | _=>{ kind:=.function,names:=[],isGenerator:=false,isCoroutine:=false }
abbrev CX0:CXT:=λ_ _ _ _ _ _=>False
abbrev E0:XK:=λ_ _ _=>False
variable {X:Cx}
def BF:p6 CX0 X E0:=λ_ _ _ _ _ _ _ h=>h.elim
structure Fun (K:b_) (x qual:Str) (st:Stmt) (f:Addr) (fd:L7):Prop where
 ex:∃(oc:Value) (od:Option Addr) (kV doc pm:Value) (an:Option Addr) (cdv ct:Value) (osl:Array (Option Value)),
  fd=F_ x qual (bV st) (bn st) (ah st) .none kV doc pm an cdv ct/\K.lookup f=some ⟨oc,od,.func fd,osl⟩/\LN K cdv qual=true
 kp:D_ K (.ref f)=true
section
variable {P:t_}{base:Heap}{qual:Str}{st:Stmt}{f:Addr}{N:List Str}
def Fun.ok{ps:List Str}{sp:Sp}(F:Fun K x qual st f fd)(S:aw N ps (ah st))(len:∀vs H Q E,sp vs H Q E->vs.length=ps.length)(hbody:∀(cdv:Value) (A:C0) (outer:List Env) (s:c_) (H:Hp) (vs:List V) (Q:VK) (E:XK),fR k (A.deeper (envOfC qual (ah st) s.heap.objs.size f cdv))->sp vs H Q E ->
   ∃t,PSs (wO CX0 P w K mg base N qual (ah st) f cdv A outer s H E).nox (bn st) t/\t { nx:=λ_ H'=>Q .non H',rt:=Q } (start N vs) H):qH P w K mg base CX0 (k+1) f fd ps sp:=by
 obtain⟨oc,od,kV,doc,pm,an,cdv,ct,osl,rfl,lk,hcd⟩:=F.ex;refine Gs lk hcd S len λA outer s H vs Q E hr hsp=>?_;obtain⟨t,h,q⟩:=hbody cdv A outer s H vs Q E hr hsp;exact⟨t,h.nox,q⟩
def Fun.binds{ps:List Str}(F:Fun K x qual st f fd)(h:∀(kV doc pm:Value) (an:Option Addr) (cdv ct:Value) (us:List Value),us.length=ps.length->bindArgs (F_ x qual (bV st) (bn st) (ah st) .none kV doc pm an cdv ct) ⟨us,[]⟩=pure (ps.zip us)):me K fd ps []:=by
 obtain⟨oc,od,kV,doc,pm,an,cdv,ct,osl,rfl,lk,hcd⟩:=F.ex;exact .all (h kV doc pm an cdv ct)
variable {oc:Value}{od an:Option Addr}{pm ct:Value}
def zm{osl:Array (Option Value)}{kV doc cdv:Value}(l:K.lookup f=some ⟨oc,od,.func (F_ x qual (bV st) (bn st) (ah st) .none kV doc pm an cdv ct),osl⟩)(c:LN K cdv qual=true)(k:D_ K (.ref f)=true):Fun K x qual st f (F_ x qual (bV st) (bn st) (ah st) .none kV doc pm an cdv ct):=⟨⟨oc,od,kV,doc,pm,an,cdv,ct,osl,rfl,l,c⟩,k⟩
end
variable {pos:Pos}
theorem pv(i:Nat)(hN:X.N[i]?=some x:=by rfl)(hv:Vis X.env.scope x:=by first|exact Pf rfl|exact Or.inr (Pf rfl)|exact Or.inr (Or.inr rfl))(hd:(x == ("__debug__":Str))=false:=by decide)(hcd:(x == ("__classdict__":Str))=false:=by decide):PE X (.Name x pos) (aJ i):=F4 hN hv hd hcd
def S(l:List Nat):Str:=⟨l.toArray⟩
def fc(l:List Nat):(S l).length=l.length:=by simp [S,Str.length]
def BG(a b:List Nat):S a++S b=S (a++b):=by
 show (⟨a.toArray++b.toArray⟩:Str)=⟨(a++b).toArray⟩
 rw [append_toArray]
variable {a b:List Nat}
def GC(h:S a=S b):a=b:=by
 have h':=congrArg (λx:Str=>x.cps.toList) h;simpa [S] using h'
def Lb(h:a≠b):S a≠S b:=λe=>h (GC e)
def GD:V.str (S a)=V.str (S b) ↔ a=b:=⟨λh=>GC (V.str.inj h),λh=>by rw [h]⟩
def GE(a b:List Nat):decide (V.str (S a)=V.str (S b))=decide (a=b):=by
 by_cases h:a=b
 .rw [decide_eq_true h,decide_eq_true (GD.mpr h)]
 .rw [decide_eq_false h,decide_eq_false (λz=>h (GD.mp z))]
variable {α:Type}
noncomputable def eA(xs:List α)(lo hi:Option Int):List α:=(xs.drop (HT.sIx xs.length 0 lo)).take (HT.sIx xs.length xs.length hi - HT.sIx xs.length 0 lo)
def bu(xs:List α)(lo hi:Option Int):(eA xs lo hi).length<=xs.length:=by
 unfold eA;rw [length_take,length_drop];omega
def zn(xs:List V)(lo hi:Option Int):DX xs lo hi=eA xs lo hi:=rfl
def GF(lo hi:Option Int)(n:Nat):L5 lo hi 1 n=(e_ (HT.sIx n n hi - HT.sIx n 0 lo)).map (λk=>HT.sIx n 0 lo+k):=by
 have key:∀(o:Option Int) (d:Nat),d<=n->(match o with|none=>(d:Int)|some i=>max 0 (min (if i<0 then i+(n:Int) else i) (n:Int)))=((HT.sIx n d o:Nat):Int):=by
  intro o d hd
  cases o with
  | none=>rfl
  | some i =>
   show max 0 (min (if i<0 then i+(n:Int) else i) (n:Int))=_;rw [<- HT.clip_eq i n d]
   by_cases h:i<0
   .rw [if_pos h,if_pos h];omega
   .rw [if_neg h,if_neg h];omega
 have k1:=key lo 0 (LY _);have k2:=key hi n (gV _);unfold L5;simp only [show (1:Int) > 0 by decide,if_true];refine Eq.trans (congrArg (λa=>sliceRange a _ 1) k1) (Eq.trans (congrArg (λb=>sliceRange _ b 1) k2) ?_);unfold sliceRange;simp only [show (1:Int) > 0 by decide,if_true];generalize HT.sIx n 0 lo=a;generalize HT.sIx n n hi=b
 have ec:(if (a:Int)<(b:Int) then ((b:Int) - (a:Int)+1 - 1) / 1 else 0).toNat=b - a:=by
  split <;> omega
 rw [ec];apply LW;intro k _;omega
def zo(l:List α)(a m:Nat):((e_ m).map (λk=>a+k)).filterMap (λi=>l[i]?)=(l.drop a).take m:=by
 induction m generalizing a with
 | zero=>simp
 | succ m ih =>
  rw [range_succ_eq_map,map_cons,map_map,M8];have e:((λk=>a+k) ∘ Nat.succ)=λk=>(a+1)+k:=by funext k;simp;omega
  rw [e,ih (a+1)]
  cases h:l[a+0]? with
  | none =>
   have hl:l.length<=a:=by simpa using List.getElem?_eq_none_iff.mp h
   rw [M7 hl,M7 (by omega)];simp
  | some v =>
   have hl:a<l.length:=by simpa using (i_.mp h).1
   have hv:l[a]=v:=by simpa using (i_.mp h).2
   rw [drop_eq_getElem_cons hl,hv];rfl
def D5(l:List Nat)(lo hi:Option Int):Txt.slice (S l) lo hi=S (eA l lo hi):=by
 have e1:(L5 lo hi 1 (S l).length).filterMap ((S l).cps[·]?)=eA l lo hi:=by
  rw [GF,fc];have e:(λi:Nat=>(S l).cps[i]?)=λi:Nat=>l[i]?:=by funext i;simp [S]
  rw [e];exact zo l _ _
 unfold Txt.slice
 split
 .rename_i h;have h2:(L5 lo hi 1 (S l).length).length=(S l).length:=by simpa using h
  rw [GF,fc,length_map,tj] at h2;have a0:=HT.sIx_le l.length 0 (LY _) lo;have b0:=HT.sIx_le l.length l.length (gV _) hi;unfold eA
  by_cases hz:l.length=0
  .have:l=[]:=Mh.mp hz;subst this;simp
  .have ha:HT.sIx l.length 0 lo=0:=by omega
   have hb:HT.sIx l.length l.length hi=l.length:=by omega
   rw [ha,hb];simp
 .rw [e1];rfl
def gq(l:List α)(k:Nat):eA l none (some (k:Int))=l.take k:=by
 unfold eA;rw [HT.sIx_nat];show (l.drop 0).take (min k l.length - 0)=l.take k;rw [drop_zero,N2]
 by_cases h:k<=l.length
 .rw [Om h]
 .rw [OK (by omega),L9 (gV _),L9 (by omega)]
def ip(l:List α)(k:Nat):eA l (some (k:Int)) none=l.drop k:=by
 unfold eA;rw [HT.sIx_nat];show (l.drop (min k l.length)).take (l.length - min k l.length)=l.drop k
 by_cases h:k<=l.length
 .rw [Om h,L9 (by rw [length_drop];exact gV _)]
 .rw [OK (by omega),sub_self,take_zero,M7 (by omega)]
def zp(l:List α)(i j:Nat):eA l (some (i:Int)) (some (j:Int))=(l.drop i).take (j - i):=by
 unfold eA;rw [HT.sIx_nat,HT.sIx_nat]
 by_cases h:i<=l.length
 .rw [Om h]
  by_cases h2:j<=l.length
  .rw [Om h2]
  .rw [OK (by omega),L9 (by rw [length_drop];omega),L9 (by rw [length_drop];omega)]
 .have e:min i l.length=l.length:=OK (by omega);rw [e,M7 (gV _),M7 (by omega),take_nil,take_nil]
noncomputable def Ky:V->Option Int->Option Int->Hp->VK->Prop:=λx lo hi H Q=>∃l,x=.str (S l)/\l.length<=sizeLine/\Q (.str (S (eA l lo hi))) H
def GG:SlR X Ky:=by
 intro pins s σ H x v vl vu lo hi sl Q I rx hs pl pu h;obtain⟨l,rfl,hz,q⟩:=h;obtain⟨t,rfl⟩:=rx;refine⟨"str",_,slot_str_getitem.lookup,typeIs_str s _ t,?_⟩
 obtain⟨l',hl',el⟩:∃l':Option (Int×Tok),vl=partValue l'/\l'.map (·.1)=lo:=by
  cases pl with
  | none=>exact⟨none,rfl,rfl⟩
  | int i t=>exact⟨some (i,t),rfl,rfl⟩
 obtain⟨u',hu',eu⟩:∃l':Option (Int×Tok),vu=partValue l'/\l'.map (·.1)=hi:=by
  cases pu with
  | none=>exact⟨none,rfl,rfl⟩
  | int i t=>exact⟨some (i,t),rfl,rfl⟩
 subst hl' hu';refine wpAny_getItem_str_slice (l:=l') (u:=u') (st:=none) hs rfl ?_;have hm:∀t' k,EP X pins σ Q (.str (Txt.slice (S l) lo hi) t') { s with toks:=k }:=λt' k=>⟨.str (S (eA l lo hi)),H,I.tok _,⟨t',by rw [D5]⟩,q⟩
 have hlen:(Txt.slice (S l) lo hi).length<=sizeLine:=s_ (Txt.slice_le _ _ _) (by rw [fc];exact hz);subst el eu;exact post_val_or_str ⟨hlen,hm⟩
noncomputable def wS(l:List α)(n:Int):List α:=(u1 n.toNat l).flatten
def zq(k:Nat)(l acc:List Nat):(u1 k l.toArray).foldl (·++·) acc.toArray=(acc++(u1 k l).flatten).toArray:=by
 induction k generalizing acc with
 | zero=>simp
 | succ k ih =>
  rw [replicate_succ,foldl_cons,append_toArray,ih (acc++l),replicate_succ,flatten_cons,append_assoc]
def Ji(l:List Nat)(n:Int):Txt.mul (S l) n=S (wS l n):=by
 unfold Txt.mul wS
 by_cases h:n<1
 .rw [if_pos h];have:n.toNat=0:=by omega
  rw [this];rfl
 .rw [if_neg h]
  split
  .rename_i h2;rw [fc] at h2;simp only [or_eq_true,beq_iff_eq] at h2
   rcases h2 with h2|h2
   .subst h2;simp [S]
   .have:l=[]:=Mh.mp h2;subst this;simp [S]
  .have e:=zq n.toNat l [];show (⟨_⟩:Str)=_
   have e':(u1 n.toNat (S l).cps).foldl (·++·) #[]=((u1 n.toNat l).flatten).toArray:=by
    simpa [S] using e
   rw [e'];rfl
def jt(l:List α)(n:Int):(wS l n).length=n.toNat*l.length:=by
 unfold wS;rw [length_flatten,map_replicate,sum_replicate_nat]
def xV:OpR X (binaryOp .Mult) (λx y H Q=>∃l n,x=.str (S l)/\y=.int n/\-1000000<=n/\n<=1000000/\n.toNat*l.length<=sizeLine/\Q (.str (S (wS l n))) H):=by
 intro pins s σ H x y v u Q I rx ry h;obtain⟨l,n,rfl,rfl,h1,h2,hz,q⟩:=h;obtain⟨t,rfl⟩:=rx;obtain⟨t',rfl⟩:=ry;have hs:sizeLine=16777216:=Md;have hz':n.toNat*l.length<=16777216:=by rw [<- hs];exact hz
 refine SB.mul ⟨?_,λhn hc=>?_,λhn hc=>?_⟩ λt' k=>⟨.str (S (wS l n)),H,I.tok _,⟨t',by rw [Ji]⟩,q⟩
 .rw [decide_eq_false (by omega),decide_eq_false (by omega)];rfl
 .rw [fc];intro hgt
  have hl:l.length<=16777216:=by
   have:1*l.length<=n.toNat*l.length:=mul_le_mul_right _ (by omega);omega
  have hdiv:(2^63 - 1:Int) / 1000000<=(2^63 - 1) / n:=by
   apply le_ediv_of_mul_le (by omega);have:=mul_le_mul_of_nonneg_left h2 (show (0:Int)<=(2^63 - 1) / 1000000 by decide);have e2:((2^63 - 1:Int) / 1000000)*1000000<=2^63 - 1:=by decide
   omega
  have e3:(2^63 - 1:Int) / 1000000=9223372036854:=by decide
  omega
 .rw [fc];have:l.length*n.toNat<=16777216:=by rw [mul_comm];exact hz'
  exact decide_eq_false (by omega)
def zr:OpR X (compareOp .LtE) (λx y H Q=>∃i j,x=.str i/\y=.str j/\Q (.bl (!decide (j.cps.toList<i.cps.toList))) H):=by
 intro pins s σ H x y v u Q I rx ry h;obtain⟨i,j,rfl,rfl,q⟩:=h;obtain⟨t,rfl⟩:=rx;obtain⟨t',rfl⟩:=ry;exact PySem.P.le_str ⟨.bl _,H,I,rfl,q⟩
noncomputable def Its(xs:List V):It:=⟨λi _=>i<xs.length,λi H x H'=>H'=H/\xs[i]?=some x,λi _=>xs.length=i⟩
variable {M:Model}{A:C0}{E:Value->c_->Prop}{s:c_}{tg:Expr}{u:Value}
def zt{it:Addr}{Q:Unit->c_->Prop}(hu:∀a,u≠.ref a)(hQ:Q () s):wpAny M A (letOwnedTupleGo tg (.ref it) u) Q E s:=by
 unfold letOwnedTupleGo
 cases tg <;> first
  | exact f_ hQ
  | (cases u <;> first
    | exact f_ hQ
    | exact absurd rfl (hu _))
variable {xs:List V}
def nr{P:t_}{it:Addr}{Pt:Nat->Value->Prop}{St:Nat->Heap->Prop}(W:∀A:C0,A.handled=none->Walks P w A it [it] [it] n Pt St)(hn:xs.length=n)(hv:∀i v,i<n->Pt i v->∃x,xs[i]?=some x/\c9 x v)(hsc:∀i v,Pt i v->∀a,v≠.ref a)(hobj:∀i h,St i h->∃o,h.get? it=some o/\∀v,o.data≠.cell v)(hfr:∀i h h',St i h->(∀b∈[it],∀o,h.get? b=some o->h'.get? b=some o)->St i h')(hself:∀(A:C0) (i:Nat) (s:c_) (Q:Value->c_->Prop) (E:Value->c_->Prop),St i s.heap->Q (.ref it) s->wpAny (model P w) A (pyIter (.ref it)) Q E s):
  DK P w K tg (Its xs) [it] it St where
 mem:=by simp
 obj:=λi h st b hb=>by
  have e:b=it:=by simpa using hb
  subst e;exact hobj i h st
 keep:=λi h h' st k=>hfr i h h' st k
 item:=by
  intro X hP hw hK hc i pins s σ H E I hf st hg;subst hP hw hK;obtain⟨f0,f1,f2,f3,f4,f5⟩:=hf it (by simp);refine (W X.A (I.ok.hd hc)).item i s _ _ (by rw [<- hn];exact hg) st λv h' tk hp st' kk=>?_;obtain⟨x,hx,rx⟩:=hv i v (by rw [<- hn];exact hg) hp;have I1:Inv X pins σ H { s with heap:=h',toks:=tk }:=I.turned (λb o hb e=>kk b o (by simpa using hb) e) f0 f1 f3 f4 f5;exact⟨v,rfl,zt (s:={ s with heap:=h',toks:=tk }) (hsc i v hp) ⟨x,H,I1,rx,⟨rfl,hx⟩,st',λb hb=>(hf b hb).1⟩⟩
 done:=by
  intro X hP hw hK hc i pins s σ H E I hf st hg;subst hP hw hK;obtain⟨f0,f1,f2,f3,f4,f5⟩:=hf it (by simp);have e:n=i:=hn.symm.trans hg;subst e;exact (W X.A (I.ok.hd hc)).done s _ _ st λh' tk kk=>⟨rfl,I.turned (λb o hb e=>kk b o (by simpa using hb) e) f0 f1 f3 f4 f5⟩
 self:=hself
noncomputable def iq(l:List Nat):List V:=l.map λc=>V.str (S [c])
variable {l:List Nat}{i:Nat}
def xW{x:V}(h:(iq l)[i]?=some x):∃c,l[i]?=some c/\x=.str (S [c]):=by
 unfold iq at h;rw [h_] at h
 cases e:l[i]? with
 | none=>rw [e] at h;cases h
 | some c=>rw [e] at h;exact⟨c,rfl,(q_ h).symm⟩
def kW(l:List Nat):(iq l).length=l.length:=length_map _
noncomputable def qM(i:Int)(n:Nat):List V:=(e_ n).map λ(k:Nat)=>V.int (i - k)
def nt(i:Int)(n:Nat):(qM i n).length=n:=by simp [qM]
def zu{i:Int}{x:V}(h:(qM i n)[k]?=some x):k<n/\x=.int (i - k):=by
 unfold qM at h;rw [h_] at h
 by_cases hk:k<n
 .rw [LQ hk] at h;exact⟨hk,(q_ h).symm⟩
 .rw [v_ (by simp;omega)] at h;cases h
noncomputable def GH(ta:TA):TI:=λσ H R=>ta σ H λvs H1=>∃i j:Int,vs=[.int i,.int j,.int (-1)]/\(-(2^60)<=i/\i<2^60/\-(2^60)<=j/\j<2^60)/\R (Its (qM i (i - j).toNat)) H1
def je(i j:Int):L1 i j (-1)=(((i - j).toNat:Nat):Int):=by
 unfold L1;rw [if_neg (by decide)];simp only [neg_neg,ediv_one];split <;> omega
variable {ta:TA}
def sH{a b c:Expr}{p:Pos}(hg:Gl X "range")(hm:X.mg "range"=none)(ha:PA X [a,b,c] ta)(hs:starEach [a,b,c] X.env=[(false,eval a X.env),(false,eval b X.env),(false,eval c X.env)]:=by rfl)(hs2:starEach [b,c] X.env=[(false,eval b X.env),(false,eval c X.env)]:=by rfl):
  PI X tg (.Call (.Name "range" p) [a,b,c] [] pos) (GH ta):=by
 intro pins s σ H R I h;refine Call_ (jd I hg hm boot_range (LF (thn (ha pos pins s σ H _ I h) λus s1 ⟨vs,H1,I1,r1,q1⟩=>?_) (by rw [hs,hs2]) (by rw [hs2];rfl)));obtain⟨i,j,e,⟨q1,q2,q3,q4⟩,q⟩:=q1;subst e
 cases r1 with
 | cons r rr =>
  cases rr with
  | cons r' rr =>
   cases rr with
   | cons r'' rr =>
    cases rr;obtain⟨t,rfl⟩:=r;obtain⟨t',rfl⟩:=r';obtain⟨t'',rfl⟩:=r'';refine call_range_3 (by decide) ?_ (.inl (OC (by decide)))
    refine wpAny_pyIter_range (IsRange.new ..) ?_ ?_
    .unfold Nh;rw [je];simp only [N3,and_eq_true,or_eq_true,decide_eq_true_eq,beq_iff_eq,show ¬ (-1:Int) > 0 by decide,if_false];omega
    have I2:Inv X pins σ H1 { s1 with heap:=s1.heap.push { cls:=.type "range",data:=.fields #[.int i t,.int j t',.int (-1) t''] },toks:=s1.toks }:=I1.kept λb o e=>d_ _ e
    refine⟨_,[(s1.heap.push { cls:=.type "range",data:=.fields #[.int i t,.int j t',.int (-1) t''] }).objs.size],_,Its (qM i (i - j).toNat),H1,rfl,I2.kept (t':=s1.toks) λb o e=>d_ _ e,
     nr (λA hA=>Walks.range hA _ i (-1) (i - j).toNat) (nt _ _) ?_ ?_ ?_ ?_ (λA i s Q E st q=>wpAny_pyIter_rangeiter st q),?_,λb hb=>?_,q⟩
    .rintro k v hk ⟨t,rfl⟩
     refine⟨.int (i - k),?_,t,?_⟩
     .unfold qM;rw [h_,LQ hk];rfl
     .have e:i+(k:Int)*(-1)=i - k:=by omega
      rw [e]
    .rintro k v ⟨t,rfl⟩ a z;cases z
    .exact λk h st=>⟨_,st,λv z=>by
      have z':Data.fields _=Data.cell v:=z;cases z'⟩
    .exact λk h h' st kk=>kk _ (by simp) _ st
    .show IsRangeIter _ _ (i+((0:Nat):Int)*(-1)) ((((i - j).toNat:Nat):Int) - ((0:Nat):Int)) (-1);rw [<- je];simp only [natCast_zero,zero_mul,add_zero,Int.sub_zero];exact g_ _ rfl
    .have e:b=(s1.heap.push { cls:=.type "range",data:=.fields #[.int i t,.int j t',.int (-1) t''] }).objs.size:=by simpa using hb
     subst e;exact I2.fpOk (gV _) (I2.hok.fresh (gV _))
def uT:bJ X (.builtin "isinstance") (λxs H Q=>∃x n t b,xs=[x,.ty n]/\sj X.K H x t/\MC X.K t (.type n)=some b/\Q (.bl b) H):=by
 intro pins s σ H xs us Q I r h;obtain⟨x,n,t,b,rfl,ty,e,q⟩:=h;obtain⟨u,w',rfl,rx,ry⟩:=Bs r;cases (show w'=Mz n from ry);exact za I rx ty e λtk=>⟨.bl b,H,I.tok _,rfl,q⟩
mutual
inductive DV (K:b_) (H:Hp):V->Nr->Prop
 | non:DV K H .non .none
 | bl (b:Bool):DV K H (.bl b) (.bool b)
 | int (i:Int):DV K H (.int i) (.int i)
 | str (x:Str):DV K H (.str x) (.str x)
 | lst {a:Addr}{xs:List V}{ds:List Nr}:SqL K H a xs->DVs K H xs ds->DV K H (.ref a) (.list ds)
 | tup {a:Addr}{xs:List V}{ds:List Nr}:SqT K H a xs->DVs K H xs ds->DV K H (.ref a) (.tuple ds)
inductive DVs (K:b_) (H:Hp):List V->List Nr->Prop
 | nil:DVs K H [] []
 | cons {x:V}{d:Nr}{xs:List V}{ds:List Nr}:DV K H x d->DVs K H xs ds->DVs K H (x::xs) (d::ds)
end
mutual
theorem DV.reads{pins:List (Addr×Obj)}{σ:St}{H:Hp}{s:c_}(I:Inv X pins σ H s):∀{x:V}{d:Nr}{u:Value},DV X.K H x d->c9 x u->∃as,Reads s.heap u d as
 | _,_,u,.non,r=>by cases (show u=L6 from r);exact⟨_,.none⟩
 | _,_,u,.bl b,r=>by cases (show u=Mo b from r);exact⟨_,.bool b⟩
 | _,_,u,.int i,r=>by obtain⟨t,e⟩:=(show ∃t,u=NL i t from r);subst e;exact⟨_,.int i t⟩
 | _,_,u,.str x,r=>by obtain⟨t,e⟩:=(show ∃t,u=N8 x t from r);subst e;exact⟨_,.str x t⟩
 | _,_,u,.lst (a:=a) hq hs,r=>by
  cases (show u=l_ a from r);obtain⟨its,rv,pl,_⟩:=I.list hq;obtain⟨o,ho,hc,n,hd⟩:=pl.isList;obtain⟨as,ra⟩:=DVs.reads I hs rv;exact⟨_,.list ho hc hd ra⟩
 | _,_,u,.tup (a:=a) hq hs,r=>by
  cases (show u=l_ a from r);obtain⟨its,rv,pl,_⟩:=I.tuple hq;obtain⟨o,ho,hc,n,hd⟩:=pl;obtain⟨as,ra⟩:=DVs.reads I hs rv;exact⟨_,.tuple ho hc hd ra⟩
theorem DVs.reads{pins:List (Addr×Obj)}{σ:St}{H:Hp}{s:c_}(I:Inv X pins σ H s):∀{xs:List V}{ds:List Nr}{us:List Value},DVs X.K H xs ds->bK xs us->∃as,ReadsAll s.heap us ds as
 | _,_,_,.nil,.nil=>⟨_,.nil⟩
 | _,_,_,.cons h hs,.cons r rs=>by
  obtain⟨as,ra⟩:=DV.reads I h r;obtain⟨bs,rb⟩:=DVs.reads I hs rs;exact⟨_,.cons ra rb⟩
end
noncomputable def Jj(K:b_)(neg:Bool):R2:=λx y H Q=>∃da db,DV K H x da/\DV K H y db/\L_ da=true/\L_ db=true/\Q (.bl (if neg then !M_ da db else M_ da db)) H
def GI(hu:X.A.units+64<cLine):OpR X (compareOp .Eq) (Jj X.K false):=by
 intro pins s σ H x y v u Q I rx ry h;obtain⟨da,db,ha,hb,sa,sb,q⟩:=h;obtain⟨as,ra⟩:=DV.reads I ha rx;obtain⟨bs,rb⟩:=DV.reads I hb ry;exact eq_dataH ra rb sa sb hu ⟨.bl _,H,I,rfl,q⟩
def GJ(hu:X.A.units+64<cLine):OpR X (compareOp .NotEq) (Jj X.K true):=by
 intro pins s σ H x y v u Q I rx ry h;obtain⟨da,db,ha,hb,sa,sb,q⟩:=h;obtain⟨as,ra⟩:=DV.reads I ha rx;obtain⟨bs,rb⟩:=DV.reads I hb ry;exact ne_dataH ra rb sa sb hu ⟨.bl _,H,I,rfl,q⟩
variable {H:Hp}
theorem DVs.ints:∀ns:List Int,DVs K H (ns.map V.int) (ns.map OL)
 | []=>.nil
 | n::ns=>.cons (.int n) (DVs.ints ns)
theorem nu:∀ns ms:List Int,Nk (ns.map OL) (ms.map OL)=decide (ns=ms)
 | [],[]=>by simp [Nk]
 | [],_::_=>by simp [Nk]
 | _::_,[]=>by simp [Nk]
 | a::r,b::t=>by
  simp only [map_cons,Nk,M_,nu r t]
  by_cases h:a=b <;> by_cases h':r=t <;> simp [h,h']
def uU:MtR X "str.endswith" (λx xs H Q=>∃a b,x=.str (S a)/\xs=[.str (S b)]/\Q (.bl (decide (b <:+ a))) H):=by
 intro pins s σ H x xs v us Q I rx rs h;obtain⟨a,b,rfl,rfl,q⟩:=h;obtain⟨t,rfl⟩:=rx;obtain⟨u,rfl,t',rfl⟩:=fJ rs
 have e:Txt.endswith (S a) (S b)=decide (b <:+ a):=by
  unfold Txt.endswith NF;rw [fc,fc]
  have e1:((S a).cps.extract (a.length - b.length) (a.length - b.length+b.length))=((a.drop (a.length - b.length)).take b.length).toArray:=by
   show a.toArray.extract _ _=_;rw [extract_toArray,extract_eq_take_drop];have e2:a.length - b.length+b.length - (a.length - b.length)=b.length:=by omega
   rw [e2]
  rw [e1]
  by_cases h:b <:+ a
  .rw [decide_eq_true h];have hl:=h.length_le;have hd:a.drop (a.length - b.length)=b:=(suffix_iff_eq_drop.mp h).symm;rw [hd];simp [S,hl]
  .rw [decide_eq_false h]
   by_cases hl:b.length<=a.length
   .have hne:¬ (a.drop (a.length - b.length)).take b.length=b:=λz=>h (by
     rw [L9 (by rw [length_drop];omega)] at z;exact suffix_iff_eq_drop.mpr z.symm)
    simp only [and_eq_false_imp];intro _;show (((a.drop (a.length - b.length)).take b.length).toArray == b.toArray)=false;rw [beq_eq_false_iff_ne];intro z;exact hne (by simpa using congrArg OB z)
   .rw [decide_eq_false (by omega)];rfl
 exact SC.endswith ⟨.bl _,H,I,rfl,by rw [e];exact q⟩
variable {j:Nat}
def dg(h:x=S l):PE X (.Constant (.str x) j pos) (tC (.str (S l))):=by
 subst h;exact Ga
def zw:bJ X (.builtin "len") (λxs H Q=>∃l,xs=[.str (S l)]/\l.length<=sizeLine/\Q (.int l.length) H):=by
 intro pins s σ H xs us Q I r h;obtain⟨l,rfl,hz,q⟩:=h;exact sD pins s σ H _ us Q I r ⟨S l,rfl,by rw [fc];exact hz,by rw [fc];exact q⟩
noncomputable def GK:R2:=λx y H Q=>∃l i c,x=.str (S l)/\y=.int i/\l.length<=sizeLine/\atI l i=some c/\Q (.str (S [c])) H
def D6:IxR X GK:=by
 intro value slice pins s σ H x y v u Q I rx ry q hs;obtain⟨l,i,c,rfl,rfl,hz,ha,q⟩:=q;exact Gx value slice pins s σ H _ _ v u Q I rx ry ⟨S l,i,c,rfl,rfl,by rw [fc];exact hz,ha,q⟩ hs
def D7:OpR X (binaryOp .Add) (λx y H Q=>∃i j,x=.str (S i)/\y=.str (S j)/\i.length+j.length<=sizeLine/\Q (.str (S (i++j))) H):=by
 intro pins s σ H x y v u Q I rx ry h;obtain⟨i,j,rfl,rfl,hz,q⟩:=h;exact xM pins s σ H _ _ v u Q I rx ry ⟨S i,S j,rfl,rfl,by rw [fc,fc];exact hz,by rw [BG];exact q⟩
def GL:OpR X (compareOp .Eq) (λx y H Q=>∃i j,x=.str (S i)/\y=.str (S j)/\Q (.bl (decide (i=j))) H):=by
 intro pins s σ H x y v u Q I rx ry h;obtain⟨i,j,rfl,rfl,q⟩:=h;exact I0 pins s σ H _ _ v u Q I rx ry ⟨rfl,by rw [GE];exact q⟩
def GM:OpR X (compareOp .NotEq) (λx y H Q=>∃i j,x=.str (S i)/\y=.str (S j)/\Q (.bl (!decide (i=j))) H):=by
 intro pins s σ H x y v u Q I rx ry h;obtain⟨i,j,rfl,rfl,q⟩:=h;exact Ja pins s σ H _ _ v u Q I rx ry ⟨rfl,by rw [GE];exact q⟩
def GN:OpR X (compareOp .Eq) (rI0 λi j=>.bl (decide (i=j))):=FA λ_ _ _ _ _ _ _ q=>eq_int (by rw [beq_eq_decide_eq];exact q)
def GO:OpR X (compareOp .NotEq) (rI0 λi j=>.bl (!decide (i=j))):=FA λ_ _ _ _ _ _ _ q=>ne_int (by rw [bne,beq_eq_decide_eq];exact q)
def zx:bJ X (.builtin "len") (λxs H Q=>∃p ys,xs=[.ref p]/\SqL X.K H p ys/\Q (.int ys.length) H):=by
 intro pins s σ H xs us Q I r h;obtain⟨p,ys,e,hq,q⟩:=h;exact lM pins s σ H xs us Q I r ⟨p,ys,e,.inl hq,q⟩
def zy:bJ X (.builtin "len") (λxs H Q=>∃p ys,xs=[.ref p]/\SqT X.K H p ys/\Q (.int ys.length) H):=by
 intro pins s σ H xs us Q I r h;obtain⟨p,ys,e,hq,q⟩:=h;exact lM pins s σ H xs us Q I r ⟨p,ys,e,.inr hq,q⟩
structure Cal (P:t_) (w:World) (K:b_) (mg:Str->Option Value) (base:Heap) (k:Nat) (x:Str) (ps:List Str) (sp:Sp):Prop where
 ex:∃(f:Addr) (fd:L7),qH P w K mg base CX0 k f fd ps sp/\me K fd ps []/\D_ K (.ref f)=true/\mg x=some (.ref f)/\∃oc od osl,K.lookup f=some ⟨oc,od,.func fd,osl⟩
structure aX (K:b_) (mg:Str->Option Value) (x:Str) (st:Stmt):Prop where
 ex:∃(f:Addr) (fd:L7),Fun K x x st f fd/\mg x=some (.ref f)
section
variable {P:t_}{base:Heap}{st:Stmt}{N ps:List Str}{sp:Sp}
def aX.ok(D:aX K mg x st)(S:aw N ps (ah st))(hb:∀(kV doc pm:Value) (an:Option Addr) (cdv ct:Value) (us:List Value),us.length=ps.length->bindArgs (F_ x x (bV st) (bn st) (ah st) .none kV doc pm an cdv ct) ⟨us,[]⟩=pure (ps.zip us))(len:∀vs H Q E,sp vs H Q E->vs.length=ps.length)(hbody:∀(f:Addr) (cdv:Value) (A:C0) (outer:List Env) (s:c_) (H:Hp) (vs:List V) (Q:VK) (E:XK),fR k (A.deeper (envOfC x (ah st) s.heap.objs.size f cdv))->sp vs H Q E ->
   ∃t,PSs (wO CX0 P w K mg base N x (ah st) f cdv A outer s H E).nox (bn st) t/\t { nx:=λ_ H'=>Q .non H',rt:=Q } (start N vs) H):Cal P w K mg base (k+1) x ps sp:=by
 obtain⟨f,fd,F,hm⟩:=D.ex
 have lk:∃oc od osl,K.lookup f=some ⟨oc,od,.func fd,osl⟩:=by
  obtain⟨oc,od,kV,doc,pm,an,cdv,ct,osl,rfl,lk,hcd⟩:=F.ex;exact⟨oc,od,osl,lk⟩
 exact⟨f,fd,F.ok S len λcdv A outer s H vs Q E hr h=>hbody f cdv A outer s H vs Q E hr h,F.binds hb,F.kp,hm,lk⟩
variable {h:Heap}{f:Addr}{oc:Value}{od an:Option Addr}{pm ct:Value}
def aX.mk'{osl:Array (Option Value)}{kV doc cdv:Value}(X:K.In h)(G:h.Ns mainGlobals mg)(a:we K mainGlobals x=some (some (.ref f)))(l:K.lookup f=some ⟨oc,od,.func (F_ x x (bV st) (bn st) (ah st) .none kV doc pm an cdv ct),osl⟩)(c:LN K cdv x=true)(k:D_ K (.ref f)=true):aX K mg x st:=⟨f,_,zm (st:=st) l c k,Nl X G a⟩
end
variable {ps:List Str}{sp:Sp}{p:Pos}{e:Expr}{es:List Expr}{t:TA}
def GP(C:Cal X.prog X.w X.K X.mg X.base k x ps sp)(hr:fR k X.A)(ha:PA X (e::es) t)(hg:Gl X x:=by rfl)(hdb:(x == ("__debug__":Str))=false:=by decide)(he:starEach (e::es) X.env=(false,eval e X.env)::starEach es X.env:=by rfl)(hpl:(backTo pos (starEach es X.env)).any (·.1)=false:=by rfl):PE X (.Call (.Name x p) (e::es) [] pos) (cq sp [] E0 t):=by
 obtain⟨f,fd,F,hb,hk,hm,_⟩:=C.ex;exact zb F hr hg hm hk hb .nil BF ha hdb he hpl
noncomputable def xX(K:b_):Sp:=λvs H Q _=>∃(a:Addr) (ns:List Int),vs=[.ref a]/\SqL K H a (ns.map V.int)/\ns.length<=63/\∀H',Q (.bl true) H'
variable {st:Stmt}
def GQ{P:t_}{fa:Addr}(hfa:mg "law"=some (.ref fa))(D:aX K mg "law" st)(hbind:∀(kV doc pm:Value) (an:Option Addr) (cdv ct:Value) (s:c_) (v:Value),OE s (F_ "law" "law" (bV st) (bn st) (ah st) .none kV doc pm an cdv ct) ⟨[v],[]⟩ [(x,v)])(h:∀base:Heap,Cal P w K mg base k "law" [x] (xX K)):
  ∃fd:L7,(∀(s:c_) (v:Value),OE s fd ⟨[v],[]⟩ [(x,v)])/\∀base:Heap,K.In base->base.Ns mainGlobals mg->qH P w K mg base CX0 k fa fd [x] (xX K):=by
 obtain⟨f,fd,F,hm⟩:=D.ex;have e:=hfa.symm.trans hm;cases e;obtain⟨oc,od,kV,doc,pm,an,cdv,ct,osl,rfl,lk,hcd⟩:=F.ex;refine⟨_,λs v=>hbind kV doc pm an cdv ct s v,λbase kb nb=>?_⟩;obtain⟨f',fd',F',_,_,hm',oc',od',osl',lk'⟩:=(h base).ex;have e:=hfa.symm.trans hm';cases e;rw [lk] at lk';cases lk';exact F'
def GR{l:OT}{XP:(Str->Option Value)->Heap->Prop}{YP:World->Heap->Prop}{d:DefRec}{K:N9->b_}(hn:l.most=some 63)(hdf:d.params.defaults=[])(hr:fR k callerA)(hY:∀(w:World) (h:Heap),YP w h->(K w.params).In h)(F:∀(w:World) (mg:Str->Option Value) (fa:Addr) (h:Heap),(K w.params).In h->h.Ns mainGlobals mg->mg d.name=some (.ref fa) ->
   ∃fd:L7,(∀(s:c_) (u:Value),OE s fd ⟨[u],[]⟩ [(x,u)])/\∀base:Heap,(K w.params).In base->base.Ns mainGlobals mg->qH l.prog w (K w.params) mg base CX0 k fa fd [x] (xX (K w.params))):
  PySem.W.WalkO q loose XP YP l.row.toRowW d [] (λf vs=>PySem.call f vs) :=
 D4 (n:=63) (k:=k) (x:=x) (CX:=λ_=>CX0) (sp:=λw=>xX (K w.params)) hn (by decide) hdf hr hY F (λ_ _ a ns hl _ hS=>⟨a,ns,rfl,hS,hl,λ_=>rfl⟩) λ_ _ _ _ _ z=>z
variable {β:Type}
def D8{f:α->β}{xs:List α}{i:Int}{v:α}(h:atI xs i=some v):atI (xs.map f) i=some (f v):=by
 unfold atI at h ⊢;rw [length_map]
 cases e:ixN xs.length i with
 | none=>rw [e] at h;cases h
 | some j =>
  rw [e] at h;show (xs.map f)[j]?=some (f v);have h':xs[j]?=some v:=h;rw [h_,h'];rfl
def gZ{xs:List α}{i:Int}{v:α}(h:xs[j]?=some v)(e:i=(j:Int)):atI xs i=some v:=by subst e;exact DZ h
noncomputable def fn(l:List Nat)(t:Nat):Nat:=l.getD t 0
def CJ{t:Nat}(h:t<l.length):l[t]?=some (fn l t):=by
 unfold fn;rw [cy,cx h];rfl
def sz(n:Nat)(h:n<=1000000):n<=sizeLine:=by rw [Md];omega
def BH{x:V}(h:(ns.map V.int)[i]?=some x):∃z,ns[i]?=some z/\x=.int z:=by
 rw [h_] at h
 cases e:ns[i]? with
 | none=>rw [e] at h;cases h
 | some z=>rw [e] at h;exact⟨z,rfl,(q_ h).symm⟩
variable {t:TS}
noncomputable def GS(t:TS):TS:=λD σ H=>∃J:St->Hp->Prop,t { D with nx:=J } σ H/\∀σ' H',J σ' H'->D.nx σ' H'
def ir(h:PS X st t):PS X st (GS t):=by
 intro pins s σ H D I q;obtain⟨J,q1,q2⟩:=q;refine thn (h pins s σ H _ I q1) λf s' r=>?_
 cases f with
 | next=>obtain⟨σ',H',I',r'⟩:=r;exact⟨σ',H',I',q2 σ' H' r'⟩
 | brk=>exact r
 | cont=>exact r
 | ret u=>exact r
def BI(f:α->β)(xs:List α)(lo hi:Option Int):eA (xs.map f) lo hi=(eA xs lo hi).map f:=by
 unfold eA;rw [length_map,map_take,map_drop]
def BJ(l:List α){k:Int}(h:0<=k):eA l none (some k)=l.take k.toNat:=by
 have e:k=((k.toNat:Nat):Int):=by omega
 rw [e,gq];rfl
theorem eG{c:Addr}:∀(names:List (Str×L8)) (n:Nat) (acc:List (Str×Addr)),(cellsFrom n names acc).lookup x=some c->(n<=c/\(x,M5)∈names)\/acc.lookup x=some c
 | [],n,acc,h=>.inr h
 | (y,k)::r,n,acc,h=>by
  unfold cellsFrom at h
  split at h
  .rename_i hk;have hk':k=.cell:=by simpa using hk
   subst hk'
   rcases eG r (n+1) ((y,n)::acc) h with ⟨h1,h2⟩|h1
   .exact .inl ⟨by omega,m_ _ h2⟩
   .rw [Me] at h1
    cases e:x == y with
    | true =>
     rw [e] at h1;have:n=c:=q_ h1;have ex:x=y:=by simpa using e
     subst ex;exact .inl ⟨by omega,mem_cons_self⟩
    | false=>rw [e] at h1;exact .inr h1
  .rcases eG r n acc h with ⟨h1,h2⟩|h1
   .exact .inl ⟨h1,m_ _ h2⟩
   .exact .inr h1
theorem gu:∀(names:List (Str×L8)) (n:Nat) (acc:List (Str×Addr)),(x,M5)∉names->(cellsFrom n names acc).lookup x=acc.lookup x
 | [],_,_,_=>rfl
 | (y,k)::r,n,acc,h=>by
  unfold cellsFrom
  split
  .rename_i hk;have hk':k=.cell:=by simpa using hk
   subst hk';rw [gu r (n+1) _ (λz=>h (m_ _ z)),Me]
   have:(x == y)=false:=by
    rw [beq_eq_false_iff_ne];intro e;subst e;exact h mem_cons_self
   rw [this]
  .exact gu r n acc (λz=>h (m_ _ z))
theorem gv{y:Str}{c:Addr}:∀(names:List (Str×L8)) (n:Nat) (acc:List (Str×Addr)),(∀z d,acc.lookup z=some d->d<n) ->
  (cellsFrom n names acc).lookup x=some c->(cellsFrom n names acc).lookup y=some c->n<=c->x=y
 | [],n,acc,ha,h1,h2,hc=>absurd (ha x c h1) (not_lt.mpr hc)
 | (z,k)::r,n,acc,ha,h1,h2,hc=>by
  unfold cellsFrom at h1 h2
  split at h1
  .rename_i hk;rw [if_pos hk] at h2
   have ha':∀w d,((z,n)::acc).lookup w=some d->d<n+1:=λw d e=>by
    rw [Me] at e
    cases q:w == z with
    | true=>rw [q] at e;cases e;exact OD _
    | false=>rw [q] at e;exact M6 (ha w d e)
   by_cases hcn:n+1<=c
   .exact gv r (n+1) _ ha' h1 h2 hcn
   .have e:c=n:=le_antisymm (not_lt.mp hcn) hc;subst e
    have key:∀w:Str,(cellsFrom (c+1) r ((z,c)::acc)).lookup w=some c->w=z:=λw hw=>by
     rcases eG r (c+1) _ hw with ⟨q,_⟩|q
     .exact absurd q (not_succ_le_self _)
     .rw [Me] at q
      cases q2:w == z with
      | true=>simpa using q2
      | false=>rw [q2] at q;exact absurd (ha w c q) (K_ _)
    rw [key x h1,key y h2]
  .rename_i hk;rw [if_neg hk] at h2;exact gv r n acc ha h1 h2 hc
noncomputable def ju(env:Env):List (Str×L8)->List (Str×Addr)->List (Str×Addr)
 | [],acc=>acc
 | (n,k)::r,acc=>if (k == .free)=true then ju env r ((n,(env.cells.lookup n).getD 0)::acc) else ju env r acc
variable {env:Env}
theorem gy{c:Addr}:∀(names:List (Str×L8)) (acc:List (Str×Addr)),(ju env names acc).lookup x=some c->((x,Nm)∈names/\c=(env.cells.lookup x).getD 0)\/acc.lookup x=some c
 | [],acc,h=>.inr h
 | (y,k)::r,acc,h=>by
  unfold ju at h
  split at h
  .rename_i hk;have hk':k=.free:=by simpa using hk
   subst hk'
   rcases gy r _ h with ⟨h1,h2⟩|h1
   .exact .inl ⟨m_ _ h1,h2⟩
   .rw [Me] at h1
    cases e:x == y with
    | true =>
     rw [e] at h1;have ex:x=y:=by simpa using e
     subst ex;exact .inl ⟨mem_cons_self,(q_ h1).symm⟩
    | false=>rw [e] at h1;exact .inr h1
  .rcases gy r acc h with ⟨h1,h2⟩|h1
   .exact .inl ⟨m_ _ h1,h2⟩
   .exact .inr h1
theorem ke:∀(names:List (Str×L8)) (acc:List (Str×Addr)),((x,Nm)∈names\/(acc.lookup x).isSome=true)->((ju env names acc).lookup x).isSome=true
 | [],acc,h=>h.elim (λz=>nomatch z) id
 | (y,k)::r,acc,h=>by
  unfold ju
  split
  .rename_i hk;refine ke r _ ?_
   by_cases e:(x == y)=true
   .exact .inr (by rw [Me,e];rfl)
   .rcases h with h|h
    .rcases A_.mp h with z|z
     .cases z;exact absurd (by simp) e
     .exact .inl z
    .exact .inr (by rw [Me];rw [not_eq_true] at e;rw [e];exact h)
  .rename_i hk;refine ke r acc ?_
   rcases h with h|h
   .rcases A_.mp h with z|z
    .cases z;exact absurd rfl hk
    .exact .inl z
   .exact .inr h
variable {scope:Scope}
def g9(h:∀x∈scope.names,x.2=.free->∃c,env.cells.lookup x.1=some c):closureFor scope env=pure (ju env scope.names []):=by
 unfold closureFor
 have key:∀(names:List (Str×L8)) (acc:List (Str×Addr)),(∀x∈names,x.2=.free->∃c,env.cells.lookup x.1=some c) ->
   (forIn names acc λ(x:Str×L8) (r:List (Str×Addr))=>(if (x.2 == Nm)=true then do let y <- cellOf env x.1;pure (LZ ((x.1,y)::r)) else pure (LZ r):Sem _))=pure (ju env names acc):=by
  intro names
  induction names with
  | nil=>intro acc _;rfl
  | cons p r ih =>
   intro acc hp;obtain⟨n,k⟩:=p;rw [forIn_cons];have hr:∀x∈r,x.2=.free->∃c,env.cells.lookup x.1=some c:=λx hx=>hp x (m_ _ hx);unfold ju
   by_cases hk:(k == Nm)=true
   .obtain⟨c,hc⟩:=hp (n,k) mem_cons_self (by simpa using hk);have hc':env.cells.lookup n=some c:=hc;have e1:cellOf env n=pure c:=by unfold cellOf;rw [hc']
    simp only [hk,if_true];rw [e1,hc'];simp only [pure_bind];exact ih _ hr
   .rw [if_neg hk,if_neg hk];simp only [pure_bind];exact ih _ hr
 have e:=key scope.names [] h;have e2:∀(m:Sem (List (Str×Addr))),(m >>= λr=>pure r)=m:=λm=>bind_pure m;rw [<- e]
 first
  | rfl
  | exact (e2 _)
noncomputable def qN(scope:Scope)(C:Addr)(env:Env):Env :=
 { scope:=relabel scope env,locals:=C,globals:=env.globals,cells:=cellsFrom (C+1) scope.names (ju env scope.names []),qual:=env.qual,func:=none,code:=env.code,frame:=env.frame,builtins:=env.builtins }
noncomputable def bg(X:Cx)(N':List Str)(scope:Scope)(s:c_)(H:Hp)(fp:List Addr)(pins:List (Addr×Obj)):Cx :=
 { X with N:=N',s₀:=s,H₀:=H,env:=qN scope s.heap.objs.size X.env,outer:=X.stack,stack:=X.stack,ex:=fp,fn:=λx=>decide ((x,M5)∈scope.names),pn:=X.pn++pins,xe:=λ_ _=>False }
noncomputable def nv(sc0:Scope)(N:List Str)(scope:Scope)(N':List Str)(ix:List (Option Nat)):Bool :=
 decide (scope.kind=.function) && scope.names.all (λy=>(!decide (y.2=.local) || decide (scope.names.lookup y.1=some .local)) &&
  (!decide (y.2=.free) || ((decide (sc0.names.lookup y.1=some .cell) || decide (sc0.names.lookup y.1=some .free)) && !decide ((y.1,M5)∈scope.names)))) &&
 decide (N'.length=ix.length) && (N'.zip ix).all (λp=>match p.2 with|none=>true|some j=>decide (N[j]?=some p.1) && decide (scope.names.lookup p.1=some .free))
structure wT (env:Env) (N:List Str) (scope:Scope) (N':List Str) (ix:List (Option Nat)):Prop where
 kind:scope.kind=.function
 loc:∀y∈scope.names,y.2=.local->scope.names.lookup y.1=some .local
 free:∀y∈scope.names,y.2=.free->(env.kindOf y.1=some .cell\/env.kindOf y.1=some .free)/\(y.1,M5)∉scope.names
 len:N'.length=ix.length
 slot:∀(i:Nat) (x:Str) (j:Nat),N'[i]?=some x->ix[i]?=some (some j)->N[j]?=some x/\scope.names.lookup x=some .free
variable {N:List Str}{ix:List (Option Nat)}
def ny{N':List Str}(h:nv env.scope N scope N' ix=true):wT env N scope N' ix:=by
 unfold nv at h;simp only [and_eq_true,decide_eq_true_eq,Na] at h;obtain⟨⟨⟨h1,h2⟩,h3⟩,h4⟩:=h
 refine⟨h1,λy hy e=>?_,λy hy e=>?_,h3,λi x j e1 e2=>?_⟩
 .have:=(h2 y hy).1;rw [e] at this;simpa using this
 .have:=(h2 y hy).2;rw [e] at this;simpa [Env.kindOf] using this
 .have hm:(x,some j)∈N'.zip ix:=by
   refine Eo (i:=i) ?_;rw [getElem?_zip_eq_some];exact⟨e1,e2⟩
  have:=h4 _ hm;simpa using this
noncomputable def rlf(env:Env)(p:Str×L8):Str×L8:=match p with|(n,k)=>if (k == Nm && env.scope.kind == .function && env.kindOf n == some .cell) then (n,.cell) else (n,k)
def zA(env:Env)(n:Str)(k:L8):∃k',rlf env (n,k)=(n,k')/\(k'=k\/(k=.free/\k'=.cell)):=by
 unfold rlf
 by_cases c:(k == Nm && env.scope.kind == .function && env.kindOf n == some .cell)=true
 .refine⟨.cell,if_pos c,.inr ⟨?_,rfl⟩⟩;simp only [and_eq_true,beq_iff_eq] at c;exact c.1.1
 .exact⟨k,if_neg c,.inl rfl⟩
theorem wU{env:Env}:∀{names:List (Str×L8)}{x:Str},names.lookup x=some .free->(names.map (rlf env)).lookup x=some .cell\/(names.map (rlf env)).lookup x=some .free
 | [],_,h=>by simp at h
 | (n,k)::r,x,h=>by
  have ih:=@wU env r x;obtain⟨k',e,hk'⟩:=zA env n k;rw [map_cons,e]
  cases hx:x == n with
  | true =>
   simp only [Me,hx] at h ⊢;have hk:k=.free:=q_ h
   rcases hk' with z|z
   .right;rw [z,hk]
   .left;rw [z.2]
  | false =>
   simp only [Me,hx] at h ⊢;exact ih h
theorem qO{env:Env}:∀{names:List (Str×L8)}{x:Str}{k':L8},(names.map (rlf env)).lookup x=some k'->k'=.cell\/k'=.free->names.lookup x=some .cell\/names.lookup x=some .free
 | [],_,_,h,_=>by simp at h
 | (n,k)::r,x,k',h,hk'=>by
  have ih:=@qO env r x k';obtain⟨k2,e,hk2⟩:=zA env n k;rw [map_cons,e] at h
  cases hx:x == n with
  | true =>
   simp only [Me,hx] at h ⊢;have:k2=k':=q_ h;subst this
   rcases hk2 with z|z
   .rw [<- z]
    rcases hk' with q|q
    .left;rw [q]
    .right;rw [q]
   .right;rw [z.1]
  | false =>
   simp only [Me,hx] at h ⊢;exact ih h hk'
def sI{c:Addr}:∀(names:List (Str×L8)) (n:Nat) (acc:List (Str×Addr)),(cellsFrom n names acc).lookup x=some c->(x,c)∈cellsFrom n names []\/acc.lookup x=some c:=by
 have app:∀(names:List (Str×L8)) (n:Nat) (acc:List (Str×Addr)),cellsFrom n names acc=cellsFrom n names []++acc:=by
  intro names
  induction names with
  | nil=>intro n acc;rfl
  | cons p r ih =>
   intro n acc;obtain⟨y,k⟩:=p;unfold cellsFrom
   split
   .rw [ih (n+1) ((y,n)::acc),ih (n+1) [(y,n)],append_assoc];rfl
   .exact ih n acc
 intro names n acc h;rw [app] at h;rw [lookup_append] at h
 cases e:(cellsFrom n names []).lookup x with
 | some d =>
  rw [e] at h;have:d=c:=by simpa using h
  subst this;exact .inl (mem_of_lookup e)
 | none=>rw [e] at h;exact .inr (by simpa using h)
noncomputable def sJ(ix:List (Option Nat))(σ:St):St:=ix.map λo=>match o with
 | none=>none
 | some j=>match σ[j]? with
  | some v=>v
  | none=>none
variable {pins:List (Addr×Obj)}{σ:St}
def wV{N':List Str}{fp:List Addr}(ok:wT X.env X.N scope N' ix)(I:Inv X pins σ H s)(hf:∀b∈fp,uQ X pins H b)(hfl:∀b∈fp,b<s.heap.objs.size):
  Inv (bg X N' scope s H fp pins) [] (sJ ix σ) H { s with heap:=pushCells (s.heap.push { cls:=.type "dict",data:=.dict #[] }) scope.names }:=by
 have hk4:∀b o,s.heap.get? b=some o->(pushCells (s.heap.push { cls:=.type "dict",data:=.dict #[] }) scope.names).get? b=some o:=λb o e=>NW _ _ b o (d_ _ e)
 have hclo:∀x c,(ju X.env scope.names []).lookup x=some c->X.env.cells.lookup x=some c:=λx c e=>by
  rcases gy scope.names [] e with ⟨h1,h2⟩|h1
  .obtain⟨d,hd⟩:=I.ok.has x (ok.free _ h1 rfl).1;rw [hd] at h2 ⊢;rw [h2];rfl
  .cases h1
 have hcl:∀x c,X.env.cells.lookup x=some c->c<s.heap.objs.size:=λx c e=>by
  obtain⟨v,q⟩:=I.cell x c e;exact q.lt
 have own:=cellsFrom_ok scope.names (s.heap.push { cls:=.type "dict",data:=.dict #[] }) (s.heap.objs.size+1) [] ⟨λ_ _ hm=>(nomatch hm),List.Pairwise.nil⟩ (by rw [Lz];exact gV _);rw [Lz] at own
 have cases:∀x c,(cellsFrom (s.heap.objs.size+1) scope.names (ju X.env scope.names [])).lookup x=some c ->
   ((pushCells (s.heap.push { cls:=.type "dict",data:=.dict #[] }) scope.names).IsCell c none/\s.heap.objs.size+1<=c)\/X.env.cells.lookup x=some c:=λx c e=>by
  rcases sI _ _ _ e with h|h
  .exact .inl (own.empty x c h)
  .exact .inr (hclo x c h)
 have fs':∀b,b∈frs X.stack->b<s.heap.objs.size:=λb hb=>by
  rcases A_.mp (I.stkSub b hb) with z|z
  .rw [z];exact I.lt
  .by_cases q:b<s.heap.objs.size
   .exact q
   .exact absurd z (I.nofs (not_lt.mp q))
 have cix:(bg X N' scope s H fp pins).Ok:=by
  refine⟨I.ok.mod,ok.kind,I.ok.glob,I.ok.blt,gV _,λx y c h1 h2=>?_,λx hx=>?_,λx c hx e=>?_,I.ok.hd,I.ok.frames,.inl rfl,λb hb=>⟨H_ (hfl b hb),λx c e=>?_⟩,λb o e=>I.bs b o e,s_ I.ok.bsz I.sz,λb o e hb=>?_,λb hb=>?_,I.stack,I.stkFree,I.ok.tb.un I.base⟩
  .rcases cases x c h1 with ⟨_,z⟩|z
   .exact gv scope.names _ _ (λw d e=>M6 (hcl w d (hclo w d e))) h1 h2 z
   .rcases cases y c h2 with ⟨_,z2⟩|z2
    .exact absurd (hcl x c z) (not_lt.mpr (NQ z2))
    .exact I.ok.inj x y c z z2
  .have hx':scope.names.lookup x=some .cell\/scope.names.lookup x=some .free:=by
    rcases hx with z|z
    .exact qO (env:=X.env) z (.inl rfl)
    .exact qO (env:=X.env) z (.inr rfl)
   rcases hx' with z|z
   .exact MP.mp (M0 scope.names _ _ (.inl z))
   .exact MP.mp (M0 scope.names _ _ (.inr (ke _ _ (.inl (mem_of_lookup z)))))
  .have hx':(x,M5)∈scope.names:=of_decide_eq_true hx
   rcases cases x c e with ⟨_,z⟩|z
   .exact NQ z
   .rcases sI _ _ _ e with h|h
    .exact NQ (own.empty x c h).2
    .rcases gy scope.names [] h with ⟨h1,_⟩|h1
     .exact absurd hx' (ok.free _ h1 rfl).2
     .cases h1
  .intro z
   rcases cases x c e with ⟨_,z2⟩|z2
   .rw [z] at z2;exact absurd (hfl b hb) (not_lt.mpr (NQ z2))
   .exact (hf b hb).2.2.2.2.1 x c z2 z
  .rcases (hf b hb).2.2.2.1 with z|z
   .exact I.ok.noex b o e z
   .exact absurd (n_ (I.ok.bs b o e).1) (not_lt.mpr z)
  .intro z
   rcases A_.mp (I.stkSub b z) with q|q
   .exact (hf b hb).2.1 q
   .exact (hf b hb).2.2.1 q
 refine⟨cix,rfl,I.bare,Un.kept hk4,⟨λ_=>none,?_,λi x v e1 e2 e3=>?_⟩,λx c e=>?_,I.hok.fresh (gV _),λx c e=>?_,λp hp=>?_,I.hok.kept hk4,?_⟩
 .exact (Heap.Ns.new s.heap (.type "dict")).keeps (NW _ _)
 .have e2':∃j,ix[i]?=some (some j)/\σ[j]?=some (some v):=by
   unfold sJ at e2;rw [h_] at e2
   cases q:ix[i]? with
   | none=>rw [q] at e2;cases e2
   | some o =>
    rw [q] at e2
    cases o with
    | none=>cases (q_ e2)
    | some j =>
     refine⟨j,rfl,?_⟩;have e2'':(match σ[j]? with|some v=>v|none=>none)=some v:=q_ e2
     cases r:σ[j]? with
     | none=>rw [r] at e2'';cases e2''
     | some w=>rw [r] at e2'';exact congrArg some e2''
  obtain⟨j,hj,hv⟩:=e2';obtain⟨hN,hfr⟩:=ok.slot i x j e1 hj;have hk:=(ok.free _ (mem_of_lookup hfr) rfl).1
  have hvis:Vis X.env.scope x:=by
   rcases hk with z|z
   .exact .inr (.inl z)
   .exact .inr (.inr z)
  obtain⟨m,hn,hl⟩:=I.loc;obtain⟨u,ru,lk⟩:=hl j x v hN hv hvis
  refine⟨u,ru,.inr ⟨?_,?_⟩⟩
  .exact wU (env:=X.env) hfr
  .rcases lk with ⟨z,_⟩|⟨_,c,hc,hcell⟩
   .rcases hk with q|q
    .rw [z] at q;cases q
    .rw [z] at q;cases q
   .refine⟨c,?_,hcell.keeps hk4⟩;show (cellsFrom (s.heap.objs.size+1) scope.names (ju X.env scope.names [])).lookup x=some c;rw [gu scope.names _ _ (ok.free _ (mem_of_lookup hfr) rfl).2];obtain⟨d,hd⟩:=MP.mp (ke (env:=X.env) scope.names [] (.inl (mem_of_lookup hfr)));rw [hd,<- hclo x d hd,hc]
 .rcases cases x c e with ⟨z,_⟩|z
  .exact⟨none,z⟩
  .obtain⟨v,q⟩:=I.cell x c z;exact⟨v,q.keeps hk4⟩
 .rcases cases x c e with ⟨_,z⟩|z
  .exact I.hok.fresh (NQ z)
  .exact I.freeC x c z
 .have hp':p∈X.pn++pins:=by simpa [bg] using hp
  obtain⟨q1,q2,q3,q4,q5⟩:=I.pin p hp';refine⟨hk4 _ _ q1,q2,H_ (n_ q1),λz=>?_,q5⟩
  rcases A_.mp (I.stkSub p.1 z) with q|q
  .exact q3 q
  .exact q4 q
 .unfold sJ;rw [length_map];exact ok.len.symm
variable {qual:Str}
def eH{globals:Addr}{cl:List (Str×Addr)}{func:Option Addr}{code:Value}{Q:Env->c_->Prop}(hQ:Q { scope:=scope,locals:=s.heap.objs.size,globals:=globals,cells:=cellsFrom (s.heap.objs.size+1) scope.names cl,qual:=qual,func:=func,code:=env.code,frame:=env.frame,builtins:=env.builtins }
   { s with heap:=pushCells (s.heap.push { cls:=.type "dict",data:=.dict #[] }) scope.names }):
  wpAny M A (newFunctionEnv scope globals cl [] qual func code (some env)) Q E s:=by
 simp only [newFunctionEnv,Option.isSome_some,if_true];refine cn (wpAny_alloc ?_);refine cn (wpAny_layCells _ (λname kind cells=>by cases hkc:kind == M5 <;> simp [hkc]) _ _ _ _ ?_);rw [show ({ s with heap:=s.heap.push { cls:=.type "dict",data:=.dict #[] } }:c_).heap.objs.size=s.heap.objs.size+1 from Lz ..];simp only [forIn_nil];exact cn (f_ (f_ hQ))
variable {prog:t_}{R:Result->c_->Prop}
theorem sK{elt target iter:Expr}{ifs:List Expr}{it acc:Value}(I:Nat->c_->Prop)(turn:∀n s,I n s->wpAny (model prog w) A (pyNext it) (λr s₁=>match r with
   | none=>R (.ok .next) s₁
   | some v=>wpAny (model prog w) A (letOwnedTupleGo target it v) (λ_ s₂=>wpAny (model prog w) A (assign target env v) (λ_ s₃ =>
     wpAny (model prog w) A (forIn ifs true λc r=>if r=true then do let ok <- isTrue c env (eval c env);pure (LZ ok) else pure (LZ r)) (λok s₄ =>
      if ok=true then wpAny (model prog w) A (eval elt env) (λx s₅ =>
       wpAny (model prog w) A (call (.builtin "list.append") [acc,x]) (λ_ s₆=>∃m,m<n/\I m s₆) (λ_ _=>False) s₅) (λ_ _=>False) s₄
      else ∃m,m<n/\I m s₄) (λ_ _=>False) s₃) (λ_ _=>False) s₂) (λ_ _=>False) s₁) (λ_ _=>False) s)(n:Nat)(h:I n s):
  codeAny (model prog w) A (.compLoop (.ListComp elt [⟨target,iter,ifs,0⟩] scope pos) 0 it acc env) R s:=by
 refine codeAny_loop rfl I (λn s hI=>?_) n h;show wpAny _ A ((compTurn (.ListComp elt [⟨target,iter,ifs,0⟩] scope pos) 0 it acc env).onRaise (λx=>do noteFrame x env;theTreesLotGoes x)) _ _ s;refine wpAny_noted ?_;rw [compTurn_list];refine cn (MN (cn (Ly (turn n s hI) (λr s₁ h₁=>?_) λ_ _ h'=>h'.elim)))
 cases r with
 | none=>exact f_ h₁
 | some v =>
  refine cn (Ly h₁ (λ_ s₂ h₂=>?_) λ_ _ h'=>h'.elim);refine cn (Ly h₂ (λ_ s₃ h₃=>cn (Ly h₃ (λok s₄ h₄=>?_) λ_ _ h'=>h'.elim)) λ_ _ h'=>h'.elim)
  cases ok with
  | false=>exact f_ ⟨rfl,h₄⟩
  | true =>
   exact cn (cn (Ly h₄ (λx s₅ h₅=>cn (Ly h₅ (λ_ s₆ h₆=>f_ (f_ ⟨rfl,h₆⟩)) λ_ _ h'=>h'.elim)) λ_ _ h'=>h'.elim))
noncomputable def PIf(X:Cx)(ifs:List Expr)(t:TT):Prop :=
 ∀(pins:List (Addr×Obj)) (s:c_) (σ:St) (H:Hp) (Q:Bool->Hp->Prop),Inv X pins σ H s->t σ H Q ->
  wpAny (model X.prog X.w) X.A (forIn ifs true λc r=>if r=true then do let ok <- isTrue c X.env (eval c X.env);pure (LZ ok) else pure (LZ r)) (TP X pins σ Q) X.xe s
def fk:TT:=λ_ H Q=>Q true H
def aT:PIf X [] fk:=λ_ _ _ H _ I h=>wpAny_tests_nil ⟨H,I,h⟩
def fK{c:Expr}{t:TT}(h:PT X c t):PIf X [c] t:=λpins s σ H Q I q=>wpAny_tests_one (h pins s σ H Q I q)
noncomputable def sL(ix:List (Option Nat))(wi:TI)(g:TG)(tts:TT)(te:TE):TE:=λσ H Q=>wi σ H λJ H1=>∀D,H1 D=none->∃W:Nat->Nat->St->Hp->Prop,(∃m,W 0 m (sJ ix σ) (upd H1 D (.lst [])))/\∀i m τ H2,W i m τ H2 ->
 (J.stop i H2/\Q (.ref D) H2)\/(J.go i H2/\∀x H3,J.yld i H2 x H3->g x τ H3 λτ2 H4=>tts τ2 H4 λok H5=>if ok=true then te τ2 H5 λv H6=>∃ys,H6 D=some (.lst ys)/\ys.length<sizeLine/\∃m',m'<m/\W (i+1) m' τ2 (upd H6 D (.lst (ys++[v])))
  else ∃m',m'<m/\W (i+1) m' τ2 H5)
variable {iter elt:Expr}{ifs:List Expr}{N':List Str}{wi:TI}{g:TG}{tts:TT}{te:TE}
def sM{use:Option (Value->Sem Unit)}{Qf:Value->c_->Prop}{p':Pos}{Q:VK}(hc:X.calm=true)(ok:wT X.env X.N scope N' ix)(hi:PI X tg iter wi)(blk:∀s H fp pn,PG (bg X N' scope s H fp pn) tg g/\PIf (bg X N' scope s H fp pn) ifs tts/\PE (bg X N' scope s H fp pn) elt te)(hs:∀x,foldedSetIterable iter X.env x=pure x)(I:Inv X pins σ H s)(hw:sL ix wi g tts te σ H Q)(fin:∀D C H' s',Inv X pins σ H' s'->Q (.ref D) H'->(∃m,s'.heap.Ns C m)->H' C=none->X.s₀.heap.objs.size<=C->C≠X.env.locals->(∀x c,X.env.cells.lookup x=some c->c≠C)->C∉X.fs->(∀p∈X.pn++pins,p.1≠C) ->
   compPost (model X.prog X.w) X.A X.xe use Qf (.ref D) C (.ok .next) s'):
  wpAny (model X.prog X.w) X.A (comprehension (.ListComp elt [⟨tg,iter,ifs,0⟩] scope pos) scope X.env p' (newList []) false (eval iter X.env) use) Qf X.xe s:=by
 have hclos:closureFor scope X.env=pure (ju X.env scope.names []):=g9 λy hy e=>I.ok.has y.1 (ok.free y hy e).1;refine wpAny_comprehension_free (use:=use) rfl hs hclos ok.kind ok.loc (thn (hi pins s σ H _ I hw) λv s1 h1=>thn h1 λitv s2 h2=>?_);obtain⟨it,fp,tn,J,H2,e,I2,T,st2,f2,hW⟩:=h2;subst e;obtain⟨W,⟨m0,w0⟩,turn⟩:=hW s2.heap.objs.size (I2.hok.fresh (gV _))
 have hfl:∀b∈fp,b<s2.heap.objs.size:=λb hb=>by
  obtain⟨o,e,_⟩:=T.obj 0 _ st2 b hb;exact n_ e
 refine LH ?_
 have I3:Inv X pins σ (upd H2 s2.heap.objs.size (.lst [])) { s2 with heap:=s2.heap.push { cls:=.type "list",dict:=none,data:=.seq ([]:List Value).toArray } } :=
  I2.laid (t':=s2.toks) (λb o e=>d_ _ e) (gV _) (show cm X.prog X.w _ _ _ (.lst []) from ⟨LY _,[],0,.nil,g_ _ rfl⟩)
 have st3:tn 0 (s2.heap.push { cls:=.type "list",dict:=none,data:=.seq ([]:List Value).toArray }):=T.keep 0 _ _ st2 λb _ o e=>d_ _ e;have f3:∀b∈fp,uQ X pins (upd H2 s2.heap.objs.size (.lst [])) b:=λb hb=>⟨by rw [aI (H_ (hfl b hb))];exact (f2 b hb).1,(f2 b hb).2⟩
 have hfl3:∀b∈fp,b<(s2.heap.push { cls:=.type "list",dict:=none,data:=.seq ([]:List Value).toArray }).objs.size:=λb hb=>by rw [Lz];exact M6 (hfl b hb)
 generalize hs3:({ s2 with heap:=s2.heap.push { cls:=.type "list",dict:=none,data:=.seq ([]:List Value).toArray } }:c_)=s3 at I3 ⊢;have eh3:s3.heap=s2.heap.push { cls:=.type "list",dict:=none,data:=.seq ([]:List Value).toArray }:=by rw [<- hs3]
 rw [<- eh3] at st3 hfl3;generalize hH3:upd H2 s2.heap.objs.size (.lst [])=H3 at I3 f3 w0;generalize hD:s2.heap.objs.size=D at *;refine eH ?_;have I4:=wV ok I3 f3 hfl3;obtain⟨hg,ht,he⟩:=blk s3 H3 fp pins;have st4:tn 0 (pushCells (s3.heap.push { cls:=.type "dict",data:=.dict #[] }) scope.names):=T.keep 0 _ _ st3 λb _ o e=>NW _ _ b o (d_ _ e)
 have stat:∀{H':Hp},(∀b∈fp,H' b=none)->∀b∈fp,uQ (bg X N' scope s3 H3 fp pins) [] H' b:=λhn b hb=>by
  refine⟨hn b hb,H_ (hfl3 b hb),I4.ok.exfs b hb,.inl hb,(I4.ok.exf b hb).2,λp hp=>?_⟩;have hp':p∈X.pn++pins:=by simpa [bg] using hp
  exact (f2 b hb).2.2.2.2.2 p hp'
 have loop:∀(s4:c_),Inv (bg X N' scope s3 H3 fp pins) [] (sJ ix σ) H3 s4->tn 0 s4.heap ->
   codeAny (model X.prog X.w) X.A (.compLoop (.ListComp elt [⟨tg,iter,ifs,0⟩] scope pos) 0 (.ref it) (.ref D) (qN scope s3.heap.objs.size X.env)) (compPost (model X.prog X.w) X.A X.xe use Qf (.ref D) s3.heap.objs.size) s4:=by
  intro s4 I4 st4;refine sK (λn s'=>∃i τ H',Inv (bg X N' scope s3 H3 fp pins) [] τ H' s'/\tn i s'.heap/\(∀b∈fp,H' b=none)/\W i n τ H') ?_ m0 ⟨0,_,H3,I4,st4,λb hb=>(f3 b hb).1,w0⟩;rintro n s5 ⟨i,τ,H5,I5,st5,fr5,w5⟩
  rcases turn i n τ H5 w5 with ⟨stop,qn⟩|⟨go,step⟩
  .refine thn (T.done (bg X N' scope s3 H3 fp pins) rfl rfl rfl hc i [] s5 τ H5 (λ_ _=>False) I5 (stat fr5) st5 stop) λr s6 ⟨hr,I6⟩=>?_;subst hr;have I7:Inv X pins σ H5 s6:=I3.call' (ch:=fp) I6.os I6.base I6.hok I6.bare λb hb=>⟨(f2 b hb).2.2.2.1,(f2 b hb).2.1,(f2 b hb).2.2.2.2.1,(f2 b hb).2.2.2.2.2⟩
   obtain⟨m6,hn6,_⟩:=I6.loc
   refine fin D s3.heap.objs.size H5 s6 I7 qn ⟨m6,hn6⟩ I6.free ?_ ?_ ?_ ?_ ?_
   .exact I3.sz
   .exact Oa I3.lt
   .intro x c e z;obtain⟨v,q⟩:=I3.cell x c e;have:=q.lt;rw [z] at this;exact K_ _ this
   .exact I3.nofs (gV _)
   .intro p hp z;have:=n_ (I3.pin p hp).1;rw [z] at this;exact K_ _ this
  .refine thn (T.item (bg X N' scope s3 H3 fp pins) rfl rfl rfl hc i [] s5 τ H5 (λ_ _=>False) I5 (stat fr5) st5 go) λr s6 ⟨u,hr,h6⟩=>?_;subst hr;refine thn h6 λ_ s7 ⟨x,H7,I7,r7,y7,st7,fr7⟩=>?_;have I7':=I7.pinned (stat fr7) (T.obj _ _ st7)
   have again:∀{s8:c_}{τ8:St}{H8:Hp},Inv (bg X N' scope s3 H3 fp pins) ([]++mX fp s7.heap) τ8 H8 s8->(∃m',m'<n/\W (i+1) m' τ8 H8) ->
     ∃m,m<n/\∃i τ H',Inv (bg X N' scope s3 H3 fp pins) [] τ H' s8/\tn i s8.heap/\(∀b∈fp,H' b=none)/\W i m τ H':=λ{s8 τ8 H8} I8 ⟨m',hm,w8⟩=>by
    refine⟨m',hm,i+1,τ8,H8,I8.unpinned,T.keep _ _ _ st7 λb hb o e=>(I8.pin (b,o) (u_ _ (u_ _ (cY hb e)))).1,λb hb=>?_,w8⟩;obtain⟨o,e,d⟩:=T.obj _ _ st7 b hb;exact (I8.pin (b,o) (u_ _ (u_ _ (cY hb e)))).2.1
   refine thn (hg _ s7 τ H7 x u _ I7' r7 (step x H7 y7)) λ_ s8 ⟨τ8,H8,I8,q8⟩=>?_;refine thn (ht _ s8 τ8 H8 _ I8 q8) λokb s9 ⟨H9,I9,q9⟩=>?_
   cases okb with
   | false =>
    rw [if_neg k_] at q9;rw [if_neg k_];exact again I9 q9
   | true =>
    rw [if_pos rfl] at q9;rw [if_pos rfl];refine thn (he _ s9 τ8 H9 _ I9 q9) λv10 s10 ⟨x10,H10,I10,r10,q10⟩=>?_;obtain⟨ys,hD10,hz,m',hm,w10⟩:=q10;refine thn (eF (X:=bg X N' scope s3 H3 fp pins) _ s10 τ8 H10 (.ref D) [x10] (.ref D) [v10] (λ_ H'=>∃m',m'<n/\W (i+1) m' τ8 H') I10 rfl (.cons r10 .nil) ⟨D,ys,x10,rfl,rfl,hD10,hz,m',hm,w10⟩) λ_ s11 ⟨_,H11,I11,_,q11⟩=>?_;exact again I11 q11
 exact codeAny_compStart_list (loop _ I4 st4) (T.self X.A 0 _ _ _ st4 (loop _ I4 st4))
def aV(N':List Str)(ix:List (Option Nat))(hc:X.calm=true)(hi:PI X tg iter wi)(blk:∀s H fp pn,PG (bg X N' scope s H fp pn) tg g/\PIf (bg X N' scope s H fp pn) ifs tts/\PE (bg X N' scope s H fp pn) elt te)(chk:nv X.env.scope X.N scope N' ix=true)(hs:∀x,foldedSetIterable iter X.env x=pure x:=by intro _;rfl):
  PE X (.ListComp elt [⟨tg,iter,ifs,0⟩] scope pos) (sL ix wi g tts te):=by
 intro pins s σ H Q I hw;rw [eval_ListComp];refine sM (use:=none) hc (ny chk) hi blk hs I hw λD C H' s' I' q hm hn h1 h2 h3 h4 h5=>?_;obtain⟨m,hm⟩:=hm;refine⟨m,hm,λh' sb=>⟨.ref D,H',?_,rfl,q⟩⟩;exact I'.turned (t':=s'.toks) (λb o hb e=>(sb.2 b hb).trans e) hn h2 (.inr h1) h3 h5
theorem kX{pos' cpos:Pos}(N':List Str)(ix:List (Option Nat))(hN:X.N.Nodup)(hi:X.N[i]?=some x)(hx:Loc X.env.scope x)(hc:X.calm=true)(hit:PI X tg iter wi)(blk:∀s H fp pn,PG (bg X N' scope s H fp pn) tg g/\PIf (bg X N' scope s H fp pn) ifs tts/\PE (bg X N' scope s H fp pn) elt te)(chk:nv X.env.scope X.N scope N' ix=true)(hsw:swapsWith (.ListComp elt [⟨tg,iter,ifs,0⟩] scope cpos) (some (.Name x pos')) pos.line X.env=pure true:=by rfl)(hs:∀x,foldedSetIterable iter X.env x=pure x:=by intro _;rfl)(hf:X.fn x=true\/X.env.scope.names.lookup x=some .local:=by first|exact .inl rfl|exact .inr rfl|assumption):
  PS X (.Assign [.Name x pos'] (.ListComp elt [⟨tg,iter,ifs,0⟩] scope cpos) pos) (Fz (sL ix wi g tts te) (aS i)):=by
 intro pins s σ H D I hw;rw [exec_Assign_Name_used _ _ _ _ hsw];refine cn (MN (cn ?_));show wpAny _ X.A (do let _ <- comprehension (.ListComp elt [⟨tg,iter,ifs,0⟩] scope cpos) scope X.env _ (newList []) false (eval iter X.env) (some (assign (.Name x pos') X.env))) _ _ s;refine cn (thn (sM (use:=some (assign (.Name x pos') X.env)) (Qf:=λ_ s'=>SP X pins D .next s') hc (ny chk) hit blk hs I hw λD' C H' s' I' q hm hn h1 h2 h3 h4 h5=>?_) λ_ s' q=>f_ (f_ q))
 obtain⟨m,oC,es,ep,hoC,hdC,hrC⟩:=hm
 have Ip:Inv X (pins++[(C,oC)]) σ H' s':=I'.pins_of λp hp=>(MA.mp hp).elim (λz=>I'.pin p (u_ _ z)) λz=>by
  have e:p=(C,oC):=by simpa using z
  subst e;exact⟨hoC,hn,h2,h4,λv z=>by rw [hdC] at z;cases z⟩
 refine wpAny_assign_Name (mJ (v:=.ref D') Ip hN hi hx rfl (λs2 I2=>?_) hf);have hC2:s2.heap.get? C=some oC:=(I2.pin (C,oC) (by simp)).1;have I2':Inv X pins (σ.set i (some (.ref D'))) H' s2:=I2.pins_of λp hp=>I2.pin p (u_ _ (M2 _ hp));refine⟨m,⟨oC,es,ep,hC2,hdC,hrC⟩,λh' sb=>⟨_,H',?_,q⟩⟩;exact I2'.turned (t':=s2.toks) (λb o hb e=>(sb.2 b hb).trans e) hn h2 (.inr h1) h3 h5
noncomputable def BK(p:Addr)(a b c:Int):HO:=.ext λh=>∃t u v,IsRange h p a b c t u v
noncomputable def uV(a c:Int)(n:Nat):List V:=(e_ n).map λ(k:Nat)=>V.int (a+k*c)
def xY{a c:Int}{acc:Array Value}(h:ItemsOf (λi v=>∃t,v=.int (a+i*c) t) acc n):bK (uV a c n) acc.toList:=by
 obtain⟨hn,hi⟩:=h
 have key:∀(m:Nat) (us:List Value) (f:Nat->Int),us.length=m->(∀i u,us[i]?=some u->∃t,u=NL (f i) t)->bK ((e_ m).map λk=>V.int (f k)) us:=by
  intro m
  induction m with
  | zero=>intro us f hl _;rw [Mh] at hl;subst hl;exact .nil
  | succ m ih =>
   intro us f hl hu
   cases us with
   | nil=>simp at hl
   | cons u r =>
    rw [range_succ_eq_map,map_cons,map_map];refine .cons (hu 0 u rfl) (ih r (λk=>f (k+1)) (by simpa using hl) λi v e=>hu (i+1) v (by simpa using e))
 refine key n acc.toList (λk=>a+k*c) (by simpa using hn) λi u e=>?_;exact hi i u (by simpa using e)
def zB(a c:Int)(n:Nat):(uV a c n).length=n:=by simp [uV]
def BL{a b c:Int}{t u v:Tok}{tk:Nat}(I:Inv X pins σ H s):
  Inv X pins σ (upd H s.heap.objs.size (BK s.heap.objs.size a b c)) { s with heap:=s.heap.push { cls:=.type "range",data:=.fields #[.int a t,.int b u,.int c v] },toks:=tk }:=by
 refine I.laid (λb o e=>d_ _ e) (gV _) ⟨⟨t,u,v,IsRange.new ..⟩,⟨_,g_ _ rfl⟩,λh1 h2 ⟨t,u,v,z⟩ k=>⟨t,u,v,k _ z⟩⟩
def kf{a:Expr}(hg:Gl X "range")(hm:X.mg "range"=none)(ha:PA X [a] ta)(hs:starEach [a] X.env=[(false,eval a X.env)]:=by rfl):
  PE X (.Call (.Name "range" p) [a] [] pos) (λσ H Q=>ta σ H λvs H1=>∃j:Int,vs=[.int j]/\∀p,H1 p=none->Q (.ref p) (upd H1 p (BK p 0 j 1))):=by
 intro pins s σ H Q I h;refine Call_ (jd I hg hm boot_range (LF (thn (ha pos pins s σ H _ I h) λus s1 ⟨vs,H1,I1,r1,q1⟩=>?_) hs rfl));obtain⟨j,e,q⟩:=q1;subst e
 cases r1 with
 | cons r rr =>
  cases rr;obtain⟨t,rfl⟩:=r;exact call_range_1 ⟨.ref s1.heap.objs.size,_,BL I1,rfl,q _ (I1.hok.fresh (gV _))⟩
noncomputable def II(K:b_)(mk:List V->HO):List V->Hp->VK->Prop:=λxs H Q=>∃p a b c n,xs=[.ref p]/\H p=some (BK p a b c)/\Nh a b c=true/\L1 a b c=((n:Nat):Int)/\n<=1000000/\∀l,H l=none->Q (.ref l) (upd H l (mk (uV a c n)))
def xZ(hc:X.calm=true):bJ X (.type "list") (II X.K .lst):=by
 intro pins s σ H xs us Q I r h;obtain⟨p,a,b,c,n,rfl,hp,hsm,hsz,hn,q⟩:=h;obtain⟨u,rfl,rx⟩:=fJ r;cases rx;obtain⟨⟨t,u,v,hr⟩,_,_⟩:=(show cm X.prog X.w H s.heap p (BK p a b c) from I.hok p _ hp)
 have hs:sizeLine=16777216:=Md;refine call_list_range (I.ok.hd hc) hr hsm hsz (by omega) λh' tk acc c' hk e hacc=>?_;exact⟨.ref s.heap.objs.size,_,I.laid (t':=tk) hk (gV _) (show cm X.prog X.w _ h' _ (.lst (uV a c n)) from ⟨by rw [zB];omega,acc.toList,c',xY hacc,by simpa using e⟩),rfl,q _ (I.hok.fresh (gV _))⟩
theorem kg{g:α->Option β}{h:α->β}:∀{xs:List α},(∀x∈xs,g x=some (h x))->xs.filterMap g=xs.map h
 | [],_=>rfl
 | x::r,hx=>by rw [M8,hx x mem_cons_self,map_cons,kg λy hy=>hx y (m_ _ hy)]
def Jk(l:List Nat)(u:Tok):Txt.sliceBy (S l) none none (-1,u)=S l.reverse:=by
 have e1:((slicePicked (S l) none none (some (-1,u))).filterMap ((S l).cps[·]?))=l.reverse:=by
  unfold slicePicked L5 sliceRange;simp only [Option.map_some,Option.getD_some,Option.map_none,show ¬ ((-1:Int) > 0) by decide,if_false];rw [fc]
  have ec:(if ((l.length:Int) - 1 > -1) then ((l.length:Int) - 1 - -1 - -1 - 1) / (- -1) else 0).toNat=l.length:=by
   have:(- -1:Int)=1:=by decide
   rw [this,ediv_one];split <;> omega
  rw [ec]
  have e:((e_ l.length).map λ(k:Nat)=>((l.length:Int) - 1+-1*(k:Int)).toNat)=(e_ l.length).map λk=>l.length - 1 - k:=by
   apply LW;intro k _;omega
  rw [e];have e2:(λi:Nat=>(S l).cps[i]?)=λi:Nat=>l[i]?:=by funext i;simp [S]
  rw [e2];apply NG;intro i;rw [Ot]
  have hall:∀x∈e_ l.length,((λi:Nat=>l[i]?) ∘ λk=>l.length - 1 - k) x=some (fn l (l.length - 1 - x)):=λx hx=>by
   have hx':x<l.length:=mem_range.mp hx;have hx2:l.length - 1 - x<l.length:=by omega
   exact CJ hx2
  rw [kg hall]
  by_cases hi:i<l.length
  .rw [h_,LQ hi,getElem?_reverse hi,CJ (by omega)];rfl
  .rw [v_ (by simp;omega),v_ (by simp;omega)]
 unfold Txt.sliceBy;rw [if_neg (by simp),e1];rfl
noncomputable def fL(k:Bool)(h:Heap)(a:Addr)(its:Array Value):Prop:=∃o,h.get? a=some o/\o.cls=.type (cond k "tuple" "list")/\∃n,o.data=.seq its n
noncomputable def cF(k:Bool)(h:Heap)(it a:Addr)(i:Nat):Prop:=∃o,h.get? it=some o/\o.cls=.type (cond k "tuple_iterator" "list_iterator")/\o.data=.fields #[.ref a,.int i 0]
variable {h h':Heap}
def fL.mv{k:Bool}{a:Addr}{its:Array Value}(r:fL k h a its)(f:∀o,h.get? a=some o->h'.get? a=some o):fL k h' a its:=let ⟨o,e,q⟩:=r;⟨o,f o e,q⟩
def cF.mv{k:Bool}{it a:Addr}(r:cF k h it a i)(f:∀o,h.get? it=some o->h'.get? it=some o):cF k h' it a i:=let ⟨o,e,q⟩:=r;⟨o,f o e,q⟩
section
variable {P:t_}{it a:Addr}{its:Array Value}{Q:Value->c_->Prop}
def sN{x:Value}(W:s.heap.IsTupleIter it a i)(R:s.heap.IsTuple a its)(hx:its[i]?=some x)(hQ:∀h',h'.IsTupleIter it a (i+1)->NA it s.heap h'->Q x { s with heap:=h' }):wpAny (model P w) A (z_ (.ref it)) Q E s:=by
 have hT:=W.typeIs;obtain⟨o,ho,c,d⟩:=W;obtain⟨ol,hol,_,nl,dl⟩:=R;unfold z_;refine cn (LK (name:=Mu "__next__") hT F.slot_tuple_iterator_next (L3 F.slot_tuple_iterator_next hT F.entry_tuple_iterator_next ?_ (F.args_tuple_iterator_next_1 _)));refine cn (m:=field (.ref it) 0) (LP ho d (x:=.ref a) rfl ?_);have nn:¬ ((l_ a == L6)=true):=k_
 show wpAny _ _ (if (l_ a == L6)=true then _ else _) _ _ s;rw [if_neg nn];refine cn (m:=field (.ref it) 1) (LP ho d (x:=.int i 0) rfl ?_);refine cn (m:=seqItems? (.ref a)) (LB hol dl ?_);simp only [toNat_natCast,hx];exact cn (wpAny_setField ho d (by simp) (f_ ⟨x,rfl,f_ (hQ _ ⟨_,Mg _ ho (Obj.isFreed_of_fields (Obj.data_mapFields d _)),(Obj.cls_mapFields ..).trans c,by rw [Obj.data_mapFields d];simp [rawInt]⟩ (Heap.SameBut.update ..))⟩))
def uW(hh:A.handled=none)(W:s.heap.IsTupleIter it a i)(R:s.heap.IsTuple a its)(hx:its[i]?=none)(hE:∀h' e,O3 it s.heap h'->(∃o,h'.get? e=some o/\o.cls=.type "StopIteration")->E (.ref e) { s with heap:=h' }):wpAny (model P w) A (z_ (.ref it)) Q E s:=by
 have hT:=W.typeIs;obtain⟨o,ho,c,d⟩:=W;obtain⟨ol,hol,_,nl,dl⟩:=R;unfold z_;refine cn (LK (name:=Mu "__next__") hT F.slot_tuple_iterator_next (L3 F.slot_tuple_iterator_next hT F.entry_tuple_iterator_next ?_ (F.args_tuple_iterator_next_1 _)));refine cn (m:=field (.ref it) 0) (LP ho d (x:=.ref a) rfl ?_);have nn:¬ ((l_ a == L6)=true):=k_
 show wpAny _ _ (if (l_ a == L6)=true then _ else _) _ _ s;rw [if_neg nn];refine cn (m:=field (.ref it) 1) (LP ho d (x:=.int i 0) rfl ?_);refine cn (m:=seqItems? (.ref a)) (LB hol dl ?_);simp only [toNat_natCast,hx];refine cn (NO (cn (wpAny_setField ho d (by simp) (cn (m:=newExc (.type "StopIteration") []) ?_))));simp only [newExc,newTuple]
 refine cn (LH (cn (m:=firstArgMember _ _) (O4 (a:=L6) (by first|rfl|(simp only [firstArgMember];rfl)) (LH ?_ (by size_fits)))) (by size_fits));simp only [raiseNew];refine cn (wpAny_handled ?_)
 first|rw [show A.in1.handled=none from hh]|rw [hh]
 exact cn (f_ (wpAny_throw (hE _ _ (((Heap.SameBut.update ..).extBut.push _).push _) ⟨_,g_ _ rfl,rfl⟩)))
variable {k:Bool}
def fo{x:Value}(W:cF k s.heap it a i)(R:fL k s.heap a its)(hx:its[i]?=some x)(hQ:∀h',cF k h' it a (i+1)->NA it s.heap h'->Q x { s with heap:=h' }):wpAny (model P w) A (z_ (.ref it)) Q E s:=by
 cases k with
 | false=>exact wpAny_nextOf_list_item W R hx hQ
 | true=>exact sN W R hx hQ
def gA(hh:A.handled=none)(W:cF k s.heap it a i)(R:fL k s.heap a its)(hx:its[i]?=none)(hE:∀h' e,O3 it s.heap h'->(∃o,h'.get? e=some o/\o.cls=.type "StopIteration")->E (.ref e) { s with heap:=h' }):wpAny (model P w) A (z_ (.ref it)) Q E s:=by
 cases k with
 | false=>exact wpAny_nextOf_list_end hh W R hx hE
 | true=>exact uW hh W R hx hE
end
structure ZA (z U V i j:Addr):Prop where
 Uz:U≠z
 Vz:V≠z
 iz:i≠z
 jz:j≠z
 UV:U≠V
 Ui:U≠i
 Uj:U≠j
 Vi:V≠i
 Vj:V≠j
 ij:i≠j
section
variable {P:t_}{k l:Bool}{z U V i j a c:Addr}{xs ys:Array Value}{x y v:Value}{Q:Value->c_->Prop}
def D9(D:ZA z U V i j)(az:a≠z)(cz:c≠z)(ci:c≠i)(cV:c≠V)(hz:IsZip s.heap z U V .none)(hU:Nt s.heap U (.ref i) (.ref j))(hV:Nt s.heap V u v)(W1:cF k s.heap i a n)(W2:cF l s.heap j c n)(R1:fL k s.heap a xs)(R2:fL l s.heap c ys)(hx:xs[n]?=some x)(hy:ys[n]?=some y)(hQ:∀h',IsZip h' z U V (rawInt s.heap.objs.size)->Nt h' V x y->cF k h' i a (n+1)->cF l h' j c (n+1)->Nt h' s.heap.objs.size x y->h'.objs.size=s.heap.objs.size+1 ->
   (∀b o,b≠z->b≠V->b≠i->b≠j->s.heap.get? b=some o->h'.get? b=some o)->Q (.ref s.heap.objs.size) { s with heap:=h' }):
  wpAny (model P w) A (NZ.«zip.__next__» ⟨[.ref z],[]⟩) (λf s'=>∃r,f=.done (.ret r)/\Q r s') E s:=by
 refine cn (m:=field (.ref z) 2) (LP hz rfl (x:=.bool false) rfl (cn (m:=field (.ref z) 3) (LP hz rfl (x:=.ref U) rfl (cn (LB hU rfl ?_)))));refine cn (m:=LX (.ref z)) ?_;unfold LX;refine cn (LP hz rfl (x:=.none) rfl (f_ ?_));simp only [if_true];refine cn (NO (cn (LP hz rfl (x:=.ref V) rfl (cn (ME hz (by simp) λg1 z1 b1=>cn ?_)))))
 replace z1:IsZip g1 z U V .ellipsis:=z1
 simp only [zipIdx_cons,zipIdx_nil,forIn_cons,forIn_nil];have e1:=b1.extBut;refine cn (cn (NR (cn (m:=z_ (.ref i)) (fo (W1.mv λo e=>e1 _ o D.iz e) (R1.mv λo e=>e1 _ o az e) hx λg2 w1 b2=>f_ ?_))));have e2:=b2.extBut;have v2:Nt g2 V u v:=e2 _ _ D.Vi (e1 _ _ D.Vz hV);refine cn (LB v2 rfl (cn (NT v2 λg3 v3 b3=>cn (Mw (f_ ?_)))))
 replace v3:Nt g3 V x v:=v3
 have e3:=b3.extBut;refine cn (cn (NR (cn (m:=z_ (.ref j)) (fo (W2.mv λo e=>e3 _ o D.Vj.symm (e2 _ o D.ij.symm (e1 _ o D.jz e))) (R2.mv λo e=>e3 _ o cV (e2 _ o ci (e1 _ o cz e))) hy λg4 w2 b4=>f_ ?_))));have e4:=b4.extBut;have v4:Nt g4 V x v:=e4 _ _ D.Vj v3;refine cn (LB v4 rfl (cn (NT v4 λg5 v5 b5=>cn (Mw (f_ (f_ ?_))))))
 replace v5:Nt g5 V x y:=v5
 have e5:=b5.extBut;refine cn (LB v5 rfl (cn (wpAny_newTuple ?_)));have sz:g5.objs.size=s.heap.objs.size:=by rw [b5.1,b4.1,b3.1,b2.1,b1.1]
 have z5:IsZip g5 z U V .ellipsis:=e5 _ _ D.Vz.symm (e4 _ _ D.jz.symm (e3 _ _ D.Vz.symm (e2 _ _ D.iz.symm z1)));have k5:∀b o,b≠z->b≠V->b≠i->b≠j->s.heap.get? b=some o->g5.get? b=some o:=λb o q1 q2 q3 q4 e=>e5 _ _ q2 (e4 _ _ q4 (e3 _ _ q2 (e2 _ _ q3 (e1 _ _ q1 e))));have w15:cF k g5 i a (n+1):=w1.mv λo e=>e5 _ o D.Vi.symm (e4 _ o D.ij (e3 _ o D.Vi.symm e));have w25:cF l g5 j c (n+1):=w2.mv λo e=>e5 _ o D.Vj.symm e
 have zlt:z<g5.objs.size:=n_ z5;refine cn (m:=Ni (.ref z) (.ref g5.objs.size)) ?_;unfold Ni;have z6:IsZip (g5.push { cls:=.type "tuple",data:=.seq #[x,y] }) z U V .ellipsis:=d_ _ z5;refine cn (ME z6 (by simp) λg7 z7 b7=>?_)
 replace z7:IsZip g7 z U V (rawInt g5.objs.size):=z7
 refine ME z7 (by simp) λg8 z8 b8=>?_
 replace z8:IsZip g8 z U V (rawInt g5.objs.size):=z8
 have up:∀b o,b≠z->g5.get? b=some o->g8.get? b=some o:=λb o q e=>b8.extBut _ _ q (b7.extBut _ _ q (d_ _ e));have t8:Nt g8 g5.objs.size x y:=b8.extBut _ _ (Oa zlt) (b7.extBut _ _ (Oa zlt) (g_ _ rfl));have s8:g8.objs.size=g5.objs.size+1:=by rw [b8.1,b7.1,Lz]
 rw [sz] at z8 t8 s8;refine f_ ⟨_,rfl,?_⟩;show Q (.ref g5.objs.size) _;rw [sz];exact hQ g8 z8 (up _ _ D.Vz v5) (w15.mv λo e=>up _ o D.iz e) (w25.mv λo e=>up _ o D.jz e) t8 s8 λb o q1 q2 q3 q4 e=>up b o q1 (k5 b o q1 q2 q3 q4 e)
def GT{Q:Fin->c_->Prop}(hh:A.handled=none)(D:ZA z U V i j)(az:a≠z)(cz:c≠z)(ci:c≠i)(cV:c≠V)(hz:IsZip s.heap z U V .none)(hU:Nt s.heap U (.ref i) (.ref j))(hV:Nt s.heap V u v)(W1:cF k s.heap i a n)(W2:cF l s.heap j c n)(R1:fL k s.heap a xs)(R2:fL l s.heap c ys)(hend:xs[n]?=none\/ys[n]?=none)(hE:∀h' e,(∀b o,b≠z->b≠V->b≠i->b≠j->s.heap.get? b=some o->h'.get? b=some o)->(∃o,h'.get? e=some o/\o.cls=.type "StopIteration")->E (.ref e) { s with heap:=h' }):
  wpAny (model P w) A (NZ.«zip.__next__» ⟨[.ref z],[]⟩) Q E s:=by
 refine cn (m:=field (.ref z) 2) (LP hz rfl (x:=.bool false) rfl (cn (m:=field (.ref z) 3) (LP hz rfl (x:=.ref U) rfl (cn (LB hU rfl ?_)))));refine cn (m:=LX (.ref z)) ?_;unfold LX;refine cn (LP hz rfl (x:=.none) rfl (f_ ?_));simp only [if_true];refine cn (NO (cn (LP hz rfl (x:=.ref V) rfl (cn (ME hz (by simp) λg1 z1 b1=>cn ?_)))))
 replace z1:IsZip g1 z U V .ellipsis:=z1
 simp only [zipIdx_cons,zipIdx_nil,forIn_cons,forIn_nil];have e1:=b1.extBut
 cases hx:xs[n]? with
 | none =>
  refine cn (cn (NR (cn (m:=z_ (.ref i)) (gA hh (W1.mv λo e=>e1 _ o D.iz e) (R1.mv λo e=>e1 _ o az e) hx λg2 e b2 he=>?_))));obtain⟨oe,ge,ce⟩:=he;have z2:IsZip g2 z U V .ellipsis:=b2 _ _ D.iz.symm z1;have ez:e≠z:=λq=>by subst q;rw [z2] at ge;cases ge;simp at ce
  exact ME z2 (by simp) λg3 _ b3=>hE g3 e (λb o q1 _ q3 _ q=>b3.extBut _ _ q1 (b2 _ _ q3 (e1 _ _ q1 q))) ⟨oe,b3.extBut _ _ ez ge,ce⟩
 | some x =>
  have hy:ys[n]?=none:=by
   rcases hend with q|q
   .rw [hx] at q;cases q
   .exact q
  refine cn (cn (NR (cn (m:=z_ (.ref i)) (fo (W1.mv λo e=>e1 _ o D.iz e) (R1.mv λo e=>e1 _ o az e) hx λg2 w1 b2=>f_ ?_))));have e2:=b2.extBut;have v2:Nt g2 V u v:=e2 _ _ D.Vi (e1 _ _ D.Vz hV);refine cn (LB v2 rfl (cn (NT v2 λg3 v3 b3=>cn (Mw (f_ ?_)))))
  have e3:=b3.extBut;refine cn (cn (NR (cn (m:=z_ (.ref j)) (gA hh (W2.mv λo e=>e3 _ o D.Vj.symm (e2 _ o D.ij.symm (e1 _ o D.jz e))) (R2.mv λo e=>e3 _ o cV (e2 _ o ci (e1 _ o cz e))) hy λg4 e b4 he=>?_))));obtain⟨oe,ge,ce⟩:=he;have z4:IsZip g4 z U V .ellipsis:=b4 _ _ D.jz.symm (e3 _ _ D.Vz.symm (e2 _ _ D.iz.symm z1));have ez:e≠z:=λq=>by subst q;rw [z4] at ge;cases ge;simp at ce
  exact ME z4 (by simp) λg5 _ b5=>hE g5 e (λb o q1 q2 q3 q4 q=>b5.extBut _ _ q1 (b4 _ _ q4 (e3 _ _ q2 (e2 _ _ q3 (e1 _ _ q1 q))))) ⟨oe,b5.extBut _ _ ez ge,ce⟩
end
noncomputable def Sq(k:Bool)(K:b_)(H:Hp)(a:Addr)(xs:List V):Prop:=cond k (SqT K H a xs) (SqL K H a xs)
variable {k:Bool}{a:Addr}
def Inv.row(I:Inv X pins σ H s)(h:Sq k X.K H a xs):∃its:List Value,bK xs its/\fL k s.heap a its.toArray/\xs.length<=sizeLine:=by
 cases k with
 | false=>obtain⟨its,r,p,z⟩:=I.list h;exact⟨its,r,p.isList,z⟩
 | true=>obtain⟨its,r,p,z⟩:=I.tuple h;exact⟨its,r,p,z⟩
variable {ys:List V}
def Inv.row_inj(I:Inv X pins σ H s)(h:Sq k X.K H a xs)(h':Sq k X.K H a ys):xs=ys:=by
 cases k with
 | false=>exact I.list_inj h h'
 | true=>exact I.tuple_inj h h'
def zC{u:HO}(r:Rd H a u):∃v,H a=some v:=by
 rcases r with r|⟨o,r⟩ <;> exact⟨_,r⟩
variable {b:Addr}
def Inv.row_ne(I:Inv X pins σ H s)(h:Sq k X.K H a xs)(f:uQ X pins H b):a≠b:=by
 have kk:∀o,X.K.lookup a=some o->a≠b:=λo e z=>by
  have e1:=I.ok.mod.kin a o e
  rcases f.2.2.2.1 with q|q
  .exact I.ok.noex a o e1 (z ▸ q)
  .exact absurd (w_ (n_ (I.ok.bs a o e1).1) (z ▸ q)) (K_ _)
 have hh:∀u,H a=some u->a≠b:=λu e z=>by rw [z,f.1] at e;cases e
 cases k with
 | false =>
  rcases h with r|⟨o,its,n,e,_⟩
  .obtain⟨v,e⟩:=zC r;exact hh v e
  .exact kk o e
 | true =>
  rcases h with r|⟨o,its,n,e,_⟩
  .obtain⟨v,e⟩:=zC r;exact hh v e
  .exact kk o e
variable {c:Addr}{t':Nat}
def Inv.yielded{T:Addr}{zs:List V}{ch:List Addr}(I:Inv X pins σ H s)(hf:∀b∈ch,uQ X pins H b)(hT:s.heap.objs.size<=T)(kp:∀b o,b∉ch->s.heap.get? b=some o->h'.get? b=some o)(new:cm X.prog X.w (upd H T (.tup zs)) h' T (.tup zs)):Inv X pins σ (upd H T (.tup zs)) { s with heap:=h',toks:=t' }:=by
 have hn:H T=none:=I.hok.fresh hT;have nT:∀b u,H b=some u->b≠T:=λb u e z=>by rw [z,hn] at e;cases e
 have oT:∀b o,s.heap.get? b=some o->b≠T:=λb o e z=>absurd (w_ (n_ e) (z ▸ hT)) (K_ _);have nc:∀b u,H b=some u->b∉ch:=λb u e z=>by rw [(hf b z).1] at e;cases e
 refine I.step (g':=s.gens) (d':=s.drawn) (ch:=ch) (λb hb=>⟨(hf b hb).2.2.2.1,(hf b hb).2.1,(hf b hb).2.2.2.2.1,(hf b hb).2.2.2.2.2⟩) (λb o _ _ hc e _=>kp b o hc e) (λb o _ _ hc e _=>⟨o.slots,kp b o hc e⟩)
  (λb o _ e n=>by rw [aI (oT b o e)];exact n) (λb o hc e=>⟨o,kp b o hc e⟩) (λb xs e=>by rw [aI (nT b _ e)];exact e) (λb o u e=>by rw [aI (nT b _ e)];exact e)
  (λb ps e=>⟨#[],by rw [aI (nT b _ e),e];simp⟩) (λm hm=>?_) (λb u e=>?_) I.bare
 .obtain⟨o,es,ep,ho,r⟩:=hm;exact⟨o,es,ep,kp _ o (λz=>(hf _ z).2.1 rfl) ho,r⟩
 .by_cases hb:b=T
  .subst hb;rw [aY] at e;cases e;exact new
  .rw [aI hb] at e;refine (I.hok b u e).stay (λc v hc q=>kp c v ?_ q) (λc q=>by rw [aI (nT c _ q)];exact q) λc xs q=>by rw [aI (nT c _ q)];exact q
   rcases hc with z|z
   .rw [z];exact nc b u e
   .exact nc c _ z
noncomputable def Itz(k l:Bool)(K:b_)(a c:Addr):It :=
  ⟨λi H=>∃xs ys x y,Sq k K H a xs/\Sq l K H c ys/\xs[i]?=some x/\ys[i]?=some y,
   λi H p H'=>∃T x y,H T=none/\p=.ref T/\(∀xs,Sq k K H a xs->xs[i]?=some x)/\(∀ys,Sq l K H c ys->ys[i]?=some y)/\H'=upd H T (.tup [x,y]),
   λi H=>∃xs ys,Sq k K H a xs/\Sq l K H c ys/\(xs.length<=i\/ys.length<=i)⟩
def BM{P:t_}{ct:Nat}{tp:Pos}{l:Bool}{z U V i j:Addr}(D:ZA z U V i j):
  DK P w K (.Tuple es ct tp) (Itz k l K a c) [z,U,V,i,j] z (λn h=>IsZip h z U V .none/\Nt h U (.ref i) (.ref j)/\(∃u v,Nt h V u v)/\cF k h i a n/\cF l h j c n) where
 mem:=by simp
 obj:=λn h st b hb=>by
  obtain⟨hz,hU,⟨u,v,hV⟩,⟨o1,g1,c1,d1⟩,⟨o2,g2,c2,d2⟩⟩:=st;simp only [A_,not_mem_nil,or_false] at hb
  rcases hb with rfl|rfl|rfl|rfl|rfl
  .exact⟨_,hz,λv q=>by cases q⟩
  .exact⟨_,hU,λv q=>by cases q⟩
  .exact⟨_,hV,λv q=>by cases q⟩
  .exact⟨_,g1,λv q=>by rw [d1] at q;cases q⟩
  .exact⟨_,g2,λv q=>by rw [d2] at q;cases q⟩
 keep:=λn h h' st kk=>by
  obtain⟨hz,hU,⟨u,v,hV⟩,w1,w2⟩:=st;exact⟨kk z (by simp) _ hz,kk U (by simp) _ hU,⟨u,v,kk V (by simp) _ hV⟩,w1.mv λo e=>kk i (by simp) o e,w2.mv λo e=>kk j (by simp) o e⟩
 item:=by
  intro X hP hw hK hc n pins s σ H E I hf st hg;subst hP hw hK;obtain⟨xs,ys,x,y,q1,q2,hx,hy⟩:=hg;obtain⟨hz,hU,⟨u,v,hV⟩,w1,w2⟩:=st;obtain⟨its,rv,p,_⟩:=I.row q1;obtain⟨jts,rv',p',_⟩:=I.row q2;obtain⟨ux,hux,rx⟩:=rv.get hx;obtain⟨uy,huy,ry⟩:=rv'.get hy;have hT:s.TypeIs (.ref z) "zip":=⟨_,hz,rfl⟩
  have nz:=I.row_ne q1 (hf z (by simp));have mz:=I.row_ne q2 (hf z (by simp));have mi:=I.row_ne q2 (hf i (by simp));have mV:=I.row_ne q2 (hf V (by simp));unfold pyNext
  refine cn (wpAny_attempt (LK (name:=Mu "__next__") hT F.slot_zip_next (L3 F.slot_zip_next hT F.entry_zip_next
   (D9 (x:=ux) (y:=uy) D nz mz mi mV hz hU hV w1 w2 p p' (by simpa using hux) (by simpa using huy) λh' a1 a2 a3 a4 a5 a6 a7=>f_ ?_) (F.args_zip_next_1 _))))
  refine⟨_,rfl,wpAny_letOwnedTupleGo_zip a1 λg gz gs=>?_⟩;have lt:∀{b o},s.heap.get? b=some o->s.heap.objs.size≠b:=λe=>Oa (n_ e)
  have kp:∀b o,b∉[z,V,i,j]->s.heap.get? b=some o->g.get? b=some o:=λb o hb e=>by
   simp only [A_,not_mem_nil,or_false,not_or] at hb;exact gs.extBut _ _ hb.1 (a7 b o hb.1 hb.2.1 hb.2.2.1 hb.2.2.2 e)
  have I2:Inv X pins σ (upd H s.heap.objs.size (.tup [x,y])) { s with heap:=g,toks:=s.toks }:=I.yielded (ch:=[z,V,i,j]) (λb hb=>hf b (by
   simp only [A_,not_mem_nil,or_false] at hb ⊢;rcases hb with q|q|q|q <;> simp [q])) (gV _) kp ⟨by show 2<=sizeLine;decide,[ux,uy],.cons rx (.cons ry .nil),_,gs.extBut _ _ (lt hz) a5,rfl,_,rfl⟩
  refine⟨.ref s.heap.objs.size,_,I2,rfl,⟨_,x,y,I.hok.fresh (gV _),rfl,λxs' q=>by rw [I.row_inj q q1];exact hx,λys' q=>by rw [I.row_inj q q2];exact hy,rfl⟩,
   ⟨gz,gs.extBut _ _ D.Uz (a7 _ _ D.Uz D.UV D.Ui D.Uj hU),⟨_,_,gs.extBut _ _ D.Vz a2⟩,a3.mv λo e=>gs.extBut _ o D.iz e,a4.mv λo e=>gs.extBut _ o D.jz e⟩,λb hb=>?_⟩
  rw [aI ?_]
  .exact (hf b hb).1
  .intro q;subst q;simp only [A_,not_mem_nil,or_false] at hb;obtain⟨o1,g1,_⟩:=w1;obtain⟨o2,g2,_⟩:=w2
   rcases hb with q|q|q|q|q
   .exact lt hz q
   .exact lt hU q
   .exact lt hV q
   .exact lt g1 q
   .exact lt g2 q
 done:=by
  intro X hP hw hK hc n pins s σ H E I hf st hg;subst hP hw hK;obtain⟨xs,ys,q1,q2,hend⟩:=hg;obtain⟨hz,hU,⟨u,v,hV⟩,w1,w2⟩:=st;obtain⟨its,rv,p,_⟩:=I.row q1;obtain⟨jts,rv',p',_⟩:=I.row q2;have e1:=rv.length;have e2:=rv'.length;have hT:s.TypeIs (.ref z) "zip":=⟨_,hz,rfl⟩
  unfold pyNext
  refine cn (wpAny_attempt (LK (name:=Mu "__next__") hT F.slot_zip_next (L3 F.slot_zip_next hT F.entry_zip_next
   (GT (I.ok.hd hc) D (I.row_ne q1 (hf z (by simp))) (I.row_ne q2 (hf z (by simp))) (I.row_ne q2 (hf i (by simp))) (I.row_ne q2 (hf V (by simp))) hz hU hV w1 w2 p p' ?_ λh' e hk he=>?_) (F.args_zip_next_1 _))))
  .rcases hend with q|q
   .exact .inl (by simp;omega)
   .exact .inr (by simp;omega)
  .obtain⟨o,ho,hcl⟩:=he;refine cn (wpAny_isInstance (T:="StopIteration") (b:=true) ⟨o,ho,hcl⟩ isSubtype_stop (f_ ⟨rfl,?_⟩))
   exact I.step (g':=s.gens) (d':=s.drawn) (t':=s.toks) (ch:=[z,V,i,j]) (λb hb=>by
     have q:=hf b (by
      simp only [A_,not_mem_nil,or_false] at hb ⊢;rcases hb with q|q|q|q <;> simp [q])
     exact⟨q.2.2.2.1,q.2.1,q.2.2.2.2.1,q.2.2.2.2.2⟩) (λb o _ _ hc e _=>by
     simp only [A_,not_mem_nil,or_false,not_or] at hc;exact hk b o hc.1 hc.2.1 hc.2.2.1 hc.2.2.2 e) (λb o _ _ hc e _=>⟨o.slots,by
     simp only [A_,not_mem_nil,or_false,not_or] at hc;exact hk b o hc.1 hc.2.1 hc.2.2.1 hc.2.2.2 e⟩) (λ_ _ _ _ q=>q) (λb o hc e=>⟨o,by
     simp only [A_,not_mem_nil,or_false,not_or] at hc;exact hk b o hc.1 hc.2.1 hc.2.2.1 hc.2.2.2 e⟩) (λ_ _ e=>e) (λ_ _ _ e=>e) (λb ps e=>⟨#[],by rw [e];simp⟩) (λm hm=>by
     obtain⟨o,es,ep,ho,r⟩:=hm;exact⟨o,es,ep,hk _ o (hf z (by simp)).2.1.symm (hf V (by simp)).2.1.symm (hf i (by simp)).2.1.symm (hf j (by simp)).2.1.symm ho,r⟩) (λb u e=>by
     have nn:∀b u,H b=some u->b≠z/\b≠V/\b≠i/\b≠j:=λb u e=>⟨λq=>(by rw [q,(hf z (by simp)).1] at e;cases e),λq=>(by rw [q,(hf V (by simp)).1] at e;cases e),λq=>(by rw [q,(hf i (by simp)).1] at e;cases e),λq=>(by rw [q,(hf j (by simp)).1] at e;cases e)⟩
     refine (I.hok b u e).stay (λc v hc q=>?_) (λ_ q=>q) λ_ _ q=>q
     have n4:c≠z/\c≠V/\c≠i/\c≠j:=by
      rcases hc with q|q
      .rw [q];exact nn b u e
      .exact nn c _ q
     exact hk c v n4.1 n4.2.1 n4.2.2.1 n4.2.2.2 q) I.bare
 self:=λ_ _ _ _ _ st h=>wpAny_pyIter_zip st.1 h
def Jl(n:Nat):ZA (n+4) (n+2) (n+3) n (n+1):=by
 refine⟨?_,?_,?_,?_,?_,?_,?_,?_,?_,?_⟩ <;> (intro h;have h2:@Eq Nat _ _:=h;omega)
section
abbrev mf(k:Bool)(a:Addr):Obj:={ cls:=.type (cond k "tuple_iterator" "list_iterator"),data:=.fields #[.ref a,.int 0 0] }
variable {P:t_}{Q:Value->c_->Prop}
def fU{its:Array Value}(R:fL k s.heap a its)(hQ:Q (.ref s.heap.objs.size) { s with heap:=s.heap.push (mf k a) }):wpAny (model P w) A (pyIter (.ref a)) Q E s:=by
 cases k with
 | false=>exact MK R hQ
 | true=>exact wpAny_pyIter_tuple R hQ
abbrev zg1(h:Heap)(k:Bool)(a:Addr):Heap:=h.push (mf k a)
variable {l:Bool}
abbrev zg2(h:Heap)(k l:Bool)(a c:Addr):Heap:=(zg1 h k a).push (mf l c)
abbrev zg3(h:Heap)(k l:Bool)(a c:Addr):Heap:=(zg2 h k l a c).push { cls:=.type "tuple",data:=.seq #[.ref h.objs.size,.ref (zg1 h k a).objs.size] }
abbrev zg4(h:Heap)(k l:Bool)(a c:Addr):Heap:=(zg3 h k l a c).push { cls:=.type "tuple",data:=.seq #[.none,.none] }
abbrev zg5(h:Heap)(k l:Bool)(a c:Addr):Heap:=(zg4 h k l a c).push { cls:=.type "zip",data:=.fields #[.none,.bool false,.bool false,.ref (zg2 h k l a c).objs.size,.ref (zg3 h k l a c).objs.size] }
def Ea(k l:Bool)(a c:Addr)(xs ys:Array Value):Meets (NZ.«zip.__new__» ⟨[.type "zip",.ref a,.ref c],[]⟩) (λ_ R s=>fL k s.heap a xs/\fL l s.heap c ys /\
   R (.ok (.ret (.ref (zg4 s.heap k l a c).objs.size))) { s with heap:=zg5 s.heap k l a c }) :=
 .of_wp λprog w A R s h=>by
  obtain⟨hp,g,d,tk,os⟩:=s;obtain⟨r1,r2,h⟩:=h;have hsub:=sub_zip;have R1:fL k (Shared.heap ⟨hp,g,d,tk,os⟩) a xs:=r1;have R2:fL l (Shared.heap ⟨hp.push (mf k a),g,d,tk,os⟩) c ys:=r2.mv λo e=>d_ _ e
  wp_walk using fU R1,fU R2
  exact⟨_,rfl,h⟩
def Eb{xs ys:Array Value}(r1:fL k s.heap a xs)(r2:fL l s.heap c ys)(h:∀h',IsZip h' (s.heap.objs.size+4) (s.heap.objs.size+2) (s.heap.objs.size+3) .none->Nt h' (s.heap.objs.size+2) (.ref s.heap.objs.size) (.ref (s.heap.objs.size+1)) ->
   Nt h' (s.heap.objs.size+3) .none .none->cF k h' s.heap.objs.size a 0->cF l h' (s.heap.objs.size+1) c 0->(∀b o,s.heap.get? b=some o->h'.get? b=some o)->Q (.ref (s.heap.objs.size+4)) { s with heap:=h' }):
  wpAny (model P w) A (call (.type "zip") [.ref a,.ref c]) Q E s:=by
 refine callType_new F.called_zip (by decide) (F.typeCall_zip_2 _ _) (F.newCall_zip_2 _ _) (λobj=>F.args_object_init_3 obj _ _) F.entry_zip_new (Ea k l a c xs ys) ⟨r1,r2,?_⟩;have z1:(zg1 s.heap k a).objs.size=s.heap.objs.size+1:=Lz ..;have z2:(zg2 s.heap k l a c).objs.size=s.heap.objs.size+2:=by rw [Lz,z1]
 have z3:(zg3 s.heap k l a c).objs.size=s.heap.objs.size+3:=by rw [Lz,z2]
 have z4:(zg4 s.heap k l a c).objs.size=s.heap.objs.size+4:=by rw [Lz,z3]
 have m4:∀b o,(zg4 s.heap k l a c).get? b=some o->(zg5 s.heap k l a c).get? b=some o:=λb o e=>d_ _ e;have m3:∀b o,(zg3 s.heap k l a c).get? b=some o->(zg5 s.heap k l a c).get? b=some o:=λb o e=>m4 b o (d_ _ e);have m2:∀b o,(zg2 s.heap k l a c).get? b=some o->(zg5 s.heap k l a c).get? b=some o:=λb o e=>m3 b o (d_ _ e);have m1:∀b o,(zg1 s.heap k a).get? b=some o->(zg5 s.heap k l a c).get? b=some o:=λb o e=>m2 b o (d_ _ e)
 have g5:(zg5 s.heap k l a c).get? (zg4 s.heap k l a c).objs.size=some _:=g_ _ rfl;have g4:=m4 _ _ (g_ (zg3 s.heap k l a c) (o:={ cls:=.type "tuple",data:=.seq #[.none,.none] }) rfl);have g3:=m3 _ _ (g_ (zg2 s.heap k l a c) (o:={ cls:=.type "tuple",data:=.seq #[.ref s.heap.objs.size,.ref (zg1 s.heap k a).objs.size] }) rfl);have g2:=m2 _ _ (g_ (zg1 s.heap k a) (o:=mf l c) rfl)
 have g1:=m1 _ _ (g_ s.heap (o:=mf k a) rfl);show _/\_;rw [z2,z3,z4] at g5;rw [z1,z2] at g3;rw [z3] at g4;rw [z1] at g2;rw [z4];exact⟨⟨_,g5,rfl⟩,h _ g5 g3 g4 ⟨_,g1,rfl,rfl⟩ ⟨_,g2,rfl,rfl⟩ λb o e=>m1 b o (d_ _ e)⟩
end
noncomputable def stA(a b:List Nat)(i:Nat):Bool:=decide (i+b.length<=a.length/\(a.drop i).take b.length=b)
noncomputable def fnd(a b:List Nat)(lo:Nat):Int:=match (Nw lo (a.length+1 - lo)).find? (stA a b) with|some k=>(k:Int)|none=>-1
theorem sO(s sub:Str)(hi:Nat):∀(l:List Nat) (st:Array Nat×Nat),st.fst.size=1->(forIn l st (NX s sub hi 1)).run.fst=st.fst
 | [],_,_=>rfl
 | x::l,st,h=>by
  rw [forIn_cons];unfold NX;rw [if_neg (λz=>by have:=z.1.1.1;omega)];exact sO s sub hi l (st.fst,st.snd) h
theorem sP(s sub:Str)(hi:Nat)(p:Nat->Bool)(hp:∀i,p i=true ↔ (i+sub.length<=hi/\NF s sub i=true)):∀(l:List Nat) (free:Nat),(∀i∈l,free<=i) ->
  (forIn l ((#[]:Array Nat),free) (NX s sub hi 1)).run.fst=(match l.find? p with|some k=>#[k]|none=>#[])
 | [],_,_=>rfl
 | x::l,free,hf=>by
  rw [forIn_cons,find?_cons];unfold NX;have hx:free<=x:=hf x (mem_cons_self ..)
  cases c:p x with
  | true =>
   have hc:=(hp x).mp c;rw [if_pos ⟨⟨⟨by simp,hx⟩,hc.1⟩,hc.2⟩];exact sO s sub hi l (#[x],x+sub.length) rfl
  | false =>
   rw [if_neg (λz=>by
    have:=(hp x).mpr ⟨z.1.2,z.2⟩;rw [c] at this;cases this)]
   exact sP s sub hi p hp l free λi h=>hf i (m_ _ h)
def Ec(a b:List Nat)(i:Nat):NF (S a) (S b) i=decide ((a.drop i).take b.length=b):=by
 unfold NF;rw [fc]
 have e1:((S a).cps.extract i (i+b.length))=((a.drop i).take b.length).toArray:=by
  show a.toArray.extract _ _=_;rw [extract_toArray,extract_eq_take_drop];congr 2;omega
 rw [e1];show (((a.drop i).take b.length).toArray == b.toArray)=_
 by_cases h:(a.drop i).take b.length=b
 .rw [decide_eq_true h,h];simp
 .rw [decide_eq_false h,beq_eq_false_iff_ne];intro z;exact h (by simpa using congrArg OB z)
theorem zD(a b:List Nat)(lo:Nat):(match Nx (S a) (S b) lo (S a).length 1 with|k::_=>(k:Int)|[]=>-1)=fnd a b lo:=by
 rw [StrLaws.occ_eq,fc,sP (S a) (S b) a.length (stA a b) (λi=>?_) _ lo (λi hi=>(N4.mp hi).1)]
 .unfold fnd;cases (Nw lo (a.length+1 - lo)).find? (stA a b) <;> rfl
 .unfold stA;rw [Ec,fc];simp
def BN:MtR X "str.find" (λx xs H Q=>∃a b,x=.str (S a)/\xs=[.str (S b)]/\Q (.int (fnd a b 0)) H):=by
 intro pins s σ H x xs v us Q I rx rs h;obtain⟨a,b,rfl,rfl,q⟩:=h;obtain⟨t,rfl⟩:=rx;obtain⟨u,rfl,t',rfl⟩:=fJ rs;have e:Txt.find (S a) (S b)=fnd a b 0:=zD a b 0;exact SC.find ⟨.int _,H,I.tok _,⟨_,rfl⟩,by rw [e];exact q⟩
def mK{a b:List Nat}{lo:Nat}(h:fnd a b lo≠-1):∃k:Nat,fnd a b lo=(k:Int)/\lo<=k/\stA a b k=true/\∀j,lo<=j->j<k->stA a b j=false:=by
 unfold fnd at h ⊢
 cases e:(Nw lo (a.length+1 - lo)).find? (stA a b) with
 | none=>rw [e] at h;exact absurd rfl h
 | some k =>
  obtain⟨h1,h2⟩:=find?_eq_some_iff_append.mp e;obtain⟨as,bs,hl,hn⟩:=h2;have hk:k∈Nw lo (a.length+1 - lo):=by rw [hl];simp
  refine⟨k,rfl,(N4.mp hk).1,h1,λj hj1 hj2=>?_⟩;have hj:j∈Nw lo (a.length+1 - lo):=N4.mpr ⟨hj1,by have:=(N4.mp hk).2;omega⟩;have hs:(Nw lo (a.length+1 - lo)).Pairwise (·<·):=List.pairwise_lt_range';rw [hl] at hj hs
  rcases MA.mp hj with z|z
  .have:=hn j z;simpa using this
  .rcases A_.mp z with z|z
   .omega
   .have:=(Nn.mp (pairwise_append.mp hs).2.1).1 j z;omega
def BO{a b:List Nat}{lo:Nat}(h:fnd a b lo=-1):∀j,lo<=j->stA a b j=false:=by
 unfold fnd at h
 cases e:(Nw lo (a.length+1 - lo)).find? (stA a b) with
 | some k=>rw [e] at h;simp only at h;omega
 | none =>
  intro j hj
  by_cases hlt:j<a.length+1
  .have:=find?_eq_none.mp e j (N4.mpr ⟨hj,by omega⟩);simpa using this
  .unfold stA;rw [decide_eq_false (λz=>by have:=z.1;omega)]
noncomputable def Itk(k:Bool)(K:b_)(a:Addr):It:=cond k (Itt K a) (Itl K a)
noncomputable def GU(K:b_):R2:=λx y H Q=>∃l b xs zs,x=.ref l/\y=.ref b/\SqL K H l xs/\SqL K H b zs/\xs.length+zs.length<=sizeLine/\∀p,H p=none->Q (.ref p) (upd H p (.lst (xs++zs)))
def Ed:OpR X (binaryOp .Add) (GU X.K):=by
 intro pins s σ H x y v u Q I rx ry h;obtain⟨l,b,xs,zs,rfl,rfl,hH,hB,hz,q⟩:=h;cases rx;cases ry;obtain⟨its,r,pl,hl⟩:=I.list hH;obtain⟨its2,r2,pl2,hl2⟩:=I.list hB;obtain⟨⟨cls,dd,data,sl⟩,ho,hc,n,hd⟩:=pl.isList;obtain⟨⟨cls2,dd2,data2,sl2⟩,ho2,hc2,n2,hd2⟩:=pl2.isList;simp only at hc hd hc2 hd2;subst hc hd hc2 hd2;have n1:=r.length;have n2':=r2.length;have ea:its.toArray++its2.toArray=(its++its2).toArray:=by simp
 have fin:EP X pins σ Q (.ref s.heap.objs.size) { s with heap:=s.heap.push { cls:=.type "list",data:=.seq (its.toArray++its2.toArray) } }:=by
  rw [ea];exact⟨.ref _,_,I.lnew (t':=s.toks) (r.append r2) (by rw [length_append];omega),rfl,q _ I.fresh⟩
 exact OG ⟨_,ho,rfl⟩ ⟨_,ho2,rfl⟩ noFill_list_add seq_list_add PySem.F.slot_list_add PySem.F.entry_list_add (PySem.F.args_list_add_2 _ _) (list_addW l b its.toArray its2.toArray n n2 dd dd2 sl sl2 (by simp;omega)) ⟨ho,ho2,fin⟩
def tx(l:List Nat):V:=.str (S l)
noncomputable def p8(n:Nat)(d:Nr):Prop:=d.canLay0=true/\d.depth<=n
def p8.shaped{d:Nr}(h:p8 n d)(hn:n<=64):L_ d=true:=by
 unfold L_;rw [h.1,decide_eq_true (s_ h.2 hn)];rfl
theorem uX:∀{ds:List Nr},(∀d∈ds,p8 n d)->PyData.canLayAll0 ds=true/\PyData.depthAll ds<=n
 | [],_=>⟨rfl,LY _⟩
 | d::ds,h=>by
  obtain⟨a,b⟩:=uX (ds:=ds) λx hx=>h x (m_ _ hx);obtain⟨c,e⟩:=h d mem_cons_self;simp only [PyData.canLayAll0,PyData.depthAll,a,c];exact⟨rfl,max_le.mpr ⟨e,b⟩⟩
def p8.list{ds:List Nr}(h:∀d∈ds,p8 n d):p8 (n+1) (.list ds):=by
 obtain⟨a,b⟩:=uX h;exact⟨by simp only [Oe];exact a,by simp only [OM];omega⟩
def p8.tuple{ds:List Nr}(h:∀d∈ds,p8 n d):p8 (n+1) (.tuple ds):=by
 obtain⟨a,b⟩:=uX h;exact⟨by simp only [Oe];exact a,by simp only [OM];omega⟩
def p8.int(i:Int):p8 0 (.int i):=⟨by simp [Oe],by simp [OM]⟩
noncomputable def Lts(l:List Nat):Prop:=∀c∈l,97<=c/\c<=122
def Lts.nil:Lts []:=λc h=>nomatch h
def Lts.app{a b:List Nat}(x:Lts a)(y:Lts b):Lts (a++b):=λc h=>(MA.mp h).elim (x c) (y c)
def Lts.one{c:Nat}(h:97<=c/\c<=122):Lts [c]:=λd hd=>by
 have:d=c:=by simpa using hd
 subst this;exact h
def Lts.take{a:List Nat}(x:Lts a)(n:Nat):Lts (a.take n):=λc h=>x c (mem_of_mem_take h)
def Lts.drop{a:List Nat}(x:Lts a)(n:Nat):Lts (a.drop n):=λc h=>x c (mem_of_mem_drop h)
def Lts.cut{a:List Nat}(x:Lts a)(lo hi:Option Int):Lts (eA a lo hi):=(x.drop _).take _
def Lts.rep{a:List Nat}(x:Lts a)(n:Int):Lts (wS a n):=λc h=>by
 unfold wS at h;obtain⟨l,h1,h2⟩:=mem_flatten.mp h;rw [eq_of_mem_replicate h1] at h2;exact x c h2
def p8.str(h:Lts l):p8 0 (.str (S l)):=by
 refine⟨?_,by simp [OM]⟩;simp only [Oe,PyData.strOk,S];rw [Array.all_eq_true];intro i hi;have:=h l[i] (Ml _);simp only [getElem_toArray,decide_eq_true_eq];omega
def sQ(ns:List Int):∀d∈ns.map OL,p8 0 d:=λd hd=>by
 obtain⟨i,_,rfl⟩:=LJ.mp hd;exact p8.int i
variable {ws:List (List Nat)}
def x0(h:∀w∈ws,Lts w):∀d∈ws.map (λw=>PyData.str (S w)),p8 0 d:=λd hd=>by
 obtain⟨i,hi,rfl⟩:=LJ.mp hd;exact p8.str (h i hi)
def sR(h:∀w∈ws,Lts w):L_ (.list (ws.map λw=>PyData.str (S w)))=true:=(p8.list (x0 h)).shaped (by decide)
def BP{d:Nr}(h:L_ d=true):M_ d d=true:=SeqAt.eqv_refl d (SeqAt.canLay_of_shaped h)
theorem nA(p:Nat->Prop)(h0:p 0):∀n,0<n->∃k,k<n/\p k/\∀j,j<n->p j->j<=k
 | 0,h=>absurd h (by decide)
 | 1,_=>⟨0,by decide,h0,λj hj _=>by omega⟩
 | n+2,_=>by
  obtain⟨k,h1,h2,h3⟩:=nA p h0 (n+1) (by omega)
  by_cases c:p (n+1)
  .exact⟨n+1,by omega,c,λj hj _=>by omega⟩
  .refine⟨k,by omega,h2,λj hj hp=>?_⟩
   by_cases e:j=n+1
   .subst e;exact absurd hp c
   .exact h3 j (by omega) hp
variable {κ:Type} [DecidableEq κ]
def KV.length{kvs:List (κ×V)}{vs:List (κ×Value)}(r:KV kvs vs):kvs.length=vs.length:=Paired.length r
section
variable {P:t_}
def Jm{u:HO}(ok:HOk P w H h)(e:Rd H a u):cm P w H h a u:=e.ok ok
def Jn{kvs:List (Key×V)}(ok:HOk P w H h)(e:Rd H a (.dK kvs)):kvs.length<=sizeLine/\(a == sysModules)=false/\∃vs,KV kvs vs/\h.DictOf (qE P w) a vs :=
 show cm P w H h a (.dK kvs) from Jm ok e
end
variable {kvs:List (Key×V)}{Q:Value->c_->Prop}
def Jo(I:Inv X pins σ H s)(e:Rd H a (.dK kvs))(h:∀t s',Inv X pins σ H s'->Q (.int kvs.length t) s'):wpAny (model X.prog X.w) A (call (.builtin "len") [.ref a]) Q E s:=by
 obtain⟨z,hd,vs,rel,dd⟩:=Jn I.hok e;refine call_len_dict hd dd (by rw [<- rel.length];rw [Md] at z;omega) ?_;rw [<- rel.length];exact h _ _ (I.tok _)
def qP{i:Int}(hg:Gl X x)(h:∃t,X.mg x=some (.int i t))(hd:(x == ("__debug__":Str))=false:=by decide):PE X (.Name x pos) (tC (.int i)):=by
 obtain⟨t,e⟩:=h;exact DI (u:=.int i t) hg e ⟨t,rfl⟩ hd
structure GV (P:t_) (w:World) (K:b_) (mg:Str->Option Value) (base:Heap) (k:Nat) (x:Str) (ps:List Str) (dvs:List V) (sp:Sp):Prop where
 ex:∃(f:Addr) (fd:L7),qH P w K mg base CX0 k f fd ps sp/\(∀n,n<=dvs.length->∃ds,bK (dvs.drop n) ds/\me K fd ps ds)/\D_ K (.ref f)=true/\mg x=some (.ref f)
structure wW (K:b_) (mg:Str->Option Value) (x:Str) (st:Stmt) (dvs:List V):Prop where
 ex:∃(f dT:Addr) (oc:Value) (od an dd:Option Addr) (kV doc pm cdv ct:Value) (osl sl:Array (Option Value)) (items:List Value) (n:Nat),
  K.lookup f=some ⟨oc,od,.func (F_ x x (bV st) (bn st) (ah st) (.ref dT) kV doc pm an cdv ct),osl⟩/\LN K cdv x=true/\D_ K (.ref f)=true/\mg x=some (.ref f) /\
  K.lookup dT=some ⟨.type "tuple",dd,.seq items.toArray n,sl⟩/\bK dvs items
section
variable {P:t_}{base:Heap}{k:Nat}{dvs:List V}
def wW.ok(D:wW K mg x st dvs)(S:aw N ps (ah st))(hb:∀(dT:Addr) (kV doc pm:Value) (an:Option Addr) (cdv ct:Value) (items:List Value) (us:List Value) (n:Nat),items.length=dvs.length->n<=dvs.length->(us++items.drop n).length=ps.length ->
   ∃k,bindArgs (F_ x x (bV st) (bn st) (ah st) (.ref dT) kV doc pm an cdv ct) ⟨us,[]⟩=seqItems? (.ref dT) >>= k/\k (some items.toArray)=pure (ps.zip (us++items.drop n)))(len:∀vs H Q E,sp vs H Q E->vs.length=ps.length)(hbody:∀(f:Addr) (cdv:Value) (A:C0) (outer:List Env) (s:c_) (H:Hp) (vs:List V) (Q:VK) (E:XK),fR k (A.deeper (envOfC x (ah st) s.heap.objs.size f cdv))->sp vs H Q E ->
   ∃t,PSs (wO CX0 P w K mg base N x (ah st) f cdv A outer s H E).nox (bn st) t/\t { nx:=λ_ H'=>Q .non H',rt:=Q } (start N vs) H):GV P w K mg base (k+1) x ps dvs sp:=by
 obtain⟨f,dT,oc,od,an,dd,kV,doc,pm,cdv,ct,osl,sl,items,n,lk,hcd,kp,hm,lt,rv⟩:=D.ex;have hl:=rv.length
 refine⟨f,_,Gs lk hcd S len λA outer s H vs Q E hr hsp=>?_,λj hj=>⟨items.drop j,rv.drop j,λs us X hlen=>?_⟩,kp,hm⟩
 .obtain⟨t,h,q⟩:=hbody f cdv A outer s H vs Q E hr hsp;exact⟨t,h.nox,q⟩
 .obtain⟨k,h1,h2⟩:=hb dT kV doc pm an cdv ct items us j hl.symm hj hlen;exact BindsTo.of_defaults rfl (X dT _ lt) rfl h1 h2
end
section
variable {k:Nat}{t:TA}{dvs:List V}
def Ee(j:Nat)(C:GV X.prog X.w X.K X.mg X.base k x ps dvs sp)(hr:fR k X.A)(hj:j<=dvs.length)(ha:PA X (e::es) t)(hg:Gl X x:=by rfl)(hdb:(x == ("__debug__":Str))=false:=by decide)(he:starEach (e::es) X.env=(false,eval e X.env)::starEach es X.env:=by rfl)(hpl:(backTo pos (starEach es X.env)).any (·.1)=false:=by rfl):PE X (.Call (.Name x p) (e::es) [] pos) (cq sp (dvs.drop j) E0 t):=by
 obtain⟨f,fd,F,hb,hk,hm⟩:=C.ex;obtain⟨ds,rv,hb⟩:=hb j hj;exact zb F hr hg hm hk hb rv BF ha hdb he hpl
def GW{x:V}{t:Value}(I:Inv X pins σ H s)(rx:c9 x u)(ty:sj X.K H x t):
  ∃Hq:Heap->Prop,PySem.W.KitX X.K u t Hq/\Hq s.heap/\u≠.builtin "__main__.__loader__#opaque":=by
 cases ty with
 | non=>cases (show u=L6 from rx);exact⟨_,PySem.W.kitx_none,MB,λz=>nomatch z⟩
 | bl y=>cases (show u=Mo y from rx);exact⟨_,PySem.W.kitx_bool,MB,λz=>nomatch z⟩
 | int i=>obtain⟨t,q⟩:=(show ∃t,u=NL i t from rx);cases q;exact⟨_,PySem.W.kitx_int,MB,λz=>nomatch z⟩
 | str y=>obtain⟨t,q⟩:=(show ∃t,u=N8 y t from rx);cases q;exact⟨_,PySem.W.kitx_str,MB,λz=>nomatch z⟩
 | flt y=>obtain⟨t,q⟩:=(show ∃t,u=OY y t from rx);cases q;exact⟨_,PySem.W.kitx_float,MB,λz=>nomatch z⟩
 | @lst a xs ea =>
  cases (show u=l_ a from rx);obtain⟨_,_,n,_,h1⟩:=(show cm X.prog X.w H s.heap a (.lst xs) from I.hok a _ ea)
  exact⟨_,NC,⟨_,h1,rfl⟩,λz=>nomatch z⟩
 | @frz a ob xs ea =>
  cases (show u=l_ a from rx);obtain⟨_,_,_,n,_,h1⟩:=(show cm X.prog X.w H s.heap a (.frz ob (.lst xs)) from I.hok a _ ea)
  exact⟨_,NC,⟨_,h1,rfl⟩,λz=>nomatch z⟩
 | @tup a xs ea =>
  cases (show u=l_ a from rx);obtain⟨_,_,_,p⟩:=(show cm X.prog X.w H s.heap a (.tup xs) from I.hok a _ ea)
  obtain⟨o,h1,h2,_⟩:=p;exact⟨_,PySem.W.kitx_tuple,⟨o,h1,h2⟩,λz=>nomatch z⟩
 | @dK a kvs ea =>
  cases (show u=l_ a from rx);obtain⟨_,_,vs,_,p⟩:=(show cm X.prog X.w H s.heap a (.dK kvs) from I.hok a _ ea)
  obtain⟨o,es,ep,h1,h2,_⟩:=p;exact⟨_,ND,⟨o,h1,h2.1⟩,λz=>nomatch z⟩
 | @dT a kvs ea =>
  cases (show u=l_ a from rx);obtain⟨_,_,xs,_,o,es,ep,h1,h2,_⟩:=(show cm X.prog X.w H s.heap a (.dT kvs) from I.hok a _ ea)
  exact⟨_,ND,⟨o,h1,h2.1⟩,λz=>nomatch z⟩
 | @ins a C dx fs ea cl ha hn htk hm =>
  cases (show u=l_ a from rx);obtain⟨mA,O,_⟩:=m8 I.hok ea;obtain⟨od,J,_⟩:=O.look;exact⟨_,PySem.W.kitx_own (cl.get _) cl.hd ha hn htk hm,J,λz=>nomatch z⟩
theorem wX:∀{ts:List String}{us:List Value},bK (ts.map V.ty) us->us=ts.map Mz
 | [],_,.nil=>rfl
 | t::ts,_,.cons r rr=>by rw [wX rr,show _=Mz t from r];rfl
def sS:bJ X (.builtin "isinstance") (λxs H Q=>∃(x:V) (p:Addr) (ts:List String) (t:Value) (b:Bool),xs=[x,.ref p]/\sj X.K H x t/\H p=some (.tup (ts.map V.ty))/\NH X.K t (ts.map Mz)=some b/\Q (.bl b) H):=by
 intro pins s σ H xs us Q I r h;obtain⟨x,p,ts,t,b,rfl,ty,hp,e,q⟩:=h;obtain⟨u,w',rfl,rx,ry⟩:=Bs r;cases (show w'=l_ p from ry);obtain⟨Hq,Z,hq,hx⟩:=GW I rx ty;obtain⟨its,rv,⟨⟨cls,dd,data,sl⟩,ho,hc,n,hd⟩,_⟩:=I.tuple (SqT.of hp);simp only at hc hd;subst hc hd;exact PySem.W.kia_tup Z I.kIn hq ho (by rw [wX rv];exact e) hx λtk=>⟨.bl b,H,I.tok _,rfl,q⟩
def qQ(bs:List Bool):(e_ bs.length).all (λi=>bs.getD i false)=bs.all id:=by
 induction bs with
 | nil=>rfl
 | cons b bs ih=>rw [length_cons,range_succ_eq_map,all_cons,all_map,all_cons,<- ih];rfl
def qR(bs:List Bool):(e_ bs.length).any (λi=>bs.getD i false)=bs.any id:=by
 induction bs with
 | nil=>rfl
 | cons b bs ih=>rw [length_cons,range_succ_eq_map,any_cons,any_map,any_cons,<- ih];rfl
variable {its:List Value}
def zE{bs:List Bool}(r:bK (bs.map V.bl) its){v:Value}(h:its.toArray[i]?=some v):v=.bool (bs.getD i false):=by
 have h':its[i]?=some v:=by simpa using h
 have hl:=r.length;rw [length_map] at hl;have hi:i<bs.length:=by have:=(i_.mp h').1;omega
 obtain⟨u,e1,e2⟩:=r.get (i:=i) (x:=V.bl bs[i]) (by rw [h_,cx hi];rfl);rw [h'] at e1;cases e1;rw [show v=Mo bs[i] from e2,cy,cx hi];rfl
def BQ(hc:X.calm=true):bJ X (.builtin "all") (λxs H Q=>∃(p:Addr) (bs:List Bool),xs=[.ref p]/\SqL X.K H p (bs.map V.bl)/\Q (.bl (bs.all id)) H):=by
 intro pins s σ H xs us Q I r h;obtain⟨p,bs,rfl,hS,q⟩:=h;obtain⟨u,rfl,ru⟩:=fJ r;cases (show u=l_ p from ru);obtain⟨its,rv,pl,hz⟩:=I.list hS;have hl:=rv.length;rw [length_map] at hl;have hps:p<s.heap.objs.size:=let ⟨o,ho,_⟩:=pl.isList;n_ ho
 obtain⟨f0,f1,f2,f3,f4,f5⟩:=I.fpOk (H':=H) (gV s.heap.objs.size) (I.hok.fresh (gV _))
 refine call_all_walk (MK pl.isList ⟨s.heap.objs.size,_,_,its.toArray.size,_,_,λi=>bs.getD i false,rfl,Walks.list (by exact I.ok.hd hc) s.heap.objs.size p (H_ hps) its.toArray,⟨⟨_,g_ _ rfl,rfl,rfl⟩,pl.isList.push _⟩,λi v s Q E hP hQ=>?_,λh' tk hk=>?_⟩)
 .rw [zE rv hP];exact J_ hQ
 .have I1:Inv X pins σ H { s with heap:=s.heap.push { cls:=.type "list_iterator",data:=.fields #[.ref p,.int 0 0] } }:=I.kept (t':=s.toks) λb o e=>d_ _ e;have I2:=I1.turned (h':=h') (t':=tk) (it:=s.heap.objs.size) (λb o hb e=>hk b o (by simpa using hb) e) f0 f1 f3 f4 f5;refine⟨.bl (bs.all id),H,I2,?_,q⟩;show Mo _=Mo _;rw [size_toArray,<- hl,qQ]
def BR(hc:X.calm=true):bJ X (.builtin "any") (λxs H Q=>∃(p:Addr) (bs:List Bool),xs=[.ref p]/\SqL X.K H p (bs.map V.bl)/\Q (.bl (bs.any id)) H):=by
 intro pins s σ H xs us Q I r h;obtain⟨p,bs,rfl,hS,q⟩:=h;obtain⟨u,rfl,ru⟩:=fJ r;cases (show u=l_ p from ru);obtain⟨its,rv,pl,hz⟩:=I.list hS;have hl:=rv.length;rw [length_map] at hl;have hps:p<s.heap.objs.size:=let ⟨o,ho,_⟩:=pl.isList;n_ ho
 obtain⟨f0,f1,f2,f3,f4,f5⟩:=I.fpOk (H':=H) (gV s.heap.objs.size) (I.hok.fresh (gV _))
 refine call_any_walk (MK pl.isList ⟨s.heap.objs.size,_,_,its.toArray.size,_,_,λi=>bs.getD i false,rfl,Walks.list (by exact I.ok.hd hc) s.heap.objs.size p (H_ hps) its.toArray,⟨⟨_,g_ _ rfl,rfl,rfl⟩,pl.isList.push _⟩,λi v s Q E hP hQ=>?_,λh' tk hk=>?_⟩)
 .rw [zE rv hP];exact J_ hQ
 .have I1:Inv X pins σ H { s with heap:=s.heap.push { cls:=.type "list_iterator",data:=.fields #[.ref p,.int 0 0] } }:=I.kept (t':=s.toks) λb o e=>d_ _ e;have I2:=I1.turned (h':=h') (t':=tk) (it:=s.heap.objs.size) (λb o hb e=>hk b o (by simpa using hb) e) f0 f1 f3 f4 f5;refine⟨.bl (bs.any id),H,I2,?_,q⟩;show Mo _=Mo _;rw [size_toArray,<- hl,qR]
end
section
def zF:bJ X (.builtin "len") (λxs H Q=>∃p kvs,xs=[.ref p]/\Rd H p (.dK kvs)/\Q (.int kvs.length) H):=by
 intro pins s σ H xs us Q I r h;obtain⟨p,kvs,rfl,hd,q⟩:=h;obtain⟨u,rfl,ru⟩:=fJ r;cases (show u=l_ p from ru);exact Jo I hd λt s' I'=>⟨.int kvs.length,H,I',⟨t,rfl⟩,q⟩
end
noncomputable def bQ(K:b_)(x:Str):Addr:=match we K mainGlobals x with
 | some (some (.ref C))=>C
 | _=>0
variable {C:Addr}
def BS(h:we K mainGlobals x=some (some (.ref C))):bQ K x=C:=by unfold bQ;rw [h]
structure IJ (P:t_) (w:World) (K:b_) (mg:Str->Option Value) (base:Heap) (k:Nat) (C:Addr) (m:Str) (ps:List Str) (sp:Sp):Prop where
 ex:∃(f:Addr) (fd:L7),qH P w K mg base CX0 k f fd ps sp/\me K fd ps []/\IG K C m f
structure GX (P:t_) (w:World) (K:b_) (mg:Str->Option Value) (base:Heap) (k:Nat) (C:Addr) (x:Str) (ps:List Str) (sp:Sp):Prop where
 ex:∃(f:Addr) (fd:L7),qH P w K mg base CX0 k f fd ps sp/\me K fd ps []/\Mk K C f/\mg x=some (.ref C)
structure wY (K:b_) (C:Addr) (m qual:Str) (st:Stmt):Prop where
 ex:∃(f:Addr) (fd:L7),Fun K m qual st f fd/\IG K C m f
structure wZ (K:b_) (mg:Str->Option Value) (C:Addr) (x qual:Str) (st:Stmt):Prop where
 ex:∃(f:Addr) (fd:L7),Fun K "__init__" qual st f fd/\Mk K C f/\mg x=some (.ref C)
section
variable {P:t_}{base:Heap}{m:Str}{k:Nat}
def wY.ok(D:wY K C m qual st)(S:aw N ps (ah st))(hb:∀(kV doc pm:Value) (an:Option Addr) (cdv ct:Value) (us:List Value),us.length=ps.length->bindArgs (F_ m qual (bV st) (bn st) (ah st) .none kV doc pm an cdv ct) ⟨us,[]⟩=pure (ps.zip us))(len:∀vs H Q E,sp vs H Q E->vs.length=ps.length)(hbody:∀(f:Addr) (cdv:Value) (A:C0) (outer:List Env) (s:c_) (H:Hp) (vs:List V) (Q:VK) (E:XK),fR k (A.deeper (envOfC qual (ah st) s.heap.objs.size f cdv))->sp vs H Q E ->
   ∃t,PSs (wO CX0 P w K mg base N qual (ah st) f cdv A outer s H E).nox (bn st) t/\t { nx:=λ_ H'=>Q .non H',rt:=Q } (start N vs) H):IJ P w K mg base (k+1) C m ps sp:=by
 obtain⟨f,fd,F,hm⟩:=D.ex;exact⟨f,fd,F.ok S len λcdv A outer s H vs Q E hr h=>hbody f cdv A outer s H vs Q E hr h,F.binds hb,hm⟩
def wZ.ok(D:wZ K mg C x qual st)(S:aw N ps (ah st))(hb:∀(kV doc pm:Value) (an:Option Addr) (cdv ct:Value) (us:List Value),us.length=ps.length->bindArgs (F_ "__init__" qual (bV st) (bn st) (ah st) .none kV doc pm an cdv ct) ⟨us,[]⟩=pure (ps.zip us))(len:∀vs H Q E,sp vs H Q E->vs.length=ps.length)(hbody:∀(f:Addr) (cdv:Value) (A:C0) (outer:List Env) (s:c_) (H:Hp) (vs:List V) (Q:VK) (E:XK),fR k (A.deeper (envOfC qual (ah st) s.heap.objs.size f cdv))->sp vs H Q E ->
   ∃t,PSs (wO CX0 P w K mg base N qual (ah st) f cdv A outer s H E).nox (bn st) t/\t { nx:=λ_ H'=>Q .non H',rt:=Q } (start N vs) H):GX P w K mg base (k+1) C x ps sp:=by
 obtain⟨f,fd,F,hm,e⟩:=D.ex;exact⟨f,fd,F.ok S len λcdv A outer s H vs Q E hr h=>hbody f cdv A outer s H vs Q E hr h,F.binds hb,hm,e⟩
end
section
variable {k:Nat}{t:TA}
def Ef(M:GX X.prog X.w X.K X.mg X.base k C x ps sp)(hr:fR (k+1) X.A)(ha:PA X (e::es) t)(hg:Gl X x:=by rfl)(hdb:(x == ("__debug__":Str))=false:=by decide)(he:starEach (e::es) X.env=(false,eval e X.env)::starEach es X.env:=by rfl)(hpl:(backTo pos (starEach es X.env)).any (·.1)=false:=by rfl):PE X (.Call (.Name x p) (e::es) [] pos) (Bw C sp [] E0 t):=by
 obtain⟨f,fd,F,hb,hk,hm⟩:=M.ex;exact DW hk F hr hg hm hb .nil BF ha hdb he hpl
variable {m:Str}{apos:Pos}{o:Expr}{ta:TE}
def mL{pl:Sem Bool}(he:PE X o ta)(c:Cls X.K C)(M:IJ X.prog X.w X.K X.mg X.base k C m ps sp)(hr:fR k X.A)(ht:eval (.Call (.Attribute o m apos) [] [] pos) X.env=(do
   let ov <- eval o X.env
   standAt apos.atName
   let (f,first) <- holding [ov] (getMethod ov m pl)
   callWith pos f first (backTo pos (starEach [] X.env)) (backToKw pos (keywordEach [] X.env))):=by rfl):
  PE X (.Call (.Attribute o m apos) [] [] pos) (DU C m sp [] E0 ta bU):=by
 obtain⟨f,fd,F,hb,hm⟩:=M.ex;exact Bx (pl:=pl) he c hm F hr hb .nil BF ht
end
def zG(k:Bool)(hh:A.handled=none)(it a:Addr)(hne:a≠it)(its:Array Value):
  Draws prog w A it [it,a] its.size (λi v=>its[i]?=some v) (λi h=>cF k h it a i/\fL k h a its) where
 live:=λ_ _ st=>let ⟨o,ho,_⟩:=st.1;⟨o,ho⟩
 frame:=λ_ _ _ st hk=>⟨st.1.mv λo e=>hk it (by simp) o e,st.2.mv λo e=>hk a (by simp) o e⟩
 item:=λi s Q E hi st hQ=>by
  refine fo st.1 st.2 (x:=its[i]) (by simp [hi]) λh' hit' hs'=>?_;exact hQ _ h' s.toks (by simp [hi]) ⟨hit',st.2.mv λo e=>hs'.extBut _ o hne e⟩ hs'
 done:=λs Q E st hE=>gA hh st.1 st.2 (by simp) hE
noncomputable def Ite(k:Bool)(K:b_)(a:Addr):It :=
  ⟨λi H=>∃xs x,Sq k K H a xs/\xs[i]?=some x,
   λi H p H'=>∃T x,H T=none/\p=.ref T/\(∀xs,Sq k K H a xs->xs[i]?=some x)/\H'=upd H T (.tup [.int (i:Int),x]),
   λi H=>∃xs,Sq k K H a xs/\xs.length<=i⟩
def zH{P:t_}{ct:Nat}{tp:Pos}{e it:Addr}(hei:e≠it):
  DK P w K (.Tuple es ct tp) (Ite k K a) [e,it] e (λn h=>(∃old,IsEnum h e it ((n:Nat):Int) old)/\cF k h it a n) where
 mem:=by simp
 obj:=λn h st b hb=>by
  obtain⟨⟨old,he⟩,o1,g1,c1,d1⟩:=st;simp only [A_,not_mem_nil,or_false] at hb
  rcases hb with rfl|rfl
  .exact⟨_,he,λv q=>by cases q⟩
  .exact⟨_,g1,λv q=>by rw [d1] at q;cases q⟩
 keep:=λn h h' st kk=>by
  obtain⟨⟨old,he⟩,w1⟩:=st;exact⟨⟨old,kk e (by simp) _ he⟩,w1.mv λo q=>kk it (by simp) o q⟩
 item:=by
  intro X hP hw hK hc n pins s σ H E I hf st hg;subst hP hw hK;obtain⟨xs,x,q1,hx⟩:=hg;obtain⟨⟨old,he⟩,w1⟩:=st;obtain⟨its,rv,p,_⟩:=I.row q1;obtain⟨ux,hux,rx⟩:=rv.get hx;have ne:=I.row_ne q1 (hf e (by simp));have ni:=I.row_ne q1 (hf it (by simp))
  have hlt:n<its.toArray.size:=by
   have:=(i_.mp hux).1;simpa using this
  have hhd:X.A.in1.handled=none:=by exact I.ok.hd hc
  refine wpAny_pyNext_enum_itemD (zG k hhd it a ni its.toArray) he ⟨w1,p⟩ hlt hei (by simp [hei,MW ne]) λy h' tk hP ho hst ht hsz hk=>?_
  have hy:y=ux:=by
   have h1:its[n]?=some y:=by simpa using hP
   rw [hux] at h1;exact (q_ h1).symm
  subst hy;refine⟨_,rfl,wpAny_letOwnedTupleGo_enum ho λg ge gs=>?_⟩;have lt:∀{b o},s.heap.get? b=some o->s.heap.objs.size≠b:=λq=>Oa (n_ q)
  have kp:∀b o,b∉[e,it]->s.heap.get? b=some o->g.get? b=some o:=λb o hb q=>by
   simp only [A_,not_mem_nil,or_false,not_or] at hb;exact gs.extBut _ _ hb.1 (hk b o hb.1 hb.2 q)
  have I2:Inv X pins σ (upd H s.heap.objs.size (.tup [.int (n:Int),x])) { s with heap:=g,toks:=tk+1 }:=I.yielded (ch:=[e,it]) (λb hb=>hf b hb) (gV _) kp
   ⟨by show 2<=sizeLine;decide,[.int (n:Int) tk,y],.cons ⟨tk,rfl⟩ (.cons rx .nil),_,gs.extBut _ _ (lt he) ht,rfl,_,rfl⟩
  refine⟨.ref s.heap.objs.size,_,I2,rfl,⟨_,x,I.hok.fresh (gV _),rfl,λxs' q=>by rw [I.row_inj q q1];exact hx,rfl⟩,⟨⟨y,by simpa using ge⟩,hst.1.mv λo q=>gs.extBut _ o (MW hei) q⟩,λb hb=>?_⟩
  rw [aI ?_]
  .exact (hf b hb).1
  .intro q;subst q;simp only [A_,not_mem_nil,or_false] at hb;obtain⟨o1,g1,_⟩:=w1
   rcases hb with q|q
   .exact lt he q
   .exact lt g1 q
 done:=by
  intro X hP hw hK hc n pins s σ H E I hf st hg;subst hP hw hK;obtain⟨xs,q1,hend⟩:=hg;obtain⟨⟨old,he⟩,w1⟩:=st;obtain⟨its,rv,p,_⟩:=I.row q1;have e1:=rv.length;have ni:=I.row_ne q1 (hf it (by simp));have hhd:X.A.in1.handled=none:=by exact I.ok.hd hc
  obtain⟨f0,f1,f2,f3,f4,f5⟩:=hf it (by simp)
  -- the walk's end is wherever the row has no item
  have hT:s.TypeIs (.ref e) "enumerate":=⟨_,he,rfl⟩
  unfold pyNext
  refine cn (wpAny_attempt (LK (name:=Mu "__next__") hT F.slot_enumerate_next
   (L3 F.slot_enumerate_next hT F.entry_enumerate_next ?_ (F.args_enumerate_next_1 _))))
  show wpAny _ _ (field (.ref e) 2 >>= _) _ _ _;refine cn (LP he rfl (x:=.ref it) rfl ?_);refine cn (gA hhd w1 p (by simp;omega) λh' x he' hx'=>?_);obtain⟨o,ho,hcl⟩:=hx';refine cn (wpAny_isInstance (T:="StopIteration") (b:=true) ⟨o,ho,hcl⟩ isSubtype_stop ?_);exact f_ ⟨rfl,I.turned (t':=s.toks) (λb o hb q=>he' b o hb q) f0 f1 f3 f4 f5⟩
 self:=λ_ _ _ _ _ st h=>let ⟨⟨_,he⟩,_⟩:=st;wpAny_pyIter_enum he h
section
def BU(k:Bool)(a:Addr)(xs:Array Value):Meets (NZ.«enumerate.__new__» ⟨[.type "enumerate",.ref a],[]⟩) (λ_ R s=>fL k s.heap a xs /\
   R (.ok (.ret (.ref (s.heap.push (mf k a)).objs.size))) { s with heap:=(s.heap.push (mf k a)).push { cls:=.type "enumerate",data:=.fields #[.none,.bool false,.ref s.heap.objs.size,rawInt 0,.none,.none] } }) :=
 .of_wp λprog w A R s h=>by
  obtain⟨hp,g,d,tk,os⟩:=s;obtain⟨r1,h⟩:=h;have hsub:=sub_enumerate;have R1:fL k (Shared.heap ⟨hp,g,d,tk,os⟩) a xs:=r1;obtain⟨⟨cls,dd,data,sl⟩,ho,hc,n,hd⟩:=id r1;simp only at hc hd;subst hc hd
  wp_walk using MS ho
  refine wpAny_stack_any λst=>f_ ?_
  split
  .rename_i c _ _ _ _ _
   cases (c == Mz "enumerate")
   .wp_walk using MS ho,fU R1
    exact⟨_,rfl,h⟩
   .wp_walk using MS ho,fU R1
    exact⟨_,rfl,h⟩
  .wp_walk using MS ho,fU R1
   exact⟨_,rfl,h⟩
variable {P:t_}
def BV{xs:Array Value}(r1:fL k s.heap a xs)(h:∀h',IsEnum h' (s.heap.objs.size+1) s.heap.objs.size 0 .none->cF k h' s.heap.objs.size a 0->(∀b o,s.heap.get? b=some o->h'.get? b=some o)->Q (.ref (s.heap.objs.size+1)) { s with heap:=h' }):
  wpAny (model P w) A (call (.type "enumerate") [.ref a]) Q E s:=by
 refine callType_new F.called_enumerate (by decide) (F.typeCall_enumerate_1 _) (F.newCall_enumerate_1 _) (λobj=>F.args_object_init_2 obj _) F.entry_enumerate_new (BU k a xs) ⟨r1,?_⟩;have z1:(s.heap.push (mf k a)).objs.size=s.heap.objs.size+1:=Lz ..;have g2:((s.heap.push (mf k a)).push { cls:=.type "enumerate",data:=.fields #[.none,.bool false,.ref s.heap.objs.size,rawInt 0,.none,.none] }).get? (s.heap.push (mf k a)).objs.size=some _:=g_ _ rfl
 have g1:=d_ { cls:=.type "enumerate",data:=.fields #[.none,.bool false,.ref s.heap.objs.size,rawInt 0,.none,.none] } (g_ s.heap (o:=mf k a) rfl);show _/\_;rw [z1] at g2 ⊢;exact⟨⟨_,g2,rfl⟩,h _ g2 ⟨_,g1,rfl,rfl⟩ λb o q=>d_ _ (d_ _ q)⟩
end
noncomputable def Eg(K:b_)(ta:TA):TI:=λσ H R=>ta σ H λvs H1=>∃k a,vs=[.ref a]/\(∃xs,Sq k K H1 a xs)/\R (Ite k K a) H1
variable {ct:Nat}{tp:Pos}
def Eh{a:Expr}(hg:Gl X "enumerate")(hm:X.mg "enumerate"=none)(ha:PA X [a] ta)(hs:starEach [a] X.env=[(false,eval a X.env)]:=by rfl):
  PI X (.Tuple es ct tp) (.Call (.Name "enumerate" p) [a] [] pos) (Eg X.K ta):=by
 intro pins s σ H R I h;refine Call_ (jd I hg hm boot_enumerate (LF (thn (ha pos pins s σ H _ I h) λus s1 ⟨vs,H1,I1,r1,q1⟩=>?_) hs rfl));obtain⟨k,a,e,⟨xs,q1⟩,q⟩:=q1;subst e
 cases r1 with
 | cons r rr =>
  cases rr;cases r;obtain⟨its,rv,p,_⟩:=I1.row q1;refine BV p λh' g1 g2 kk=>wpAny_pyIter_enum g1 ?_;have I2:Inv X pins σ H1 { s1 with heap:=h',toks:=s1.toks }:=I1.kept kk;refine⟨s1.heap.objs.size+1,[s1.heap.objs.size+1,s1.heap.objs.size],_,_,H1,rfl,I2,zH (k:=k) (a:=a) (it:=s1.heap.objs.size) (Oa (OD _)),⟨⟨_,g1⟩,g2⟩,λb hb=>?_,q⟩
  have hle:s1.heap.objs.size<=b:=by
   simp only [A_,not_mem_nil,or_false] at hb
   rcases hb with e|e
   .rw [e];exact N5 _ _
   .rw [e];exact gV _
  exact I1.fpOk hle (I1.hok.fresh hle)
def zI(hc:X.calm=true):bJ X (.builtin "min") (λxs H Q=>∃(p:Addr) (ns:List Int),xs=[.ref p]/\SqL X.K H p (ns.map V.int)/\0<ns.length/\∀m:Int,m∈ns->(∀a∈ns,m<=a)->Q (.int m) H):=by
 intro pins s σ H xs us Q I r h;obtain⟨p,ns,rfl,hS,hne,q⟩:=h;obtain⟨u,rfl,ru⟩:=fJ r;cases (show u=l_ p from ru);obtain⟨its,rv,pl,hz⟩:=I.list hS;have hi:=cZ rv;have hl:=pl.isList;obtain⟨ys,e⟩:=hi.allInts.items;have hns:ns=ys.toList.map (·.1):=by rw [<- hi.numsOf,<- nums_intItems,<- e]
 have hsz:0<ys.size:=by
  have h3:=hne;rw [hns,length_map,y_] at h3;exact h3
 rw [e] at hl;refine min_intList (by exact I.ok.hd hc) hl hsz λv h' tk hv hk=>?_;obtain⟨t,rfl⟩:=intItems_at hv;obtain⟨h1,h2⟩:=argBest_lt (numAt ys) (ys.size - 1)
 refine⟨.int _,H,I.kept (t':=tk) hk,⟨t,rfl⟩,q _ ?_ λa ha=>?_⟩
 .rw [hns,numAt_eq];exact getD_mem (by rw [length_map,y_];omega)
 .rw [hns] at ha;obtain⟨j,hj,rfl⟩:=mem_getD ha;rw [length_map,y_] at hj;rw [<- numAt_eq];exact h2 j (by omega)
theorem p9(ns:List Int):∀k,k<=ns.length->preSum (λi=>ns.getD i 0) k=(ns.take k).sum
 | 0,_=>rfl
 | k+1,h=>by
  rw [preSum,p9 ns k (by omega),take_add_one,cx (by omega),sum_append,cy,cx (by omega)];simp
def zJ(hc:X.calm=true):bJ X (.builtin "sum") (λxs H Q=>∃(p:Addr) (ns:List Int),xs=[.ref p]/\SqL X.K H p (ns.map V.int)/\Q (.int ns.sum) H):=by
 intro pins s σ H xs us Q I r h;obtain⟨p,ns,rfl,hS,q⟩:=h;obtain⟨u,rfl,ru⟩:=fJ r;cases (show u=l_ p from ru);obtain⟨its,rv,pl,hz⟩:=I.list hS;have hi:=cZ rv;have hl:=pl.isList;obtain⟨ys,e⟩:=hi.allInts.items;have hns:ns=ys.toList.map (·.1):=by rw [<- hi.numsOf,<- nums_intItems,<- e]
 rw [e] at hl;refine sum_intListG (by exact I.ok.hd hc) hl λh' tk t' hk=>⟨.int ns.sum,H,I.kept (t':=tk) hk,⟨t',?_⟩,q⟩
 have hlen:ys.size=ns.length:=by rw [hns,length_map,y_]
 have hnum:numAt ys=λi=>ns.getD i 0:=by
  funext i;rw [numAt_eq,hns]
 rw [hnum,hlen,p9 ns ns.length (gV _),take_length]
theorem zK:∀{ws:List (List Nat)}{us:List Value},bK (ws.map tx) us->StrsAre us (ws.map S)
 | [],_,.nil=>.nil
 | w::ws,_,.cons r rr=>by
  obtain⟨t,e⟩:=r;subst e;exact .cons _ _ (zK rr)
noncomputable def x3(K:b_)(ta:TA):TI:=λσ H R=>ta σ H λvs H1=>∃k l a c,vs=[.ref a,.ref c]/\(∃xs ys,Sq k K H1 a xs/\Sq l K H1 c ys)/\R (Itz k l K a c) H1
def Ei{a b:Expr}(hg:Gl X "zip")(hm:X.mg "zip"=none)(ha:PA X [a,b] ta)(hs:starEach [a,b] X.env=[(false,eval a X.env),(false,eval b X.env)]:=by rfl)(hs2:starEach [b] X.env=[(false,eval b X.env)]:=by rfl):
  PI X (.Tuple es ct tp) (.Call (.Name "zip" p) [a,b] [] pos) (x3 X.K ta):=by
 intro pins s σ H R I h;refine Call_ (jd I hg hm boot_zip (LF (thn (ha pos pins s σ H _ I h) λus s1 ⟨vs,H1,I1,r1,q1⟩=>?_) (by rw [hs,hs2]) (by rw [hs2];rfl)));obtain⟨k,l,a,c,e,⟨xs,ys,q1,q2⟩,q⟩:=q1;subst e
 cases r1 with
 | cons r rr =>
  cases rr with
  | cons r' rr =>
   cases rr;cases r;cases r';obtain⟨its,rv,p,_⟩:=I1.row q1;obtain⟨jts,rv',p',_⟩:=I1.row q2;refine Eb p p' λh' g1 g2 g3 g4 g5 kk=>wpAny_pyIter_zip g1 ?_;have I2:Inv X pins σ H1 { s1 with heap:=h',toks:=s1.toks }:=I1.kept kk
   refine⟨s1.heap.objs.size+4,[s1.heap.objs.size+4,s1.heap.objs.size+2,s1.heap.objs.size+3,s1.heap.objs.size,s1.heap.objs.size+1],_,_,H1,rfl,I2,BM (i:=s1.heap.objs.size) (j:=s1.heap.objs.size+1)
    (Jl _),⟨g1,g2,⟨_,_,g3⟩,g4,g5⟩,λb hb=>?_,q⟩
   have hle:s1.heap.objs.size<=b:=by
    simp only [A_,not_mem_nil,or_false] at hb
    rcases hb with e|e|e|e|e
    .rw [e];exact N5 _ _
    .rw [e];exact N5 _ _
    .rw [e];exact N5 _ _
    .rw [e];exact gV _
    .rw [e];exact N5 _ _
   exact I1.fpOk hle (I1.hok.fresh hle)
variable {ta:TE}{f:Str}
def bw(K:b_)(eK:X.K=K)(he:PE X e ta)(hb:attributeBase e f X.env (eval e X.env)=eval e X.env):PE X (.Attribute e f pos) (y9 K ta f):=eK ▸ Gq he hb
noncomputable def Jp(K:b_):List V->Hp->VK->Prop:=λxs H Q=>∃p ys,xs=[.ref p]/\SqL K H p ys/\Q (.int ys.length) H
noncomputable def Jq(K:b_):List V->Hp->VK->Prop:=λxs H Q=>∃p ys,xs=[.ref p]/\SqT K H p ys/\Q (.int ys.length) H
noncomputable def Kz(K:b_):List V->Hp->VK->Prop:=λxs H Q=>∃x n t b,xs=[x,.ty n]/\sj K H x t/\MC K t (.type n)=some b/\Q (.bl b) H
noncomputable def zL(K:b_):List V->Hp->VK->Prop:=λxs H Q=>∃p ys,xs=[.ref p]/\(SqL K H p ys\/SqT K H p ys)/\∀l,H l=none->Q (.ref l) (upd H l (.lst ys))
section
variable {o:Expr}{to:TE}{t:TA}{name:Str}{apos cpos:Pos}{T id:String}{r:V->List V->Hp->VK->Prop}
def fV(K:b_)(eK:X.K=K)(pa:PlainAttrs T)(slot:Slot T name id)(hty:typeOf (.builtin id)=pure (.type "method_descriptor"))(hm:MtR X id r)(ho:PE X o to)(ha:PA X (e::es) t)(hbase:attributeBase o name X.env (eval o X.env)=eval o X.env:=by rfl)(hfew:((backTo cpos (starEach (e::es) X.env)).all (λx=>!x.1) && (backToKw cpos (keywordEach [] X.env)).all (λx=>x.1.isSome)
   && decide ((e::es).length+([]:List Keyword).length+(if ([]:List Keyword).isEmpty then 0 else 1)<30))=true:=by rfl)(hline:(apos.endLine == cpos.line)=true:=by rfl)(hs:starEach (e::es) X.env=(false,eval e X.env)::starEach es X.env:=by rfl)(hplain:(backTo cpos (starEach es X.env)).any (·.1)=false:=by rfl):
  PE X (.Call (.Attribute o name apos) (e::es) [] cpos) (tBM K T r to t):=eK ▸ Jg pa slot hty hm ho ha hbase hfew hline hs hplain
end
noncomputable def io(c:Bool)(A B:Prop):Prop:=match c with|true=>A|false=>B
variable {B:Prop}
def IK{c:Bool}{A:Prop}(h1:c=true->A)(h2:c=false->B):io c A B:=by
 cases c with
 | true=>exact h1 rfl
 | false=>exact h2 rfl
def dE{p:Prop}[Decidable p]{A B:Prop}(h1:p->A)(h2:¬ p->B):io (decide p) A B:=IK (λh=>h1 (of_decide_eq_true h)) (λh=>h2 (of_decide_eq_false h))
def nC{p:Prop}[Decidable p]{A B:Prop}(h1:¬ p->A)(h2:p->B):io (!decide p) A B:=IK (λh=>h1 λz=>by rw [decide_eq_true z] at h;cases h) (λh=>h2 (by
 by_cases z:p
 .exact z
 .rw [decide_eq_false z] at h;cases h))
def Jr{p:Prop}[Decidable p]{A B:Prop}(h:p)(hA:A):io (decide p) A B:=dE (λ_=>hA) (λz=>absurd h z)
def Js{p:Prop}[Decidable p]{A B:Prop}(h:¬ p)(hB:B):io (decide p) A B:=dE (λz=>absurd z h) (λ_=>hB)
def GY{p:Prop}[Decidable p]{A B:Prop}(h:¬ p)(hA:A):io (!decide p) A B:=nC (λ_=>hA) (λz=>absurd z h)
def GZ{p:Prop}[Decidable p]{A B:Prop}(h:p)(hB:B):io (!decide p) A B:=nC (λz=>absurd h z) (λ_=>hB)
def zM{c:Bool}{A:Prop}(h:io c B A):io (!c) A B:=by
 cases c <;> exact h
def Lc{c:Bool}{A:Prop}(h:c=true)(hA:A):io c A B:=by subst h;exact hA
def Ld{c:Bool}{A:Prop}(h:c=false)(hB:B):io c A B:=by subst h;exact hB
def Jt{c:Bool}{A:Prop}(h:c=false)(hA:A):io (!c) A B:=by subst h;exact hA
def Ej{c:Bool}{A:Prop}(h:c=true)(hB:B):io (!c) A B:=by subst h;exact hB
inductive D where
 | non|bl (b:Bool)|int (i:Int)|str (l:List Nat)|ty (n:String)
 | lst (ds:List D)|tup (ds:List D)|scr (ns:List Int)|dic (ks:List Key) (ds:List D)|fdc (ks:List Key) (ds:List D)|obj (c:Str) (ns:List Str) (ds:List D)|exc (c:Str) (ns:List Str) (ds:List D)
noncomputable def XAt(x C:Addr)(dd:Option Addr)(new:Bool)(h:Heap):Prop:=∃o vs,h.get? x=some o/\o.cls=.ref C/\o.dict=dd/\o.data=.fields vs/\1<vs.size/\(new=true->vs[1]?=some .none)
noncomputable def d0(A:Addr->Prop)(a:Addr):Addr->Prop:=λb=>A b\/b=a
noncomputable def FB(K:b_)(O:Addr->Prop)(H:Hp)(a:Addr)(xs:List V):Prop :=
 (¬ O a/\Rd H a (.lst xs))\/∃(o:Obj) (its:Array Value) (n:Nat),K.lookup a=some o/\o.cls=.type "list"/\o.dict=none/\o.data=.seq its n/\its.size<=sizeLine/\bK xs its.toList
variable {O:Addr->Prop}
def FB.sq(h:FB K O H a xs):SqL K H a xs:=h.elim (λz=>.inl z.2) .inr
noncomputable def aL(O:Addr->Prop)(H:Hp)(O':Addr->Prop)(H':Hp):Prop:=∀b o,¬ O b->H b=some o->¬ O' b/\H' b=some o
variable {O':Addr->Prop}{H':Hp}
def Rd.keeps{u:HO}(k:aL O H O' H')(n:¬ O a)(r:Rd H a u):¬ O' a/\Rd H' a u:=by
 rcases r with e|⟨o,e⟩
 .exact⟨(k _ _ n e).1,.inl (k _ _ n e).2⟩
 .exact⟨(k _ _ n e).1,.inr ⟨o,(k _ _ n e).2⟩⟩
def FB.keeps(k:aL O H O' H')(h:FB K O H a xs):FB K O' H' a xs:=by
 rcases h with ⟨n,r⟩|r
 .exact .inl (r.keeps k n)
 .exact .inr r
mutual
inductive FV (K:b_) (O:Addr->Prop) (H:Hp):V->D->Prop
 | non:FV K O H .non .non
 | bl (b:Bool):FV K O H (.bl b) (.bl b)
 | int (i:Int):FV K O H (.int i) (.int i)
 | str (l:List Nat):l.length<=1000000->FV K O H (.str (S l)) (.str l)
 | ty (n:String):FV K O H (.ty n) (.ty n)
 | scr {a:Addr}{ns:List Int}:FB K O H a (ns.map V.int)->FV K O H (.ref a) (.scr ns)
 | lst {a:Addr}{xs:List V}{ds:List D}:¬ O a->H a=some (.lst xs)->FVs K O H xs ds->FV K O H (.ref a) (.lst ds)
 | tup {a:Addr}{xs:List V}{ds:List D}:¬ O a->H a=some (.tup xs)->FVs K O H xs ds->FV K O H (.ref a) (.tup ds)
 | dic {a:Addr}{kvs:List (Key×V)}{ks:List Key}{ds:List D}:¬ O a->H a=some (.dK kvs)->kvs.map B_=ks->FVs K O H (kvs.map MF) ds->FV K O H (.ref a) (.dic ks ds)
 | fdc {a:Addr}{o:Obj}{kvs:List (Key×V)}{ks:List Key}{ds:List D}:¬ O a->H a=some (.frz o (.dK kvs))->kvs.map B_=ks->FVs K O H (kvs.map MF) ds->FV K O H (.ref a) (.fdc ks ds)
 | obj {a dx:Addr}{c:Str}{fs:List (Str×V)}{ns:List Str}{ds:List D}:¬ O a->H a=some (.ins (bQ K c) dx fs)->fs.map B_=ns->FVs K O H (fs.map MF) ds->FV K O H (.ref a) (.obj c ns ds)
 | exc0 {a:Addr}{c:Str}{new:Bool}:¬ O a->H a=some (.ext (XAt a (bQ K c) none new))->FV K O H (.ref a) (.exc c [] [])
 | exc1 {a dx:Addr}{c:Str}{new:Bool}{fs:List (Str×V)}{ns:List Str}{ds:List D}:¬ O a->¬ O dx->H a=some (.ext (XAt a (bQ K c) (some dx) new))->H dx=some (.xd fs)->fs.map B_=ns->FVs K O H (fs.map MF) ds->FV K O H (.ref a) (.exc c ns ds)
inductive FVs (K:b_) (O:Addr->Prop) (H:Hp):List V->List D->Prop
 | nil:FVs K O H [] []
 | cons {x:V}{d:D}{xs:List V}{ds:List D}:FV K O H x d->FVs K O H xs ds->FVs K O H (x::xs) (d::ds)
end
mutual
theorem FV.keeps(k:aL O H O' H'):∀{v:V}{d:D},FV K O H v d->FV K O' H' v d
 | _,_,.non=>.non
 | _,_,.bl b=>.bl b
 | _,_,.int i=>.int i
 | _,_,.str l h=>.str l h
 | _,_,.ty n=>.ty n
 | _,_,.scr s=>.scr (s.keeps k)
 | _,_,.lst n e f=>.lst (k _ _ n e).1 (k _ _ n e).2 (FVs.keeps k f)
 | _,_,.tup n e f=>.tup (k _ _ n e).1 (k _ _ n e).2 (FVs.keeps k f)
 | _,_,.dic n e m f=>.dic (k _ _ n e).1 (k _ _ n e).2 m (FVs.keeps k f)
 | _,_,.fdc n e m f=>.fdc (k _ _ n e).1 (k _ _ n e).2 m (FVs.keeps k f)
 | _,_,.obj n e m f=>.obj (k _ _ n e).1 (k _ _ n e).2 m (FVs.keeps k f)
 | _,_,.exc0 n e=>.exc0 (k _ _ n e).1 (k _ _ n e).2
 | _,_,.exc1 n n2 e e2 m f=>.exc1 (k _ _ n e).1 (k _ _ n2 e2).1 (k _ _ n e).2 (k _ _ n2 e2).2 m (FVs.keeps k f)
theorem FVs.keeps(k:aL O H O' H'):∀{vs:List V}{ds:List D},FVs K O H vs ds->FVs K O' H' vs ds
 | _,_,.nil=>.nil
 | _,_,.cons a b=>.cons (FV.keeps k a) (FVs.keeps k b)
end
theorem FVs.length:∀{vs:List V}{ds:List D},FVs K O H vs ds->vs.length=ds.length
 | _,_,.nil=>rfl
 | _,_,.cons _ b=>by rw [length_cons,length_cons,b.length]
theorem FVs.get:∀{vs:List V}{ds:List D}{i:Nat}{v:V},FVs K O H vs ds->vs[i]?=some v->∃d,ds[i]?=some d/\FV K O H v d
 | _,_,0,_,.cons a _,e=>by simp at e;subst e;exact⟨_,rfl,a⟩
 | _,_,i+1,v,.cons _ b,e=>by
  obtain⟨d,h1,h2⟩:=b.get (i:=i) (v:=v) (by simpa using e);exact⟨d,by simpa using h1,h2⟩
theorem FVs.getD:∀{vs:List V}{ds:List D}{i:Nat}{d:D},FVs K O H vs ds->ds[i]?=some d->∃v,vs[i]?=some v/\FV K O H v d
 | _,_,0,_,.cons a _,e=>by simp at e;subst e;exact⟨_,rfl,a⟩
 | _,_,i+1,v,.cons _ b,e=>by
  obtain⟨d,h1,h2⟩:=b.getD (i:=i) (d:=v) (by simpa using e);exact⟨d,by simpa using h1,h2⟩
theorem FVs.append:∀{vs ws:List V}{ds es:List D},FVs K O H vs ds->FVs K O H ws es->FVs K O H (vs++ws) (ds++es)
 | _,_,_,_,.nil,s=>s
 | _,_,_,_,.cons a b,s=>.cons a (b.append s)
variable {v:V}
theorem FVs.set{d:D}(f:FV K O H v d):∀{vs:List V}{ds:List D} (i:Nat),FVs K O H vs ds->FVs K O H (vs.set i v) (ds.set i d)
 | _,_,_,.nil=>.nil
 | _,_,0,.cons _ t=>.cons f t
 | _,_,i+1,.cons q t=>.cons q (FVs.set f i t)
theorem FVs.take:∀{vs:List V}{ds:List D} (n:Nat),FVs K O H vs ds->FVs K O H (vs.take n) (ds.take n)
 | _,_,0,_=>.nil
 | _,_,_+1,.nil=>.nil
 | _,_,n+1,.cons r t=>.cons r (t.take n)
theorem FVs.drop:∀{vs:List V}{ds:List D} (n:Nat),FVs K O H vs ds->FVs K O H (vs.drop n) (ds.drop n)
 | _,_,0,r=>r
 | _,_,_+1,.nil=>.nil
 | _,_,n+1,.cons _ t=>t.drop n
theorem FVs.reverse:∀{vs:List V}{ds:List D},FVs K O H vs ds->FVs K O H vs.reverse ds.reverse
 | _,_,.nil=>.nil
 | _,_,.cons r t=>by rw [N1,N1];exact t.reverse.append (.cons r .nil)
theorem FVs.ints:∀{vs:List V}{ns:List Int},FVs K O H vs (ns.map D.int)->vs=ns.map V.int
 | _,[],.nil=>rfl
 | _,n::r,h=>by
  cases h with
  | cons a b=>cases a;rw [FVs.ints b];rfl
theorem FVs.of_ints:∀ns:List Int,FVs K O H (ns.map V.int) (ns.map D.int)
 | []=>.nil
 | n::r=>.cons (.int n) (FVs.of_ints r)
theorem FVs.strs:∀{vs:List V}{ws:List (List Nat)},FVs K O H vs (ws.map D.str)->vs=ws.map tx
 | _,[],.nil=>rfl
 | _,n::r,h=>by
  cases h with
  | cons a b=>cases a;rw [FVs.strs b];rfl
theorem FVs.bls:∀{vs:List V}{bs:List Bool},FVs K O H vs (bs.map D.bl)->vs=bs.map V.bl
 | _,[],.nil=>rfl
 | _,n::r,h=>by
  cases h with
  | cons a b=>cases a;rw [FVs.bls b];rfl
inductive PV where
 | dat (d:D)|own (ds:List D)|ins (c:Str) (ns:List Str) (ds:List D)|odc (ks:List Key) (ds:List D)
noncomputable def PV.isOwn:PV->Bool
 | .dat _=>false
 | _=>true
noncomputable def PV.d:PV->D
 | .dat d=>d
 | .own ds=>.lst ds
 | .ins c ns ds=>.obj c ns ds
 | .odc ks ds=>.dic ks ds
abbrev PSt:=List (Option PV)
noncomputable def Wr(ρ:PSt)(σ:St)(b:Addr):Prop:=∃(i:Nat) (p:PV),ρ[i]?=some (some p)/\p.isOwn=true/\σ[i]?=some (some (.ref b))
noncomputable def OO(A:Addr->Prop)(ρ:PSt)(σ:St)(b:Addr):Prop:=A b\/Wr ρ σ b
noncomputable def RS(K:b_)(O:Addr->Prop)(H:Hp):PV->V->Prop
 | .dat d,v=>FV K O H v d
 | .own ds,v=>∃a xs,v=.ref a/\H a=some (.lst xs)/\FVs K O H xs ds
 | .ins c ns ds,v=>∃a dx fs,v=.ref a/\H a=some (.ins (bQ K c) dx fs)/\fs.map B_=ns/\FVs K O H (fs.map MF) ds
 | .odc ks ds,v=>∃a kvs,v=.ref a/\H a=some (.dK kvs)/\kvs.map B_=ks/\FVs K O H (kvs.map MF) ds
structure Rel (K:b_) (A:Addr->Prop) (ρ:PSt) (σ:St) (H:Hp):Prop where
 len:ρ.length=σ.length
 get:∀(i:Nat) (p:PV),ρ[i]?=some (some p)->∃v,σ[i]?=some (some v)/\RS K (OO A ρ σ) H p v
 dj:∀(i j:Nat) (p q:PV) (v:V),ρ[i]?=some (some p)->ρ[j]?=some (some q)->p.isOwn=true->q.isOwn=true->σ[i]?=some (some v)->σ[j]?=some (some v)->i=j
 dom:∀b,A b->H b≠none
 sep:∀b,A b->¬ Wr ρ σ b
structure Fr (ρ:PSt) (σ:St) (H:Hp) (ρ':PSt) (H':Hp):Prop where
 kp:∀b o,¬ Wr ρ σ b->H b=some o->H' b=some o
 dm:∀b,H b≠none->H' b≠none
 ow:∀b,Wr ρ' σ b->Wr ρ σ b
def Fr.refl(ρ:PSt)(σ:St)(H:Hp):Fr ρ σ H ρ H:=⟨λ_ _ _ h=>h,λ_ h=>h,λ_ h=>h⟩
variable {ρ ρ1:PSt}{H1:Hp}
def Fr.trans{ρ2:PSt}{H2:Hp}(a:Fr ρ σ H ρ1 H1)(b:Fr ρ1 σ H1 ρ2 H2):Fr ρ σ H ρ2 H2 :=
 ⟨λc o n h=>b.kp c o (λz=>n (a.ow c z)) (a.kp c o n h),λc h=>b.dm c (a.dm c h),λc h=>a.ow c (b.ow c h)⟩
def Fr.keeps{ρ':PSt}{A:Addr->Prop}(f:Fr ρ σ H ρ' H'):aL (OO A ρ σ) H (OO A ρ' σ) H':=λb o n h =>
 ⟨λz=>z.elim (λz=>n (.inl z)) (λz=>n (.inr (f.ow b z))),f.kp b o (λz=>n (.inr z)) h⟩
variable {o:HO}
def Fr.new{p:Addr}(h:H p=none):Fr ρ σ H ρ (upd H p o) :=
 ⟨λb u _ e=>by rw [aI (bf e h)];exact e,λb e=>by
  by_cases z:b=p
  .rw [z,aY];exact nofun
  .rw [aI z];exact e,λ_ h=>h⟩
def aL.fresh{p:Addr}(h:H p=none):aL O H (d0 O p) (upd H p o):=λb u n e =>
 ⟨λz=>z.elim n (λz=>by rw [z,h] at e;cases e),by rw [aI (bf e h)];exact e⟩
def aL.less(h:∀b,O' b->O b):aL O H O' H:=λb o n e=>⟨λz=>n (h b z),e⟩
def RS.keeps{p:PV}(k:aL O H O' H')(w:p.isOwn=true->∀a,v=.ref a->H' a=H a)(h:RS K O H p v):RS K O' H' p v:=by
 cases p with
 | dat d=>exact FV.keeps k h
 | own ds =>
  obtain⟨a,xs,e,g,f⟩:=h;exact⟨a,xs,e,by rw [w rfl a e];exact g,f.keeps k⟩
 | ins c ns ds =>
  obtain⟨a,dx,fs,e,g,m,f⟩:=h;exact⟨a,dx,fs,e,by rw [w rfl a e];exact g,m,f.keeps k⟩
 | odc ks ds =>
  obtain⟨a,kvs,e,g,m,f⟩:=h;exact⟨a,kvs,e,by rw [w rfl a e];exact g,m,f.keeps k⟩
def RS.ref{p:PV}(h:RS K O H p v)(o:p.isOwn=true):∃a u,v=.ref a/\H a=some u:=by
 cases p with
 | dat d=>cases o
 | own ds=>obtain⟨a,xs,e,g,f⟩:=h;exact⟨a,_,e,g⟩
 | ins c ns ds=>obtain⟨a,dx,fs,e,g,m,f⟩:=h;exact⟨a,_,e,g⟩
 | odc ks ds=>obtain⟨a,kvs,e,g,m,f⟩:=h;exact⟨a,_,e,g⟩
def Rel.wr{A:Addr->Prop}(R:Rel K A ρ σ H)(h:Wr ρ σ b):H b≠none:=by
 obtain⟨i,p,e,o,s⟩:=h;obtain⟨v,s',r⟩:=R.get i p e;rw [s] at s';cases s';obtain⟨a,u,e1,e2⟩:=r.ref o;cases e1;rw [e2];exact nofun
def Rel.oo{A:Addr->Prop}(R:Rel K A ρ σ H)(h:H b=none):¬ OO A ρ σ b:=λz=>z.elim (λz=>R.dom b z h) (λz=>R.wr z h)
def Rel.grow{A:Addr->Prop}(R:Rel K A ρ σ H){p:Addr}(h:H p=none):Rel K A ρ σ (upd H p o):=by
 have k:aL (OO A ρ σ) H (OO A ρ σ) (upd H p o):=Fr.keeps (Fr.new h);refine⟨R.len,λi q e=>?_,R.dj,λb z=>(Fr.new (ρ:=ρ) (σ:=σ) h).dm b (R.dom b z),R.sep⟩;obtain⟨v,s,r⟩:=R.get i q e;refine⟨v,s,r.keeps k λow a ea=>?_⟩;obtain⟨a',u,e1,e2⟩:=r.ref ow;rw [ea] at e1;cases e1;rw [aI (bf e2 h)]
def Rel.less{A A':Addr->Prop}(R:Rel K A ρ σ H)(h:∀b,A' b->A b):Rel K A' ρ σ H:=by
 refine⟨R.len,λi q e=>?_,R.dj,λb z=>R.dom b (h b z),λb z=>R.sep b (h b z)⟩;obtain⟨v,s,r⟩:=R.get i q e;exact⟨v,s,r.keeps (aL.less λb z=>z.imp (h b) id) λ_ _ _=>rfl⟩
def Rel.write{A:Addr->Prop}(R:Rel K A ρ σ H){p q:PV}(e:ρ[i]?=some (some p))(ow:p.isOwn=true)(ow':q.isOwn=true)(es:σ[i]?=some (some (.ref a)))(new:RS K (OO A ρ σ) (upd H a o) q (.ref a)):Rel K A (ρ.set i (some q)) σ (upd H a o)/\Fr ρ σ H (ρ.set i (some q)) (upd H a o):=by
 have hi:i<ρ.length:=(i_.mp e).1;have wa:Wr ρ σ a:=⟨i,p,e,ow,es⟩
 have weq:∀b,Wr (ρ.set i (some q)) σ b ↔ Wr ρ σ b:=λb=>by
  constructor
  .rintro⟨j,r,e1,o1,s1⟩
   by_cases z:i=j
   .subst z;exact⟨i,p,e,ow,s1⟩
   .rw [p_ z] at e1;exact⟨j,r,e1,o1,s1⟩
  .rintro⟨j,r,e1,o1,s1⟩
   by_cases z:i=j
   .subst z;exact⟨i,q,so hi,ow',s1⟩
   .exact⟨j,r,by rw [p_ z];exact e1,o1,s1⟩
 have oeq:OO A (ρ.set i (some q)) σ=OO A ρ σ:=funext λb=>propext (or_congr Iff.rfl (weq b));have kp:∀b u,¬ Wr ρ σ b->H b=some u->upd H a o b=some u:=λb u n h=>by rw [aI (λz=>n (by rw [z];exact wa))];exact h
 have k:aL (OO A ρ σ) H (OO A ρ σ) (upd H a o):=λb u n h=>⟨n,kp b u (λz=>n (.inr z)) h⟩
 have dm:∀b,H b≠none->upd H a o b≠none:=λb n=>by
  by_cases z:b=a
  .rw [z,aY];exact nofun
  .rw [aI z];exact n
 refine⟨⟨by rw [L0];exact R.len,λj r e1=>?_,λj l p1 q1 v e1 e2 o1 o2 s1 s2=>?_,λb z=>dm b (R.dom b z),λb z w=>R.sep b z ((weq b).mp w)⟩,⟨kp,dm,λb w=>(weq b).mp w⟩⟩
 .rw [oeq]
  by_cases z:i=j
  .subst z;rw [so hi] at e1;cases e1;exact⟨_,es,new⟩
  .rw [p_ z] at e1;obtain⟨v,s,rr⟩:=R.get j r e1;refine⟨v,s,rr.keeps k λow2 b eb=>?_⟩;rw [aI];intro zz;subst zz;rw [eb] at s;exact z (R.dj i j p r _ e e1 ow ow2 es s)
 .have ex:∀(m:Nat) (x:PV),(ρ.set i (some q))[m]?=some (some x)->x.isOwn=true->∃y:PV,ρ[m]?=some (some y)/\y.isOwn=true:=λm x em ox=>by
   by_cases z:i=m
   .subst z;exact⟨p,e,ow⟩
   .rw [p_ z] at em;exact⟨x,em,ox⟩
  obtain⟨y1,h1,h2⟩:=ex j p1 e1 o1;obtain⟨y2,h3,h4⟩:=ex l q1 e2 o2;exact R.dj j l y1 y2 v h1 h3 h2 h4 s1 s2
def Rel.frz{A:Addr->Prop}(R:Rel K A ρ σ H){p:PV}(e:ρ[i]?=some (some p)):
  Rel K A (ρ.set i (some (.dat p.d))) σ H/\Fr ρ σ H (ρ.set i (some (.dat p.d))) H:=by
 have hi:i<ρ.length:=(i_.mp e).1
 have ex:∀(m:Nat) (x:PV),(ρ.set i (some (.dat p.d)))[m]?=some (some x)->x.isOwn=true->m≠i/\ρ[m]?=some (some x):=λm x em ox=>by
  by_cases z:i=m
  .subst z;rw [so hi] at em;cases em;cases ox
  .rw [p_ z] at em;exact⟨λq=>z q.symm,em⟩
 have ow:∀b,Wr (ρ.set i (some (.dat p.d))) σ b->Wr ρ σ b:=λb ⟨j,r,e1,o1,s1⟩=>⟨j,r,(ex j r e1 o1).2,o1,s1⟩
 have k:aL (OO A ρ σ) H (OO A (ρ.set i (some (.dat p.d))) σ) H:=aL.less λb z=>z.imp id (ow b);refine⟨⟨by rw [L0];exact R.len,λj r e1=>?_,λj l p1 q1 v e1 e2 o1 o2 s1 s2=>R.dj j l p1 q1 v (ex j p1 e1 o1).2 (ex l q1 e2 o2).2 o1 o2 s1 s2,R.dom,λb z w=>R.sep b z (ow b w)⟩,⟨λ_ _ _ h=>h,λ_ h=>h,ow⟩⟩
 by_cases z:i=j
 .subst z;rw [so hi] at e1;cases e1;obtain⟨v,s,r⟩:=R.get i p e;refine⟨v,s,?_⟩
  have na:∀a,v=.ref a->p.isOwn=true->¬ OO A (ρ.set i (some (.dat p.d))) σ a:=λa ea oo z=>by
   subst ea
   rcases z with z|⟨j,r,e1,o1,s1⟩
   .exact R.sep a z ⟨i,p,e,oo,s⟩
   .obtain⟨n1,n2⟩:=ex j r e1 o1;exact n1 (R.dj j i r p _ n2 e o1 oo s1 s)
  cases p with
  | dat d=>exact FV.keeps k r
  | own ds =>
   obtain⟨a,xs,rfl,g,f⟩:=r;exact .lst (na a rfl rfl) g (f.keeps k)
  | ins c ns ds =>
   obtain⟨a,dx,fs,rfl,g,m,f⟩:=r;exact .obj (na a rfl rfl) g m (f.keeps k)
  | odc ks ds =>
   obtain⟨a,kvs,rfl,g,m,f⟩:=r;exact .dic (na a rfl rfl) g m (f.keeps k)
 .rw [p_ z] at e1;obtain⟨v,s,r⟩:=R.get j _ e1;exact⟨v,s,r.keeps k λ_ _ _=>rfl⟩
abbrev PKt:=PV->PSt->Prop
abbrev PTE:=PSt->PKt->Prop
abbrev PTT:=PSt->(Bool->PSt->Prop)->Prop
inductive AV where
 | v (d:D)|sl (i:Nat)
abbrev PA1:=PSt->(AV->PSt->Prop)->Prop
abbrev PTA:=PSt->(List AV->PSt->Prop)->Prop
noncomputable def Out(K:b_)(A:Addr->Prop)(ρ:PSt)(σ:St)(H0 H:Hp):PV->V->Prop
 | .dat d,v=>Rel K A ρ σ H/\FV K (OO A ρ σ) H v d
 | .own ds,v=>∃a xs,v=.ref a/\¬ A a/\H0 a=none/\H a=some (.lst xs)/\Rel K (d0 A a) ρ σ H/\FVs K (OO (d0 A a) ρ σ) H xs ds
 | .ins c ns ds,v=>∃a dx fs,v=.ref a/\¬ A a/\H0 a=none/\H a=some (.ins (bQ K c) dx fs)/\fs.map B_=ns/\Rel K (d0 A a) ρ σ H/\FVs K (OO (d0 A a) ρ σ) H (fs.map MF) ds
 | .odc ks ds,v=>∃a kvs,v=.ref a/\¬ A a/\H0 a=none/\H a=some (.dK kvs)/\kvs.map B_=ks/\Rel K (d0 A a) ρ σ H/\FVs K (OO (d0 A a) ρ σ) H (kvs.map MF) ds
noncomputable def LE(K:b_)(te:TE)(pe:PTE):Prop:=∀(A:Addr->Prop) (ρ:PSt) (σ:St) (H:Hp) (Q:PKt) (Q':VK),Rel K A ρ σ H->pe ρ Q ->
 (∀v H' p ρ',Q p ρ'->Fr ρ σ H ρ' H'->Out K A ρ' σ H H' p v->Q' v H')->te σ H Q'
noncomputable def LT(K:b_)(tt:TT)(pt:PTT):Prop:=∀(A:Addr->Prop) (ρ:PSt) (σ:St) (H:Hp) (Q:Bool->PSt->Prop) (Q':Bool->Hp->Prop),Rel K A ρ σ H->pt ρ Q ->
 (∀b H' ρ',Q b ρ'->Fr ρ σ H ρ' H'->Rel K A ρ' σ H'->Q' b H')->tt σ H Q'
noncomputable def AOk(K:b_)(O:Addr->Prop)(σ:St)(H:Hp):AV->V->Prop
 | .v d,v=>FV K O H v d
 | .sl i,v=>σ[i]?=some (some v)
noncomputable def LA1(K:b_)(te:TE)(pa:PA1):Prop:=∀(A:Addr->Prop) (ρ:PSt) (σ:St) (H:Hp) (Q:AV->PSt->Prop) (Q':VK),Rel K A ρ σ H->pa ρ Q ->
 (∀v H' av ρ',Q av ρ'->Fr ρ σ H ρ' H'->Rel K A ρ' σ H'->AOk K (OO A ρ' σ) σ H' av v->Q' v H')->te σ H Q'
inductive Ek (K:b_) (O:Addr->Prop) (σ:St) (H:Hp):List AV->List V->Prop
 | nil:Ek K O σ H [] []
 | cons {a:AV}{v:V}{as:List AV}{vs:List V}:AOk K O σ H a v->Ek K O σ H as vs->Ek K O σ H (a::as) (v::vs)
noncomputable def LAs(K:b_)(ta:TA)(pa:PTA):Prop:=∀(A:Addr->Prop) (ρ:PSt) (σ:St) (H:Hp) (Q:List AV->PSt->Prop) (Q':List V->Hp->Prop),Rel K A ρ σ H->pa ρ Q ->
 (∀vs H' as ρ',Q as ρ'->Fr ρ σ H ρ' H'->Rel K A ρ' σ H'->Ek K (OO A ρ' σ) σ H' as vs->Q' vs H')->ta σ H Q'
def AOk.keeps{a:AV}(k:aL O H O' H')(h:AOk K O σ H a v):AOk K O' σ H' a v:=by
 cases a with
 | v d=>exact FV.keeps k h
 | sl i=>exact h
variable {A:Addr->Prop}{H0:Hp}
def Out.frz{p:PV}(h:Out K A ρ σ H0 H p v):Rel K A ρ σ H/\FV K (OO A ρ σ) H v p.d:=by
 cases p with
 | dat d=>exact h
 | own ds =>
  obtain⟨a,xs,rfl,na,_,e,R,f⟩:=h;refine⟨R.less λb z=>.inl z,.lst (λz=>?_) e (f.keeps (aL.less λb z=>z.imp .inl id))⟩;exact z.elim na (λz=>R.sep a (.inr rfl) z)
 | ins c ns ds =>
  obtain⟨a,dx,fs,rfl,na,_,e,m,R,f⟩:=h;refine⟨R.less λb z=>.inl z,.obj (λz=>?_) e m (f.keeps (aL.less λb z=>z.imp .inl id))⟩;exact z.elim na (λz=>R.sep a (.inr rfl) z)
 | odc ks ds =>
  obtain⟨a,kvs,rfl,na,_,e,m,R,f⟩:=h;refine⟨R.less λb z=>.inl z,.dic (λz=>?_) e m (f.keeps (aL.less λb z=>z.imp .inl id))⟩;exact z.elim na (λz=>R.sep a (.inr rfl) z)
def Out.h0{p:PV}(h:Out K A ρ σ H0 H p v)(dm:∀b,H1 b≠none->H0 b≠none):Out K A ρ σ H1 H p v:=by
 have k:∀a,H0 a=none->H1 a=none:=λa e=>by
  cases z:H1 a with
  | none=>rfl
  | some o=>exact absurd e (dm a (by rw [z];exact nofun))
 cases p with
 | dat d=>exact h
 | own ds=>obtain⟨a,xs,e1,na,e2,r⟩:=h;exact⟨a,xs,e1,na,k a e2,r⟩
 | ins c ns ds=>obtain⟨a,dx,fs,e1,na,e2,r⟩:=h;exact⟨a,dx,fs,e1,na,k a e2,r⟩
 | odc ks ds=>obtain⟨a,kvs,e1,na,e2,r⟩:=h;exact⟨a,kvs,e1,na,k a e2,r⟩
noncomputable def Gr(H H':Hp):Prop:=∀b o,H b=some o->H' b=some o
def Gr.fr(g:Gr H H'):Fr ρ σ H ρ H':=⟨λb o _ h=>g b o h,λb h=>by
 cases e:H b with
 | none=>exact absurd e h
 | some o=>rw [g b o e];exact nofun,λ_ h=>h⟩
def Gr.new{p:Addr}(h:H p=none):Gr H (upd H p o):=λb u e=>by rw [aI (bf e h)];exact e
def Gr.refl(H:Hp):Gr H H:=λ_ _ h=>h
def Rel.gr(R:Rel K A ρ σ H)(g:Gr H H'):Rel K A ρ σ H':=by
 refine⟨R.len,λi q e=>?_,R.dj,λb z=>(g.fr (ρ:=ρ) (σ:=σ)).dm b (R.dom b z),R.sep⟩;obtain⟨v,s,r⟩:=R.get i q e;refine⟨v,s,r.keeps (g.fr (ρ:=ρ) (σ:=σ)).keeps λow a ea=>?_⟩;obtain⟨a',u,e1,e2⟩:=r.ref ow;rw [ea] at e1;cases e1;rw [e2];exact g _ _ e2
def Rel.grA(R:Rel K A ρ σ H)(g:Gr H H'){p:Addr}(h:H p=none)(h':H' p≠none):Rel K (d0 A p) ρ σ H':=by
 have k:aL (OO A ρ σ) H (OO (d0 A p) ρ σ) H':=λb u n e=>by
  refine⟨λz=>?_,g _ _ e⟩
  rcases z with (z|z)|z
  .exact n (.inl z)
  .rw [z,h] at e;cases e
  .exact n (.inr z)
 refine⟨R.len,λi q e=>?_,R.dj,λb z=>?_,λb z w=>?_⟩
 .obtain⟨v,s,r⟩:=R.get i q e;refine⟨v,s,r.keeps k λow a ea=>?_⟩;obtain⟨a',u,e1,e2⟩:=r.ref ow;rw [ea] at e1;cases e1;rw [e2];exact g _ _ e2
 .rcases z with z|z
  .exact (g.fr (ρ:=ρ) (σ:=σ)).dm b (R.dom b z)
  .rw [z];exact h'
 .rcases z with z|z
  .exact R.sep b z w
  .exact R.wr w (by rw [z];exact h)
noncomputable def uY(K:b_)(O:Addr->Prop)(H0 H:Hp):PV->V->Prop
 | .dat d,v=>FV K O H v d
 | .own ds,v=>∃a xs,v=.ref a/\H0 a=none/\H a=some (.lst xs)/\FVs K (d0 O a) H xs ds
 | .ins c ns ds,v=>∃a dx fs,v=.ref a/\H0 a=none/\H a=some (.ins (bQ K c) dx fs)/\fs.map B_=ns/\FVs K (d0 O a) H (fs.map MF) ds
 | .odc ks ds,v=>∃a kvs,v=.ref a/\H0 a=none/\H a=some (.dK kvs)/\kvs.map B_=ks/\FVs K (d0 O a) H (kvs.map MF) ds
def uY.out{p:PV}(R:Rel K A ρ σ H)(g:Gr H H')(h:uY K (OO A ρ σ) H H' p v):Out K A ρ σ H H' p v:=by
 cases p with
 | dat d=>exact⟨R.gr g,h⟩
 | own ds =>
  obtain⟨a,xs,rfl,e0,e,f⟩:=h;refine⟨a,xs,rfl,λz=>R.dom a z e0,e0,e,R.grA g e0 (by rw [e];exact nofun),f.keeps (aL.less λb z=>?_)⟩
  rcases z with (z|z)|z
  .exact .inl (.inl z)
  .exact .inr z
  .exact .inl (.inr z)
 | ins c ns ds =>
  obtain⟨a,dx,fs,rfl,e0,e,m,f⟩:=h;refine⟨a,dx,fs,rfl,λz=>R.dom a z e0,e0,e,m,R.grA g e0 (by rw [e];exact nofun),f.keeps (aL.less λb z=>?_)⟩
  rcases z with (z|z)|z
  .exact .inl (.inl z)
  .exact .inr z
  .exact .inl (.inr z)
 | odc ks ds =>
  obtain⟨a,kvs,rfl,e0,e,m,f⟩:=h;refine⟨a,kvs,rfl,λz=>R.dom a z e0,e0,e,m,R.grA g e0 (by rw [e];exact nofun),f.keeps (aL.less λb z=>?_)⟩
  rcases z with (z|z)|z
  .exact .inl (.inl z)
  .exact .inr z
  .exact .inl (.inr z)
noncomputable def FVc(K:b_)(O:Addr->Prop)(H:Hp)(v:V)(d:D):Prop:=FV K O H v d\/(∃a xs ds,v=.ref a/\d=.lst ds/\H a=some (.lst xs)/\FVs K O H xs ds) \/
 (∃a dx c fs ns ds,v=.ref a/\d=.obj c ns ds/\H a=some (.ins (bQ K c) dx fs)/\fs.map B_=ns/\FVs K O H (fs.map MF) ds) \/
 ∃a kvs ks ds,v=.ref a/\d=.dic ks ds/\H a=some (.dK kvs)/\kvs.map B_=ks/\FVs K O H (kvs.map MF) ds
noncomputable def cont(ρ:PSt):AV->Option D
 | .v d=>some d
 | .sl i=>match ρ[i]? with|some (some p)=>some p.d|_=>none
def Rel.cont{av:AV}{d:D}(R:Rel K A ρ σ H)(h:AOk K (OO A ρ σ) σ H av v)(e:L2.cont ρ av=some d):FVc K (OO A ρ σ) H v d:=by
 cases av with
 | v d'=>cases e;exact .inl h
 | sl i =>
  have h:σ[i]?=some (some v):=h;simp only [L2.cont] at e
  split at e
  .rename_i p ep;cases e;obtain⟨v',s,r⟩:=R.get i p ep;rw [h] at s;cases s
   cases p with
   | dat d=>exact .inl r
   | own ds=>obtain⟨a,xs,e1,e2,f⟩:=r;exact .inr (.inl ⟨a,xs,ds,e1,rfl,e2,f⟩)
   | ins c ns ds=>obtain⟨a,dx,fs,e1,e2,m,f⟩:=r;exact .inr (.inr (.inl ⟨a,dx,c,fs,ns,ds,e1,rfl,e2,m,f⟩))
   | odc ks ds=>obtain⟨a,kvs,e1,e2,m,f⟩:=r;exact .inr (.inr (.inr ⟨a,kvs,ks,ds,e1,rfl,e2,m,f⟩))
  .cases e
variable {ds:List D}
def FVc.lst(h:FVc K O H v (.lst ds)):∃a xs,v=.ref a/\H a=some (.lst xs)/\FVs K O H xs ds:=by
 rcases h with h|⟨a,xs,ds',e1,e2,e3,f⟩|⟨a,dx,c,fs,ns,ds',e1,e2,_⟩|⟨a,kvs,ks,ds',e1,e2,_⟩
 .cases h with
  | lst n s f=>exact⟨_,_,rfl,s,f⟩
 .cases e2;exact⟨a,xs,e1,e3,f⟩
 .cases e2
 .cases e2
def FVc.fv{d:D}(h:FVc K O H v d)(n:∀ds,d≠.lst ds)(n':∀c ns ds,d≠.obj c ns ds)(n'':∀ks ds,d≠.dic ks ds:=by nofun):FV K O H v d:=by
 rcases h with h|⟨a,xs,ds',e1,e2,e3,f⟩|⟨a,dx,c,fs,ns,ds',e1,e2,_⟩|⟨a,kvs,ks,ds',e1,e2,_⟩
 .exact h
 .exact absurd e2 (n _)
 .exact absurd e2 (n' _ _ _)
 .exact absurd e2 (n'' _ _)
def FVc.dic{ks:List Key}(h:FVc K O H v (.dic ks ds)):∃a kvs,v=.ref a/\H a=some (.dK kvs)/\kvs.map B_=ks/\FVs K O H (kvs.map MF) ds:=by
 rcases h with h|⟨_,_,_,_,e2,_⟩|⟨_,_,_,_,_,_,_,e2,_⟩|⟨a,kvs,_,_,e1,e2,e3,m,f⟩
 .cases h with
  | dic n e m f=>exact⟨_,_,rfl,e,m,f⟩
 .cases e2
 .cases e2
 .cases e2;exact⟨a,kvs,e1,e3,m,f⟩
def FVc.tup(h:FVc K O H v (.tup ds)):∃a xs,v=.ref a/\¬ O a/\H a=some (.tup xs)/\FVs K O H xs ds:=by
 cases h.fv nofun nofun with
 | tup n s f=>exact⟨_,_,rfl,n,s,f⟩
def FVc.scr(h:FVc K O H v (.scr ns)):∃a,v=.ref a/\SqL K H a (ns.map V.int):=by
 cases h.fv nofun nofun with
 | scr s=>exact⟨_,rfl,s.sq⟩
def FVc.int{i:Int}(h:FVc K O H v (.int i)):v=.int i:=by cases h.fv nofun nofun;rfl
def FVc.bl{i:Bool}(h:FVc K O H v (.bl i)):v=.bl i:=by cases h.fv nofun nofun;rfl
def FVc.str{i:List Nat}(h:FVc K O H v (.str i)):v=.str (S i)/\i.length<=1000000:=by
 cases h.fv nofun nofun with
 | str _ z=>exact⟨rfl,z⟩
def pC(d:D):PTE:=λρ Q=>Q (.dat d) ρ
noncomputable def x4(i:Nat):PTE:=λρ Q=>match ρ[i]? with
 | some (some (.dat d))=>Q (.dat d) ρ
 | some (some (.own ds))=>Q (.dat (.lst ds)) (ρ.set i (some (.dat (.lst ds))))
 | some (some (.ins c ns ds))=>Q (.dat (.obj c ns ds)) (ρ.set i (some (.dat (.obj c ns ds))))
 | _=>False
noncomputable def pSl(i:Nat):PA1:=λρ Q=>match ρ[i]? with
 | some (some (.dat d))=>Q (.v d) ρ
 | some (some (.own _))=>Q (.sl i) ρ
 | some (some (.ins _ _ _))=>Q (.sl i) ρ
 | _=>False
noncomputable def pFz(pe:PTE):PA1:=λρ Q=>pe ρ λp ρ1=>Q (.v p.d) ρ1
def gB:PTA:=λρ Q=>Q [] ρ
noncomputable def cg(pa:PA1)(pr:PTA):PTA:=λρ Q=>pa ρ λa ρ1=>pr ρ1 λas ρ2=>Q (a::as) ρ2
def IL{d:D}(h:∀O H,FV K O H v d):LE K (tC v) (pC d):=λA ρ σ H Q Q' R q k=>k v H (.dat d) ρ q (Fr.refl _ _ _) ⟨R,h _ _⟩
def le_int{i:Int}:LE K (tC (.int i)) (pC (.int i)):=IL λ_ _=>.int i
def mh{i:Bool}:LE K (tC (.bl i)) (pC (.bl i)):=IL λ_ _=>.bl i
def G0:LE K (tC .non) (pC .non):=IL λ_ _=>.non
def le_str(h:l.length<=1000000:=by decide):LE K (tC (.str (S l))) (pC (.str l)):=IL λ_ _=>.str l h
def iu:LE K (aJ i) (x4 i):=by
 intro A ρ σ H Q Q' R q k;unfold x4 at q
 split at q
 .rename_i d e;obtain⟨v,s,r⟩:=R.get i _ e;exact⟨v,s,k v H (.dat d) ρ q (Fr.refl _ _ _) ⟨R,r⟩⟩
 .rename_i ds e;obtain⟨R',f⟩:=R.frz e;obtain⟨v,s,r⟩:=R'.get i _ (so (i_.mp e).1);exact⟨v,s,k v H (.dat (.lst ds)) _ q f ⟨R',r⟩⟩
 .rename_i c ns ds e;obtain⟨R',f⟩:=R.frz e;obtain⟨v,s,r⟩:=R'.get i _ (so (i_.mp e).1);exact⟨v,s,k v H (.dat (.obj c ns ds)) _ q f ⟨R',r⟩⟩
 .exact q.elim
def fM:LA1 K (aJ i) (pSl i):=by
 intro A ρ σ H Q Q' R q k;unfold pSl at q
 split at q
 .rename_i d e;obtain⟨v,s,r⟩:=R.get i _ e;exact⟨v,s,k v H _ ρ q (Fr.refl _ _ _) R r⟩
 .rename_i e;obtain⟨v,s,r⟩:=R.get i _ e;exact⟨v,s,k v H _ ρ q (Fr.refl _ _ _) R s⟩
 .rename_i e;obtain⟨v,s,r⟩:=R.get i _ e;exact⟨v,s,k v H _ ρ q (Fr.refl _ _ _) R s⟩
 .exact q.elim
variable {pe:PTE}
def ai(h:LE K ta pe):LA1 K ta (pFz pe):=λA ρ σ H Q Q' R q k=>h A ρ σ H _ Q' R q λv H' p ρ' q f o=>k v H' _ ρ' q f o.frz.1 o.frz.2
def ac:LAs K bU gB:=λA ρ σ H Q Q' R q k=>k [] H [] ρ q (Fr.refl _ _ _) R .nil
variable {pa:PA1}{tr:TA}{pr:PTA}
def aa(h:LA1 K ta pa)(hr:LAs K tr pr):LAs K (ax ta tr) (cg pa pr):=λA ρ σ H Q Q' R q k =>
 h A ρ σ H _ _ R q λv H1 a ρ1 q1 f1 R1 o1=>hr A ρ1 σ H1 _ _ R1 q1 λvs H2 as ρ2 q2 f2 R2 o2=>k _ H2 _ ρ2 q2 (f1.trans f2) R2 (.cons (o1.keeps f2.keeps) o2)
noncomputable def LO(K:b_)(r:R2)(f:D->D->(PV->Prop)->Prop):Prop:=∀(O:Addr->Prop) (H:Hp) (x y:V) (a b:D) (Q:PV->Prop) (Q':VK),(∀b,O b->H b≠none)->FVc K O H x a->FVc K O H y b->f a b Q ->
 (∀v H' p,Q p->Gr H H'->uY K O H H' p v->Q' v H')->r x y H Q'
noncomputable def op2(f:D->D->(PV->Prop)->Prop)(ρ:PSt)(x y:AV)(Q:PKt):Prop:=match cont ρ x,cont ρ y with
 | some a,some b=>f a b λp=>Q p ρ
 | _,_=>False
variable {pb:PA1}
noncomputable def pOp(f:D->D->(PV->Prop)->Prop)(pa pb:PA1):PTE:=λρ Q=>pa ρ λx ρ1=>pb ρ1 λy ρ2=>op2 f ρ2 x y Q
def Rel.dom2(R:Rel K A ρ σ H):∀b,OO A ρ σ b->H b≠none:=λb z=>z.elim (R.dom b) R.wr
variable {tb:TE}{r:R2}
def aq{f:D->D->(PV->Prop)->Prop}(o:LO K r f)(ha:LA1 K ta pa)(hb:LA1 K tb pb):LE K (tOp r ta tb) (pOp f pa pb):=λA ρ σ H Q Q' R q k =>
 ha A ρ σ H _ _ R q λv H1 a ρ1 q1 f1 R1 o1=>hb A ρ1 σ H1 _ _ R1 q1 λw H2 b ρ2 q2 f2 R2 o2=>by
  unfold op2 at q2
  split at q2
  .rename_i da db e1 e2;exact o _ H2 v w da db _ _ R2.dom2 (R2.cont (o1.keeps f2.keeps) e1) (R2.cont o2 e2) q2 λz H3 p q3 g ov=>k z H3 p ρ2 q3 ((f1.trans f2).trans g.fr) ((ov.out R2 g).h0 λb z=>f2.dm b (f1.dm b z))
  .exact q2.elim
noncomputable def LU(K:b_)(r:V->Hp->VK->Prop)(f:D->(PV->Prop)->Prop):Prop:=∀(O:Addr->Prop) (H:Hp) (x:V) (a:D) (Q:PV->Prop) (Q':VK),(∀b,O b->H b≠none)->FVc K O H x a->f a Q ->
 (∀v H' p,Q p->Gr H H'->uY K O H H' p v->Q' v H')->r x H Q'
noncomputable def op1(f:D->(PV->Prop)->Prop)(ρ:PSt)(x:AV)(Q:PKt):Prop:=match cont ρ x with
 | some a=>f a λp=>Q p ρ
 | _=>False
noncomputable def pUn(f:D->(PV->Prop)->Prop)(pa:PA1):PTE:=λρ Q=>pa ρ λx ρ1=>op1 f ρ1 x Q
def zN{r:V->Hp->VK->Prop}{f:D->(PV->Prop)->Prop}(o:LU K r f)(ha:LA1 K ta pa):LE K (tUn r ta) (pUn f pa):=λA ρ σ H Q Q' R q k =>
 ha A ρ σ H _ _ R q λv H1 a ρ1 q1 f1 R1 o1=>by
  unfold op1 at q1
  split at q1
  .rename_i da e1;exact o _ H1 v da _ _ R1.dom2 (R1.cont o1 e1) q1 λz H3 p q3 g ov=>k z H3 p ρ1 q3 (f1.trans g.fr) ((ov.out R1 g).h0 λb z=>f1.dm b z)
  .exact q1.elim
inductive FC (K:b_) (O:Addr->Prop) (H:Hp):List V->List D->Prop
 | nil:FC K O H [] []
 | cons {x:V}{d:D}{xs:List V}{ds:List D}:FVc K O H x d->FC K O H xs ds->FC K O H (x::xs) (d::ds)
noncomputable def conts(ρ:PSt):List AV->Option (List D)
 | []=>some []
 | a::r=>match cont ρ a,conts ρ r with
  | some d,some ds=>some (d::ds)
  | _,_=>none
theorem Rel.conts(R:Rel K A ρ σ H):∀{as:List AV}{vs:List V}{ds:List D},Ek K (OO A ρ σ) σ H as vs->L2.conts ρ as=some ds->FC K (OO A ρ σ) H vs ds
 | _,_,_,.nil,e=>by cases e;exact .nil
 | _,_,_,.cons a b,e=>by
  unfold L2.conts at e
  split at e
  .rename_i e1 e2;cases e;exact .cons (R.cont a e1) (R.conts b e2)
  .cases e
noncomputable def LC(K:b_)(r:List V->Hp->VK->Prop)(f:List D->(PV->Prop)->Prop):Prop:=∀(O:Addr->Prop) (H:Hp) (xs:List V) (as:List D) (Q:PV->Prop) (Q':VK),(∀b,O b->H b≠none)->FC K O H xs as->f as Q ->
 (∀v H' p,Q p->Gr H H'->uY K O H H' p v->Q' v H')->r xs H Q'
noncomputable def opN(f:List D->(PV->Prop)->Prop)(ρ:PSt)(as:List AV)(Q:PKt):Prop:=match conts ρ as with
 | some ds=>f ds λp=>Q p ρ
 | _=>False
noncomputable def pCB(f:List D->(PV->Prop)->Prop)(pr:PTA):PTE:=λρ Q=>pr ρ λas ρ1=>opN f ρ1 as Q
def aR{r:List V->Hp->VK->Prop}{f:List D->(PV->Prop)->Prop}(o:LC K r f)(ha:LAs K tr pr):LE K (tCB r tr) (pCB f pr):=λA ρ σ H Q Q' R q k =>
 ha A ρ σ H _ _ R q λvs H1 as ρ1 q1 f1 R1 o1=>by
  unfold opN at q1
  split at q1
  .rename_i ds e1;exact o _ H1 vs ds _ _ R1.dom2 (R1.conts o1 e1) q1 λz H3 p q3 g ov=>k z H3 p ρ1 q3 (f1.trans g.fr) ((ov.out R1 g).h0 λb z=>f1.dm b z)
  .exact q1.elim
noncomputable def avD:List AV->Option (List D)
 | []=>some []
 | .v d::r=>match avD r with|some ds=>some (d::ds)|none=>none
 | .sl _::_=>none
theorem Ek.avD:∀{as:List AV}{vs:List V}{ds:List D},Ek K O σ H as vs->L2.avD as=some ds->FVs K O H vs ds
 | _,_,_,.nil,e=>by cases e;exact .nil
 | .v d::r,_,_,.cons a b,e=>by
  simp only [L2.avD] at e
  split at e
  .rename_i e1;cases e;exact .cons a (b.avD e1)
  .cases e
 | .sl i::r,_,_,.cons a b,e=>by cases e
noncomputable def Le(pr:PTA):PTE:=λρ Q=>pr ρ λas ρ1=>match avD as with
 | some ds=>ds.length<=1000000/\Q (.own ds) ρ1
 | _=>False
noncomputable def KA(pr:PTA):PTE:=λρ Q=>pr ρ λas ρ1=>match avD as with
 | some ds=>ds.length<=1000000/\Q (.dat (.tup ds)) ρ1
 | _=>False
def fq(ha:LAs K tr pr):LE K (Jf tr) (Le pr):=λA ρ σ H Q Q' R q k =>
 ha A ρ σ H _ _ R q λvs H1 as ρ1 q1 f1 R1 o1=>by
  split at q1
  .rename_i ds e1;have fs:=o1.avD e1;refine⟨sz _ (by rw [fs.length];exact q1.1),λp hp=>k _ _ (.own ds) ρ1 q1.2 (f1.trans (Fr.new hp)) ?_⟩;have g:Gr H1 (upd H1 p (.lst vs)):=Gr.new hp;exact (uY.out (p:=.own ds) R1 g ⟨p,vs,rfl,hp,aY,fs.keeps (aL.fresh hp)⟩).h0 λb z=>f1.dm b z
  .exact q1.elim
def dC(ha:LAs K tr pr):LE K (sk tr) (KA pr):=λA ρ σ H Q Q' R q k =>
 ha A ρ σ H _ _ R q λvs H1 as ρ1 q1 f1 R1 o1=>by
  split at q1
  .rename_i ds e1;have fs:=o1.avD e1;refine⟨sz _ (by rw [fs.length];exact q1.1),λp hp=>k _ _ (.dat (.tup ds)) ρ1 q1.2 (f1.trans (Fr.new hp)) ⟨R1.grow hp,?_⟩⟩;exact .tup (R1.oo hp) aY (fs.keeps (Fr.new hp).keeps)
  .exact q1.elim
noncomputable def pB(pe:PTE):PTT:=λρ Q=>pe ρ λp ρ1=>match p with
 | .dat (.bl b)=>Q b ρ1
 | _=>False
def qS(h:LE K ta pe):LT K (tB ta) (pB pe):=λA ρ σ H Q Q' R q k=>h A ρ σ H _ _ R q λv H1 p ρ1 q1 f1 o1=>by
 split at q1
 .rename_i b;obtain⟨R1,f⟩:=o1;cases f;exact⟨b,rfl,k b H1 ρ1 q1 f1 R1⟩
 .exact q1.elim
def fe(h:LE K ta pe):LT K (qG ta) (pB pe):=qS h
noncomputable def Lf(a b:PTT):PTT:=λρ Q=>a ρ λc ρ1=>io c (b ρ1 Q) (Q false ρ1)
noncomputable def pOr(a b:PTT):PTT:=λρ Q=>a ρ λc ρ1=>io c (Q true ρ1) (b ρ1 Q)
noncomputable def Ju(a:PTT):PTT:=λρ Q=>a ρ λc ρ1=>Q (!c) ρ1
variable {tta ttb:TT}{pta ptb:PTT}
def sU(ha:LT K tta pta)(hb:LT K ttb ptb):LT K (Kh tta ttb) (Lf pta ptb):=λA ρ σ H Q Q' R q k=>ha A ρ σ H _ _ R q λc H1 ρ1 q1 f1 R1=>by
 cases c with
 | true=>exact hb A ρ1 σ H1 _ _ R1 q1 λb H2 ρ2 q2 f2 R2=>k b H2 ρ2 q2 (f1.trans f2) R2
 | false=>exact k false H1 ρ1 q1 f1 R1
def nE(ha:LT K tta pta)(hb:LT K ttb ptb):LT K (tOr tta ttb) (pOr pta ptb):=λA ρ σ H Q Q' R q k=>ha A ρ σ H _ _ R q λc H1 ρ1 q1 f1 R1=>by
 cases c with
 | false=>exact hb A ρ1 σ H1 _ _ R1 q1 λb H2 ρ2 q2 f2 R2=>k b H2 ρ2 q2 (f1.trans f2) R2
 | true=>exact k true H1 ρ1 q1 f1 R1
def fW(ha:LT K tta pta):LT K (IW tta) (Ju pta):=λA ρ σ H Q Q' R q k=>ha A ρ σ H _ _ R q λc H1 ρ1 q1 f1 R1=>k _ H1 ρ1 q1 f1 R1
noncomputable def Jv(a b:PTE):PTE:=λρ Q=>a ρ λp ρ1=>match p with
 | .dat (.bl c)=>io c (b ρ1 Q) (Q (.dat (.bl false)) ρ1)
 | _=>False
noncomputable def Lg(a b:PTE):PTE:=λρ Q=>a ρ λp ρ1=>match p with
 | .dat (.bl c)=>io c (Q (.dat (.bl true)) ρ1) (b ρ1 Q)
 | _=>False
noncomputable def Jw(a:PTE):PTE:=λρ Q=>a ρ λp ρ1=>match p with
 | .dat (.bl c)=>Q (.dat (.bl (!c))) ρ1
 | _=>False
variable {pe':PTE}
def hG(ha:LE K ta pe)(hb:LE K tb pe'):LE K (DJ ta tb) (Jv pe pe'):=λA ρ σ H Q Q' R q k=>ha A ρ σ H _ _ R q λv H1 p ρ1 q1 f1 o1=>by
 split at q1
 .rename_i c;obtain⟨R1,f⟩:=o1;cases f;refine⟨c,rfl,?_⟩
  cases c with
  | true=>exact hb A ρ1 σ H1 _ _ R1 q1 λb H2 p2 ρ2 q2 f2 o2=>k b H2 p2 ρ2 q2 (f1.trans f2) (o2.h0 λb z=>f1.dm b z)
  | false=>exact k _ H1 _ ρ1 q1 f1 ⟨R1,.bl false⟩
 .exact q1.elim
def G1(ha:LE K ta pe)(hb:LE K tb pe'):LE K (Ki ta tb) (Lg pe pe'):=λA ρ σ H Q Q' R q k=>ha A ρ σ H _ _ R q λv H1 p ρ1 q1 f1 o1=>by
 split at q1
 .rename_i c;obtain⟨R1,f⟩:=o1;cases f;refine⟨c,rfl,?_⟩
  cases c with
  | false=>exact hb A ρ1 σ H1 _ _ R1 q1 λb H2 p2 ρ2 q2 f2 o2=>k b H2 p2 ρ2 q2 (f1.trans f2) (o2.h0 λb z=>f1.dm b z)
  | true=>exact k _ H1 _ ρ1 q1 f1 ⟨R1,.bl true⟩
 .exact q1.elim
def zO(ha:LE K ta pe):LE K (Gc ta) (Jw pe):=λA ρ σ H Q Q' R q k=>ha A ρ σ H _ _ R q λv H1 p ρ1 q1 f1 o1=>by
 split at q1
 .rename_i c;obtain⟨R1,f⟩:=o1;cases f;exact⟨c,rfl,k _ H1 _ ρ1 q1 f1 ⟨R1,.bl (!c)⟩⟩
 .exact q1.elim
noncomputable def pIf(t:PTT)(a b:PTE):PTE:=λρ Q=>t ρ λc ρ1=>io c (a ρ1 Q) (b ρ1 Q)
def El(ht:LT K tta pta)(ha:LE K ta pe)(hb:LE K tb pe'):LE K (tIf tta ta tb) (pIf pta pe pe'):=λA ρ σ H Q Q' R q k=>ht A ρ σ H _ _ R q λc H1 ρ1 q1 f1 R1=>by
 cases c with
 | true=>exact ha A ρ1 σ H1 _ _ R1 q1 λb H2 p2 ρ2 q2 f2 o2=>k b H2 p2 ρ2 q2 (f1.trans f2) (o2.h0 λb z=>f1.dm b z)
 | false=>exact hb A ρ1 σ H1 _ _ R1 q1 λb H2 p2 ρ2 q2 f2 o2=>k b H2 p2 ρ2 q2 (f1.trans f2) (o2.h0 λb z=>f1.dm b z)
abbrev F2:=D->D->(PV->Prop)->Prop
noncomputable def fI0(g:Int->Int->D):F2
 | .int i,.int j,Q=>Q (.dat (g i j))
 | _,_,_=>False
noncomputable def fI(C:Int->Int->Prop)(g:Int->Int->D):F2
 | .int i,.int j,Q=>C i j/\Q (.dat (g i j))
 | _,_,_=>False
def BW{g:Int->Int->V}{g':Int->Int->D}(h:∀i j O H,FV K O H (g i j) (g' i j)):LO K (rI0 g) (fI0 g'):=by
 intro O H x y a b Q Q' dom fx fy q k;unfold fI0 at q
 split at q
 .rename_i i j;exact⟨i,j,fx.int,fy.int,k _ H _ q (Gr.refl _) (h i j _ _)⟩
 .exact q.elim
def IM{C:Int->Int->Prop}{g:Int->Int->V}{g':Int->Int->D}(h:∀i j O H,FV K O H (g i j) (g' i j)):LO K (rI C g) (fI C g'):=by
 intro O H x y a b Q Q' dom fx fy q k;unfold fI at q
 split at q
 .rename_i i j;exact⟨i,j,fx.int,fy.int,q.1,k _ H _ q.2 (Gr.refl _) (h i j _ _)⟩
 .exact q.elim
def dF{p:Addr}(hp:H p=none)(f:FVs K O H xs ds):uY K O H (upd H p (.lst xs)) (.own ds) (.ref p) :=
 ⟨p,xs,rfl,hp,aY,f.keeps (aL.fresh hp)⟩
def nF{p:Addr}(dom:∀b,O b->H b≠none)(hp:H p=none)(f:FVs K O H xs ds):uY K O H (upd H p (.tup xs)) (.dat (.tup ds)) (.ref p) :=
 .tup (λz=>dom p z hp) aY (f.keeps λb o n e=>⟨n,by rw [aI (bf e hp)];exact e⟩)
noncomputable def Jx:R2:=λx y H Q=>∃i j,x=.str (S i)/\y=.str (S j)/\i.length+j.length<=sizeLine/\Q (.str (S (i++j))) H
noncomputable def Em(K:b_):R2:=λx y H Q=>rI0 (λi j=>.int (i+j)) x y H Q\/Jx x y H Q\/GU K x y H Q\/Gv K x y H Q
def Jy(K:b_)(e:X.K=K):OpR X (binaryOp .Add) (Em K):=by
 subst e;exact OpR.or Gi (OpR.or D7 (OpR.or Ed DY))
noncomputable def Jz:F2
 | .int i,.int j,Q=>Q (.dat (.int (i+j)))
 | .str a,.str b,Q=>a.length+b.length<=1000000/\Q (.dat (.str (a++b)))
 | .lst a,.lst b,Q=>a.length+b.length<=1000000/\Q (.own (a++b))
 | .scr a,.lst b,Q=>a.length+b.length<=1000000/\Q (.own (a.map .int++b))
 | .tup a,.tup b,Q=>a≠[]/\a.length+b.length<=1000000/\Q (.dat (.tup (a++b)))
 | _,_,_=>False
def CK:LO K (Em K) Jz:=by
 intro O H x y a b Q Q' dom fx fy q k;unfold Jz at q
 split at q
 .rename_i i j;exact .inl ⟨i,j,fx.int,fy.int,k _ H _ q (Gr.refl _) (.int _)⟩
 .rename_i i j;exact .inr (.inl ⟨i,j,fx.str.1,fy.str.1,sz _ q.1,k _ H _ q.2 (Gr.refl _) (.str _ (by rw [length_append];exact q.1))⟩)
 .rename_i i j;obtain⟨a,xs,rfl,e1,f1⟩:=fx.lst;obtain⟨b,ys,rfl,e2,f2⟩:=fy.lst;exact .inr (.inr (.inl ⟨a,b,xs,ys,rfl,rfl,SqL.of e1,SqL.of e2,sz _ (by rw [f1.length,f2.length];exact q.1),λp hp=>k _ _ _ q.2 (Gr.new hp) (dF hp (f1.append f2))⟩))
 .rename_i i j;obtain⟨a,rfl,e1⟩:=fx.scr;obtain⟨b,ys,rfl,e2,f2⟩:=fy.lst;exact .inr (.inr (.inl ⟨a,b,_,ys,rfl,rfl,e1,SqL.of e2,sz _ (by rw [length_map,f2.length];exact q.1),λp hp=>k _ _ _ q.2 (Gr.new hp) (dF hp ((FVs.of_ints i).append f2))⟩))
 .rename_i i j;obtain⟨a,xs,rfl,n1,e1,f1⟩:=fx.tup;obtain⟨b,ys,rfl,n2,e2,f2⟩:=fy.tup;have l1:=f1.length;have l2:=f2.length
  refine .inr (.inr (.inr ⟨a,b,xs,ys,rfl,rfl,SqT.of e1,SqT.of e2,λz=>q.1 ?_,sz _ (by rw [l1,l2];exact q.2.1),λz=>?_,λ_ p hp=>k _ _ _ q.2.2 (Gr.new hp) (nF dom hp (f1.append f2))⟩))
  .exact Mh.mp (by rw [<- l1,z];rfl)
  .have:j=[]:=Mh.mp (by rw [<- l2,z];rfl);subst this;exact k _ H _ q.2.2 (Gr.refl _) (by rw [LA];exact .tup n1 e1 f1)
 .exact q.elim
def kh:LO K (rI0 λi j=>.int (i - j)) (fI0 λi j=>.int (i - j)):=BW λ_ _ _ _=>.int _
def qa:LO K (rI (λ_ j=>0<j) λi j=>.int (i % j)) (fI (λ_ j=>0<j) λi j=>.int (i % j)):=IM λ_ _ _ _=>.int _
def gC:LO K (rI IZ λi j=>.int (i / j)) (fI (λ_ j=>0<j/\j<1073741824) λi j=>.int (i / j)):=IM λ_ _ _ _=>.int _
noncomputable def JA:R2:=λx y H Q=>∃l n,x=.str (S l)/\y=.int n/\-1000000<=n/\n<=1000000/\n.toNat*l.length<=sizeLine/\Q (.str (S (wS l n))) H
noncomputable def qT:R2:=λx y H Q=>rI IE (λi j=>.int (i*j)) x y H Q\/JA x y H Q\/Kx x y H Q
def kY:OpR X (binaryOp .Mult) qT:=OpR.or Gk (OpR.or xV GB)
noncomputable def KB:F2
 | .int i,.int j,Q=>((-(2^64)<i/\i<2^64)\/(-(2^64)<j/\j<2^64))/\Q (.dat (.int (i*j)))
 | .str a,.int n,Q=>(-1000000<=n/\n<=1000000/\n.toNat*a.length<=1000000)/\Q (.dat (.str (wS a n)))
 | .lst a,.int n,Q=>(-1000000<=n/\n<=1000000/\a.length*n.toNat<=1000000)/\Q (.own (wS a n))
 | _,_,_=>False
theorem FVs.rep(f:FVs K O H xs ds):∀n,FVs K O H (u1 n xs).flatten (u1 n ds).flatten
 | 0=>.nil
 | n+1=>by rw [replicate_succ,replicate_succ,flatten_cons,flatten_cons];exact f.append (f.rep n)
def fX:LO K qT KB:=by
 intro O H x y a b Q Q' dom fx fy q k;unfold KB at q
 split at q
 .rename_i i j;exact .inl ⟨i,j,fx.int,fy.int,q.1,k _ H _ q.2 (Gr.refl _) (.int _)⟩
 .rename_i i j;exact .inr (.inl ⟨i,j,fx.str.1,fy.int,q.1.1,q.1.2.1,sz _ q.1.2.2,k _ H _ q.2 (Gr.refl _) (.str _ (by rw [jt];exact q.1.2.2))⟩)
 .rename_i i j;obtain⟨a,xs,rfl,e1,f1⟩:=fx.lst;exact .inr (.inr ⟨a,j,xs,rfl,fy.int,e1,by omega,by omega,sz _ (by rw [f1.length];exact q.1.2.2),λp hp=>k _ _ _ q.2 (Gr.new hp) (dF hp (f1.rep _))⟩)
 .exact q.elim
noncomputable def KC:R2:=λx y H Q=>rI0 (λi j=>.bl (decide (i<j))) x y H Q\/∃i j,x=.str i/\y=.str j/\Q (.bl (decide (i.cps.toList<j.cps.toList))) H
noncomputable def IN:R2:=λx y H Q=>rI0 (λi j=>.bl (decide (i<=j))) x y H Q\/∃i j,x=.str i/\y=.str j/\Q (.bl (!decide (j.cps.toList<i.cps.toList))) H
def JB:OpR X (compareOp .Lt) KC:=OpR.or Jb yZ
def CL:OpR X (compareOp .LtE) IN:=OpR.or Jc zr
noncomputable def fLt:F2
 | .int i,.int j,Q=>Q (.dat (.bl (decide (i<j))))
 | .str i,.str j,Q=>Q (.dat (.bl (decide (i<j))))
 | _,_,_=>False
noncomputable def fLe:F2
 | .int i,.int j,Q=>Q (.dat (.bl (decide (i<=j))))
 | .str i,.str j,Q=>Q (.dat (.bl (!decide (j<i))))
 | _,_,_=>False
def En:LO K KC fLt:=by
 intro O H x y a b Q Q' dom fx fy q k;unfold fLt at q
 split at q
 .rename_i i j;exact .inl ⟨i,j,fx.int,fy.int,k _ H _ q (Gr.refl _) (.bl _)⟩
 .rename_i i j;exact .inr ⟨_,_,fx.str.1,fy.str.1,k _ H _ q (Gr.refl _) (.bl _)⟩
 .exact q.elim
def sV:LO K IN fLe:=by
 intro O H x y a b Q Q' dom fx fy q k;unfold fLe at q
 split at q
 .rename_i i j;exact .inl ⟨i,j,fx.int,fy.int,k _ H _ q (Gr.refl _) (.bl _)⟩
 .rename_i i j;exact .inr ⟨_,_,fx.str.1,fy.str.1,k _ H _ q (Gr.refl _) (.bl _)⟩
 .exact q.elim
def nG:LO K (rI0 λi j=>.bl (decide (j<i))) (fI0 λi j=>.bl (decide (j<i))):=BW λ_ _ _ _=>.bl _
def x5:LO K (rI0 λi j=>.bl (decide (j<=i))) (fI0 λi j=>.bl (decide (j<=i))):=BW λ_ _ _ _=>.bl _
mutual
noncomputable def D.py:D->Nr
 | .non=>.none|.bl b=>.bool b|.int i=>.int i|.str l=>.str (S l)|.ty _=>.none
 | .lst ds=>.list (D.pys ds)|.tup ds=>.tuple (D.pys ds)|.scr ns=>.list (ns.map .int)|.dic _ _=>.none|.fdc _ _=>.none|.obj _ _ _=>.none|.exc _ _ _=>.none
noncomputable def D.pys:List D->List Nr
 | []=>[]
 | d::r=>d.py::D.pys r
end
mutual
noncomputable def D.plain:D->Bool
 | .non=>true|.bl _=>true|.int _=>true|.str _=>true|.ty _=>false
 | .lst ds=>D.plains ds|.tup ds=>D.plains ds|.scr _=>true|.dic _ _=>false|.fdc _ _=>false|.obj _ _ _=>false|.exc _ _ _=>false
noncomputable def D.plains:List D->Bool
 | []=>true
 | d::r=>d.plain && D.plains r
end
mutual
theorem FV.dv{O:Addr->Prop}{H:Hp}:∀{v:V}{d:D},FV K O H v d->d.plain=true->DV K H v d.py
 | _,_,.non,_=>.non
 | _,_,.bl b,_=>.bl b
 | _,_,.int i,_=>.int i
 | _,_,.str l h,_=>.str (S l)
 | _,_,.ty n,p=>nomatch p
 | _,_,.scr s,_=>.lst s.sq (DVs.ints _)
 | _,_,.lst n e f,p=>.lst (SqL.of e) (FVs.dvs f p)
 | _,_,.tup n e f,p=>.tup (SqT.of e) (FVs.dvs f p)
 | _,_,.dic _ _ _ _,p=>nomatch p
 | _,_,.fdc _ _ _ _,p=>nomatch p
 | _,_,.obj _ _ _ _,p=>nomatch p
 | _,_,.exc0 _ _,p=>nomatch p
 | _,_,.exc1 _ _ _ _ _ _,p=>nomatch p
theorem FVs.dvs{O:Addr->Prop}{H:Hp}:∀{vs:List V}{ds:List D},FVs K O H vs ds->D.plains ds=true->DVs K H vs (D.pys ds)
 | _,_,.nil,_=>.nil
 | _,_,.cons a b,p=>by
  have p:(_ && _)=true:=p;rw [and_eq_true] at p;exact .cons (FV.dv a p.1) (FVs.dvs b p.2)
end
def FVc.dv{d:D}(h:FVc K O H v d)(p:d.plain=true):DV K H v d.py:=by
 rcases h with h|⟨a,xs,ds',rfl,rfl,e3,f⟩|⟨a,dx,c,fs,ns,ds',e1,rfl,_⟩|⟨a,kvs,ks,ds',e1,rfl,_⟩
 .exact h.dv p
 .exact .lst (SqL.of e3) (f.dvs p)
 .cases p
 .cases p
noncomputable def G2(K:b_)(neg:Bool):R2:=λx y H Q=>rI0 (λi j=>.bl (if neg then !decide (i=j) else decide (i=j))) x y H Q\/(∃i j,x=.str (S i)/\y=.str (S j)/\Q (.bl (if neg then !decide (i=j) else decide (i=j))) H)\/Jj K neg x y H Q
def Lh(K:b_)(e:X.K=K)(hu:X.A.units+64<cLine):OpR X (compareOp .Eq) (G2 K false):=by
 subst e;exact OpR.or GN (OpR.or GL (GI hu))
def Li(K:b_)(e:X.K=K)(hu:X.A.units+64<cLine):OpR X (compareOp .NotEq) (G2 K true):=by
 subst e;exact OpR.or GO (OpR.or GM (GJ hu))
noncomputable def w4(a b:D):Prop:=a.plain=true/\b.plain=true/\L_ a.py=true/\L_ b.py=true
def deq(a b:D):Bool:=M_ a.py b.py
noncomputable def fEq:F2
 | .int i,.int j,Q=>Q (.dat (.bl (decide (i=j))))
 | .str i,.str j,Q=>Q (.dat (.bl (decide (i=j))))
 | a,b,Q=>w4 a b/\Q (.dat (.bl (deq a b)))
noncomputable def fNe:F2
 | .int i,.int j,Q=>Q (.dat (.bl (!decide (i=j))))
 | .str i,.str j,Q=>Q (.dat (.bl (!decide (i=j))))
 | a,b,Q=>w4 a b/\Q (.dat (.bl (!deq a b)))
def JC:LO K (G2 K false) fEq:=by
 intro O H x y a b Q Q' dom fx fy q k;unfold fEq at q
 split at q
 .rename_i i j;exact .inl ⟨i,j,fx.int,fy.int,k _ H _ q (Gr.refl _) (.bl _)⟩
 .rename_i i j;exact .inr (.inl ⟨i,j,fx.str.1,fy.str.1,k _ H _ q (Gr.refl _) (.bl _)⟩)
 .exact .inr (.inr ⟨_,_,fx.dv q.1.1,fy.dv q.1.2.1,q.1.2.2.1,q.1.2.2.2,k _ H _ q.2 (Gr.refl _) (.bl _)⟩)
def JD:LO K (G2 K true) fNe:=by
 intro O H x y a b Q Q' dom fx fy q k;unfold fNe at q
 split at q
 .rename_i i j;exact .inl ⟨i,j,fx.int,fy.int,k _ H _ q (Gr.refl _) (.bl _)⟩
 .rename_i i j;exact .inr (.inl ⟨i,j,fx.str.1,fy.str.1,k _ H _ q (Gr.refl _) (.bl _)⟩)
 .exact .inr (.inr ⟨_,_,fx.dv q.1.1,fy.dv q.1.2.1,q.1.2.2.1,q.1.2.2.2,k _ H _ q.2 (Gr.refl _) (.bl _)⟩)
noncomputable def D.fl:D->Bool
 | .non=>true|.bl _=>true|.int _=>true|.str _=>true
 | _=>false
noncomputable def eqF:D->D->Bool
 | .non,.non=>true
 | .bl a,.bl b=>a == b
 | .bl a,.int b=>(if a then 1 else 0) == b
 | .int a,.bl b=>a == (if b then 1 else 0)
 | .int a,.int b=>a == b
 | .str a,.str b=>a == b
 | _,_=>false
noncomputable def inD(x:D)(xs:List D):Bool:=xs.any λy=>eqF y x
def FV.fl{d:D}(h:FV K O H v d)(f:d.fl=true):pz v=true:=by cases h <;> first|rfl|cases f
def G3(a b:List Nat):(S a == S b)=(a == b):=by
 by_cases h:a=b
 .subst h;rw [beq_self_eq_true,beq_self_eq_true]
 .rw [beq_eq_false_iff_ne.mpr h,beq_eq_false_iff_ne.mpr (Lb h)]
def FV.eqF{w:V}{d e:D}(h:FV K O H v d)(f:d.fl=true)(h':FV K O H w e)(f':e.fl=true):eqV v w=L2.eqF d e:=by
 cases h <;> first|(cases f;done)|(cases h' <;> first|(cases f';done)|rfl|exact G3 _ _)
theorem FVs.inD{d:D}(h:FV K O H v d)(f:d.fl=true):∀{xs:List V}{ds:List D},FVs K O H xs ds->ds.all D.fl=true->xs.all pz=true/\inV v xs=L2.inD d ds
 | _,_,.nil,_=>⟨rfl,rfl⟩
 | _,_,.cons a b,g=>by
  rw [all_cons,and_eq_true] at g;obtain⟨i1,i2⟩:=b.inD h f g.2;refine⟨by rw [all_cons,a.fl g.1,i1];rfl,?_⟩;unfold inV L2.inD at i2 ⊢;rw [any_cons,any_cons,i2,a.eqF g.1 h f]
noncomputable def fIn(neg:Bool):F2
 | a,.lst ds,Q=>(a.fl=true/\ds.all D.fl=true)/\Q (.dat (.bl (if neg then !inD a ds else inD a ds)))
 | a,.tup ds,Q=>(a.fl=true/\ds.all D.fl=true)/\Q (.dat (.bl (if neg then !inD a ds else inD a ds)))
 | _,_,_=>False
def FVc.fl{d:D}(h:FVc K O H v d)(f:d.fl=true):FV K O H v d:=h.fv (λ_ z=>by rw [z] at f;cases f) (λ_ _ _ z=>by rw [z] at f;cases f) (λ_ _ z=>by rw [z] at f;cases f)
def Lj(K:b_)(e:X.K=K):OpR X (compareOp .In) (rIn K false):=by subst e;exact zf
def Ep(K:b_)(e:X.K=K):OpR X (compareOp .NotIn) (rIn K true):=by subst e;exact sC
def G4{neg:Bool}:LO K (rIn K neg) (fIn neg):=by
 intro O H x y a b Q Q' dom fx fy q k;unfold fIn at q
 split at q
 .obtain⟨p,xs,rfl,e1,f1⟩:=fy.lst;obtain⟨g1,g2⟩:=f1.inD (fx.fl q.1.1) q.1.1 q.1.2;exact⟨p,xs,rfl,.inl (SqL.of e1),(fx.fl q.1.1).fl q.1.1,g1,by rw [g2];exact k _ H _ q.2 (Gr.refl _) (.bl _)⟩
 .obtain⟨p,xs,rfl,n1,e1,f1⟩:=fy.tup;obtain⟨g1,g2⟩:=f1.inD (fx.fl q.1.1) q.1.1 q.1.2;exact⟨p,xs,rfl,.inr (SqT.of e1),(fx.fl q.1.1).fl q.1.1,g1,by rw [g2];exact k _ H _ q.2 (Gr.refl _) (.bl _)⟩
 .exact q.elim
noncomputable def ki(K:b_):R2:=λx y H Q=>Ku K x y H Q\/Kv K x y H Q\/GK x y H Q
def d7(K:b_)(e:X.K=K):IxR X (ki K):=by
 subst e;exact IxR.or D1 (IxR.or Gw D6)
noncomputable def fIx:F2
 | .lst ds,.int i,Q=>∃d,atI ds i=some d/\Q (.dat d)
 | .tup ds,.int i,Q=>∃d,atI ds i=some d/\Q (.dat d)
 | .scr ns,.int i,Q=>∃d,atI ns i=some d/\Q (.dat (.int d))
 | .str l,.int i,Q=>∃c,atI l i=some c/\Q (.dat (.str [c]))
 | _,_,_=>False
variable {vs:List V}
def FVs.atI{i:Int}{d:D}(f:FVs K O H vs ds)(h:L2.atI ds i=some d):∃v,L2.atI vs i=some v/\FV K O H v d:=by
 unfold L2.atI at h ⊢;rw [f.length]
 cases e:ixN ds.length i with
 | none=>rw [e] at h;cases h
 | some j=>rw [e] at h;exact f.getD h
def bA:LO K (ki K) fIx:=by
 intro O H x y a b Q Q' dom fx fy q k;unfold fIx at q
 split at q
 .obtain⟨d,hd,q⟩:=q;obtain⟨p,xs,rfl,e1,f1⟩:=fx.lst;obtain⟨v,hv,fv⟩:=f1.atI hd;exact .inl ⟨p,xs,_,v,rfl,fy.int,SqL.of e1,hv,k _ H _ q (Gr.refl _) fv⟩
 .obtain⟨d,hd,q⟩:=q;obtain⟨p,xs,rfl,n1,e1,f1⟩:=fx.tup;obtain⟨v,hv,fv⟩:=f1.atI hd;exact .inr (.inl ⟨p,xs,_,v,rfl,fy.int,SqT.of e1,hv,k _ H _ q (Gr.refl _) fv⟩)
 .obtain⟨d,hd,q⟩:=q;obtain⟨p,rfl,e1⟩:=fx.scr;exact .inl ⟨p,_,_,_,rfl,fy.int,e1,D8 hd,k _ H _ q (Gr.refl _) (.int d)⟩
 .obtain⟨c,hc,q⟩:=q;exact .inr (.inr ⟨_,_,c,fx.str.1,fy.int,sz _ fx.str.2,hc,k _ H _ q (Gr.refl _) (.str _ (by show 1<=1000000;decide))⟩)
 .exact q.elim
end L2
namespace L2
open PySem PySem.Spec PyProof.Rows _root_.HT
variable {prog:t_}{w:World}{A:C0}{E:Value->c_->Prop}{s:c_}{items:Array Value}{lo hi:Option Int}{Q:Value->c_->Prop}
def kZ{t sl:Addr}{vl vu:Value}(ht:IsTup s.heap t items)(hs:s.heap.IsSliceOf sl vl vu .none)(pl:OH vl lo)(pu:OH vu hi)(hw:sIx items.size 0 lo=0/\sIx items.size items.size hi=items.size)(h:Q (.ref t) s):wpAny (model prog w) A (getItem (.ref t) (.ref sl)) Q E s:=by
 obtain⟨os,hos,hcs,hds⟩:=id hs;have hTs:s.TypeIs (.ref sl) "slice":=⟨os,hos,hcs⟩
 unfold getItem
 try with_reducible refine I_ ?_
 first|refine cn (f_ ?_)|skip
 refine cn (wpAny_sequenceKey ht.typeIs (by decide) ?_)
 refine cn (LK (name:=Mu "__getitem__") ht.typeIs Lx
  (L3 Lx ht.typeIs entry_tuple_getitem ?_ (args_tuple_getitem _ _)))
 show wpAny _ _ (Od (.ref t) >>= _) _ _ s;refine cn (tupleItemsOf_ ht ?_);refine cn (OI hTs ?_);rw [if_pos (by decide)];refine cn (gY hs pl pu ?_)
 have hyes:(((sIx items.size 0 lo:Nat):Int) == 0 && (1:Int) == 1 && (sIx items.size items.size hi - sIx items.size 0 lo) == items.size)=true:=by
  rw [hw.1,hw.2,N2];simp
 show wpAny _ _ (if (((sIx items.size 0 lo:Nat):Int) == 0 && (1:Int) == 1 && (sIx items.size items.size hi - sIx items.size 0 lo) == items.size)=true then _ else _) _ _ s;rw [if_pos hyes];refine cn (m:=Builtin.Tuple.tupleIsExact _) (cn (OI ht.typeIs (f_ ?_)));rw [if_pos (by decide)]
 first
  | exact cn (m:=rule _) (f_ (f_ ⟨_,rfl,f_ h⟩))
  | exact f_ ⟨_,rfl,f_ h⟩
  | exact cn (NO (f_ ⟨_,rfl,f_ h⟩))
noncomputable def G5(K:b_):V->Option Int->Option Int->Hp->VK->Prop:=λx lo hi H Q=>∃a xs,x=.ref a/\SqT K H a xs/\(sIx xs.length 0 lo=0/\sIx xs.length xs.length hi=xs.length)/\Q (.ref a) H
variable {X:Cx}
def Er:SlR X (G5 X.K):=by
 intro pins s σ H x v vl vu lo hi sl Q I rx hs pl pu h;obtain⟨a,xs,rfl,hx,hw,q⟩:=h;cases rx;obtain⟨its,r,ht,hz⟩:=I.tuple hx;have hlen:its.toArray.size=xs.length:=by rw [size_toArray];exact r.length.symm
 refine⟨"tuple",_,Lx.lookup,ht.typeIs,?_⟩;exact kZ ht hs pl pu (by rw [hlen];exact hw) ⟨.ref a,H,I,rfl,q⟩
end L2
namespace L2
open PySem PySem.Spec PyProof.Rows
variable {pa pb pc:PA1}
noncomputable def zP(f f':F2)(pa pb pc:PA1):PTE:=λρ Q=>pa ρ λx ρ1=>pb ρ1 λy ρ2=>op2 f ρ2 x y λp ρ3=>match p with
 | .dat (.bl k)=>io k (pc ρ3 λz ρ4=>op2 f' ρ4 y z Q) (Q (.dat (.bl false)) ρ3)
 | _=>False
variable {K:b_}{ta tb tc:TE}{r r':R2}
def qU{f f':F2}(o:LO K r f)(o':LO K r' f')(ha:LA1 K ta pa)(hb:LA1 K tb pb)(hc:LA1 K tc pc):LE K (wM r r' ta tb tc) (zP f f' pa pb pc):=λA ρ σ H Q Q' R q k =>
 ha A ρ σ H _ _ R q λv H1 a ρ1 q1 f1 R1 o1=>hb A ρ1 σ H1 _ _ R1 q1 λw H2 b ρ2 q2 f2 R2 o2=>by
  unfold op2 at q2
  split at q2
  .rename_i da db e1 e2;refine o _ H2 v w da db _ _ R2.dom2 (R2.cont (o1.keeps f2.keeps) e1) (R2.cont o2 e2) q2 λz H3 p q3 g ov=>?_;dsimp only at q3
   split at q3
   .rename_i c;cases ov;refine⟨c,rfl,?_⟩;have R3:=R2.gr g
    cases c with
    | true =>
     refine hc A ρ2 σ H3 _ _ R3 q3 λu H4 cc ρ4 q4 f4 R4 o4=>?_
     try unfold op2 at q4
     split at q4
     .rename_i dc dd e3 e4;have o2':AOk K (OO A ρ4 σ) σ H4 b w:=(o2.keeps (g.fr (ρ:=ρ2) (σ:=σ)).keeps).keeps f4.keeps;exact o' _ H4 w u _ _ _ _ R4.dom2 (R4.cont o2' e3) (R4.cont o4 e4) q4 λz H5 p q5 g5 ov=>k z H5 p ρ4 q5 ((((f1.trans f2).trans g.fr).trans f4).trans g5.fr) ((ov.out R4 g5).h0 λb z=>f4.dm b ((g.fr (ρ:=ρ2) (σ:=σ)).dm b (f2.dm b (f1.dm b z))))
     .exact q4.elim
    | false=>exact k _ H3 _ ρ2 q3 ((f1.trans f2).trans g.fr) ⟨R3,.bl false⟩
   .exact q3.elim
  .exact q2.elim
abbrev PTO:=PSt->(Option Int->PSt->Prop)->Prop
noncomputable def LPo(K:b_)(t:TO)(p:PTO):Prop:=∀(A:Addr->Prop) (ρ:PSt) (σ:St) (H:Hp) (Q:Option Int->PSt->Prop) (Q':Option Int->Hp->Prop),Rel K A ρ σ H->p ρ Q ->
 (∀b H' ρ',Q b ρ'->Fr ρ σ H ρ' H'->Rel K A ρ' σ H'->Q' b H')->t σ H Q'
def G6:PTO:=λρ Q=>Q none ρ
variable {pe:PTE}
noncomputable def G7(pe:PTE):PTO:=λρ Q=>pe ρ λp ρ1=>match p with
 | .dat (.int i)=>Q (some i) ρ1
 | _=>False
def bv:LPo K ng G6:=λA ρ σ H Q Q' R q k=>k none H ρ q (Fr.refl _ _ _) R
def bh(h:LE K ta pe):LPo K (ze ta) (G7 pe):=λA ρ σ H Q Q' R q k=>h A ρ σ H _ _ R q λv H1 p ρ1 q1 f1 o1=>by
 split at q1
 .rename_i i;obtain⟨R1,f⟩:=o1;cases f;exact⟨i,rfl,k _ H1 ρ1 q1 f1 R1⟩
 .exact q1.elim
noncomputable def FD(K:b_):V->Option Int->Option Int->Hp->VK->Prop:=λx lo hi H Q=>Kw K x lo hi H Q\/Ky x lo hi H Q\/Kt K x lo hi H Q\/G5 K x lo hi H Q
variable {X:Cx}
def pd(K:b_)(e:X.K=K):SlR X (FD K):=by
 subst e;exact SlR.or D2 (SlR.or GG (SlR.or Gu Er))
noncomputable def fSl:D->Option Int->Option Int->(PV->Prop)->Prop
 | .lst ds,lo,hi,Q=>Q (.own (eA ds lo hi))
 | .scr ns,lo,hi,Q=>Q (.own ((eA ns lo hi).map .int))
 | .str l,lo,hi,Q=>Q (.dat (.str (eA l lo hi)))
 | .tup ds,lo,hi,Q=>Q (.dat (.tup (eA ds lo hi)))
 | _,_,_,_=>False
variable {O:Addr->Prop}{H:Hp}{xs:List V}{ds:List D}
def FVs.cut(f:FVs K O H xs ds)(lo hi:Option Int):FVs K O H (eA xs lo hi) (eA ds lo hi):=by
 unfold eA;rw [f.length];exact (f.drop _).take _
noncomputable def G8(pa:PA1)(pl ph:PTO):PTE:=λρ Q=>pa ρ λx ρ1=>pl ρ1 λlo ρ2=>ph ρ2 λhi ρ3=>match cont ρ3 x with
 | some d=>fSl d lo hi λp=>Q p ρ3
 | _=>False
variable {α:Type}{lo hi:Option Int}{n:Nat}
def Es{ds:List α}(h:n=ds.length)(hw:HT.sIx n 0 lo=0/\HT.sIx n n hi=n):eA ds lo hi=ds:=by
 subst h;unfold eA;rw [hw.1,hw.2,drop_zero,N2,take_length]
def lsl{x:V}{d:D}{Q:PV->Prop}{Q':VK}(dom:∀b,O b->H b≠none)(fx:FVc K O H x d)(q:fSl d lo hi Q)(k:∀v H' p,Q p->Gr H H'->uY K O H H' p v->Q' v H'):FD K x lo hi H Q':=by
 unfold fSl at q
 split at q
 .obtain⟨a,xs,rfl,e1,f1⟩:=fx.lst;exact .inl ⟨a,xs,rfl,SqL.of e1,λp hp=>k _ _ _ q (Gr.new hp) (dF hp (f1.cut _ _))⟩
 .obtain⟨a,rfl,e1⟩:=fx.scr;exact .inl ⟨a,_,rfl,e1,λp hp=>k _ _ _ q (Gr.new hp) (dF hp (by rw [zn,BI];exact FVs.of_ints _))⟩
 .exact .inr (.inl ⟨_,fx.str.1,sz _ fx.str.2,k _ H _ q (Gr.refl _) (.str _ (s_ (bu _ _ _) fx.str.2))⟩)
 .obtain⟨a,xs,rfl,n1,e1,f1⟩:=fx.tup
  by_cases hw:HT.sIx xs.length 0 lo=0/\HT.sIx xs.length xs.length hi=xs.length
  .refine .inr (.inr (.inr ⟨a,xs,rfl,SqT.of e1,hw,k _ H _ q (Gr.refl _) ?_⟩));rw [Es f1.length hw];exact .tup n1 e1 f1
  .exact .inr (.inr (.inl ⟨a,xs,rfl,SqT.of e1,hw,λp hp=>k _ _ _ q (Gr.new hp) (nF dom hp (f1.cut _ _))⟩))
 .exact q.elim
def bp{tl th:TO}{pl ph:PTO}(ha:LA1 K ta pa)(hl:LPo K tl pl)(hh:LPo K th ph):LE K (tSl (FD K) ta tl th) (G8 pa pl ph):=λA ρ σ H Q Q' R q k =>
 ha A ρ σ H _ _ R q λv H1 a ρ1 q1 f1 R1 o1=>hl A ρ1 σ H1 _ _ R1 q1 λlo H2 ρ2 q2 f2 R2=>hh A ρ2 σ H2 _ _ R2 q2 λhi H3 ρ3 q3 f3 R3=>by
  split at q3
  .rename_i d e1;exact lsl R3.dom2 (R3.cont (o1.keeps (f2.trans f3).keeps) e1) q3 λz H4 p q4 g ov=>k z H4 p ρ3 q4 (((f1.trans f2).trans f3).trans g.fr) ((ov.out R3 g).h0 λb z=>f3.dm b (f2.dm b (f1.dm b z)))
  .exact q3.elim
abbrev FN:=List D->(PV->Prop)->Prop
noncomputable def pA(K:b_):List V->Hp->VK->Prop:=λxs H Q=>(∃l,xs=[.str (S l)]/\l.length<=sizeLine/\Q (.int l.length) H)\/Jp K xs H Q\/Jq K xs H Q\/∃p kvs,xs=[.ref p]/\Rd H p (.dK kvs)/\Q (.int kvs.length) H
def bN(K:b_)(e:X.K=K):bJ X (.builtin "len") (pA K):=by
 subst e;exact bJ.or zw (bJ.or zx (bJ.or zy zF))
noncomputable def FE:FN
 | [.str l],Q=>Q (.dat (.int l.length))
 | [.lst l],Q=>Q (.dat (.int l.length))
 | [.tup l],Q=>Q (.dat (.int l.length))
 | [.scr l],Q=>Q (.dat (.int l.length))
 | [.dic ks _],Q=>Q (.dat (.int ks.length))
 | _,_=>False
def aZ:LC K (pA K) FE:=by
 intro O H xs as Q Q' dom fs q k;unfold FE at q
 split at q
 .cases fs with|cons a b=>cases b;rw [a.str.1];exact .inl ⟨_,rfl,sz _ a.str.2,k _ H _ q (Gr.refl _) (.int _)⟩
 .cases fs with
  | cons a b =>
   cases b;obtain⟨p,ys,rfl,e1,f1⟩:=a.lst;exact .inr (.inl ⟨p,ys,rfl,SqL.of e1,by rw [f1.length];exact k _ H _ q (Gr.refl _) (.int _)⟩)
 .cases fs with
  | cons a b =>
   cases b;obtain⟨p,ys,rfl,n1,e1,f1⟩:=a.tup;exact .inr (.inr (.inl ⟨p,ys,rfl,SqT.of e1,by rw [f1.length];exact k _ H _ q (Gr.refl _) (.int _)⟩))
 .cases fs with
  | cons a b =>
   cases b;obtain⟨p,rfl,e1⟩:=a.scr;exact .inr (.inl ⟨p,_,rfl,e1,by rw [length_map];exact k _ H _ q (Gr.refl _) (.int _)⟩)
 .cases fs with
  | cons a b =>
   cases b;obtain⟨p,kvs,rfl,e,m,f⟩:=a.dic;subst m;exact .inr (.inr (.inr ⟨_,_,rfl,.inl e,k _ H _ q (Gr.refl _) (by rw [length_map];exact .int _)⟩))
 .exact q.elim
inductive Kd where
 | int|bool|str|list|tuple|dict
noncomputable def Kd.nm:Kd->String
 | .int=>"int"|.bool=>"bool"|.str=>"str"|.list=>"list"|.tuple=>"tuple"|.dict=>"dict"
noncomputable def isK:Kd->D->Bool
 | .int,.int _=>true
 | .int,.bl _=>true
 | .bool,.bl _=>true
 | .str,.str _=>true
 | .list,.lst _=>true
 | .tuple,.tup _=>true
 | .dict,.dic _ _=>true
 | _,_=>false
noncomputable def D.sort:D->Bool
 | .obj _ _ _=>false
 | .exc _ _ _=>false
 | .fdc _ _=>false
 | .scr _=>false
 | .ty _=>false
 | _=>true
variable {v:V}
def FVc.ty{d:D}(h:FVc K O H v d)(s:d.sort=true):∃t,sj K H v t/\∀k:Kd,MC K t (.type k.nm)=some (isK k d):=by
 rcases h with h|⟨a,xs,ds',rfl,rfl,e3,f⟩|⟨a,dx,c,fs,ns,ds',rfl,rfl,_⟩|⟨a,kvs,ks,ds',rfl,rfl,e3,_⟩
 .cases h with
  | non=>exact⟨_,.non,λk=>by cases k <;> rfl⟩
  | bl b=>exact⟨_,.bl b,λk=>by cases k <;> rfl⟩
  | int i=>exact⟨_,.int i,λk=>by cases k <;> rfl⟩
  | str l h=>exact⟨_,.str _,λk=>by cases k <;> rfl⟩
  | ty n=>cases s
  | scr _=>cases s
  | lst n e f=>exact⟨_,.lst e,λk=>by cases k <;> rfl⟩
  | tup n e f=>exact⟨_,.tup e,λk=>by cases k <;> rfl⟩
  | dic n e m f=>exact⟨_,.dK e,λk=>by cases k <;> rfl⟩
  | fdc _ _ _ _=>cases s
  | obj _ _ _ _=>cases s
  | exc0 _ _=>cases s
  | exc1 _ _ _ _ _ _=>cases s
 .exact⟨_,.lst e3,λk=>by cases k <;> rfl⟩
 .cases s
 .exact⟨_,.dK e3,λk=>by cases k <;> rfl⟩
def zQ(K:b_)(e:X.K=K):bJ X (.builtin "isinstance") (Kz K):=by subst e;exact uT
noncomputable def KD(k:Kd)(pa:PA1):PTE:=λρ Q=>pa ρ λx ρ1=>match cont ρ1 x with
 | some d=>io d.sort (Q (.dat (.bl (isK k d))) ρ1) False
 | _=>False
def sW(k:Kd)(ha:LA1 K ta pa):LE K (tCB (Kz K) (ax ta (ax (tC (.ty k.nm)) bU))) (KD k pa):=λA ρ σ H Q Q' R q kk =>
 ha A ρ σ H _ _ R q λv H1 a ρ1 q1 f1 R1 o1=>by
  split at q1
  .rename_i d e1
   cases hs:d.sort with
   | false=>rw [hs] at q1;exact q1.elim
   | true =>
    rw [hs] at q1;obtain⟨t,ty,hk⟩:=(R1.cont o1 e1).ty hs;exact⟨v,k.nm,t,isK k d,rfl,ty,hk k,kk _ H1 _ ρ1 q1 f1 ⟨R1,.bl _⟩⟩
  .exact q1.elim
noncomputable def KE(K:b_):List V->Hp->VK->Prop:=λxs H Q=>∃(x:V) (p:Addr) (ts:List String) (t:Value) (b:Bool),xs=[x,.ref p]/\sj K H x t/\H p=some (.tup (ts.map V.ty))/\NH K t (ts.map Mz)=some b/\Q (.bl b) H
def JE(K:b_)(e:X.K=K):bJ X (.builtin "isinstance") (KE K):=by subst e;exact sS
noncomputable def Lk(k l:Kd)(pa:PA1):PTE:=λρ Q=>pa ρ λx ρ1=>match cont ρ1 x with
 | some d=>io d.sort (Q (.dat (.bl (isK k d || isK l d))) ρ1) False
 | _=>False
variable {O':Addr->Prop}{H':Hp}
def FVc.keeps{d:D}(k:aL O H O' H')(g:Gr H H')(h:FVc K O H v d):FVc K O' H' v d:=by
 rcases h with h|⟨a,xs,ds',e1,e2,e3,f⟩|⟨a,dx,c,fs,ns,ds',e1,e2,e3,m,f⟩|⟨a,kvs,ks,ds',e1,e2,e3,m,f⟩
 .exact .inl (h.keeps k)
 .exact .inr (.inl ⟨a,xs,ds',e1,e2,g _ _ e3,f.keeps k⟩)
 .exact .inr (.inr (.inl ⟨a,dx,c,fs,ns,ds',e1,e2,g _ _ e3,m,f.keeps k⟩))
 .exact .inr (.inr (.inr ⟨a,kvs,ks,ds',e1,e2,g _ _ e3,m,f.keeps k⟩))
def G9(k l:Kd)(hkl:∀t b c,MC K t (.type k.nm)=some b->MC K t (.type l.nm)=some c->NH K t [.type k.nm,.type l.nm]=some (b || c))(ha:LA1 K ta pa):LE K (tCB (KE K) (ax ta (ax (sk (ax (tC (.ty k.nm)) (ax (tC (.ty l.nm)) bU))) bU))) (Lk k l pa):=λA ρ σ H Q Q' R q kk =>
 ha A ρ σ H _ _ R q λv H1 a ρ1 q1 f1 R1 o1=>by
  split at q1
  .rename_i d e1
   cases hs:d.sort with
   | false=>rw [hs] at q1;exact q1.elim
   | true =>
    rw [hs] at q1;refine⟨by show 2<=sizeLine;decide,λp hp=>?_⟩;have g:Gr H1 (upd H1 p (.tup [V.ty k.nm,V.ty l.nm])):=Gr.new hp;obtain⟨t,ty,hk⟩:=((R1.cont o1 e1).keeps (g.fr (ρ:=ρ1) (σ:=σ)).keeps g).ty hs;exact⟨v,p,[k.nm,l.nm],t,_,rfl,ty,aY,hkl _ _ _ (hk k) (hk l),kk _ _ _ ρ1 q1 (f1.trans g.fr) ⟨R1.gr g,.bl _⟩⟩
  .exact q1.elim
structure Ha where
 nx:PSt->Prop
 rt:PV->PSt->Prop
 bk:PSt->Prop:=λ_=>False
 ct:PSt->Prop:=λ_=>False
abbrev PTS:=Ha->PSt->Prop
structure gD (fx:List (Nat×V)) (R:Addr->Prop) (H0:Hp) (ρ:PSt) (σ:St) (H:Hp):Prop where
 kp:∀b o,¬ R b->H0 b=some o->H b=some o
 dm:∀b,H0 b≠none->H b≠none
 ow:∀b,Wr ρ σ b->R b\/H0 b=none
 fx:∀p∈fx,σ[p.1]?=some (some p.2)
variable {fx:List (Nat×V)}{R:Addr->Prop}{H0:Hp}{ρ ρ':PSt}{σ:St}
def gD.fr(F:gD fx R H0 ρ σ H)(f:Fr ρ σ H ρ' H'):gD fx R H0 ρ' σ H' :=
 ⟨λb o n e=>f.kp b o (λw=>(F.ow b w).elim n (λz=>by rw [z] at e;cases e)) (F.kp b o n e),λb z=>f.dm b (F.dm b z),λb w=>F.ow b (f.ow b w),F.fx⟩
def gD.start(hfx:∀p∈fx,σ[p.1]?=some (some p.2)):gD fx (Wr ρ σ) H ρ σ H:=⟨λ_ _ _ h=>h,λ_ h=>h,λ_ h=>.inl h,hfx⟩
variable {A:Addr->Prop}{ρ1:PSt}{H1:Hp}
def gD.keepsR{σ1:St}(F:gD fx R H1 ρ σ H)(hR:∀b,R b->OO A ρ1 σ1 b):aL (OO A ρ1 σ1) H1 (OO A ρ σ) H:=λb o n e=>by
 refine⟨λz=>?_,F.kp b o (λz=>n (hR b z)) e⟩
 rcases z with z|z
 .exact n (.inl z)
 .rcases F.ow b z with z|z
  .exact n (hR b z)
  .rw [z] at e;cases e
def gD.keeps{σ1:St}(F:gD fx (Wr ρ1 σ1) H1 ρ σ H):aL (OO A ρ1 σ1) H1 (OO A ρ σ) H:=F.keepsR λb z=>.inr z
def gD.trans{fx':List (Nat×V)}{σ1:St}(F:gD fx R H0 ρ1 σ1 H1)(G:gD fx' (Wr ρ1 σ1) H1 ρ σ H)(hfx:∀p∈fx,σ[p.1]?=some (some p.2)):gD fx R H0 ρ σ H:=by
 refine⟨λb o n e=>G.kp b o (λw=>(F.ow b w).elim n (λz=>by rw [z] at e;cases e)) (F.kp b o n e),λb z=>G.dm b (F.dm b z),λb w=>?_,hfx⟩
 rcases G.ow b w with z|z
 .exact F.ow b z
 .refine .inr ?_
  cases e:H0 b with
  | none=>rfl
  | some o=>exact absurd z (F.dm b (by rw [e];exact nofun))
variable {i:Nat}
def Out.put{p:PV}(h:Out K A ρ σ H0 H p v):Rel K A (ρ.set i (some p)) (σ.set i (some v)) H/\∀b,Wr (ρ.set i (some p)) (σ.set i (some v)) b->Wr ρ σ b\/H0 b=none:=by
 have get:∀(j:Nat) (q:PV),(ρ.set i (some p))[j]?=some (some q)->(j=i/\q=p/\i<ρ.length)\/(j≠i/\ρ[j]?=some (some q)):=λj q e=>by
  by_cases z:i=j
  .subst z
   by_cases hi:i<ρ.length
   .rw [so hi] at e;cases e;exact .inl ⟨rfl,rfl,hi⟩
   .rw [v_ (by rw [L0];omega)] at e;cases e
  .rw [p_ z] at e;exact .inr ⟨λq=>z q.symm,e⟩
 cases p with
 | dat d =>
  obtain⟨R1,f⟩:=h
  have ow:∀b,Wr (ρ.set i (some (.dat d))) (σ.set i (some v)) b->Wr ρ σ b:=λb ⟨j,r,e1,o1,s1⟩=>by
   rcases get j r e1 with ⟨_,rfl,_⟩|⟨n,e⟩
   .cases o1
   .rw [p_ (λz=>n z.symm)] at s1;exact⟨j,r,e,o1,s1⟩
  have k:aL (OO A ρ σ) H (OO A (ρ.set i (some (.dat d))) (σ.set i (some v))) H:=aL.less λb z=>z.imp id (ow b)
  refine⟨⟨by rw [L0,L0];exact R1.len,λj r e1=>?_,λj l p1 q1 v' e1 e2 o1 o2 s1 s2=>?_,R1.dom,λb z w=>R1.sep b z (ow b w)⟩,λb w=>.inl (ow b w)⟩
  .rcases get j r e1 with ⟨rfl,rfl,hi⟩|⟨n,e⟩
   .exact⟨v,so (by rw [<- R1.len];exact hi),f.keeps k⟩
   .obtain⟨u,s,r'⟩:=R1.get j r e;exact⟨u,by rw [p_ (λz=>n z.symm)];exact s,r'.keeps k λ_ _ _=>rfl⟩
  .rcases get j p1 e1 with ⟨_,rfl,_⟩|⟨n1,e1⟩
   .cases o1
   .rcases get l q1 e2 with ⟨_,rfl,_⟩|⟨n2,e2⟩
    .cases o2
    .rw [p_ (λz=>n1 z.symm)] at s1;rw [p_ (λz=>n2 z.symm)] at s2;exact R1.dj j l p1 q1 v' e1 e2 o1 o2 s1 s2
 | own ds =>
  obtain⟨a,xs,rfl,na,hn,e0,R1,f⟩:=h
  have ow:∀b,Wr (ρ.set i (some (.own ds))) (σ.set i (some (.ref a))) b->Wr ρ σ b\/b=a:=λb ⟨j,r,e1,o1,s1⟩=>by
   rcases get j r e1 with ⟨rfl,rfl,hi⟩|⟨n,e⟩
   .rw [so (by rw [<- R1.len];exact hi)] at s1;cases s1;exact .inr rfl
   .rw [p_ (λz=>n z.symm)] at s1;exact .inl ⟨j,r,e,o1,s1⟩
  have k:aL (OO (d0 A a) ρ σ) H (OO A (ρ.set i (some (.own ds))) (σ.set i (some (.ref a)))) H:=aL.less λb z=>by
   rcases z with z|z
   .exact .inl (.inl z)
   .rcases ow b z with z|z
    .exact .inr z
    .exact .inl (.inr z)
  refine⟨⟨by rw [L0,L0];exact R1.len,λj r e1=>?_,λj l p1 q1 v' e1 e2 o1 o2 s1 s2=>?_,λb z=>R1.dom b (.inl z),λb z w=>?_⟩,λb w=>(ow b w).imp id λz=>by rw [z];exact hn⟩
  .rcases get j r e1 with ⟨rfl,rfl,hi⟩|⟨n,e⟩
   .exact⟨_,so (by rw [<- R1.len];exact hi),a,xs,rfl,e0,f.keeps k⟩
   .obtain⟨u,s,r'⟩:=R1.get j r e;exact⟨u,by rw [p_ (λz=>n z.symm)];exact s,r'.keeps k λ_ _ _=>rfl⟩
  .rcases get j p1 e1 with ⟨rfl,rfl,hi⟩|⟨n1,e1'⟩
   .rw [so (by rw [<- R1.len];exact hi)] at s1;cases s1
    rcases get l q1 e2 with ⟨rfl,rfl,_⟩|⟨n2,e2⟩
    .rfl
    .rw [p_ (λz=>n2 z.symm)] at s2;exact absurd ⟨l,q1,e2,o2,s2⟩ (R1.sep a (.inr rfl))
   .rw [p_ (λz=>n1 z.symm)] at s1
    rcases get l q1 e2 with ⟨rfl,rfl,hi⟩|⟨n2,e2⟩
    .rw [so (by rw [<- R1.len];exact hi)] at s2;cases s2;exact absurd ⟨j,p1,e1',o1,s1⟩ (R1.sep a (.inr rfl))
    .rw [p_ (λz=>n2 z.symm)] at s2;exact R1.dj j l p1 q1 v' e1' e2 o1 o2 s1 s2
  .rcases ow b w with w|w
   .exact R1.sep b (.inl z) w
   .rw [w] at z;exact na z
 | ins c ns ds =>
  obtain⟨a,dx,fs,rfl,na,hn,e0,m,R1,f⟩:=h
  have ow:∀b,Wr (ρ.set i (some (.ins c ns ds))) (σ.set i (some (.ref a))) b->Wr ρ σ b\/b=a:=λb ⟨j,r,e1,o1,s1⟩=>by
   rcases get j r e1 with ⟨rfl,rfl,hi⟩|⟨n,e⟩
   .rw [so (by rw [<- R1.len];exact hi)] at s1;cases s1;exact .inr rfl
   .rw [p_ (λz=>n z.symm)] at s1;exact .inl ⟨j,r,e,o1,s1⟩
  have k:aL (OO (d0 A a) ρ σ) H (OO A (ρ.set i (some (.ins c ns ds))) (σ.set i (some (.ref a)))) H:=aL.less λb z=>by
   rcases z with z|z
   .exact .inl (.inl z)
   .rcases ow b z with z|z
    .exact .inr z
    .exact .inl (.inr z)
  refine⟨⟨by rw [L0,L0];exact R1.len,λj r e1=>?_,λj l p1 q1 v' e1 e2 o1 o2 s1 s2=>?_,λb z=>R1.dom b (.inl z),λb z w=>?_⟩,λb w=>(ow b w).imp id λz=>by rw [z];exact hn⟩
  .rcases get j r e1 with ⟨rfl,rfl,hi⟩|⟨n,e⟩
   .exact⟨_,so (by rw [<- R1.len];exact hi),a,dx,fs,rfl,e0,m,f.keeps k⟩
   .obtain⟨u,s,r'⟩:=R1.get j r e;exact⟨u,by rw [p_ (λz=>n z.symm)];exact s,r'.keeps k λ_ _ _=>rfl⟩
  .rcases get j p1 e1 with ⟨rfl,rfl,hi⟩|⟨n1,e1'⟩
   .rw [so (by rw [<- R1.len];exact hi)] at s1;cases s1
    rcases get l q1 e2 with ⟨rfl,rfl,_⟩|⟨n2,e2⟩
    .rfl
    .rw [p_ (λz=>n2 z.symm)] at s2;exact absurd ⟨l,q1,e2,o2,s2⟩ (R1.sep a (.inr rfl))
   .rw [p_ (λz=>n1 z.symm)] at s1
    rcases get l q1 e2 with ⟨rfl,rfl,hi⟩|⟨n2,e2⟩
    .rw [so (by rw [<- R1.len];exact hi)] at s2;cases s2;exact absurd ⟨j,p1,e1',o1,s1⟩ (R1.sep a (.inr rfl))
    .rw [p_ (λz=>n2 z.symm)] at s2;exact R1.dj j l p1 q1 v' e1' e2 o1 o2 s1 s2
  .rcases ow b w with w|w
   .exact R1.sep b (.inl z) w
   .rw [w] at z;exact na z
 | odc ks ds =>
  obtain⟨a,kvs,rfl,na,hn,e0,m,R1,f⟩:=h
  have ow:∀b,Wr (ρ.set i (some (.odc ks ds))) (σ.set i (some (.ref a))) b->Wr ρ σ b\/b=a:=λb ⟨j,r,e1,o1,s1⟩=>by
   rcases get j r e1 with ⟨rfl,rfl,hi⟩|⟨n,e⟩
   .rw [so (by rw [<- R1.len];exact hi)] at s1;cases s1;exact .inr rfl
   .rw [p_ (λz=>n z.symm)] at s1;exact .inl ⟨j,r,e,o1,s1⟩
  have k:aL (OO (d0 A a) ρ σ) H (OO A (ρ.set i (some (.odc ks ds))) (σ.set i (some (.ref a)))) H:=aL.less λb z=>by
   rcases z with z|z
   .exact .inl (.inl z)
   .rcases ow b z with z|z
    .exact .inr z
    .exact .inl (.inr z)
  refine⟨⟨by rw [L0,L0];exact R1.len,λj r e1=>?_,λj l p1 q1 v' e1 e2 o1 o2 s1 s2=>?_,λb z=>R1.dom b (.inl z),λb z w=>?_⟩,λb w=>(ow b w).imp id λz=>by rw [z];exact hn⟩
  .rcases get j r e1 with ⟨rfl,rfl,hi⟩|⟨n,e⟩
   .exact⟨_,so (by rw [<- R1.len];exact hi),a,kvs,rfl,e0,m,f.keeps k⟩
   .obtain⟨u,s,r'⟩:=R1.get j r e;exact⟨u,by rw [p_ (λz=>n z.symm)];exact s,r'.keeps k λ_ _ _=>rfl⟩
  .rcases get j p1 e1 with ⟨rfl,rfl,hi⟩|⟨n1,e1'⟩
   .rw [so (by rw [<- R1.len];exact hi)] at s1;cases s1
    rcases get l q1 e2 with ⟨rfl,rfl,_⟩|⟨n2,e2⟩
    .rfl
    .rw [p_ (λz=>n2 z.symm)] at s2;exact absurd ⟨l,q1,e2,o2,s2⟩ (R1.sep a (.inr rfl))
   .rw [p_ (λz=>n1 z.symm)] at s1
    rcases get l q1 e2 with ⟨rfl,rfl,hi⟩|⟨n2,e2⟩
    .rw [so (by rw [<- R1.len];exact hi)] at s2;cases s2;exact absurd ⟨j,p1,e1',o1,s1⟩ (R1.sep a (.inr rfl))
    .rw [p_ (λz=>n2 z.symm)] at s2;exact R1.dj j l p1 q1 v' e1' e2 o1 o2 s1 s2
  .rcases ow b w with w|w
   .exact R1.sep b (.inl z) w
   .rw [w] at z;exact na z
abbrev PTG:=PV->PSt->(PSt->Prop)->Prop
abbrev CM:=List D->PSt->(PSt->Prop)->Prop
noncomputable def LG(K:b_)(fs:List Nat)(g:TG)(pg:PTG):Prop:=∀(fx:List (Nat×V)) (A R:Addr->Prop) (H0:Hp) (ρ:PSt) (σ:St) (H:Hp) (p:PV) (v:V) (Q:PSt->Prop) (Q':St->Hp->Prop),fx.map B_=fs->gD fx R H0 ρ σ H->Out K A ρ σ H0 H p v->pg p ρ Q ->
 (∀ρ' σ' H',Q ρ'->Rel K A ρ' σ' H'->gD fx R H0 ρ' σ' H'->Q' σ' H')->g v σ H Q'
noncomputable def LGs(K:b_)(fs:List Nat)(g:TGs)(pg:CM):Prop:=∀(fx:List (Nat×V)) (A R:Addr->Prop) (H0:Hp) (ρ:PSt) (σ:St) (H:Hp) (ds:List D) (vs:List V) (Q:PSt->Prop) (Q':St->Hp->Prop),fx.map B_=fs->gD fx R H0 ρ σ H->Rel K A ρ σ H->FVs K (OO A ρ σ) H vs ds->pg ds ρ Q ->
 (∀ρ' σ',Q ρ'->Rel K A ρ' σ' H->gD fx R H0 ρ' σ' H->(∀b,Wr ρ' σ' b->Wr ρ σ b)->Q' σ' H)->g vs σ H Q'
noncomputable def LGd(K:b_)(fs:List Nat)(g:TG)(pg:PTG):Prop:=∀(fx:List (Nat×V)) (A R:Addr->Prop) (H0:Hp) (ρ:PSt) (σ:St) (H:Hp) (d:D) (v:V) (Q:PSt->Prop) (Q':St->Hp->Prop),fx.map B_=fs->gD fx R H0 ρ σ H->Rel K A ρ σ H->FV K (OO A ρ σ) H v d->pg (.dat d) ρ Q ->
 (∀ρ' σ',Q ρ'->Rel K A ρ' σ' H->gD fx R H0 ρ' σ' H->(∀b,Wr ρ' σ' b->Wr ρ σ b)->Q' σ' H)->g v σ H Q'
noncomputable def fu(i:Nat):PTG:=λp ρ Q=>Q (ρ.set i (some p))
noncomputable def Hb:CM:=λds ρ Q=>match ds with|[]=>Q ρ|_=>False
noncomputable def CN(g:PTG)(gs:CM):CM:=λds ρ Q=>match ds with|d::r=>g (.dat d) ρ λρ1=>gs r ρ1 Q|[]=>False
section
variable {fs:List Nat}
def gD.put{p:PV}(hf:fx.map B_=fs)(hi:fs.contains i=false)(F:gD fx R H0 ρ σ H)(ow:∀b,Wr (ρ.set i (some p)) (σ.set i (some v)) b->Wr ρ σ b\/H0 b=none):gD fx R H0 (ρ.set i (some p)) (σ.set i (some v)) H :=
 ⟨F.kp,F.dm,λb w=>(ow b w).elim (F.ow b) .inr,λq hq=>by
  have:q.1≠i:=λz=>by
   have h1:i∈fs:=by rw [<- hf,<- z];exact Ma hq
   rw [Nd.mpr h1] at hi;cases hi
  rw [p_ (λz=>this z.symm)];exact F.fx q hq⟩
def zR(hi:fs.contains i=false):LG K fs (aS i) (fu i):=λfx A R H0 ρ σ H p v Q Q' hf F o q k=>k _ _ _ q o.put.1 (F.put hf hi o.put.2)
def bW:LGs K fs uK Hb:=λfx A R H0 ρ σ H ds vs Q Q' hf F r fv q k=>by
 unfold Hb at q
 split at q
 .cases fv;exact⟨rfl,k _ _ q r F λ_ h=>h⟩
 .exact q.elim
def fA(hi:fs.contains i=false):LGd K fs (aS i) (fu i):=λfx A R H0 ρ σ H d v Q Q' hf F r fv q k=>by
 have o:Out K A ρ σ H0 H (.dat d) v:=⟨r,fv⟩
 have ow:∀b,Wr (ρ.set i (some (.dat d))) (σ.set i (some v)) b->Wr ρ σ b:=λb ⟨j,p,e1,o1,s1⟩=>by
  by_cases z:i=j
  .subst z
   by_cases hl:i<ρ.length
   .rw [so hl] at e1;cases e1;cases o1
   .rw [v_ (by rw [L0];omega)] at e1;cases e1
  .rw [p_ z] at e1 s1;exact⟨j,p,e1,o1,s1⟩
 exact k _ _ q o.put.1 (F.put hf hi o.put.2) ow
variable {g:TG}
def aH{pg:PTG}{gs:TGs}{pgs:CM}(hg:LGd K fs g pg)(h:LGs K fs gs pgs):LGs K fs (cP g gs) (CN pg pgs):=λfx A R H0 ρ σ H ds vs Q Q' hf F r fv q k=>by
 unfold CN at q
 split at q
 .cases fv with
  | cons a b =>
   exact⟨_,_,rfl,hg fx A R H0 ρ σ H _ _ _ _ hf F r a q λρ1 σ1 q1 r1 F1 w1=>h fx A R H0 ρ1 σ1 H _ _ _ _ hf F1 r1 (b.keeps (aL.less λb z=>z.imp id (w1 b))) q1 λρ2 σ2 q2 r2 F2 w2=>k ρ2 σ2 q2 r2 F2 λb z=>w1 b (w2 b z)⟩
 .exact q.elim
end
noncomputable def LS(K:b_)(fs:List Nat)(ts:TS)(ps:PTS):Prop:=∀(fx:List (Nat×V)) (A R:Addr->Prop) (H0:Hp) (ρ:PSt) (σ:St) (H:Hp) (D:Ha) (D':Fy),fx.map B_=fs->Rel K A ρ σ H->gD fx R H0 ρ σ H->ps D ρ ->
 (∀ρ' σ' H',D.nx ρ'->Rel K A ρ' σ' H'->gD fx R H0 ρ' σ' H'->D'.nx σ' H') ->
 (∀v p ρ' σ' H',D.rt p ρ'->Out K A ρ' σ' H0 H' p v->gD fx R H0 ρ' σ' H'->D'.rt v H') ->
 (∀ρ' σ' H',D.bk ρ'->Rel K A ρ' σ' H'->gD fx R H0 ρ' σ' H'->D'.bk σ' H') ->
 (∀ρ' σ' H',D.ct ρ'->Rel K A ρ' σ' H'->gD fx R H0 ρ' σ' H'->D'.ct σ' H')->ts D' σ H
def CO:PTS:=λD ρ=>D.nx ρ
noncomputable def pD(a b:PTS):PTS:=λD ρ=>a { D with nx:=b D } ρ
noncomputable def CP(pe:PTE):PTS:=λD ρ=>pe ρ λ_ ρ1=>D.nx ρ1
def BX(pe:PTE):PTS:=λD ρ=>pe ρ D.rt
noncomputable def KF(t:PTT)(a b:PTS):PTS:=λD ρ=>t ρ λc ρ1=>io c (a D ρ1) (b D ρ1)
def Et:PTS:=λ_ _=>False
noncomputable def Hc(pe:PTE)(g:PTG):PTS:=λD ρ=>pe ρ λp ρ1=>g p ρ1 D.nx
noncomputable def Hd(a:PTS):PTS:=λD ρ=>∃J:PSt->Prop,a { D with nx:=J } ρ/\∀ρ',J ρ'->D.nx ρ'
section
variable {fs:List Nat}
def bd:LS K fs Ge CO:=λfx A R H0 ρ σ H D D' hf r F q k1 k2 k3 k4=>k1 _ _ _ q r F
def kj:LS K fs Cz Et:=λfx A R H0 ρ σ H D D' hf r F q k1 k2 k3 k4=>q
variable {ta tb:TS}{pa pb:PTS}
def au(ha:LS K fs ta pa)(hb:LS K fs tb pb):LS K fs (Kj ta tb) (pD pa pb):=λfx A R H0 ρ σ H D D' hf r F q k1 k2 k3 k4 =>
 ha fx A R H0 ρ σ H _ _ hf r F q (λρ1 σ1 H1 q1 r1 F1=>hb fx A R H0 ρ1 σ1 H1 _ _ hf r1 F1 q1 k1 k2 k3 k4) k2 k3 k4
variable {te:TE}
def jw(h:LE K te pe):LS K fs (Gf te) (CP pe):=λfx A R H0 ρ σ H D D' hf r F q k1 k2 k3 k4=>h A ρ σ H _ _ r q λv H1 p ρ1 q1 f1 o1=>k1 _ _ _ q1 o1.frz.1 (F.fr f1)
def aC(h:LE K te pe):LS K fs (Kk te) (BX pe):=λfx A R H0 ρ σ H D D' hf r F q k1 k2 k3 k4=>h A ρ σ H _ _ r q λv H1 p ρ1 q1 f1 o1=>k2 v p ρ1 σ H1 q1 (o1.h0 F.dm) (F.fr f1)
variable {tt:TT}{pt:PTT}
def cw(ht:LT K tt pt)(ha:LS K fs ta pa)(hb:LS K fs tb pb):LS K fs (Kl tt ta tb) (KF pt pa pb):=λfx A R H0 ρ σ H D D' hf r F q k1 k2 k3 k4=>ht A ρ σ H _ _ r q λc H1 ρ1 q1 f1 r1=>by
 cases c with
 | true=>exact ha fx A R H0 ρ1 σ H1 D D' hf r1 (F.fr f1) q1 k1 k2 k3 k4
 | false=>exact hb fx A R H0 ρ1 σ H1 D D' hf r1 (F.fr f1) q1 k1 k2 k3 k4
variable {g:TG}
def ay{pg:PTG}(h:LE K te pe)(hg:LG K fs g pg):LS K fs (Fz te g) (Hc pe pg):=λfx A R H0 ρ σ H D D' hf r F q k1 k2 k3 k4=>h A ρ σ H _ _ r q λv H1 p ρ1 q1 f1 o1 =>
 hg fx A R H0 ρ1 σ H1 p v _ _ hf (F.fr f1) (o1.h0 F.dm) q1 k1
def iw(h:LS K fs ta pa):LS K fs (GS ta) (Hd pa):=λfx A R H0 ρ σ H D D' hf r F q k1 k2 k3 k4=>by
 obtain⟨J,q1,q2⟩:=q;refine⟨λσ' H'=>∃ρ',J ρ'/\Rel K A ρ' σ' H'/\gD fx R H0 ρ' σ' H',?_,λσ' H' ⟨ρ',j,r',F'⟩=>k1 ρ' σ' H' (q2 ρ' j) r' F'⟩;exact h fx A R H0 ρ σ H _ _ hf r F q1 (λρ' σ' H' j r' F'=>⟨ρ',j,r',F'⟩) k2 k3 k4
end
noncomputable def e9(K:b_)(tl:TE):TI:=λσ H R=>tl σ H λx H1=>(∃k a xs,x=.ref a/\Sq k K H1 a xs/\R (Itk k K a) H1)\/∃l,x=.str (S l)/\R (Its (iq l)) H1
variable {tg:Expr}
def Eu{l:Expr}{tl:TE}(hl:PE X l tl):PI X tg l (e9 X.K tl):=by
 intro pins s σ H R I h;refine thn (hl pins s σ H _ I h) λv s1 ⟨x,H1,I1,r1,q1⟩=>?_
 have fin:∀b∈[s1.heap.objs.size],uQ X pins H1 b:=λb hb=>by
  have e:b=s1.heap.objs.size:=by simpa using hb
  subst e;exact I1.fpOk (gV _) (I1.hok.fresh (gV _))
 rcases q1 with ⟨k,a,xs,e,hq,q⟩|⟨l,e,q⟩
 .subst e;cases r1
  cases k with
  | false =>
   obtain⟨its,rv,p,hz⟩:=I1.list hq;refine MK p.isList ?_;exact⟨s1.heap.objs.size,[s1.heap.objs.size],_,_,H1,rfl,I1.kept (t':=s1.toks) λb o e=>d_ _ e,yT a _,⟨_,g_ _ rfl,rfl,rfl⟩,fin,q⟩
  | true =>
   obtain⟨its,rv,p,hz⟩:=I1.tuple hq;refine wpAny_pyIter_tuple (show s1.heap.IsTuple a its.toArray from p) ?_;exact⟨s1.heap.objs.size,[s1.heap.objs.size],_,_,H1,rfl,I1.kept (t':=s1.toks) λb o e=>d_ _ e,xI a _,⟨_,g_ _ rfl,rfl,rfl⟩,fin,q⟩
 .subst e;obtain⟨t,rfl⟩:=r1
  have hv:∀i v,i<(S l).cps.size->SignAt (S l) i v->∃x,(iq l)[i]?=some x/\c9 x v:=λi v _ ⟨c,u,hc,e⟩=>by
   subst e;have hc':l[i]?=some c:=by simpa [S] using hc
   exact⟨.str (S [c]),by unfold iq;rw [h_,hc'];rfl,u,rfl⟩
  have hsc:∀i v,SignAt (S l) i v->∀a,v≠.ref a:=λi v ⟨c,u,hc,e⟩ a z=>by subst e;cases z
  have hn:(iq l).length=(S l).cps.size:=by rw [kW];simp [S]
  have hobj:∀ty i (h:Heap),h.IsStrIter s1.heap.objs.size ty (S l) t i->∃o,h.get? s1.heap.objs.size=some o/\∀v,o.data≠.cell v:=λty i h ⟨o,ho,_,hd⟩=>⟨o,ho,λv z=>by rw [hd] at z;cases z⟩
  have hfr:∀ty i (h h':Heap),h.IsStrIter s1.heap.objs.size ty (S l) t i->(∀b∈[s1.heap.objs.size],∀o,h.get? b=some o->h'.get? b=some o)->h'.IsStrIter s1.heap.objs.size ty (S l) t i:=λty i h h' ⟨o,ho,r⟩ k=>⟨o,k _ (by simp) o ho,r⟩
  cases ha:(S l).cps.all (·<128)
  .refine wpAny_pyIter_wide ha ⟨s1.heap.objs.size,[s1.heap.objs.size],_,Its (iq l),H1,rfl,I1.kept (t':=s1.toks) λb o e=>d_ _ e,
    nr (λA hA=>Walks.strWide hA _ (S l) t) hn hv hsc (hobj _) (hfr _) (λA i s Q E st q=>wpAny_pyIter_striter_wide st q),⟨_,g_ _ rfl,rfl,rfl⟩,fin,q⟩
  .refine wpAny_pyIter_ascii ha ⟨s1.heap.objs.size,[s1.heap.objs.size],_,Its (iq l),H1,rfl,I1.kept (t':=s1.toks) λb o e=>d_ _ e,
    nr (λA hA=>Walks.strAscii hA _ (S l) t) hn hv hsc (hobj _) (hfr _) (λA i s Q E st q=>wpAny_pyIter_striter_ascii st q),⟨_,g_ _ rfl,rfl,rfl⟩,fin,q⟩
def a9(K:b_)(e:X.K=K){l:Expr}{tl:TE}(hl:PE X l tl):PI X tg l (e9 K tl):=by subst e;exact Eu hl
abbrev PTI:=PSt->(Nat->(Nat->D)->PSt->Prop)->Prop
noncomputable def Wlk(K:b_)(O:Addr->Prop)(H:Hp)(J:It)(n:Nat)(it:Nat->D):Prop:=∀(O':Addr->Prop) (H':Hp),aL O H O' H'->(∀b,O' b->H' b≠none) ->
 (∀k,k<n->J.go k H'/\∀x H'',J.yld k H' x H''->Gr H' H''/\FV K O' H'' x (it k))/\J.stop n H'
noncomputable def LI(K:b_)(wi:TI)(pi:PTI):Prop:=∀(A:Addr->Prop) (ρ:PSt) (σ:St) (H:Hp) (Q:Nat->(Nat->D)->PSt->Prop) (Q':It->Hp->Prop),Rel K A ρ σ H->pi ρ Q ->
 (∀J H' n it ρ',Q n it ρ'->Fr ρ σ H ρ' H'->Rel K A ρ' σ H'->Wlk K (OO A ρ' σ) H' J n it->Q' J H')->wi σ H Q'
noncomputable def itD(ds:List D)(k:Nat):D:=ds.getD k .non
variable {k:Nat}
def jf{d:D}(h:ds[k]?=some d):itD ds k=d:=by unfold itD;rw [cy,h];rfl
noncomputable def JF:D->Option (Nat×(Nat->D))
 | .lst ds=>some (ds.length,itD ds)
 | .tup ds=>some (ds.length,itD ds)
 | .scr ns=>some (ns.length,λk=>.int (ns.getD k 0))
 | .str l=>some (l.length,λk=>.str [l.getD k 0])
 | _=>none
noncomputable def sX(pe:PTE):PTI:=λρ Q=>pe ρ λp ρ1=>match JF p.d with
 | some (n,it)=>Q n it ρ1
 | none=>False
variable {it:Nat->D}
def FV.row{d:D}(h:FV K O H v d)(e:JF d=some (n,it)):
  (∃k a xs,v=.ref a/\xs.length=n/\(∀O' H',aL O H O' H'->Sq k K H' a xs/\∀j x,xs[j]?=some x->FV K O' H' x (it j)))\/∃l,v=.str (S l)/\l.length=n/\(∀k,it k=.str [l.getD k 0]):=by
 cases h with
 | lst nn e0 f =>
  cases e;refine .inl ⟨false,_,_,rfl,f.length,λO' H' k=>⟨SqL.of (k _ _ nn e0).2,λj x hx=>?_⟩⟩;obtain⟨d,hd,fd⟩:=f.get hx;rw [jf hd];exact fd.keeps k
 | tup nn e0 f =>
  cases e;refine .inl ⟨true,_,_,rfl,f.length,λO' H' k=>⟨SqT.of (k _ _ nn e0).2,λj x hx=>?_⟩⟩;obtain⟨d,hd,fd⟩:=f.get hx;rw [jf hd];exact fd.keeps k
 | scr s =>
  cases e;refine .inl ⟨false,_,_,rfl,length_map _,λO' H' k=>⟨(s.keeps k).sq,λj x hx=>?_⟩⟩;obtain⟨z,hz,rfl⟩:=BH hx;show FV K O' H' (V.int z) (D.int (List.getD _ j 0));rw [cy,hz];exact .int z
 | str l hl=>cases e;exact .inr ⟨l,rfl,rfl,λ_=>rfl⟩
 | non=>cases e
 | bl b=>cases e
 | int i=>cases e
 | ty n=>cases e
 | dic _ _ _ _=>cases e
 | fdc _ _ _ _=>cases e
 | obj _ _ _ _=>cases e
 | exc0 _ _=>cases e
 | exc1 _ _ _ _ _ _=>cases e
variable {te:TE}
def ba(h:LE K te pe):LI K (e9 K te) (sX pe):=λA ρ σ H Q Q' R q k=>h A ρ σ H _ _ R q λv H1 p ρ1 q1 f1 o1=>by
 obtain⟨R1,fv⟩:=o1.frz
 split at q1
 .rename_i n it e
  rcases fv.row e with ⟨b,a,xs,rfl,hl,hr⟩|⟨l,rfl,hl,hi⟩
  .refine .inl ⟨b,a,xs,rfl,(hr _ H1 (λb o n h=>⟨n,h⟩)).1,k _ H1 n it ρ1 q1 f1 R1 λO' H' kk dom=>?_⟩;obtain⟨sq,hx⟩:=hr O' H' kk
   cases b with
   | false =>
    refine⟨λj hj=>⟨⟨xs,_,sq,cx (by rw [hl];exact hj)⟩,λx H'' ⟨e,y⟩=>?_⟩,⟨xs,sq,by rw [hl];exact gV _⟩⟩;subst e;exact⟨Gr.refl _,hx j x (y xs sq)⟩
   | true =>
    refine⟨λj hj=>⟨⟨xs,_,sq,cx (by rw [hl];exact hj)⟩,λx H'' ⟨e,y⟩=>?_⟩,⟨xs,sq,by rw [hl];exact gV _⟩⟩;subst e;exact⟨Gr.refl _,hx j x (y xs sq)⟩
  .refine .inr ⟨l,rfl,k _ H1 n it ρ1 q1 f1 R1 λO' H' kk dom=>?_⟩;refine⟨λj hj=>⟨by show j<(iq l).length;rw [kW,hl];exact hj,λx H'' ⟨e,y⟩=>?_⟩,by show (iq l).length=n;rw [kW,hl]⟩;subst e;obtain⟨c,hc,rfl⟩:=xW y;rw [hi,cy,hc];exact⟨Gr.refl _,.str _ (by show 1<=1000000;decide)⟩
 .exact q1.elim
variable {pa:PTA}
noncomputable def Ll(pa:PTA):PTI:=λρ Q=>pa ρ λas ρ1=>match as with
 | [.v (.int j)]=>(-(2^60)<=j/\j<2^60)/\Q j.toNat (λk=>.int (k:Int)) ρ1
 | _=>False
noncomputable def Lm(pa:PTA):PTI:=λρ Q=>pa ρ λas ρ1=>match as with
 | [.v (.int i),.v (.int j),.v (.int (-1))]=>(-(2^60)<=i/\i<2^60/\-(2^60)<=j/\j<2^60)/\Q (i - j).toNat (λk=>.int (i - (k:Int))) ρ1
 | _=>False
def JG{lo:Int}(h:∀k:Nat,it k=.int (lo+k)):Wlk K O H (Itr lo n) n it:=λO' H' _ _ =>
 ⟨λj hj=>⟨hj,λx H'' ⟨e,y⟩=>by subst e y;rw [h];exact⟨Gr.refl _,.int _⟩⟩,gV _⟩
def JH{lo:Int}:Wlk K O H (Its (qM lo n)) n (λk=>.int (lo - (k:Int))):=λO' H' _ _ =>
 ⟨λj hj=>⟨by show j<(qM lo n).length;rw [nt];exact hj,λx H'' ⟨e,y⟩=>by subst e;rw [(zu y).2];exact⟨Gr.refl _,.int _⟩⟩,nt _ _⟩
variable {ta:TA}
def qV(h:LAs K ta pa):LI K (su ta) (Ll pa):=λA ρ σ H Q Q' R q k=>h A ρ σ H _ _ R q λvs H1 as ρ1 q1 f1 R1 o1=>by
 split at q1
 .rename_i j
  cases o1 with
  | cons a b =>
   cases b;cases a;exact⟨j,rfl,by omega,by omega,k _ H1 _ _ ρ1 q1.2 f1 R1 (JG λk=>by rw [ON])⟩
 .exact q1.elim
def He(h:LAs K ta pa):LI K (GH ta) (Lm pa):=λA ρ σ H Q Q' R q k=>h A ρ σ H _ _ R q λvs H1 as ρ1 q1 f1 R1 o1=>by
 split at q1
 .rename_i i j
  cases o1 with
  | cons a b =>
   cases b with
   | cons c d =>
    cases d with
    | cons e f =>
     cases f;cases a;cases c;cases e;exact⟨i,j,rfl,q1.1,k _ H1 _ _ ρ1 q1.2 f1 R1 JH⟩
 .exact q1.elim
noncomputable def rowD:D->Option (List D)
 | .lst ds=>some ds
 | .tup ds=>some ds
 | .scr ns=>some (ns.map .int)
 | _=>none
def FV.rowD{d:D}(h:FV K O H v d)(e:L2.rowD d=some ds):
  ∃k a xs,v=.ref a/\xs.length=ds.length/\(∀O' H',aL O H O' H'->Sq k K H' a xs/\FVs K O' H' xs ds):=by
 cases h with
 | lst nn e0 f=>cases e;exact⟨false,_,_,rfl,f.length,λO' H' k=>⟨SqL.of (k _ _ nn e0).2,f.keeps k⟩⟩
 | tup nn e0 f=>cases e;exact⟨true,_,_,rfl,f.length,λO' H' k=>⟨SqT.of (k _ _ nn e0).2,f.keeps k⟩⟩
 | scr s=>cases e;exact⟨false,_,_,rfl,by rw [length_map,length_map],λO' H' k=>⟨(s.keeps k).sq,FVs.of_ints _⟩⟩
 | str l hl=>cases e
 | non=>cases e
 | bl b=>cases e
 | int i=>cases e
 | ty n=>cases e
 | dic _ _ _ _=>cases e
 | fdc _ _ _ _=>cases e
 | obj _ _ _ _=>cases e
 | exc0 _ _=>cases e
 | exc1 _ _ _ _ _ _=>cases e
noncomputable def JI(pa:PTA):PTI:=λρ Q=>pa ρ λas ρ1=>match as with
 | [.v a,.v b]=>(match rowD a,rowD b with
  | some xs,some ys=>Q (min xs.length ys.length) (λk=>.tup [itD xs k,itD ys k]) ρ1
  | _,_=>False)
 | _=>False
noncomputable def Hf(pa:PTA):PTI:=λρ Q=>pa ρ λas ρ1=>match as with
 | [.v a]=>(match rowD a with
  | some xs=>Q xs.length (λk=>.tup [.int (k:Int),itD xs k]) ρ1
  | _=>False)
 | _=>False
def sY(h:LAs K ta pa):LI K (x3 K ta) (JI pa):=λA ρ σ H Q Q' R q k=>h A ρ σ H _ _ R q λvs H1 as ρ1 q1 f1 R1 o1=>by
 split at q1
 .rename_i da db
  cases o1 with
  | cons o1 o2 =>
   cases o2 with
   | cons o2 o3 =>
    cases o3
    split at q1
    .rename_i xs ys ex ey;obtain⟨b1,a1,us,rfl,l1,w1⟩:=FV.rowD (show FV K _ H1 _ da from o1) ex;obtain⟨b2,a2,ws,rfl,l2,w2⟩:=FV.rowD (show FV K _ H1 _ db from o2) ey;have t1:=w1 _ H1 (λb o n h=>⟨n,h⟩);have t2:=w2 _ H1 (λb o n h=>⟨n,h⟩);refine⟨b1,b2,a1,a2,rfl,⟨us,ws,t1.1,t2.1⟩,k _ H1 _ _ ρ1 q1 f1 R1 λO' H' kk dom=>?_⟩;obtain⟨s1,g1⟩:=w1 O' H' kk;obtain⟨s2,g2⟩:=w2 O' H' kk;refine⟨λj hj=>?_,⟨us,ws,s1,s2,by omega⟩⟩
     have h1:j<us.length:=by omega
     have h2:j<ws.length:=by omega
     refine⟨⟨us,ws,_,_,s1,s2,cx h1,cx h2⟩,λx H'' ⟨T,u,w,hT,e,y1,y2,e2⟩=>?_⟩;subst e e2;obtain⟨d1,hd1,fd1⟩:=g1.get (y1 us s1);obtain⟨d2,hd2,fd2⟩:=g2.get (y2 ws s2);have e1:itD xs j=d1:=by unfold itD;rw [cy,hd1];rfl
     have e2:itD ys j=d2:=by unfold itD;rw [cy,hd2];rfl
     rw [e1,e2];have kk2:aL O' H' O' (upd H' T (.tup [u,w])):=λb o n e=>⟨n,by rw [aI (bf e hT)];exact e⟩
     exact⟨Gr.new hT,.tup (λz=>dom T z hT) aY (.cons (fd1.keeps kk2) (.cons (fd2.keeps kk2) .nil))⟩
    .exact q1.elim
 .exact q1.elim
def zS(h:LAs K ta pa):LI K (Eg K ta) (Hf pa):=λA ρ σ H Q Q' R q k=>h A ρ σ H _ _ R q λvs H1 as ρ1 q1 f1 R1 o1=>by
 split at q1
 .rename_i da
  cases o1 with
  | cons o1 o3 =>
   cases o3
   split at q1
   .rename_i xs ex;obtain⟨b1,a1,us,rfl,l1,w1⟩:=FV.rowD (show FV K _ H1 _ da from o1) ex;have t1:=w1 _ H1 (λb o n h=>⟨n,h⟩);refine⟨b1,a1,rfl,⟨us,t1.1⟩,k _ H1 _ _ ρ1 q1 f1 R1 λO' H' kk dom=>?_⟩;obtain⟨s1,g1⟩:=w1 O' H' kk;refine⟨λj hj=>?_,⟨us,s1,by omega⟩⟩;have h1:j<us.length:=by omega
    refine⟨⟨us,_,s1,cx h1⟩,λx H'' ⟨T,u,hT,e,y1,e2⟩=>?_⟩;subst e e2;obtain⟨d1,hd1,fd1⟩:=g1.get (y1 us s1);have e1:itD xs j=d1:=by unfold itD;rw [cy,hd1];rfl
    rw [e1];have kk2:aL O' H' O' (upd H' T (.tup [.int (j:Int),u])):=λb o n e=>⟨n,by rw [aI (bf e hT)];exact e⟩
    exact⟨Gr.new hT,.tup (λz=>dom T z hT) aY (.cons (.int _) (.cons (fd1.keeps kk2) .nil))⟩
   .exact q1.elim
 .exact q1.elim
noncomputable def JJ(pi:PTI)(g:PTG)(pb:PTS):PTS:=λD ρ=>pi ρ λn it ρ1=>∃I:Nat->PSt->Prop,I 0 ρ1/\(∀k ρ d,k<n->d=it k->I k ρ->g (.dat d) ρ λρ2=>pb { D with nx:=I (k+1),ct:=I (k+1),bk:=D.nx } ρ2)/\∀ρ,I n ρ->D.nx ρ
noncomputable def Ev(pt:PTT)(pb:PTS):PTS:=λD ρ=>∃I:Nat->PSt->Prop,(∃m,I m ρ)/\∀m ρ,I m ρ->pt ρ λb ρ1=>io b (pb { D with nx:=λρ'=>∃m',m'<m/\I m' ρ',ct:=λρ'=>∃m',m'<m/\I m' ρ',bk:=D.nx } ρ1) (D.nx ρ1)
section
variable {fs:List Nat}{wi:TI}{pi:PTI}{g:TG}{pg:PTG}{tb:TS}{pb:PTS}
def eI(hi:LI K wi pi)(hg:LGd K fs g pg)(hb:LS K fs tb pb):LS K fs (Kp wi g tb) (JJ pi pg pb):=λfx A R H0 ρ σ H D D' hf r F q k1 k2 k3 k4=>hi A ρ σ H _ _ r q λJ H1 n it ρ1 q1 f1 r1 W=>by
 obtain⟨I,i0,turn,after⟩:=q1;have F1:=F.fr f1;refine⟨λi m σ' H'=>i+m=n/\∃ρ',I i ρ'/\Rel K A ρ' σ' H'/\gD fx (Wr ρ1 σ) H1 ρ' σ' H',⟨n,N6 n,ρ1,i0,r1,gD.start F1.fx⟩,λi m σ' H' ⟨him,ρ',iv,r',F'⟩=>?_⟩;obtain⟨go,stop⟩:=W _ H' F'.keeps r'.dom2
 by_cases hk:i<n
 .obtain⟨g1,g2⟩:=go i hk;refine .inr ⟨g1,λσ'' H''=>∃ρ'',I (i+1) ρ''/\Rel K A ρ'' σ'' H''/\gD fx (Wr ρ1 σ) H1 ρ'' σ'' H'',λσ'' H'' z=>⟨m - 1,by omega,by omega,z⟩,λx H'' y=>?_⟩;obtain⟨gr,fv⟩:=g2 x H'' y;refine hg fx A (Wr ρ1 σ) H1 ρ' σ' H'' _ x _ _ hf (F'.fr gr.fr) (r'.gr gr) fv (turn i ρ' _ hk rfl iv) λρ2 σ2 q2 r2 F2 _=>?_;refine hb fx A (Wr ρ1 σ) H1 ρ2 σ2 H'' _ _ hf r2 F2 q2 (λρ3 σ3 H3 q3 r3 F3=>⟨ρ3,q3,r3,F3⟩) (λv p ρ3 σ3 H3 q3 o3 F3=>k2 v p ρ3 σ3 H3 q3 (o3.h0 F1.dm) (F1.trans F3 F3.fx)) (λρ3 σ3 H3 q3 r3 F3=>k1 ρ3 σ3 H3 q3 r3 (F1.trans F3 F3.fx)) (λρ3 σ3 H3 q3 r3 F3=>⟨ρ3,q3,r3,F3⟩)
 .have e:i=n:=by omega
  subst e;exact .inl ⟨stop,k1 ρ' σ' H' (after ρ' iv) r' (F1.trans F' F'.fx)⟩
variable {tt:TT}{pt:PTT}
def w6(ht:LT K tt pt)(hb:LS K fs tb pb):LS K fs (CB tt tb) (Ev pt pb):=λfx A R H0 ρ σ H D D' hf r F q k1 k2 k3 k4=>by
 obtain⟨I,⟨m0,i0⟩,turn⟩:=q;refine⟨λm σ' H'=>∃ρ',I m ρ'/\Rel K A ρ' σ' H'/\gD fx R H0 ρ' σ' H',⟨m0,ρ,i0,r,F⟩,λm σ' H' ⟨ρ',iv,r',F'⟩=>?_⟩;refine ht A ρ' σ' H' _ _ r' (turn m ρ' iv) λb H1 ρ1 q1 f1 r1=>?_
 cases b with
 | true =>
  refine⟨λσ'' H''=>∃ρ'' m',m'<m/\I m' ρ''/\Rel K A ρ'' σ'' H''/\gD fx R H0 ρ'' σ'' H'',λσ'' H'' ⟨ρ'',m',h1,h2⟩=>⟨m',h1,ρ'',h2⟩,?_⟩;exact hb fx A R H0 ρ1 σ' H1 _ _ hf r1 (F'.fr f1) q1 (λρ3 σ3 H3 ⟨m',h1,h2⟩ r3 F3=>⟨ρ3,m',h1,h2,r3,F3⟩) k2 k1 (λρ3 σ3 H3 ⟨m',h1,h2⟩ r3 F3=>⟨ρ3,m',h1,h2,r3,F3⟩)
 | false=>exact k1 ρ1 σ' H1 q1 r1 (F'.fr f1)
end
noncomputable def bi(ix:List (Option Nat))(ρ:PSt):PSt:=ix.map λo=>match o with
 | none=>none
 | some j=>match ρ[j]? with
  | some v=>v
  | none=>none
noncomputable def eJ:List (Option Nat)->PSt->PSt->PSt
 | some j::ix,ρ,t::τ=>eJ ix (ρ.set j t) τ
 | none::ix,ρ,_::τ=>eJ ix ρ τ
 | _,ρ,_=>ρ
noncomputable def CQ:List (Option Nat)->Bool
 | []=>true
 | none::r=>CQ r
 | some j::r=>!r.contains (some j) && CQ r
theorem mM:∀(ix:List (Option Nat)) (ρ τ:PSt),(eJ ix ρ τ).length=ρ.length
 | [],ρ,τ=>by unfold eJ;rfl
 | some j::ix,ρ,t::τ=>by show (eJ ix (ρ.set j t) τ).length=_;rw [mM ix,L0]
 | none::ix,ρ,t::τ=>by show (eJ ix ρ τ).length=_;exact mM ix ρ τ
 | some j::ix,ρ,[]=>by unfold eJ;rfl
 | none::ix,ρ,[]=>by unfold eJ;rfl
theorem km:∀(ix:List (Option Nat)) (ρ τ:PSt) (j:Nat),some j∉ix->(eJ ix ρ τ)[j]?=ρ[j]?
 | [],ρ,τ,j,_=>by unfold eJ;rfl
 | some i::ix,ρ,t::τ,j,h=>by
  show (eJ ix (ρ.set i t) τ)[j]?=_;rw [km ix _ τ j (λz=>h (m_ _ z)),p_ (λz=>h (by rw [z];exact mem_cons_self ..))]
 | none::ix,ρ,t::τ,j,h=>by show (eJ ix ρ τ)[j]?=_;exact km ix ρ τ j λz=>h (m_ _ z)
 | some i::ix,ρ,[],j,_=>by unfold eJ;rfl
 | none::ix,ρ,[],j,_=>by unfold eJ;rfl
theorem qW:∀(ix:List (Option Nat)) (ρ τ:PSt) (j k:Nat),CQ ix=true->ix[k]?=some (some j)->k<τ.length->j<ρ.length->(eJ ix ρ τ)[j]?=τ[k]?
 | some i::ix,ρ,t::τ,j,k,h,e,hk,hj=>by
  have h:(!ix.contains (some i) && CQ ix)=true:=h;rw [and_eq_true] at h;show (eJ ix (ρ.set i t) τ)[j]?=_
  cases k with
  | zero =>
   have e:some (some i)=some (some j):=e;cases e
   have hn:some i∉ix:=λz=>by
    have:=h.1;rw [Nd.mpr z] at this;cases this
   rw [km ix _ τ i hn,so hj];rfl
  | succ k =>
   have e:ix[k]?=some (some j):=by simpa using e
   rw [qW ix _ τ j k h.2 e (by simpa using hk) (by rw [L0];exact hj)];simp
 | none::ix,ρ,t::τ,j,k,h,e,hk,hj=>by
  show (eJ ix ρ τ)[j]?=_
  cases k with
  | zero=>cases e
  | succ k =>
   have e:ix[k]?=some (some j):=by simpa using e
   rw [qW ix _ τ j k h e (by simpa using hk) hj];simp
 | [],ρ,τ,j,k,h,e,hk,hj=>by simp at e
 | some i::ix,ρ,[],j,k,h,e,hk,hj=>absurd hk (Ny _)
 | none::ix,ρ,[],j,k,h,e,hk,hj=>absurd hk (Ny _)
theorem mN:∀{ix:List (Option Nat)}{k l j:Nat},CQ ix=true->ix[k]?=some (some j)->ix[l]?=some (some j)->k=l
 | some i::ix,k,l,j,h,e1,e2=>by
  have h:(!ix.contains (some i) && CQ ix)=true:=h;rw [and_eq_true] at h
  have no:∀m,ix[m]?≠some (some i):=λm z=>by
   have:=h.1;rw [Nd.mpr (Eo z)] at this;cases this
  cases k with
  | zero =>
   have e1:some (some i)=some (some j):=e1;cases e1
   cases l with
   | zero=>rfl
   | succ l=>exact absurd (by simpa using e2) (no l)
  | succ k =>
   cases l with
   | zero =>
    have e2:some (some i)=some (some j):=e2;cases e2;exact absurd (by simpa using e1) (no k)
   | succ l=>rw [mN (k:=k) (l:=l) h.2 (by simpa using e1) (by simpa using e2)]
 | none::ix,k,l,j,h,e1,e2=>by
  cases k with
  | zero=>cases e1
  | succ k =>
   cases l with
   | zero=>cases e2
   | succ l=>rw [mN (ix:=ix) (k:=k) (l:=l) (j:=j) h (by simpa using e1) (by simpa using e2)]
 | [],k,l,j,h,e1,e2=>by simp at e1
variable {ix:List (Option Nat)}
def cG{p:PV}(h:(bi ix ρ)[k]?=some (some p)):∃j,ix[k]?=some (some j)/\ρ[j]?=some (some p):=by
 unfold bi at h;rw [h_] at h
 cases e:ix[k]? with
 | none=>rw [e] at h;cases h
 | some o =>
  rw [e] at h
  cases o with
  | none=>cases h
  | some j =>
   refine⟨j,rfl,?_⟩;have h:some (match ρ[j]? with|some v=>v|none=>none)=some (some p):=h
   cases e2:ρ[j]? with
   | none=>rw [e2] at h;cases h
   | some v=>rw [e2] at h;exact h
variable {j:Nat}
def cH(h:ix[k]?=some (some j))(e:σ[j]?=some (some v)):(sJ ix σ)[k]?=some (some v):=by
 unfold sJ;rw [h_,h];show some (match σ[j]? with|some v=>v|none=>none)=some (some v);rw [e]
variable {o:HO}
def Rel.amb{a:Addr}(R:Rel K A ρ σ H)(ha:A a):Rel K A ρ σ (upd H a o):=by
 have k:aL (OO A ρ σ) H (OO A ρ σ) (upd H a o):=λb u n e=>⟨n,by rw [aI (λz=>n (by rw [z];exact .inl ha))];exact e⟩
 refine⟨R.len,λi q e=>?_,R.dj,λb z=>?_,R.sep⟩
 .obtain⟨v,s,r⟩:=R.get i q e;refine⟨v,s,r.keeps k λow b eb=>?_⟩;rw [aI];intro z;subst z eb;exact R.sep b ha ⟨i,q,e,ow,s⟩
 .by_cases z':b=a
  .rw [z',aY];exact nofun
  .rw [aI z'];exact R.dom b z
noncomputable def Hg(ix:List (Option Nat))(ρ:PSt):Bool:=ix.all λo=>match o with|none=>true|some j=>(match ρ[j]? with|some (some _)=>true|_=>false)
structure mj (ix:List (Option Nat)) (ρ1:PSt) (n:Nat) (it:Nat->D) (g:PTG) (pt:PTT) (pe:PTE) (Q:PKt):Prop where
 ex:∃I:Nat->List D->PSt->Prop,I 0 [] (bi ix ρ1) /\
  (∀k ys τ d,k<n->d=it k->I k ys τ->g (.dat d) τ λτ2=>pt τ2 λok τ3=>io ok (pe τ3 λp τ4=>I (k+1) (ys++[p.d]) τ4) (I (k+1) ys τ3))/\∀ys τ,I n ys τ->Q (.own ys) (eJ ix ρ1 τ)
noncomputable def x6(ix:List (Option Nat))(pi:PTI)(g:PTG)(pt:PTT)(pe:PTE):PTE:=λρ Q=>pi ρ λn it ρ1=>Hg ix ρ1=true/\n<=1000000/\mj ix ρ1 n it g pt pe Q
def yM:PTT:=λρ Q=>Q true ρ
def br:LT K fk yM:=λA ρ σ H Q Q' R q k=>k true H ρ q (Fr.refl _ _ _) R
noncomputable def zT(ix:List (Option Nat)):List Nat:=(e_ ix.length).filter λk=>(ix.getD k none).isSome
variable {g:TG}
def aP{wi:TI}{pi:PTI}{pg:PTG}{tts:TT}{pt:PTT}(hix:CQ ix=true)(hi:LI K wi pi)(hg:∀fs:List Nat,(∀k∈fs,k∈zT ix)->LGd K fs g pg)(ht:LT K tts pt)(he:LE K te pe):
  LE K (sL ix wi g tts te) (x6 ix pi pg pt pe):=λA ρ σ H Q Q' R q k=>hi A ρ σ H _ _ R q λJ H1 n it ρ1 q1 f1 R1 W D hD=>by
 obtain⟨hcap,hn,⟨I,i0,turn,after⟩⟩:=q1
 let τρ0:=bi ix ρ1
 let τσ0:=sJ ix σ
 let Ai:Addr->Prop:=λb=>A b\/b=D\/(Wr ρ1 σ b/\¬ Wr τρ0 τσ0 b)
 let H0':=upd H1 D (.lst [])
 have wsub:∀b,Wr τρ0 τσ0 b->Wr ρ1 σ b:=λb ⟨m,p,e,o,s⟩=>by
  obtain⟨j,h1,h2⟩:=cG e;obtain⟨v,hv,_⟩:=R1.get j p h2;have:=cH h1 hv;rw [s] at this;cases this;exact⟨j,p,h2,o,hv⟩
 have nD:¬ Wr ρ1 σ D:=λz=>R1.wr z hD
 have oosub:∀b,OO Ai τρ0 τσ0 b->OO A ρ1 σ b\/b=D:=λb z=>by
  rcases z with (z|z|z)|z
  .exact .inl (.inl z)
  .exact .inr z
  .exact .inl (.inr z.1)
  .exact .inl (.inr (wsub b z))
 have kD:aL (OO A ρ1 σ) H1 (OO Ai τρ0 τσ0) H0':=λb o nn e=>by
  refine⟨λz=>?_,?_⟩
  .rcases oosub b z with z|z
   .exact nn z
   .rw [z,hD] at e;cases e
  .rw [show H0' b=H1 b from aI (bf e hD)];exact e
 have Ri:Rel K Ai τρ0 τσ0 H0':=by
  refine⟨by show (bi ix ρ1).length=(sJ ix σ).length;unfold bi sJ;rw [length_map,length_map],λm p e=>?_,λm l p q v e1 e2 o1 o2 s1 s2=>?_,λb z=>?_,λb z w=>?_⟩
  .obtain⟨j,h1,h2⟩:=cG e;obtain⟨v,hv,r⟩:=R1.get j p h2;refine⟨v,cH h1 hv,r.keeps kD λow a ea=>?_⟩;subst ea;exact aI (λz=>nD (by rw [<- z];exact⟨j,p,h2,ow,hv⟩))
  .obtain⟨j,h1,h2⟩:=cG e1;obtain⟨j',h3,h4⟩:=cG e2;obtain⟨v1,hv1,_⟩:=R1.get j p h2;obtain⟨v2,hv2,_⟩:=R1.get j' q h4;have t1:=cH h1 hv1;have t2:=cH h3 hv2;rw [s1] at t1;rw [s2] at t2;cases t1;cases t2;have:=R1.dj j j' p q _ h2 h4 o1 o2 hv1 hv2;subst this;exact mN hix h1 h3
  .rcases z with z|z|z
   .intro e
    by_cases zz:b=D
    .exact R1.dom b z (by rw [zz];exact hD)
    .rw [show H0' b=H1 b from aI zz] at e;exact R1.dom b z e
   .rw [z];show upd H1 D _ D≠none;rw [aY];exact nofun
   .intro e;rw [show H0' b=H1 b from aI (λzz=>nD (by rw [<- zz];exact z.1))] at e;exact R1.wr z.1 e
  .rcases z with z|z|z
   .exact R1.sep b z (wsub b w)
   .rw [z] at w;exact nD (wsub D w)
   .exact z.2 w
 let fxi:List (Nat×V):=(zT ix).filterMap λm=>match (τσ0[m]?) with|some (some v)=>some (m,v)|_=>none
 have hfx:∀p∈fxi,τσ0[p.1]?=some (some p.2):=λp hp=>by
  obtain⟨m,hm,e⟩:=MO.mp hp
  split at e
  .rename_i v ev;cases e;exact ev
  .cases e
 have hfs:∀m∈fxi.map B_,m∈zT ix:=λm hm=>by
  obtain⟨p,hp,rfl⟩:=LJ.mp hm;obtain⟨m',hm',e⟩:=MO.mp hp
  split at e
  .cases e;exact hm'
  .cases e
 have hgi:=hg (fxi.map B_) hfs
 have fxget:∀(m j:Nat) (v:V),ix[m]?=some (some j)->σ[j]?=some (some v)->(m,v)∈fxi:=λm j v h1 h2=>by
  refine MO.mpr ⟨m,?_,?_⟩
  .unfold zT;refine mem_filter.mpr ⟨mem_range.mpr (i_.mp h1).1,?_⟩;rw [cy,h1];rfl
  .show (match (sJ ix σ)[m]? with|some (some v)=>some (m,v)|_=>none)=_;rw [cH h1 h2]
 let Rr:Addr->Prop:=λb=>Wr τρ0 τσ0 b\/b=D
 have hRr:∀b,Rr b->OO Ai τρ0 τσ0 b:=λb z=>z.elim (λz=>.inr z) (λz=>.inl (.inr (.inl z)));have F0:gD fxi Rr H0' τρ0 τσ0 H0':=⟨λ_ _ _ h=>h,λ_ h=>h,λb w=>.inl (.inl w),hfx⟩
 refine⟨λi m τ H2=>i+m=n/\∃ys τρ xs,I i ys τρ/\ys.length<=i/\Rel K Ai τρ τ H2/\gD fxi Rr H0' τρ τ H2/\H2 D=some (.lst xs)/\FVs K (OO Ai τρ τ) H2 xs ys/\∀b,Wr τρ τ b->Wr τρ0 τσ0 b,
  ⟨n,N6 n,[],τρ0,[],i0,gV _,Ri,F0,aY,.nil,λ_ h=>h⟩,λi m τ H2 ⟨him,ys,τρ,xs,iv,hy,r2,F2,eD,fD,hw⟩=>?_⟩
 have kk:aL (OO A ρ1 σ) H1 (OO Ai τρ τ) H2:=λb o nn e=>(F2.keepsR hRr) b o (kD b o nn e).1 (kD b o nn e).2;obtain⟨go,stop⟩:=W _ H2 kk r2.dom2
 by_cases hk:i<n
 .obtain⟨g1,g2⟩:=go i hk;refine .inr ⟨g1,λx H3 y=>?_⟩;obtain⟨gr,fv⟩:=g2 x H3 y;have AiD:Ai D:=.inr (.inl rfl);refine hgi fxi Ai Rr H0' τρ τ H3 _ x _ _ rfl (F2.fr gr.fr) (r2.gr gr) fv (turn i ys τρ _ hk rfl iv) λτρ2 τ2 q2 r3 F3 w3=>?_;refine ht Ai τρ2 τ2 H3 _ _ r3 q2 λok H5 τρ3 q3 f5 r5=>?_;have F5:=F3.fr f5;have fD5:FVs K (OO Ai τρ3 τ2) H5 xs ys:=((fD.keeps (gr.fr (ρ:=τρ) (σ:=τ)).keeps).keeps (aL.less λb z=>z.imp id (w3 b))).keeps f5.keeps
  have eD5:H5 D=some (.lst xs):=f5.kp D _ (r3.sep D AiD) (gr D _ eD)
  cases ok with
  | true =>
   refine he Ai τρ3 τ2 H5 _ _ r5 q3 λv H6 p τρ4 q4 f6 o6=>?_;obtain⟨r6,fv6⟩:=o6.frz;have F6:=F5.fr f6;have eD6:H6 D=some (.lst xs):=f6.kp D _ (r5.sep D AiD) eD5;have kw:aL (OO Ai τρ4 τ2) H6 (OO Ai τρ4 τ2) (upd H6 D (.lst (xs++[v]))):=λb o nn e=>⟨nn,by rw [aI (λz=>nn (by rw [z];exact .inl AiD))];exact e⟩
   refine⟨xs,eD6,?_,m - 1,by omega,by omega,ys++[p.d],τρ4,xs++[v],q4,by rw [length_append];show _+1<=_;omega,r6.amb AiD,⟨λb o nn e=>?_,λb z=>?_,F6.ow,F6.fx⟩,aY,((fD5.keeps f6.keeps).append (.cons fv6 .nil)).keeps kw,λb z=>hw b (w3 b (f5.ow b (f6.ow b z)))⟩
   .have:xs.length=ys.length:=fD.length;exact w_ (by omega:xs.length<1000000) (sz _ (gV _))
   .rw [aI (λz=>nn (.inr z))];exact F6.kp b o nn e
   .by_cases zz:b=D
    .rw [zz,aY];exact nofun
    .rw [aI zz];exact F6.dm b z
  | false=>exact⟨m - 1,by omega,by omega,ys,τρ3,xs,q3,by omega,r5,F5,eD5,fD5,λb z=>hw b (w3 b (f5.ow b z))⟩
 .have e:i=n:=by omega
  subst e;refine .inl ⟨stop,?_⟩;have q':=after ys τρ iv
  have cap:∀(m j:Nat),ix[m]?=some (some j)->∃p v,ρ1[j]?=some (some p)/\σ[j]?=some (some v)/\τ[m]?=some (some v):=λm j e=>by
   have h1:=Na.mp hcap _ (Eo e);have h1:(match ρ1[j]? with|some (some _)=>true|_=>false)=true:=h1
   split at h1
   .rename_i p ep;obtain⟨v,hv,_⟩:=R1.get j p ep;exact⟨p,v,ep,hv,F2.fx _ (fxget m j v e hv)⟩
   .cases h1
  have get':∀(j:Nat) (p:PV),(eJ ix ρ1 τρ)[j]?=some (some p)->(∃m v,ix[m]?=some (some j)/\σ[j]?=some (some v)/\τ[m]?=some (some v)/\τρ[m]?=some (some p))\/(some j∉ix/\ρ1[j]?=some (some p)):=λj p e=>by
   by_cases hj:some j∈ix
   .obtain⟨m,hm,em⟩:=Mm hj;have em':ix[m]?=some (some j):=by rw [cx hm,em]
    obtain⟨p0,v,h1,h2,h3⟩:=cap m j em';rw [qW ix ρ1 τρ j m hix em' (by rw [r2.len];exact (i_.mp h3).1) (i_.mp h1).1] at e;exact .inl ⟨m,v,em',h2,h3,e⟩
   .rw [km ix ρ1 τρ j hj] at e;exact .inr ⟨hj,e⟩
  have nocap:∀(j:Nat) (p:PV) (b:Addr),some j∉ix->ρ1[j]?=some (some p)->p.isOwn=true->σ[j]?=some (some (.ref b))->¬ Wr τρ0 τσ0 b:=λj p b hj e o s ⟨m,q,e1,o1,s1⟩=>by
   obtain⟨j',h1,h2⟩:=cG e1;obtain⟨v,hv,_⟩:=R1.get j' q h2;have:=cH h1 hv;rw [s1] at this;cases this;have:=R1.dj j j' p q _ e h2 o o1 s hv;subst this;exact hj (Eo h1)
  have w':∀b,Wr (eJ ix ρ1 τρ) σ b->Wr τρ τ b\/(Wr ρ1 σ b/\¬ Wr τρ0 τσ0 b):=λb ⟨j,p,e,o,s⟩=>by
   rcases get' j p e with ⟨m,v,h1,h2,h3,h4⟩|⟨hj,h1⟩
   .rw [s] at h2;cases h2;exact .inl ⟨m,p,h4,o,h3⟩
   .exact .inr ⟨⟨j,p,h1,o,s⟩,nocap j p b hj h1 o s⟩
  have oo':∀b,OO (d0 A D) (eJ ix ρ1 τρ) σ b->OO Ai τρ τ b:=λb z=>by
   rcases z with (z|z)|z
   .exact .inl (.inl z)
   .exact .inl (.inr (.inl z))
   .rcases w' b z with z|z
    .exact .inr z
    .exact .inl (.inr (.inr z))
  have kp1:∀b o,¬ Wr τρ0 τσ0 b->b≠D->H1 b=some o->H2 b=some o:=λb o n1 n2 e=>F2.kp b o (λz=>z.elim n1 n2) (by rw [show H0' b=H1 b from aI n2];exact e);have k1:aL (OO A ρ1 σ) H1 (OO (d0 A D) (eJ ix ρ1 τρ) σ) H2:=λb o nn e=>⟨λz=>(kk b o nn e).1 (oo' b z),(kk b o nn e).2⟩
  have AiD:Ai D:=.inr (.inl rfl)
  have R':Rel K (d0 A D) (eJ ix ρ1 τρ) σ H2:=by
   refine⟨by rw [mM];exact R1.len,λj p e=>?_,λj l p q v e1 e2 o1 o2 s1 s2=>?_,λb z=>?_,λb z w=>?_⟩
   .rcases get' j p e with ⟨m,v,h1,h2,h3,h4⟩|⟨hj,h1⟩
    .obtain⟨v',hv',r⟩:=r2.get m p h4;rw [h3] at hv';cases hv';exact⟨v,h2,r.keeps (aL.less oo') λ_ _ _=>rfl⟩
    .obtain⟨v,hv,r⟩:=R1.get j p h1;refine⟨v,hv,r.keeps k1 λow a ea=>?_⟩;subst ea;obtain⟨a',u,e1,e2⟩:=r.ref ow;cases e1;rw [e2];exact kp1 a u (nocap j p a hj h1 ow hv) (λz=>by rw [z,hD] at e2;cases e2) e2
   .rcases get' j p e1 with ⟨m,v1,h1,h2,h3,h4⟩|⟨hj,h1⟩
    .rw [s1] at h2;cases h2
     rcases get' l q e2 with ⟨m',v2,g1,g2,g3,g4⟩|⟨hl,g1⟩
     .rw [s2] at g2;cases g2;have:=r2.dj m m' p q _ h4 g4 o1 o2 h3 g3;subst this;rw [h1] at g1;cases g1;rfl
     .exfalso;obtain⟨v',hv',r⟩:=r2.get m p h4;rw [h3] at hv';cases hv';obtain⟨a,u,ea,_⟩:=r.ref o1;subst ea;exact nocap l q a hl g1 o2 s2 (hw a ⟨m,p,h4,o1,h3⟩)
    .rcases get' l q e2 with ⟨m',v2,g1,g2,g3,g4⟩|⟨hl,g1⟩
     .rw [s2] at g2;cases g2;exfalso;obtain⟨v',hv',r⟩:=r2.get m' q g4;rw [g3] at hv';cases hv';obtain⟨a,u,ea,_⟩:=r.ref o2;subst ea;exact nocap j p a hj h1 o1 s1 (hw a ⟨m',q,g4,o2,g3⟩)
     .exact R1.dj j l p q v h1 g1 o1 o2 s1 s2
   .rcases z with z|z
    .exact r2.dom b (.inl z)
    .rw [z,eD];exact nofun
   .rcases w' b w with w|w
    .rcases z with z|z
     .exact r2.sep b (.inl z) w
     .rw [z] at w;exact r2.sep D AiD w
    .rcases z with z|z
     .exact R1.sep b z w.1
     .rw [z] at w;exact nD w.1
  have f2:Fr ρ1 σ H1 (eJ ix ρ1 τρ) H2:=by
   refine⟨λb o nn e=>kp1 b o (λz=>nn (wsub b z)) (λz=>by rw [z,hD] at e;cases e) e,λb z=>F2.dm b ?_,λb z=>?_⟩
   .intro e
    by_cases zz:b=D
    .exact z (by rw [zz];exact hD)
    .rw [show H0' b=H1 b from aI zz] at e;exact z e
   .rcases w' b z with z|z
    .exact wsub b (hw b z)
    .exact z.1
  have hD0:H D=none:=by
   cases e:H D with
   | none=>rfl
   | some o=>exact absurd hD (f1.dm D (by rw [e];exact nofun))
  exact k _ H2 (.own ys) _ q' (f1.trans f2) ⟨D,xs,rfl,λz=>R1.dom D z hD,hD0,eD,R',fD.keeps (aL.less oo')⟩
variable {A':Addr->Prop}
def Rel.step(R:Rel K A ρ σ H){p q:PV}{a:Addr}(e:ρ[i]?=some (some p))(ow:p.isOwn=true)(ow':q.isOwn=true)(es:σ[i]?=some (some (.ref a)))(kp:∀b o,b≠a->H b=some o->H' b=some o)(ha:H' a≠none)(h1:∀b,A b->A' b)(h2:∀b,A' b->A b\/H b=none)(dom':∀b,A' b->H' b≠none)(new:RS K (OO A' ρ σ) H' q (.ref a)):Rel K A' (ρ.set i (some q)) σ H'/\Fr ρ σ H (ρ.set i (some q)) H':=by
 have hi:i<ρ.length:=(i_.mp e).1;have wa:Wr ρ σ a:=⟨i,p,e,ow,es⟩
 have weq:∀b,Wr (ρ.set i (some q)) σ b ↔ Wr ρ σ b:=λb=>by
  constructor
  .rintro⟨j,r,e1,o1,s1⟩
   by_cases z:i=j
   .subst z;exact⟨i,p,e,ow,s1⟩
   .rw [p_ z] at e1;exact⟨j,r,e1,o1,s1⟩
  .rintro⟨j,r,e1,o1,s1⟩
   by_cases z:i=j
   .subst z;exact⟨i,q,so hi,ow',s1⟩
   .exact⟨j,r,by rw [p_ z];exact e1,o1,s1⟩
 have oeq:OO A' (ρ.set i (some q)) σ=OO A' ρ σ:=funext λb=>propext (or_congr Iff.rfl (weq b));have kp1:∀b u,¬ Wr ρ σ b->H b=some u->H' b=some u:=λb u n h=>kp b u (λz=>n (by rw [z];exact wa)) h
 have k:aL (OO A ρ σ) H (OO A' ρ σ) H':=λb u n h=>by
  refine⟨λz=>?_,kp1 b u (λz=>n (.inr z)) h⟩
  rcases z with z|z
  .rcases h2 b z with z|z
   .exact n (.inl z)
   .rw [z] at h;cases h
  .exact n (.inr z)
 have dm:∀b,H b≠none->H' b≠none:=λb n=>by
  by_cases z:b=a
  .rw [z];exact ha
  .cases eb:H b with
   | none=>exact absurd eb n
   | some o=>rw [kp b o z eb];exact nofun
 refine⟨⟨by rw [L0];exact R.len,λj r e1=>?_,λj l p1 q1 v e1 e2 o1 o2 s1 s2=>?_,dom',λb z w=>?_⟩,⟨kp1,dm,λb w=>(weq b).mp w⟩⟩
 .rw [oeq]
  by_cases z:i=j
  .subst z;rw [so hi] at e1;cases e1;exact⟨_,es,new⟩
  .rw [p_ z] at e1;obtain⟨v,s,rr⟩:=R.get j r e1;refine⟨v,s,rr.keeps k λow2 b eb=>?_⟩;obtain⟨b',u,e3,e4⟩:=rr.ref ow2;rw [eb] at e3;cases e3;rw [e4];refine kp b u (λzz=>?_) e4;subst zz;rw [eb] at s;exact z (R.dj i j p r _ e e1 ow ow2 es s)
 .have ex:∀(m:Nat) (x:PV),(ρ.set i (some q))[m]?=some (some x)->x.isOwn=true->∃y:PV,ρ[m]?=some (some y)/\y.isOwn=true:=λm x em ox=>by
   by_cases z:i=m
   .subst z;exact⟨p,e,ow⟩
   .rw [p_ z] at em;exact⟨x,em,ox⟩
  obtain⟨y1,g1,g2⟩:=ex j p1 e1 o1;obtain⟨y2,g3,g4⟩:=ex l q1 e2 o2;exact R.dj j l y1 y2 v g1 g3 g2 g4 s1 s2
 .rcases h2 b z with z|z
  .exact R.sep b z ((weq b).mp w)
  .exact R.wr ((weq b).mp w) z
def Rel.lstw(R:Rel K A ρ σ H){es:List D}{a:Addr}{ys:List V}(e:ρ[i]?=some (some (.own ds)))(es':σ[i]?=some (some (.ref a)))(f:FVs K (OO A ρ σ) H ys es):
  Rel K A (ρ.set i (some (.own es))) σ (upd H a (.lst ys))/\Fr ρ σ H (ρ.set i (some (.own es))) (upd H a (.lst ys)):=by
 have wa:OO A ρ σ a:=.inr ⟨i,_,e,rfl,es'⟩;exact R.write (q:=.own es) e rfl rfl es' ⟨a,ys,rfl,aY,f.keeps λb u n h=>⟨n,by rw [aI (λz=>n (by rw [z];exact wa))];exact h⟩⟩
def Rel.ownAt(R:Rel K A ρ σ H)(e:ρ[i]?=some (some (.own ds))):∃a xs,σ[i]?=some (some (.ref a))/\H a=some (.lst xs)/\FVs K (OO A ρ σ) H xs ds:=by
 obtain⟨v,s,a,xs,rfl,g,f⟩:=R.get i _ e;exact⟨a,xs,s,g,f⟩
noncomputable def KG(i:Nat)(pe:PTE):PTE:=λρ Q=>match ρ[i]? with
 | some (some (.own _))=>pe ρ λp ρ1=>(match ρ1[i]? with
  | some (some (.own ds))=>ds.length<1000000/\Q (.dat .non) (ρ1.set i (some (.own (ds++[p.d]))))
  | _=>False)
 | _=>False
noncomputable def Hh(i:Nat)(pe pk:PTE):PTS:=λD ρ=>pe ρ λp ρ1=>(match ρ1[i]? with
 | some (some (.own _))=>pk ρ1 λkp ρ2=>(match ρ2[i]?,kp with
  | some (some (.own ds)),.dat (.int k)=>∃j,ixN ds.length k=some j/\D.nx (ρ2.set i (some (.own (ds.set j p.d))))
  | _,_=>False)
 | _=>False)
section
def sZ(h:LE K te pe):LE K (tBM K "list" zg (aJ i) (ax te bU)) (KG i pe):=λA ρ σ H Q Q' R q k=>by
 unfold KG at q
 split at q
 .rename_i ds0 e0;obtain⟨a0,xs0,s0,g0,f0⟩:=R.ownAt e0;refine⟨_,s0,.inl ⟨rfl,xs0,SqL.of g0⟩,h A ρ σ H _ _ R q λv H1 p ρ1 q1 f1 o1=>?_⟩;obtain⟨R1,fv⟩:=o1.frz
  split at q1
  .rename_i ds e1;obtain⟨a,xs,s,g,f⟩:=R1.ownAt e1;rw [s0] at s;cases s;obtain⟨R2,f2⟩:=R1.lstw e1 s0 (f.append (.cons fv .nil));exact⟨a0,xs,v,rfl,rfl,g,w_ (by rw [f.length];exact q1.1) (sz _ (gV _)),k _ _ _ _ q1.2 (f1.trans f2) ⟨R2,.non⟩⟩
  .exact q1.elim
 .exact q.elim
variable {tk:TE}{pk:PTE}{fs:List Nat}
def zU(h:LE K te pe)(hk:LE K tk pk):LS K fs (Fz te (Kn (aJ i) tk Gy)) (Hh i pe pk):=λfx A R H0 ρ σ H D D' hf r F q k1 k2 k3 k4=>h A ρ σ H _ _ r q λv H1 p ρ1 q1 f1 o1=>by
 obtain⟨R1,fv⟩:=o1.frz
 split at q1
 .rename_i ds0 e0;obtain⟨a0,xs0,s0,g0,f0⟩:=R1.ownAt e0;refine⟨_,s0,hk A ρ1 σ H1 _ _ R1 q1 λw H2 kp ρ2 q2 f2 o2=>?_⟩
  split at q2
  .rename_i ds j e2;obtain⟨n,hn,q2⟩:=q2;obtain⟨R2,fw⟩:=o2;cases fw;obtain⟨a,xs,s,g,f⟩:=R2.ownAt e2;rw [s0] at s;cases s;obtain⟨R3,f3⟩:=R2.lstw e2 s0 (FVs.set (fv.keeps f2.keeps) n f);exact⟨a0,xs,j,n,rfl,rfl,g,by rw [f.length];exact hn,k1 _ _ _ q2 R3 (((F.fr f1).fr f2).fr f3)⟩
  .exact q2.elim
 .exact q1.elim
end
noncomputable def spP(K:b_)(c:FN):Sp:=λvs H Q _=>∃(O:Addr->Prop) (ds:List D) (Qc:PV->Prop),(∀b,O b->H b≠none)/\FVs K O H vs ds/\c ds Qc/\∀r,Qc r->∀v H',Gr H H'->uY K O H H' r v->Q v H'
noncomputable def qb(c:FN)(pr:PTA):PTE:=λρ Q=>pr ρ λas ρ1=>match avD as with
 | some ds=>c ds λr=>Q r ρ1
 | none=>False
variable {N:List Str}{vs:List V}
def nH(h:vs[i]?=some v):(start N vs)[i]?=some (some v):=by
 unfold start;rw [MJ (by rw [length_map];exact (i_.mp h).1),h_,h];rfl
noncomputable def dS(n:Nat)(ps:List PV):PSt:=ps.map some++u1 (n - ps.length) none
def fY{ps:List PV}{p:PV}(h:(dS n ps)[i]?=some (some p)):ps[i]?=some p:=by
 unfold dS at h
 by_cases hi:i<ps.length
 .rw [MJ (by rw [length_map];exact hi),h_] at h
  cases e:ps[i]? with
  | none=>rw [e] at h;cases h
  | some q=>rw [e] at h;cases h;rfl
 .rw [Mf (by rw [length_map];omega)] at h;have:=Eo h;rw [mem_replicate] at this;cases this.2
variable {tr:TA}{pr:PTA}
def ap{c:FN}(h:LAs K tr pr):LE K (cq (spP K c) [] E0 tr) (qb c pr):=λA ρ σ H Q Q' R q k=>h A ρ σ H _ _ R q λvs H1 as ρ1 q1 f1 R1 o1=>by
 split at q1
 .rename_i ds e;rw [LA];exact⟨OO A ρ1 σ,ds,_,R1.dom2,o1.avD e,q1,λr qr v H' g ov=>k v H' r ρ1 qr (f1.trans g.fr) ((ov.out R1 g).h0 f1.dm)⟩
 .exact q1.elim
def Out.outV{p:PV}(h:Out K O ρ σ H H' p v):uY K O H H' p v:=by
 cases p with
 | dat d=>exact h.2.keeps (aL.less λb z=>.inl z)
 | own ds =>
  obtain⟨a,xs,e1,na,e2,e3,R,f⟩:=h;exact⟨a,xs,e1,e2,e3,f.keeps (aL.less λb z=>.inl z)⟩
 | ins c ns ds =>
  obtain⟨a,dx,fs,e1,na,e2,e3,m,R,f⟩:=h;exact⟨a,dx,fs,e1,e2,e3,m,f.keeps (aL.less λb z=>.inl z)⟩
 | odc ks ds =>
  obtain⟨a,kvs,e1,na,e2,e3,m,R,f⟩:=h;exact⟨a,kvs,e1,e2,e3,m,f.keeps (aL.less λb z=>.inl z)⟩
variable {ts:TS}{ps:PTS}
def fnP{c:FN}(hl:LS K [] ts ps)(hn:∀ds Q,c ds Q->ds.length<=N.length)(hc:∀ds Q,c ds Q->ps { nx:=λ_=>Q (.dat .non),rt:=λp _=>Q p } (dS N.length (ds.map .dat))){Q:VK}{E:XK}(h:spP K c vs H Q E):ts { nx:=λ_ H'=>Q .non H',rt:=Q } (start N vs) H:=by
 obtain⟨O,ds,Qc,dom,fv,hq,k⟩:=h
 have nw:∀(ρ:PSt) (b:Addr),ρ=dS N.length (ds.map .dat)->¬ Wr ρ (start N vs) b:=λρ b e ⟨i,p,e1,o1,s1⟩=>by
  rw [e] at e1;have:=fY e1;rw [h_] at this
  cases e2:ds[i]? with
  | none=>rw [e2] at this;cases this
  | some d=>rw [e2] at this;cases this;cases o1
 have lenv:=fv.length;have hle:=hn ds Qc hq
 have R0:Rel K O (dS N.length (ds.map .dat)) (start N vs) H:=by
  refine⟨?_,λi p e=>?_,λi j p q v e1 e2 o1 o2 s1 s2=>?_,dom,λb _ w=>nw _ b rfl w⟩
  .unfold dS start;rw [length_append,length_append,length_map,length_map,length_map,length_replicate,length_replicate,lenv]
  .have:=fY e;rw [h_] at this
   cases e2:ds[i]? with
   | none=>rw [e2] at this;cases this
   | some d =>
    rw [e2] at this;cases this;obtain⟨v,hv,f⟩:=fv.getD e2;exact⟨v,nH hv,f.keeps (aL.less λb z=>z.elim id λw=>absurd w (nw _ b rfl))⟩
  .have:=fY e1;rw [h_] at this
   cases e3:ds[i]? with
   | none=>rw [e3] at this;cases this
   | some d=>rw [e3] at this;cases this;cases o1
 refine hl [] O (λ_=>False) H _ _ H _ _ rfl R0 ⟨λ_ _ _ h=>h,λ_ h=>h,λb w=>absurd w (nw _ b rfl),λp hp=>nomatch hp⟩ (hc ds Qc hq) (λρ' σ' H' q r F=>?_) (λv p ρ' σ' H' q o F=>?_) (λ_ _ _ z=>z.elim) (λ_ _ _ z=>z.elim)
 .exact k _ q .non H' (λb o e=>F.kp b o id e) .non
 .exact k _ q v H' (λb o e=>F.kp b o id e) o.outV
abbrev FR:=PV->List D->(PV->PV->Prop)->Prop
noncomputable def spR(K:b_)(c:FR):Sp:=λvs H Q _=>∃(A:Addr->Prop) (a:Addr) (p:PV) (ws:List V) (ds:List D) (Qc:PV->PV->Prop),vs=.ref a::ws/\p.isOwn=true/\(∀b,A b->H b≠none)/\¬ A a/\RS K (d0 A a) H p (.ref a)/\FVs K (d0 A a) H ws ds/\c p ds Qc /\
 ∀r p',Qc r p'->p'.isOwn=true->∀v H',(∀b o,b≠a->H b=some o->H' b=some o)->H' a≠none->RS K (d0 A a) H' p' (.ref a)->uY K (d0 A a) H H' r v->(∀a',v=.ref a'->r.isOwn=true->RS K (d0 (d0 A a) a') H' p' (.ref a))->Q v H'
noncomputable def CS(c:FR)(i:Nat)(pr:PTA):PTE:=λρ Q=>match ρ[i]? with
 | some (some _)=>pr ρ λas ρ1=>(match ρ1[i]?,avD as with
  | some (some p),some ds=>p.isOwn=true/\c p ds λr p'=>Q r (ρ1.set i (some p'))
  | _,_=>False)
 | _=>False
def aM{c:FR}(h:LAs K tr pr):LE K (cq (spR K c) [] E0 (ax (aJ i) tr)) (CS c i pr):=λA ρ σ H Q Q' R q k=>by
 unfold CS at q
 split at q
 .rename_i p0 e0;obtain⟨v0,s0,_⟩:=R.get i p0 e0;refine⟨v0,s0,h A ρ σ H _ _ R q λvs H1 as ρ1 q1 f1 R1 o1=>?_⟩
  split at q1
  .rename_i p ds e1 ed;obtain⟨ow,q1⟩:=q1;obtain⟨v1,s1,rs⟩:=R1.get i p e1;rw [s0] at s1;cases s1;obtain⟨a,u,rfl,ea⟩:=rs.ref ow;rw [LA];have wa:Wr ρ1 σ a:=⟨i,p,e1,ow,s0⟩
   have oeq:d0 (λb=>(OO A ρ1 σ b)/\b≠a) a=OO A ρ1 σ:=funext λb=>propext ⟨λz=>z.elim (λz=>z.1) (λz=>by rw [z];exact .inr wa),λz=>by
    by_cases e:b=a
    .exact .inr e
    .exact .inl ⟨z,e⟩⟩
   refine⟨λb=>(OO A ρ1 σ b)/\b≠a,a,p,vs,ds,_,rfl,ow,λb z=>R1.dom2 b z.1,λz=>z.2 rfl,by rw [oeq];exact rs,by rw [oeq];exact o1.avD ed,q1,λr p' qr ow' v H' kp ha rs' ov hx=>?_⟩;rw [oeq] at rs' ov hx
   have domA:∀b,A b->H' b≠none:=λb z=>by
    have:b≠a:=λe=>R1.sep b z (by rw [e];exact wa)
    cases eb:H1 b with
    | none=>exact absurd eb (R1.dom b z)
    | some o=>rw [kp b o this eb];exact nofun
   cases r with
   | dat d =>
    obtain⟨R2,f2⟩:=R1.step (A':=A) e1 ow ow' s0 kp ha (λ_ h=>h) (λ_ h=>.inl h) domA rs';exact k v H' _ _ qr (f1.trans f2) ⟨R2,FV.keeps (aL.less λb z=>z.imp id (f2.ow b)) ov⟩
   | own es =>
    obtain⟨a',xs,rfl,n1,e2,f⟩:=ov;have hx:=hx a' rfl rfl;have na:a'≠a:=λe=>by rw [e,ea] at n1;cases n1
    have oo2:∀b,OO (d0 A a') ρ1 σ b ↔ d0 (OO A ρ1 σ) a' b:=λb=>⟨λz=>by
     rcases z with (z|z)|z
     .exact .inl (.inl z)
     .exact .inr z
     .exact .inl (.inr z),λz=>by
     rcases z with (z|z)|z
     .exact .inl (.inl z)
     .exact .inr z
     .exact .inl (.inr z)⟩
    have oo2':OO (d0 A a') ρ1 σ=d0 (OO A ρ1 σ) a':=funext λb=>propext (oo2 b)
    obtain⟨R2,f2⟩:=R1.step (A':=d0 A a') e1 ow ow' s0 kp ha (λ_ h=>.inl h) (λb z=>z.imp id λz=>by rw [z];exact n1) (λb z=>z.elim (domA b) λz=>by rw [z,e2];exact nofun) (by rw [oo2'];exact hx)
    .refine k _ H' (.own es) _ qr (f1.trans f2) ⟨a',xs,rfl,λz=>R1.dom a' z n1,?_,e2,R2,f.keeps (aL.less λb z=>?_)⟩
     .cases eb:H a' with
      | none=>rfl
      | some o=>exact absurd n1 (f1.dm a' (by rw [eb];exact nofun))
     .rw [<- oo2'];exact z.imp id (f2.ow b)
   | ins c ns es =>
    obtain⟨a',dx,fs,rfl,n1,e2,m,f⟩:=ov;have hx:=hx a' rfl rfl
    have oo2':OO (d0 A a') ρ1 σ=d0 (OO A ρ1 σ) a':=funext λb=>propext ⟨λz=>by
     rcases z with (z|z)|z
     .exact .inl (.inl z)
     .exact .inr z
     .exact .inl (.inr z),λz=>by
     rcases z with (z|z)|z
     .exact .inl (.inl z)
     .exact .inr z
     .exact .inl (.inr z)⟩
    obtain⟨R2,f2⟩:=R1.step (A':=d0 A a') e1 ow ow' s0 kp ha (λ_ h=>.inl h) (λb z=>z.imp id λz=>by rw [z];exact n1) (λb z=>z.elim (domA b) λz=>by rw [z,e2];exact nofun) (by rw [oo2'];exact hx)
    .refine k _ H' (.ins c ns es) _ qr (f1.trans f2) ⟨a',dx,fs,rfl,λz=>R1.dom a' z n1,?_,e2,m,R2,f.keeps (aL.less λb z=>?_)⟩
     .cases eb:H a' with
      | none=>rfl
      | some o=>exact absurd n1 (f1.dm a' (by rw [eb];exact nofun))
     .rw [<- oo2'];exact z.imp id (f2.ow b)
   | odc ks es =>
    obtain⟨a',kvs,rfl,n1,e2,m,f⟩:=ov;have hx:=hx a' rfl rfl
    have oo2':OO (d0 A a') ρ1 σ=d0 (OO A ρ1 σ) a':=funext λb=>propext ⟨λz=>by
     rcases z with (z|z)|z
     .exact .inl (.inl z)
     .exact .inr z
     .exact .inl (.inr z),λz=>by
     rcases z with (z|z)|z
     .exact .inl (.inl z)
     .exact .inr z
     .exact .inl (.inr z)⟩
    obtain⟨R2,f2⟩:=R1.step (A':=d0 A a') e1 ow ow' s0 kp ha (λ_ h=>.inl h) (λb z=>z.imp id λz=>by rw [z];exact n1) (λb z=>z.elim (domA b) λz=>by rw [z,e2];exact nofun) (by rw [oo2'];exact hx)
    .refine k _ H' (.odc ks es) _ qr (f1.trans f2) ⟨a',kvs,rfl,λz=>R1.dom a' z n1,?_,e2,m,R2,f.keeps (aL.less λb z=>?_)⟩
     .cases eb:H a' with
      | none=>rfl
      | some o=>exact absurd n1 (f1.dm a' (by rw [eb];exact nofun))
     .rw [<- oo2'];exact z.imp id (f2.ow b)
  .exact q1.elim
 .exact q.elim
noncomputable def FF(Q:PV->PV->Prop)(r:PV)(ρ:PSt):Prop:=match ρ[0]? with
 | some (some p)=>p.isOwn=true/\Q r p
 | _=>False
def fnR{c:FR}(hl:LS K [0] ts ps)(hn:∀p ds Q,c p ds Q->ds.length+1<=N.length)(hc:∀p ds Q,p.isOwn=true->c p ds Q->ps { nx:=FF Q (.dat .non),rt:=FF Q } (dS N.length (p::ds.map .dat))){Q:VK}{E:XK}(h:spR K c vs H Q E):ts { nx:=λ_ H'=>Q .non H',rt:=Q } (start N vs) H:=by
 obtain⟨A,a,p,ws,ds,Qc,rfl,ow,dom,na,rs,fv,hq,k⟩:=h;have s0:(start N (V.ref a::ws))[0]?=some (some (.ref a)):=nH rfl;have b0:(dS N.length (p::ds.map .dat))[0]?=some (some p):=rfl
 have wr:∀b,Wr (dS N.length (p::ds.map .dat)) (start N (.ref a::ws)) b->b=a:=λb ⟨i,q,e1,o1,s1⟩=>by
  have:=fY e1
  cases i with
  | zero=>rw [s0] at s1;cases s1;rfl
  | succ i =>
   rw [Nu,h_] at this
   cases e2:ds[i]? with
   | none=>rw [e2] at this;cases this
   | some d=>rw [e2] at this;cases this;cases o1
 have wa:Wr (dS N.length (p::ds.map .dat)) (start N (.ref a::ws)) a:=⟨0,p,b0,ow,s0⟩
 have oeq:OO A (dS N.length (p::ds.map .dat)) (start N (.ref a::ws))=d0 A a:=funext λb=>propext ⟨λz=>z.imp id (wr b),λz=>z.imp id λz=>by rw [z];exact wa⟩;have lenv:=fv.length;have hle:=hn p ds Qc hq
 have R0:Rel K A (dS N.length (p::ds.map .dat)) (start N (.ref a::ws)) H:=by
  refine⟨?_,λi q e=>?_,λi j q1 q2 v e1 e2 o1 o2 s1 s2=>?_,dom,λb z w=>?_⟩
  .unfold dS start;simp only [length_append,length_map,length_replicate,length_cons,lenv]
  .have:=fY e;rw [oeq]
   cases i with
   | zero=>cases this;exact⟨_,s0,rs⟩
   | succ i =>
    rw [Nu,h_] at this
    cases e2:ds[i]? with
    | none=>rw [e2] at this;cases this
    | some d =>
     rw [e2] at this;cases this;obtain⟨v,hv,f⟩:=fv.getD e2;exact⟨v,nH (by rw [Nu];exact hv),f⟩
  .have own0:∀(i:Nat) (q:PV),(dS N.length (p::ds.map .dat))[i]?=some (some q)->q.isOwn=true->i=0:=λi q e o=>by
    have:=fY e
    cases i with
    | zero=>rfl
    | succ i =>
     rw [Nu,h_] at this
     cases e2:ds[i]? with
     | none=>rw [e2] at this;cases this
     | some d=>rw [e2] at this;cases this;cases o
   rw [own0 i q1 e1 o1,own0 j q2 e2 o2]
  .rw [wr b w] at z;exact na z
 have fin:∀(v:V) (r:PV) (ρ':PSt) (σ':St) (H':Hp),FF Qc r ρ'->Out K A ρ' σ' H H' r v->gD [(0,.ref a)] (λb=>b=a) H ρ' σ' H'->Q v H':=λv r ρ' σ' H' q o F=>by
  unfold FF at q
  split at q
  .rename_i p' e';obtain⟨ow',q⟩:=q;have sa:=F.fx (0,.ref a) (G_.mpr rfl);have wa':Wr ρ' σ' a:=⟨0,p',e',ow',sa⟩
   have kpa:∀b o,b≠a->H b=some o->H' b=some o:=λb o n e=>F.kp b o n e
   cases r with
   | dat d =>
    obtain⟨R1,f1⟩:=o;obtain⟨v1,s1,rs1⟩:=R1.get 0 p' e';rw [sa] at s1;cases s1;have less:∀b,d0 A a b->OO A ρ' σ' b:=λb z=>z.imp id λz=>by rw [z];exact wa'
    exact k _ p' q ow' v H' kpa (R1.wr wa') (rs1.keeps (aL.less less) λ_ _ _=>rfl) (f1.keeps (aL.less less)) (λ_ _ z=>nomatch z)
   | own es =>
    obtain⟨a',xs,rfl,n1,n2,e3,R1,f1⟩:=o;obtain⟨v1,s1,rs1⟩:=R1.get 0 p' e';rw [sa] at s1;cases s1
    have less:∀b,d0 (d0 A a) a' b->OO (d0 A a') ρ' σ' b:=λb z=>by
     rcases z with (z|z)|z
     .exact .inl (.inl z)
     .exact .inr (by rw [z];exact wa')
     .exact .inl (.inr z)
    exact k _ p' q ow' _ H' kpa (R1.wr wa') (rs1.keeps (aL.less λb z=>less b (.inl z)) λ_ _ _=>rfl) ⟨a',xs,rfl,n2,e3,f1.keeps (aL.less less)⟩ (λa'' e _=>by cases e;exact rs1.keeps (aL.less less) λ_ _ _=>rfl)
   | ins c ns es =>
    obtain⟨a',dx,fs,rfl,n1,n2,e3,m,R1,f1⟩:=o;obtain⟨v1,s1,rs1⟩:=R1.get 0 p' e';rw [sa] at s1;cases s1
    have less:∀b,d0 (d0 A a) a' b->OO (d0 A a') ρ' σ' b:=λb z=>by
     rcases z with (z|z)|z
     .exact .inl (.inl z)
     .exact .inr (by rw [z];exact wa')
     .exact .inl (.inr z)
    exact k _ p' q ow' _ H' kpa (R1.wr wa') (rs1.keeps (aL.less λb z=>less b (.inl z)) λ_ _ _=>rfl) ⟨a',dx,fs,rfl,n2,e3,m,f1.keeps (aL.less less)⟩ (λa'' e _=>by cases e;exact rs1.keeps (aL.less less) λ_ _ _=>rfl)
   | odc ks es =>
    obtain⟨a',kvs,rfl,n1,n2,e3,m,R1,f1⟩:=o;obtain⟨v1,s1,rs1⟩:=R1.get 0 p' e';rw [sa] at s1;cases s1
    have less:∀b,d0 (d0 A a) a' b->OO (d0 A a') ρ' σ' b:=λb z=>by
     rcases z with (z|z)|z
     .exact .inl (.inl z)
     .exact .inr (by rw [z];exact wa')
     .exact .inl (.inr z)
    exact k _ p' q ow' _ H' kpa (R1.wr wa') (rs1.keeps (aL.less λb z=>less b (.inl z)) λ_ _ _=>rfl) ⟨a',kvs,rfl,n2,e3,m,f1.keeps (aL.less less)⟩ (λa'' e _=>by cases e;exact rs1.keeps (aL.less less) λ_ _ _=>rfl)
  .exact q.elim
 refine hl [(0,.ref a)] A (λb=>b=a) H _ _ H _ _ rfl R0 ⟨λ_ _ _ h=>h,λ_ h=>h,λb w=>.inl (wr b w),λq hq=>by rw [G_.mp hq];exact s0⟩ (hc p ds Qc ow hq) (λρ' σ' H' q r F=>fin .non (.dat .non) ρ' σ' H' q ⟨r,.non⟩ F) (λv p ρ' σ' H' q o F=>fin v p ρ' σ' H' q o F) (λ_ _ _ z=>z.elim) (λ_ _ _ z=>z.elim)
noncomputable def KH:FN:=λas Q=>∃ns:List Int,as=[.scr ns]/\ns.length<=63/\Q (.dat (.bl true))
def Ew{Q:VK}{E:XK}(h:xX K vs H Q E):spP K KH vs H Q E:=by
 obtain⟨a,ns,rfl,hS,h63,q⟩:=h
 refine⟨λ_=>False,[.scr ns],λr=>r=.dat (.bl true),nofun,.cons (.scr ?_) .nil,⟨ns,rfl,h63,rfl⟩,λr e v H' g o=>?_⟩
 .rcases hS with h|h
  .exact .inl ⟨id,h⟩
  .exact .inr h
 .subst e;cases o;exact q H'
noncomputable def KI:List V->Hp->VK->Prop:=λxs H Q=>∃i,xs=[.int i]/\Q (.int (if i<0 then -i else i)) H
noncomputable def Hi:List V->Hp->VK->Prop:=λxs H Q=>∃i j,xs=[.int i,.int j]/\Q (.int (if j<i then j else i)) H
noncomputable def Ex:List V->Hp->VK->Prop:=λxs H Q=>∃i j,xs=[.int i,.int j]/\Q (.int (if j > i then j else i)) H
def JK:bJ X (.builtin "abs") KI:=Bt
def zV(hc:X.calm=true):bJ X (.builtin "min") Hi:=y4 hc
def CT(hc:X.calm=true):bJ X (.builtin "max") Ex:=y0 hc
noncomputable def KJ:FN
 | [.int i],Q=>Q (.dat (.int (if i<0 then -i else i)))
 | _,_=>False
noncomputable def Hj:FN
 | [.int i,.int j],Q=>Q (.dat (.int (if j<i then j else i)))
 | _,_=>False
noncomputable def Hk:FN
 | [.int i,.int j],Q=>Q (.dat (.int (if j > i then j else i)))
 | _,_=>False
def Hl:LC K KI KJ:=by
 intro O H xs as Q Q' dom fs q k;unfold KJ at q
 split at q
 .cases fs with|cons a b=>cases b;rw [a.int];exact⟨_,rfl,k _ H _ q (Gr.refl _) (.int _)⟩
 .exact q.elim
def uZ:LC K Hi Hj:=by
 intro O H xs as Q Q' dom fs q k;unfold Hj at q
 split at q
 .cases fs with
  | cons a b=>cases b with|cons b c=>cases c;rw [a.int,b.int];exact⟨_,_,rfl,k _ H _ q (Gr.refl _) (.int _)⟩
 .exact q.elim
def zW:LC K Ex Hk:=by
 intro O H xs as Q Q' dom fs q k;unfold Hk at q
 split at q
 .cases fs with
  | cons a b=>cases b with|cons b c=>cases c;rw [a.int,b.int];exact⟨_,_,rfl,k _ H _ q (Gr.refl _) (.int _)⟩
 .exact q.elim
noncomputable def Hm(K:b_):List V->Hp->VK->Prop:=λxs H Q=>∃(p:Addr) (ns:List Int),xs=[.ref p]/\SqL K H p (ns.map V.int)/\0<ns.length/\∀m:Int,m∈ns->(∀a∈ns,m<=a)->Q (.int m) H
noncomputable def Hn(K:b_):List V->Hp->VK->Prop:=λxs H Q=>∃(p:Addr) (ns:List Int),xs=[.ref p]/\SqL K H p (ns.map V.int)/\Q (.int ns.sum) H
noncomputable def KL(K:b_):List V->Hp->VK->Prop:=λxs H Q=>∃(p:Addr) (bs:List Bool),xs=[.ref p]/\SqL K H p (bs.map V.bl)/\Q (.bl (bs.all id)) H
noncomputable def KM(K:b_):List V->Hp->VK->Prop:=λxs H Q=>∃(p:Addr) (bs:List Bool),xs=[.ref p]/\SqL K H p (bs.map V.bl)/\Q (.bl (bs.any id)) H
def Ho(K:b_)(e:X.K=K)(hc:X.calm=true):bJ X (.builtin "min") (Hm K):=by subst e;exact zI hc
def CU(K:b_)(e:X.K=K)(hc:X.calm=true):bJ X (.builtin "sum") (Hn K):=by subst e;exact zJ hc
def x8(K:b_)(e:X.K=K)(hc:X.calm=true):bJ X (.builtin "all") (KL K):=by subst e;exact BQ hc
def JL(K:b_)(e:X.K=K)(hc:X.calm=true):bJ X (.builtin "any") (KM K):=by subst e;exact BR hc
noncomputable def Hr:FN
 | [.lst ds],Q=>∃ns:List Int,ds=ns.map .int/\0<ns.length/\∀m:Int,m∈ns->(∀a∈ns,m<=a)->Q (.dat (.int m))
 | _,_=>False
noncomputable def Ey:FN
 | [.lst ds],Q=>∃ns:List Int,ds=ns.map .int/\Q (.dat (.int ns.sum))
 | _,_=>False
noncomputable def JM:FN
 | [.lst ds],Q=>∃bs:List Bool,ds=bs.map .bl/\Q (.dat (.bl (bs.all id)))
 | _,_=>False
noncomputable def KN:FN
 | [.lst ds],Q=>∃bs:List Bool,ds=bs.map .bl/\Q (.dat (.bl (bs.any id)))
 | _,_=>False
def Ez:LC K (Hm K) Hr:=by
 intro O H xs as Q Q' dom fs q k;unfold Hr at q
 split at q
 .obtain⟨ns,rfl,h0,q⟩:=q
  cases fs with
  | cons a b =>
   cases b;obtain⟨p,ys,rfl,e1,f1⟩:=a.lst;rw [f1.ints] at e1;exact⟨p,ns,rfl,SqL.of e1,h0,λm hm hle=>k _ H _ (q m hm hle) (Gr.refl _) (.int _)⟩
 .exact q.elim
def zX:LC K (Hn K) Ey:=by
 intro O H xs as Q Q' dom fs q k;unfold Ey at q
 split at q
 .obtain⟨ns,rfl,q⟩:=q
  cases fs with
  | cons a b =>
   cases b;obtain⟨p,ys,rfl,e1,f1⟩:=a.lst;rw [f1.ints] at e1;exact⟨p,ns,rfl,SqL.of e1,k _ H _ q (Gr.refl _) (.int _)⟩
 .exact q.elim
def qc:LC K (KL K) JM:=by
 intro O H xs as Q Q' dom fs q k;unfold JM at q
 split at q
 .obtain⟨ns,rfl,q⟩:=q
  cases fs with
  | cons a b =>
   cases b;obtain⟨p,ys,rfl,e1,f1⟩:=a.lst;rw [f1.bls] at e1;exact⟨p,ns,rfl,SqL.of e1,k _ H _ q (Gr.refl _) (.bl _)⟩
 .exact q.elim
def Hs:LC K (KM K) KN:=by
 intro O H xs as Q Q' dom fs q k;unfold KN at q
 split at q
 .obtain⟨ns,rfl,q⟩:=q
  cases fs with
  | cons a b =>
   cases b;obtain⟨p,ys,rfl,e1,f1⟩:=a.lst;rw [f1.bls] at e1;exact⟨p,ns,rfl,SqL.of e1,k _ H _ q (Gr.refl _) (.bl _)⟩
 .exact q.elim
noncomputable def EA(K:b_):List V->Hp->VK->Prop:=λxs H Q=>∃p ys,xs=[.ref p]/\((SqL K H p ys/\∀l,H l=none->Q (.ref l) (upd H l (.tup ys)))\/(SqT K H p ys/\Q (.ref p) H))
def fN(K:b_)(e:X.K=K):bJ X (.type "tuple") (EA K):=by subst e;exact qL
def zY(K:b_)(e:X.K=K):bJ X (.type "list") (zL K):=by subst e;exact sE
noncomputable def lN:FN
 | [.lst ds],Q=>Q (.dat (.tup ds))
 | [.tup ds],Q=>Q (.dat (.tup ds))
 | [.scr ns],Q=>Q (.dat (.tup (ns.map .int)))
 | _,_=>False
noncomputable def EB:FN
 | [.lst ds],Q=>Q (.own ds)
 | [.tup ds],Q=>Q (.own ds)
 | [.scr ns],Q=>Q (.own (ns.map .int))
 | _,_=>False
def dL:LC K (EA K) lN:=by
 intro O H xs as Q Q' dom fs q k;unfold lN at q
 split at q
 .cases fs with
  | cons a b =>
   cases b;obtain⟨p,ys,rfl,e1,f1⟩:=a.lst;exact⟨p,ys,rfl,.inl ⟨SqL.of e1,λl hl=>k _ _ _ q (Gr.new hl) (nF dom hl f1)⟩⟩
 .cases fs with
  | cons a b =>
   cases b;obtain⟨p,ys,rfl,n1,e1,f1⟩:=a.tup;exact⟨p,ys,rfl,.inr ⟨SqT.of e1,k _ H _ q (Gr.refl _) (.tup n1 e1 f1)⟩⟩
 .cases fs with
  | cons a b =>
   cases b;obtain⟨p,rfl,e1⟩:=a.scr;exact⟨p,_,rfl,.inl ⟨e1,λl hl=>k _ _ _ q (Gr.new hl) (nF dom hl (FVs.of_ints _))⟩⟩
 .exact q.elim
def u0:LC K (zL K) EB:=by
 intro O H xs as Q Q' dom fs q k;unfold EB at q
 split at q
 .cases fs with
  | cons a b =>
   cases b;obtain⟨p,ys,rfl,e1,f1⟩:=a.lst;exact⟨p,ys,rfl,.inl (SqL.of e1),λl hl=>k _ _ _ q (Gr.new hl) (dF hl f1)⟩
 .cases fs with
  | cons a b =>
   cases b;obtain⟨p,ys,rfl,n1,e1,f1⟩:=a.tup;exact⟨p,ys,rfl,.inr (SqT.of e1),λl hl=>k _ _ _ q (Gr.new hl) (dF hl f1)⟩
 .cases fs with
  | cons a b =>
   cases b;obtain⟨p,rfl,e1⟩:=a.scr;exact⟨p,_,rfl,.inl e1,λl hl=>k _ _ _ q (Gr.new hl) (dF hl (FVs.of_ints _))⟩
 .exact q.elim
noncomputable def tm(i:Int)(n:Nat):List D:=(e_ n).map λ(k:Nat)=>D.int (i+(k:Int))
noncomputable def mkL(tup:Bool)(ds:List D):PV:=match tup with|true=>.dat (.tup ds)|false=>.own ds
noncomputable def Ht(tup:Bool)(pr:PTA):PTE:=λρ Q=>pr ρ λas ρ1=>match as with
 | [.v (.int j)]=>(0<=j/\j<=1000000)/\Q (mkL tup (tm 0 j.toNat)) ρ1
 | _=>False
def Hu(i:Int)(n:Nat):FVs K O H (uV i 1 n) (tm i n):=by
 have e:∀l:List Nat,FVs K O H (l.map λ(k:Nat)=>V.int (i+k*1)) (l.map λ(k:Nat)=>D.int (i+(k:Int))):=λl=>by
  induction l with
  | nil=>exact .nil
  | cons a r ih=>exact .cons (by show FV K O H (V.int (i+(a:Int)*1)) (D.int (i+(a:Int)));rw [show i+(a:Int)*1=i+(a:Int) by omega];exact .int _) ih
 exact e _
def qd{i j:Int}(h:i<=j):L1 i j 1=(((j - i).toNat:Nat):Int):=by
 unfold L1;rw [if_pos (by decide)];simp only [ediv_one];split <;> omega
def x9{i j:Int}(h0:-1000000<=i)(h1:i<=j)(h2:j<=1000000):Nh i j 1=true:=by
 unfold Nh;rw [qd h1];simp only [N3,and_eq_true,or_eq_true,decide_eq_true_eq,beq_iff_eq,show (1:Int) > 0 by decide,if_true];omega
noncomputable def mkO(tup:Bool):List V->HO:=match tup with|true=>.tup|false=>.lst
def Hv{p:Addr}(tup:Bool)(dom:∀b,O b->H b≠none)(hp:H p=none)(f:FVs K O H xs ds):uY K O H (upd H p (mkO tup xs)) (mkL tup ds) (.ref p):=by
 cases tup with
 | true=>exact nF dom hp f
 | false=>exact dF hp f
def mO(tup:Bool)(h:LAs K tr pr):LE K (tCB (II K (mkO tup)) (ax (λσ H Q=>tr σ H λvs H1=>∃j:Int,vs=[.int j]/\∀p,H1 p=none->Q (.ref p) (upd H1 p (BK p 0 j 1))) bU)) (Ht tup pr):=λA ρ σ H Q Q' R q k=>h A ρ σ H _ _ R q λvs H1 as ρ1 q1 f1 R1 o1=>by
 split at q1
 .rename_i j
  cases o1 with
  | cons a b =>
   cases b;cases a;refine⟨j,rfl,λp hp=>⟨p,0,j,1,j.toNat,rfl,aY,x9 (by decide) q1.1.1 q1.1.2,by rw [qd q1.1.1,Int.sub_zero],by omega,λl hl=>?_⟩⟩;have g:Gr H1 (upd H1 p (BK p 0 j 1)):=Gr.new hp;have R2:=R1.gr g;have g2:Gr (upd H1 p (BK p 0 j 1)) (upd (upd H1 p (BK p 0 j 1)) l (mkO tup (uV 0 1 j.toNat))):=Gr.new hl;exact k _ _ _ ρ1 q1.2 (f1.trans (g.fr.trans g2.fr)) ((uY.out R2 g2 (Hv tup R2.dom2 hl (Hu 0 _))).h0 λb z=>(g.fr (ρ:=ρ1) (σ:=σ)).dm b (f1.dm b z))
 .exact q1.elim
def xa(K:b_)(e:X.K=K)(hc:X.calm=true):bJ X (.type "list") (II K (mkO false)):=by subst e;exact xZ hc
abbrev FM:=List Nat->List D->(PV->Prop)->Prop
noncomputable def LM(K:b_)(r:V->List V->Hp->VK->Prop)(f:FM):Prop:=∀(O:Addr->Prop) (H:Hp) (l:List Nat) (xs:List V) (as:List D) (Q:PV->Prop) (Q':VK),(∀b,O b->H b≠none)->l.length<=1000000->FC K O H xs as->f l as Q ->
 (∀v H' p,Q p->Gr H H'->uY K O H H' p v->Q' v H')->r (.str (S l)) xs H Q'
noncomputable def pSM(f:FM)(pe:PTE)(pr:PTA):PTE:=λρ Q=>pe ρ λp ρ1=>match p with
 | .dat (.str l)=>pr ρ1 λas ρ2=>(match conts ρ2 as with
  | some ds=>f l ds λr=>Q r ρ2
  | none=>False)
 | _=>False
variable {ta:TE}
def ya{r:V->List V->Hp->VK->Prop}{f:FM}(o:LM K r f)(he:LE K ta pe)(hr:LAs K tr pr):LE K (tBM K "str" r ta tr) (pSM f pe pr):=λA ρ σ H Q Q' R q k=>he A ρ σ H _ _ R q λv H1 p ρ1 q1 f1 o1=>by
 split at q1
 .rename_i l;obtain⟨R1,fv⟩:=o1
  cases fv with
  | str _ hl =>
   refine⟨rfl,hr A ρ1 σ H1 _ _ R1 q1 λvs H2 as ρ2 q2 f2 R2 o2=>?_⟩
   split at q2
   .rename_i ds e;exact o _ H2 l vs ds _ _ R2.dom2 hl (R2.conts o2 e) q2 λz H3 p q3 g ov=>k z H3 p ρ2 q3 ((f1.trans f2).trans g.fr) ((ov.out R2 g).h0 λb z=>f2.dm b (f1.dm b z))
   .exact q2.elim
 .exact q1.elim
noncomputable def Hw:V->List V->Hp->VK->Prop:=λx xs H Q=>∃a b,x=.str (S a)/\xs=[.str (S b)]/\Q (.bl (decide (b <:+ a))) H
noncomputable def CV:V->List V->Hp->VK->Prop:=λx xs H Q=>∃a b,x=.str (S a)/\xs=[.str (S b)]/\Q (.int (fnd a b 0)) H
def EC:MtR X "str.endswith" Hw:=uU
def qX:MtR X "str.find" CV:=BN
noncomputable def Hx:FM
 | a,[.str b],Q=>Q (.dat (.bl (decide (b <:+ a))))
 | _,_,_=>False
noncomputable def CW:FM
 | a,[.str b],Q=>Q (.dat (.int (fnd a b 0)))
 | _,_,_=>False
def ED:LM K Hw Hx:=by
 intro O H l xs as Q Q' dom hl fs q k;unfold Hx at q
 split at q
 .cases fs with|cons a b=>cases b;rw [a.str.1];exact⟨_,_,rfl,rfl,k _ H _ q (Gr.refl _) (.bl _)⟩
 .exact q.elim
def qY:LM K CV CW:=by
 intro O H l xs as Q Q' dom hl fs q k;unfold CW at q
 split at q
 .cases fs with|cons a b=>cases b;rw [a.str.1];exact⟨_,_,rfl,rfl,k _ H _ q (Gr.refl _) (.int _)⟩
 .exact q.elim
noncomputable def fB(f:Str):List Str->Option Nat
 | []=>none
 | n::r=>if n=f then some 0 else (fB f r).map (·+1)
theorem tq{f:Str}:∀{fs:List (Str×V)}{k:Nat},fB f (fs.map B_)=some k->fs.lookup f=(fs.map MF)[k]?
 | [],k,h=>by cases h
 | (n,v)::r,k,h=>by
  unfold fB at h;rw [map_cons] at h;simp only at h;rw [Me]
  by_cases e:n=f
  .rw [if_pos e] at h;cases h;rw [show (f == n)=true by rw [e];exact beq_self_eq_true _];rfl
  .rw [if_neg e] at h;rw [show (f == n)=false from beq_eq_false_iff_ne.mpr λz=>e z.symm]
   cases e2:fB f (r.map B_) with
   | none=>rw [e2] at h;cases h
   | some j=>rw [e2] at h;cases h;show M9 f r=_;rw [tq e2];simp
theorem nI{f:Str}:∀{fs:List (Str×V)},fB f (fs.map B_)=none->fs.lookup f=none
 | [],h=>rfl
 | (n,v)::r,h=>by
  unfold fB at h;rw [map_cons] at h;simp only at h;rw [Me]
  by_cases e:n=f
  .rw [if_pos e] at h;cases h
  .rw [if_neg e] at h;rw [show (f == n)=false from beq_eq_false_iff_ne.mpr λz=>e z.symm]
   cases e2:fB f (r.map B_) with
   | none=>exact nI e2
   | some j=>rw [e2] at h;cases h
theorem qZ{f:Str}:∀{fs:List (Str×V)},fB f (fs.map B_)=none->p5 f v fs=fs++[(f,v)]
 | [],h=>rfl
 | (n,x)::r,h=>by
  unfold fB at h;rw [map_cons] at h;simp only at h
  by_cases e:n=f
  .rw [if_pos e] at h;cases h
  .rw [if_neg e] at h
   cases e2:fB f (r.map B_) with
   | none=>unfold p5;rw [if_neg e,qZ e2];rfl
   | some j=>rw [e2] at h;cases h
def FVc.obj{c:Str}{ns:List Str}(h:FVc K O H v (.obj c ns ds)):∃a dx fs,v=.ref a/\H a=some (.ins (bQ K c) dx fs)/\fs.map B_=ns/\FVs K O H (fs.map MF) ds:=by
 rcases h with h|⟨a,xs,ds',e1,e2,e3,f⟩|⟨a,dx,c,fs,ns,ds',e1,e2,e3,m,f⟩|⟨a,kvs,ks,ds',e1,e2,_⟩
 .cases h with
  | obj n e m f=>exact⟨_,_,_,rfl,e,m,f⟩
 .cases e2
 .cases e2;exact⟨a,dx,fs,e1,e3,m,f⟩
 .cases e2
variable {pa:PA1}
noncomputable def yN(c0:Str)(ns0:List Str)(k:Nat)(pa:PA1):PTE:=λρ Q=>pa ρ λx ρ1=>match cont ρ1 x with
 | some (.obj c ns ds)=>(c=c0/\ns=ns0)/\∃d,ds[k]?=some d/\Q (.dat d) ρ1
 | _=>False
def bR{c0 f:Str}{ns0:List Str}(hc:Cls K (bQ K c0))(hn:eE K (bQ K c0) f)(hk:fB f ns0=some i)(h:LA1 K ta pa):LE K (y9 K ta f) (yN c0 ns0 i pa):=λA ρ σ H Q Q' R q k=>h A ρ σ H _ _ R q λv H1 a ρ1 q1 f1 R1 o1=>by
 split at q1
 .rename_i c ns ds e;obtain⟨⟨rfl,rfl⟩,d,hd,q1⟩:=q1;obtain⟨a,dx,fs,rfl,e1,m,f⟩:=(R1.cont o1 e).obj;obtain⟨v,hv,fv⟩:=f.getD hd;exact⟨a,_,dx,fs,v,rfl,e1,hc,hn,by rw [tq (k:=i) (by rw [m];exact hk)];exact hv,k v H1 _ ρ1 q1 f1 ⟨R1,fv⟩⟩
 .exact q1.elim
noncomputable def lO(c0:Str)(ns0:List Str)(f:Str)(i:Nat)(pe:PTE):PTS:=λD ρ=>pe ρ λp ρ1=>match ρ1[i]? with
 | some (some (.ins c ns ds))=>(c=c0/\ns=ns0/\ns0.length<1000)/\D.nx (ρ1.set i (some (.ins c0 (ns0++[f]) (ds++[p.d]))))
 | _=>False
def jx{fs':List Nat}{c0 f:Str}{ns0:List Str}(hc:Cls K (bQ K c0))(hn:eE K (bQ K c0) f)(hk:fB f ns0=none)(h:LE K ta pe):LS K fs' (Ks K (aJ i) ta f) (lO c0 ns0 f i pe):=λfx A R H0 ρ σ H D D' hf r F q k1 k2 k3 k4=>h A ρ σ H _ _ r q λv H1 p ρ1 q1 f1 o1=>by
 obtain⟨R1,fv⟩:=o1.frz
 split at q1
 .rename_i c ns ds e;obtain⟨⟨rfl,rfl,hl⟩,q1⟩:=q1;obtain⟨w,s,a,dx,fs,rfl,g,m,ff⟩:=R1.get i _ e;have hk':fB f (fs.map B_)=none:=by rw [m];exact hk
  have wa:OO A ρ1 σ a:=.inr ⟨i,_,e,rfl,s⟩;have kw:∀o,aL (OO A ρ1 σ) H1 (OO A ρ1 σ) (upd H1 a o):=λo b u n h=>⟨n,by rw [aI (λz=>n (by rw [z];exact wa))];exact h⟩
  obtain⟨R2,f2⟩:=R1.write (o:=.ins (bQ K c) dx (p5 f v fs)) (q:=.ins c (ns++[f]) (ds++[p.d])) e rfl rfl s ⟨a,dx,p5 f v fs,rfl,aY,by rw [qZ hk',map_append,m];rfl,by rw [qZ hk',map_append];exact (ff.append (.cons fv .nil)).keeps (kw _)⟩;refine⟨_,s,a,_,dx,fs,rfl,g,hc,hn,?_,k1 _ _ _ q1 R2 ((F.fr f1).fr f2)⟩;have:fs.length=ns.length:=by rw [<- m,length_map]
  omega
 .exact q1.elim
noncomputable def JN(c0:Str)(c:FR)(pr:PTA):PTE:=λρ Q=>pr ρ λas ρ1=>match avD as with
 | some ds=>c (.ins c0 [] []) ds λr p'=>(match r,p' with
  | .dat .non,.ins c1 ns es=>c1=c0/\Q (.ins c1 ns es) ρ1
  | _,_=>False)
 | none=>False
def zZ{c0:Str}{c:FR}(h:LAs K tr pr):LE K (Bw (bQ K c0) (spR K c) [] E0 tr) (JN c0 c pr):=λA ρ σ H Q Q' R q k=>h A ρ σ H _ _ R q λvs H1 as ρ1 q1 f1 R1 o1=>by
 split at q1
 .rename_i ds e;intro x dx hx hdx hne;rw [LA]
  let H2:=upd (upd H1 dx (.own x)) x (.ins (bQ K c0) dx [])
  have g2:Gr H1 H2:=λb o z=>by
   show upd (upd H1 dx (.own x)) x _ b=_;rw [aI (bf z hx),aI (bf z hdx)];exact z
  have nx:¬ OO A ρ1 σ x:=R1.oo hx
  have keep2:aL (OO A ρ1 σ) H1 (d0 (OO A ρ1 σ) x) H2:=λb o n z=>by
   refine⟨λy=>?_,g2 b o z⟩
   rcases y with y|y
   .exact n y
   .rw [y,hx] at z;cases z
  refine⟨OO A ρ1 σ,x,.ins c0 [] [],vs,ds,_,rfl,rfl,λb z=>(g2.fr (ρ:=ρ1) (σ:=σ)).dm b (R1.dom2 b z),nx,⟨x,dx,[],rfl,aY,rfl,.nil⟩,(o1.avD e).keeps keep2,q1,λr p' qr ow' v H' kp ha rs ov _=>?_⟩
  split at qr
  .obtain⟨rfl,qr⟩:=qr;cases ov;refine⟨rfl,?_⟩;obtain⟨a',dx',fs,ea,e2,m,f⟩:=rs;cases ea;have g:Gr H1 H':=λb o z=>kp b o (bf z hx) (g2 b o z)
   have hx0:H x=none:=by
    cases eb:H x with
    | none=>rfl
    | some o=>exact absurd hx (f1.dm x (by rw [eb];exact nofun))
   refine k _ H' _ ρ1 qr (f1.trans g.fr) ⟨x,dx',fs,rfl,λz=>nx (.inl z),hx0,e2,m,R1.grA g hx (by rw [e2];exact nofun),f.keeps (aL.less λb z=>?_)⟩
   rcases z with (z|z)|z
   .exact .inl (.inl z)
   .exact .inr z
   .exact .inl (.inr z)
  .exact qr.elim
 .exact q1.elim
noncomputable def Hy(c0:Str)(ns0:List Str)(c:FN)(pe:PTE)(pr:PTA):PTE:=λρ Q=>pe ρ λp ρ1=>match p.d with
 | .obj c1 ns ds=>(c1=c0/\ns=ns0)/\pr ρ1 λas ρ2=>(match avD as with
  | some es=>c (.obj c1 ns ds::es) λr=>Q r ρ2
  | none=>False)
 | _=>False
def mP{c0 m:Str}{ns0:List Str}{c:FN}(hm:fB m ns0=none)(he:LE K ta pe)(hr:LAs K tr pr):LE K (DU (bQ K c0) m (spP K c) [] E0 ta tr) (Hy c0 ns0 c pe pr):=λA ρ σ H Q Q' R q k=>he A ρ σ H _ _ R q λv H1 p ρ1 q1 f1 o1=>by
 obtain⟨R1,fv⟩:=o1.frz
 split at q1
 .rename_i c1 ns ds e;rw [e] at fv;obtain⟨⟨rfl,rfl⟩,q1⟩:=q1;obtain⟨a,dx,fs,rfl,e1,mm,f⟩:=FVc.obj (.inl fv);refine⟨a,dx,fs,rfl,e1,nI (by rw [mm];exact hm),hr A ρ1 σ H1 _ _ R1 q1 λvs H2 as ρ2 q2 f2 R2 o2=>?_⟩
  split at q2
  .rename_i es e3;rw [LA];exact⟨OO A ρ2 σ,_::es,_,R2.dom2,.cons (fv.keeps f2.keeps) (o2.avD e3),q2,λr qr v H' g ov=>k v H' r ρ2 qr ((f1.trans f2).trans g.fr) ((ov.out R2 g).h0 λb z=>f2.dm b (f1.dm b z))⟩
  .exact q2.elim
 .exact q1.elim
abbrev z0:R2:=rI0 λi j=>.int (i - j)
abbrev JO:R2:=rI (λ_ j=>0<j) λi j=>.int (i % j)
abbrev Aa:R2:=rI IZ λi j=>.int (i / j)
abbrev KO:R2:=rI0 λi j=>.bl (decide (j<i))
abbrev IP:R2:=rI0 λi j=>.bl (decide (j<=i))
abbrev Hz:V->Hp->VK->Prop:=rU λi=>.int (-i)
noncomputable def KP:D->(PV->Prop)->Prop
 | .int i,Q=>Q (.dat (.int (-i)))
 | _,_=>False
def rc:OpR X (binaryOp .Sub) z0:=Gj
def yb:OpR X (binaryOp .Mod) JO:=Gm
def kn:OpR X (binaryOp .FloorDiv) Aa:=DM
def Ab:OpR X (compareOp .Gt) KO:=Jd
def FG:OpR X (compareOp .GtE) IP:=Je
def tu:LU K Hz KP:=by
 intro O H x a Q Q' dom fx q k;unfold KP at q
 split at q
 .rename_i i;exact⟨i,fx.int,k _ H _ q (Gr.refl _) (.int _)⟩
 .exact q.elim
abbrev EE(tr:TA):TE:=λσ H Q=>tr σ H λvs H1=>∃j:Int,vs=[.int j]/\∀p,H1 p=none->Q (.ref p) (upd H1 p (BK p 0 j 1))
variable {es:List Expr}{pos:Pos}
def xb{ct:Nat}{tp:Pos}(K:b_)(e:X.K=K){a:Expr}{ta:TA}{p:Pos}(hg:Gl X "enumerate")(hm:X.mg "enumerate"=none)(ha:PA X [a] ta)(hs:starEach [a] X.env=[(false,eval a X.env)]:=by rfl):
  PI X (.Tuple es ct tp) (.Call (.Name "enumerate" p) [a] [] pos) (Eg K ta):=by subst e;exact Eh hg hm ha hs
def nJ{ct:Nat}{tp:Pos}(K:b_)(e:X.K=K){a b:Expr}{ta:TA}{p:Pos}(hg:Gl X "zip")(hm:X.mg "zip"=none)(ha:PA X [a,b] ta)(hs:starEach [a,b] X.env=[(false,eval a X.env),(false,eval b X.env)]:=by rfl)(hs2:starEach [b] X.env=[(false,eval b X.env)]:=by rfl):
  PI X (.Tuple es ct tp) (.Call (.Name "zip" p) [a,b] [] pos) (x3 K ta):=by subst e;exact Ei hg hm ha hs hs2
def dh{fs:List Nat}(h:∀k∈fs,k∈zT ix)(hi:(zT ix).contains i=false):fs.contains i=false:=by
 cases e:fs.contains i with
 | false=>rfl
 | true =>
  have:=h i (Nd.mp e);rw [Nd.mpr this] at hi;cases hi
def pE(t:Value)(b c:Bool)(h1:MC K t (.type "list")=some b)(h2:MC K t (.type "tuple")=some c):NH K t [.type "list",.type "tuple"]=some (b || c):=by
 simp only [NH,h1,h2];cases b <;> cases c <;> rfl
noncomputable def HA(c:FN)(es:List D)(pr:PTA):PTE:=λρ Q=>pr ρ λas ρ1=>match avD as with
 | some ds=>c (ds++es) λr=>Q r ρ1
 | none=>False
def BY{c:FN}{vs0:List V}(hd:∀{O:Addr->Prop}{H:Hp},FVs K O H vs0 ds)(h:LAs K tr pr):LE K (cq (spP K c) vs0 E0 tr) (HA c ds pr):=λA ρ σ H Q Q' R q k=>h A ρ σ H _ _ R q λvs H1 as ρ1 q1 f1 R1 o1=>by
 split at q1
 .rename_i es e;exact⟨OO A ρ1 σ,_,_,R1.dom2,(o1.avD e).append hd,q1,λr qr v H' g ov=>k v H' r ρ1 qr (f1.trans g.fr) ((ov.out R1 g).h0 f1.dm)⟩
 .exact q1.elim
def JP{c:FN}(hn:∀ds Q,c ds Q->ds.length=n){Q:VK}{E:XK}(h:spP K c vs H Q E):vs.length=n:=by
 obtain⟨O,ds,Qc,_,f,hq,_⟩:=h;rw [f.length];exact hn ds Qc hq
def KQ{c:FR}(hn:∀p ds Q,c p ds Q->ds.length+1=n){Q:VK}{E:XK}(h:spR K c vs H Q E):vs.length=n:=by
 obtain⟨A,a,p,ws,ds,Qc,rfl,_,_,_,_,f,hq,_⟩:=h;rw [length_cons,f.length];exact hn p ds Qc hq
abbrev IQ(pp:PTS)(n:Nat)(ds:List D)(Q:PV->Prop):Prop:=pp { nx:=λ_=>Q (.dat .non),rt:=λp _=>Q p } (dS n (ds.map .dat))
abbrev JQ(pp:PTS)(n:Nat)(p:PV)(ds:List D)(Q:PV->PV->Prop):Prop:=pp { nx:=FF Q (.dat .non),rt:=FF Q } (dS n (p::ds.map .dat))
end L2
namespace L2
variable {K:b_}{k:Nat}
def Cal.imp{P:PySem.Program}{w:PySem.World}{mg:PySem.Str->Option PySem.Value}{base:PySem.Heap}{x:PySem.Str}{ps:List PySem.Str}{sp sp':Sp}(C:Cal P w K mg base k x ps sp)(h:∀vs H Q E,sp' vs H Q E->sp vs H Q E):Cal P w K mg base k x ps sp':=by
 obtain⟨f,fd,F,r⟩:=C.ex;exact⟨f,fd,F.imp h,r⟩
end L2
namespace L2
open PySem PySem.Spec PyProof.Rows
variable {ix:List (Option Nat)}{ρ1:PSt}{n:Nat}{it:Nat->D}{pe:PTE}
def cfm{g:PTG}{pt:PTT}{Q:PKt}(T:PSt->Prop)(f:Nat->Option D)(h0:T (bi ix ρ1))(hs:∀k τ d,k<n->d=it k->T τ->∀(K1:D->PSt->Prop) (K2:PSt->Prop),(∀d τ',f k=some d->T τ'->K1 d τ')->(∀τ',f k=none->T τ'->K2 τ')->g (.dat d) τ λτ2=>pt τ2 λok τ3=>io ok (pe τ3 λp τ4=>K1 p.d τ4) (K2 τ3))(hq:∀τ,T τ->Q (.own ((e_ n).filterMap f)) (eJ ix ρ1 τ)):
  mj ix ρ1 n it g pt pe Q:=by
 refine⟨λk ys τ=>ys=(e_ k).filterMap f/\T τ,⟨rfl,h0⟩,λk ys τ dd hk ed ⟨e,t⟩=>?_,λys τ ⟨e,t⟩=>by rw [e];exact hq τ t⟩
 have r:(e_ (k+1)).filterMap f=(e_ k).filterMap f++(f k).toList:=by
  rw [range_succ,filterMap_append]
  cases e:f k with
  | none=>rw [show [k].filterMap f=[] by simp [e]];rfl
  | some d=>rw [show [k].filterMap f=[d] by simp [e]];rfl
 refine hs k τ dd hk ed t (λd τ'=>(ys++[d]=(e_ (k+1)).filterMap f/\T τ')) (λτ'=>(ys=(e_ (k+1)).filterMap f/\T τ')) (λd τ' h t'=>⟨?_,t'⟩) (λτ' h t'=>⟨?_,t'⟩)
 .rw [r,e,h];rfl
 .rw [r,e,h];simp
def CY{g:PTG}{Q:PKt}(T:PSt->Prop)(f:Nat->D)(h0:T (bi ix ρ1))(hs:∀k τ d,k<n->d=it k->T τ->∀K1:D->PSt->Prop,(∀τ',T τ'->K1 (f k) τ')->g (.dat d) τ λτ2=>pe τ2 λp τ4=>K1 p.d τ4)(hq:∀τ,T τ->Q (.own ((e_ n).map f)) (eJ ix ρ1 τ)):
  mj ix ρ1 n it g yM pe Q:=by
 refine cfm T (λk=>some (f k)) h0 (λk τ d hk ed t K1 K2 k1 k2=>?_) λτ t=>?_
 .exact hs k τ d hk ed t K1 λτ' t'=>k1 _ τ' rfl t'
 .have:(e_ n).filterMap (λk=>some (f k))=(e_ n).map f:=by rw [<- filterMap_eq_map];rfl
  rw [this];exact hq τ t
variable {β:Type}
def u5(f:Nat->β)(l:List Nat):(e_ l.length).map (λk=>f (l.getD k 0))=l.map f:=by
 apply NG;intro i;rw [h_,h_]
 by_cases h:i<l.length
 .rw [LQ h];show some (f (l.getD i 0))=_;rw [cy,cx h];rfl
 .rw [v_ (by rw [tj];omega),v_ (by omega)];rfl
noncomputable def pw(ws:List (List Nat))(k:Nat):List Nat:=ws.getD k []
variable {ws:List (List Nat)}{k:Nat}
def cj(h:k<ws.length):ws[k]?=some (pw ws k):=by unfold pw;rw [cy,cx h];rfl
def bC(h:k<ws.length):pw ws k∈ws:=Eo (cj h)
def k6(h:k<(ws.map D.str).length):itD (ws.map D.str) k=.str (pw ws k):=jf (by rw [h_,cj (by rwa [length_map] at h)];rfl)
def cr{i:Int}(h:k<ws.length)(e:i=(k:Int)):atI (ws.map D.str) i=some (.str (pw ws k)):=gZ (j:=k) (by rw [h_,cj h];rfl) e
def EF(h:k<ws.length):ws.take (k+1)=ws.take k++[pw ws k]:=by
 rw [take_succ,cj h];rfl
noncomputable def Pc(m:Nat)(w:List Nat):Prop:=0<w.length/\w.length<=m/\Lts w
noncomputable def Pcs(m:Nat)(ws:List (List Nat)):Prop:=∀w∈ws,Pc m w
noncomputable def ltB(c:Nat):Bool:=decide (97<=c) && decide (c<=122)
noncomputable def BZ:D->Int->Int->Bool
 | .str l,a,b=>(decide (a<=(l.length:Int)) && decide ((l.length:Int)<=b)) && l.all ltB
 | _,_,_=>false
def re(l:List Nat)(a b:Int):BZ (.str l) a b=((decide (a<=(l.length:Int)) && decide ((l.length:Int)<=b)) && l.all ltB):=rfl
noncomputable def JR:D->Nat
 | .str l=>l.length
 | _=>0
variable {l:List Nat}
def EG:l.all ltB=true ↔ Lts l:=by
 rw [Na];unfold Lts ltB
 constructor
 .intro h c hc;have:=h c hc;rw [and_eq_true,decide_eq_true_eq,decide_eq_true_eq] at this;exact this
 .intro h c hc;rw [and_eq_true,decide_eq_true_eq,decide_eq_true_eq];exact h c hc
def Ac{w:List Nat}:BZ (.str w) 1 60=true ↔ Pc 60 w:=by
 unfold BZ Pc;rw [and_eq_true,and_eq_true,decide_eq_true_eq,decide_eq_true_eq,EG]
 constructor
 .rintro⟨⟨h1,h2⟩,h3⟩;exact⟨by omega,by omega,h3⟩
 .rintro⟨h1,h2,h3⟩;exact⟨⟨by omega,by omega⟩,h3⟩
def lP(ls:List Nat):(ls.map λc=>[c]).flatten=ls:=by
 induction ls with
 | nil=>rfl
 | cons c r ih=>rw [map_cons,flatten_cons,ih];rfl
def B0(ls:List Nat):ls.map (λc=>D.str [c])=(ls.map λc=>[c]).map D.str:=by rw [map_map];rfl
def u6(i j:Nat):(!decide (([j]:List Nat)<[i]))=decide (i<=j):=by
 by_cases h:i<=j
 .rw [decide_eq_true h]
  have:¬ ([j]:List Nat)<[i]:=by
   rw [Mx]
   rintro (z|⟨_,z⟩)
   .omega
   .exact absurd z (List.lt_irrefl _)
  rw [decide_eq_false this];rfl
 .rw [decide_eq_false h]
  have:([j]:List Nat)<[i]:=by
   rw [Mx];exact .inl (by omega)
  rw [decide_eq_true this];rfl
theorem u7:∀ws:List (List Nat),D.pys (ws.map .str)=ws.map λw=>PyData.str (S w)
 | []=>rfl
 | w::r=>by rw [map_cons,map_cons,<- u7 r];rfl
theorem qe:∀ws:List (List Nat),D.plains (ws.map .str)=true
 | []=>rfl
 | w::r=>by rw [map_cons];show (true && D.plains (r.map .str))=true;rw [qe r];rfl
theorem nK:∀ns:List Int,D.pys (ns.map .int)=ns.map OL
 | []=>rfl
 | n::r=>by rw [map_cons,map_cons,<- nK r];rfl
theorem k8:∀ns:List Int,D.plains (ns.map .int)=true
 | []=>rfl
 | n::r=>by rw [map_cons];show (true && D.plains (r.map .int))=true;rw [k8 r];rfl
noncomputable def Sh(d:D):Prop:=d.plain=true/\L_ d.py=true
def w4.of{a b:D}(h:Sh a)(h':Sh b):w4 a b:=⟨h.1,h'.1,h.2,h'.2⟩
def Sh.lstS(h:∀w∈ws,Lts w):Sh (.lst (ws.map .str)):=⟨qe ws,by show L_ (.list (D.pys _))=true;rw [u7];exact sR h⟩
def Sh.lstI(ns:List Int):Sh (.lst (ns.map .int)):=⟨k8 ns,by show L_ (.list (D.pys _))=true;rw [nK];exact (p8.list (sQ ns)).shaped (by decide)⟩
def Sh.tupI(ns:List Int):Sh (.tup (ns.map .int)):=⟨k8 ns,by show L_ (.tuple (D.pys _))=true;rw [nK];exact (p8.tuple (sQ ns)).shaped (by decide)⟩
def xc{d:D}(h:Sh d):deq d d=true:=BP h.2
variable {α:Type}
def B1(c:α)(n:Nat):wS [c] (n:Int)=u1 n c:=by
 unfold wS;rw [toNat_natCast]
 induction n with
 | zero=>rfl
 | succ n ih=>rw [replicate_succ,flatten_cons,ih];rfl
noncomputable def pF(sep:List Nat):List (List Nat)->List Nat
 | []=>[]
 | [w]=>w
 | w::v::r=>w++sep++pF sep (v::r)
theorem Ad(sep:List Nat):∀ws:List (List Nat),PySem.Str.join (S sep) (ws.map S)=S (pF sep ws)
 | []=>rfl
 | [w]=>rfl
 | w::v::r=>by
  show S w++S sep++PySem.Str.join (S sep) ((v::r).map S)=S (w++sep++pF sep (v::r));rw [Ad sep (v::r),BG,BG]
theorem tw(sep:List Nat):∀ws:List (List Nat),(pF sep ws).length<=ws.flatten.length+ws.length*sep.length
 | []=>LY _
 | [w]=>by show w.length<=_;rw [flatten_cons,flatten_nil,LA];omega
 | w::v::r=>by
  have ih:=tw sep (v::r);show (w++sep++pF sep (v::r)).length<=_;rw [flatten_cons,length_append,length_append,length_append];rw [length_cons (as:=v::r),succ_mul];omega
variable {K:b_}
noncomputable def CZ(K:b_):V->List V->Hp->VK->Prop:=λx xs H Q=>∃(p:Addr) (sep:List Nat) (ws:List (List Nat)),x=.str (S sep)/\xs=[.ref p]/\SqL K H p (ws.map tx)/\ws.flatten.length+ws.length*sep.length<=1000000/\Q (.str (S (pF sep ws))) H
variable {X:Cx}
def xf(K:b_)(e:X.K=K):MtR X "str.join" (CZ K):=by
 subst e;intro pins s σ H x xs v us Q I rx rs h;obtain⟨p,sep,ws,rfl,rfl,hS,hz,q⟩:=h;obtain⟨t,rfl⟩:=rx;obtain⟨u,rfl,ru⟩:=fJ rs;cases (show u=l_ p from ru);obtain⟨its,rv,pl,_⟩:=I.list hS
 refine join_list pl.isList (by simpa using zK rv) ?_ λt' k=>?_
 .rw [map_map,fc]
  have e1:(ws.map ((λy:Str=>y.length) ∘ S)).sum=ws.flatten.length:=by
   rw [length_flatten];exact congrArg List.sum (LW λw _=>fc w)
  rw [e1];simp only [length_map];omega
 .refine⟨.str (S (pF sep ws)),H,I.tok _,⟨t',?_⟩,q⟩;rw [<- Ad];exact congrArg (λz=>N8 z t') (StrLaws.glued_eq_join _ _)
noncomputable def C1:FM
 | [],[.lst ds],Q=>∃ws:List (List Nat),ds=ws.map .str/\ws.flatten.length<=1000000/\Q (.dat (.str ws.flatten))
 | c::sep,[.lst ds],Q=>∃ws:List (List Nat),ds=ws.map .str/\ws.flatten.length+ws.length*(c::sep).length<=1000000/\Q (.dat (.str (pF (c::sep) ws)))
 | _,_,_=>False
theorem tz:∀ws:List (List Nat),pF [] ws=ws.flatten
 | []=>rfl
 | [w]=>by show w=w++[];rw [LA]
 | w::v::r=>by show w++[]++pF [] (v::r)=_;rw [tz (v::r),LA];rfl
def xg:LM K (CZ K) C1:=by
 intro O H l xs as Q Q' dom hl fs q k;unfold C1 at q
 split at q
 .obtain⟨ws,rfl,hw,q⟩:=q
  cases fs with
  | cons a b =>
   cases b;obtain⟨p,ys,rfl,e1,f1⟩:=a.lst;rw [f1.strs] at e1;refine⟨p,[],ws,rfl,rfl,SqL.of e1,by rw [length_nil,mul_zero];exact hw,?_⟩;rw [tz];exact k _ H _ q (Gr.refl _) (.str _ hw)
 .obtain⟨ws,rfl,hw,q⟩:=q
  cases fs with
  | cons a b =>
   cases b;obtain⟨p,ys,rfl,e1,f1⟩:=a.lst;rw [f1.strs] at e1;exact⟨p,_,ws,rfl,rfl,SqL.of e1,hw,k _ H _ q (Gr.refl _) (.str _ (s_ (tw _ _) hw))⟩
 .exact q.elim
noncomputable def Ae(neg:Bool):R2:=λx y H Q=>∃a b,x=.ref a/\y=.ref b/\H a=some (.dK [])/\H b=some (.dK [])/\Q (.bl (!neg)) H
def B2(hu:X.A.units+64<cLine):OpR X (compareOp .Eq) (Ae false):=by
 intro pins s σ H x y v u Q I rx ry ⟨a,b,e1,e2,h1,h2,q⟩;subst e1 e2;cases rx;cases ry;obtain⟨_,y1,vs,r1,p1⟩:=(show cm X.prog X.w H s.heap a (.dK []) from I.hok a _ h1)
 obtain⟨_,y2,ws,r2,p2⟩:=(show cm X.prog X.w H s.heap b (.dK []) from I.hok b _ h2)
 cases r1;cases r2;exact PySem.W.keq_eq (r:=true) y1 y2 p1 p2 (by omega) (λ_=>.nil) ⟨.bl true,H,I,rfl,q⟩
def B3(hu:X.A.units+64<cLine):OpR X (compareOp .NotEq) (Ae true):=by
 intro pins s σ H x y v u Q I rx ry ⟨a,b,e1,e2,h1,h2,q⟩;subst e1 e2;cases rx;cases ry;obtain⟨_,y1,vs,r1,p1⟩:=(show cm X.prog X.w H s.heap a (.dK []) from I.hok a _ h1)
 obtain⟨_,y2,ws,r2,p2⟩:=(show cm X.prog X.w H s.heap b (.dK []) from I.hok b _ h2)
 cases r1;cases r2;exact PySem.W.keq_ne (r:=true) y1 y2 p1 p2 (by omega) (λ_=>.nil) ⟨.bl false,H,I,rfl,q⟩
noncomputable def tD(K:b_)(neg:Bool):R2:=λx y H Q=>G2 K neg x y H Q\/Ae neg x y H Q
def iy(K:b_)(e:X.K=K)(hu:X.A.units+64<cLine):OpR X (compareOp .Eq) (tD K false):=OpR.or (Lh K e hu) (B2 hu)
def jy(K:b_)(e:X.K=K)(hu:X.A.units+64<cLine):OpR X (compareOp .NotEq) (tD K true):=OpR.or (Li K e hu) (B3 hu)
noncomputable def KR:F2
 | .dic [] [],.dic [] [],Q=>Q (.dat (.bl true))
 | a,b,Q=>fEq a b Q
noncomputable def KS:F2
 | .dic [] [],.dic [] [],Q=>Q (.dat (.bl false))
 | a,b,Q=>fNe a b Q
variable {O:Addr->Prop}{H:Hp}{v:V}
def FVc.dic0(h:FVc K O H v (.dic [] [])):∃a,v=.ref a/\H a=some (.dK []):=by
 obtain⟨a,kvs,rfl,e,m,f⟩:=h.dic
 cases kvs with
 | nil=>exact⟨a,rfl,e⟩
 | cons x r=>cases m
def dU:LO K (tD K false) KR:=by
 intro O H x y a b Q Q' dom fx fy q k;unfold KR at q
 split at q
 .obtain⟨a,rfl,e1⟩:=fx.dic0;obtain⟨b,rfl,e2⟩:=fy.dic0;exact .inr ⟨a,b,rfl,rfl,e1,e2,k _ H _ q (Gr.refl _) (.bl _)⟩
 .exact .inl (JC O H x y _ _ Q Q' dom fx fy q k)
def eL:LO K (tD K true) KS:=by
 intro O H x y a b Q Q' dom fx fy q k;unfold KS at q
 split at q
 .obtain⟨a,rfl,e1⟩:=fx.dic0;obtain⟨b,rfl,e2⟩:=fy.dic0;exact .inr ⟨a,b,rfl,rfl,e1,e2,k _ H _ q (Gr.refl _) (.bl _)⟩
 .exact .inl (JD O H x y _ _ Q Q' dom fx fy q k)
noncomputable def HB:D->Bool
 | .int _=>true
 | _=>false
noncomputable def JS:D->Bool
 | .lst _=>true
 | .tup _=>true
 | _=>false
noncomputable def EH:List V->Hp->VK->Prop:=λxs H Q=>(∃b,xs=[.bl b]/\Q (.int (if b then 1 else 0)) H)\/∃i,xs=[.int i]/\Q (.int i) H
def JT:bJ X (.type "int") EH:=by
 intro pins s σ H xs us Q I r h
 rcases h with ⟨b,rfl,q⟩|⟨i,rfl,q⟩
 .obtain⟨u,rfl,ru⟩:=fJ r;cases (show u=Mo b from ru);exact call_int_bool ⟨.int _,H,I.tok _,⟨_,rfl⟩,q⟩
 .obtain⟨u,rfl,t,rfl⟩:=fJ r;exact call_int_int ⟨.int _,H,I,⟨_,rfl⟩,q⟩
noncomputable def HC:FN
 | [.bl b],Q=>Q (.dat (.int (if b then 1 else 0)))
 | [.int i],Q=>Q (.dat (.int i))
 | _,_=>False
def HD:LC K EH HC:=by
 intro O H xs as Q Q' dom fs q k;unfold HC at q
 split at q
 .cases fs with|cons a b=>cases b;rw [a.bl];exact .inl ⟨_,rfl,k _ H _ q (Gr.refl _) (.int _)⟩
 .cases fs with|cons a b=>cases b;rw [a.int];exact .inr ⟨_,rfl,k _ H _ q (Gr.refl _) (.int _)⟩
 .exact q.elim
noncomputable def HE(K:b_):List V->Hp->VK->Prop:=λxs H Q=>∃(p:Addr) (ns:List Int),xs=[.ref p]/\SqL K H p (ns.map V.int)/\ns.length<64/\∀ns':List Int,ns'.Perm ns->ns'.Pairwise (·<=·)->∀q,H q=none->Q (.ref q) (upd H q (.lst (ns'.map V.int)))
def EI(K:b_)(e:X.K=K):bJ X (.builtin "sorted") (HE K):=by
 subst e;intro pins s σ H xs us Q I r h;obtain⟨p,ns,rfl,hS,hne,q⟩:=h;obtain⟨u,rfl,ru⟩:=fJ r;cases (show u=l_ p from ru);obtain⟨its,rv,pl,hz⟩:=I.list hS;have hi:=cZ rv;have hlen:its.length=ns.length:=by have:=rv.length;rw [length_map] at this;exact this.symm
 refine sorted_ints pl.isList hi (by omega) λout ns' ho hp hs=>?_;obtain⟨e,he⟩:=sortedAll_at s.heap its out;have hle:s.heap.objs.size<=s.heap.objs.size+1:=le_succ _;refine⟨.ref (s.heap.objs.size+1),_,I.laid (a:=s.heap.objs.size+1) (o:=.lst (ns'.map V.int)) (t':=s.toks) (λb o z=>sortedAll_old z) hle ?_,rfl,q ns' hp hs _ (I.hok.fresh hle)⟩;refine⟨?_,out.toList,e,kd ho,he⟩;rw [length_map,hp.length_eq]
 exact sz _ (by omega)
noncomputable def C2(i:Nat)(pe:PTE):PTE:=λρ Q=>match ρ[i]? with
 | some (some (.own _))=>pe ρ λp ρ1=>(match ρ1[i]?,p with
  | some (some (.own ds)),.dat (.int j)=>∃k d,(ixN ds.length j=some k/\ds.length<=1000000)/\ds[k]?=some d/\Q (.dat d) (ρ1.set i (some (.own (ds.eraseIdx k))))
  | _,_=>False)
 | _=>False
theorem FVs.eraseIdx:∀{xs:List V}{ds:List D} (k:Nat),FVs K O H xs ds->FVs K O H (xs.eraseIdx k) (ds.eraseIdx k)
 | _,_,_,.nil=>.nil
 | _,_,0,.cons a b=>b
 | _,_,k+1,.cons a b=>.cons a (FVs.eraseIdx k b)
variable {te:TE}{i:Nat}
def B4(h:LE K te pe):LE K (tBM K "list" CI (aJ i) (ax te bU)) (C2 i pe):=λA ρ σ H Q Q' R q k=>by
 unfold C2 at q
 split at q
 .rename_i ds0 e0;obtain⟨a0,xs0,s0,g0,f0⟩:=R.ownAt e0;refine⟨_,s0,.inl ⟨rfl,xs0,SqL.of g0⟩,h A ρ σ H _ _ R q λv H1 p ρ1 q1 f1 o1=>?_⟩;obtain⟨R1,fv⟩:=o1.frz
  split at q1
  .rename_i ds j e1;obtain⟨a,xs,s,g,f⟩:=R1.ownAt e1;rw [s0] at s;cases s;obtain⟨m,d,⟨hm,hl⟩,hd,q1⟩:=q1;obtain⟨w,hw,fw⟩:=f.getD hd;cases (show FV K _ H1 v (.int j) from fv);obtain⟨t1,t2,t3,t4⟩:=uR hm;obtain⟨R2,f2⟩:=R1.lstw (es:=ds.eraseIdx m) (ys:=xs.eraseIdx m) e1 s0 (f.eraseIdx m);have hx:xs.length=ds.length:=f.length;exact⟨a0,xs,j,m,w,rfl,rfl,g,by omega,by omega,by rw [hx];exact t1,hw,k _ _ _ _ q1 (f1.trans f2) ⟨R2,(fw.keeps f2.keeps)⟩⟩
  .exact q1.elim
 .exact q.elim
abbrev lc2(elt t1 i1:Expr)(f1:List Expr)(t2 i2:Expr)(f2:List Expr)(scope:Scope)(pos:Pos):Expr:=.ListComp elt [⟨t1,i1,f1,0⟩,⟨t2,i2,f2,0⟩] scope pos
noncomputable def yc(e i2:Expr)(acc:Value)(env:Env):Sem Unit:=do
 let x <- eval i2 env
 standAt i2.pos
 let x <- foldedSetIterable i2 env x
 let _ <- runOwn (.compStart e 1 (<- holding [x] (pyIter x)) acc env) env
noncomputable def Af(elt:Expr)(acc:Value)(env:Env):Sem Unit:=do let _ <- call (.builtin "list.append") [acc,<- eval elt env]
theorem yd(elt t1 i1:Expr)(f1:List Expr)(t2 i2:Expr)(f2:List Expr)(scope:Scope)(pos:Pos)(it acc:Value)(env:Env):
  compTurn (lc2 elt t1 i1 f1 t2 i2 f2 scope pos) 0 it acc env=(do
   standAt i1.pos
   match <- pyNext it with
   | none=>pure (.done .next)
   | some v =>
    letOwnedTupleGo t1 it v
    assign t1 env v
    let mut ok:=true
    for c in f1 do
     if ok then ok <- isTrue c env (eval c env)
    if ok then
     let x <- eval i2 env
     standAt i2.pos
     let x <- foldedSetIterable i2 env x
     let _ <- runOwn (.compStart (lc2 elt t1 i1 f1 t2 i2 f2 scope pos) 1 (<- holding [x] (pyIter x)) acc env) env
    again (.compLoop (lc2 elt t1 i1 f1 t2 i2 f2 scope pos) 0 it acc env)):=by rfl
def ye(e i2:Expr)(acc:Value)(env:Env)(k:Sem α):(eval i2 env >>= λx=>standAt i2.pos >>= λ_=>foldedSetIterable i2 env x >>= λx=>holding [x] (pyIter x) >>= λit=>runOwn (.compStart e 1 it acc env) env >>= λ_=>k)=(yc e i2 acc env >>= λ_=>k):=by
 unfold yc;simp only [bind_assoc,pure_bind]
theorem yf(elt t1 i1:Expr)(f1:List Expr)(t2 i2:Expr)(f2:List Expr)(scope:Scope)(pos:Pos)(it acc:Value)(env:Env):
  compTurn (lc2 elt t1 i1 f1 t2 i2 f2 scope pos) 1 it acc env=(do
   standAt i2.pos
   match <- pyNext it with
   | none=>pure (.done .next)
   | some v =>
    letOwnedTupleGo t2 it v
    assign t2 env v
    let mut ok:=true
    for c in f2 do
     if ok then ok <- isTrue c env (eval c env)
    if ok then
     (Af elt acc env)
    again (.compLoop (lc2 elt t1 i1 f1 t2 i2 f2 scope pos) 1 it acc env)):=by rfl
variable {prog:t_}{w:World}{A:C0}{R:Result->c_->Prop}{s:c_}{scope:Scope}{pos:Pos}{env:Env}
theorem pG{elt t1 i1 t2 i2:Expr}{f1 f2:List Expr}{it acc:Value}(I:Nat->c_->Prop)(turn:∀n s,I n s->wpAny (model prog w) A (pyNext it) (λr s₁=>match r with
   | none=>R (.ok .next) s₁
   | some v=>wpAny (model prog w) A (letOwnedTupleGo t1 it v) (λ_ s₂=>wpAny (model prog w) A (assign t1 env v) (λ_ s₃ =>
     wpAny (model prog w) A (forIn f1 true λc r=>if r=true then do let ok <- isTrue c env (eval c env);pure (LZ ok) else pure (LZ r)) (λok s₄ =>
      if ok=true then wpAny (model prog w) A (yc (lc2 elt t1 i1 f1 t2 i2 f2 scope pos) i2 acc env) (λ_ s₆=>∃m,m<n/\I m s₆) (λ_ _=>False) s₄
      else ∃m,m<n/\I m s₄) (λ_ _=>False) s₃) (λ_ _=>False) s₂) (λ_ _=>False) s₁) (λ_ _=>False) s)(n:Nat)(h:I n s):
  codeAny (model prog w) A (.compLoop (lc2 elt t1 i1 f1 t2 i2 f2 scope pos) 0 it acc env) R s:=by
 refine codeAny_loop rfl I (λn s hI=>?_) n h;show wpAny _ A ((compTurn (lc2 elt t1 i1 f1 t2 i2 f2 scope pos) 0 it acc env).onRaise (λx=>do noteFrame x env;theTreesLotGoes x)) _ _ s;refine wpAny_noted ?_;rw [yd];refine cn (MN (cn (Ly (turn n s hI) (λr s₁ h₁=>?_) λ_ _ h'=>h'.elim)))
 cases r with
 | none=>exact f_ h₁
 | some v =>
  refine cn (Ly h₁ (λ_ s₂ h₂=>?_) λ_ _ h'=>h'.elim);refine cn (Ly h₂ (λ_ s₃ h₃=>cn (Ly h₃ (λok s₄ h₄=>?_) λ_ _ h'=>h'.elim)) λ_ _ h'=>h'.elim)
  cases ok with
  | false=>exact f_ ⟨rfl,h₄⟩
  | true =>
   have e:=ye (lc2 elt t1 i1 f1 t2 i2 f2 scope pos) i2 acc env (again (.compLoop (lc2 elt t1 i1 f1 t2 i2 f2 scope pos) 0 it acc env));show wpAny _ _ (eval i2 env >>= λx=>standAt i2.pos >>= λ_=>foldedSetIterable i2 env x >>= λx=>holding [x] (pyIter x) >>= λit'=>runOwn (.compStart (lc2 elt t1 i1 f1 t2 i2 f2 scope pos) 1 it' acc env) env >>= λ_=>again (.compLoop (lc2 elt t1 i1 f1 t2 i2 f2 scope pos) 0 it acc env)) _ _ _
   rw [e];exact cn (Ly h₄ (λ_ s₆ h₆=>f_ ⟨rfl,h₆⟩) λ_ _ h'=>h'.elim)
theorem pH{elt t1 i1 t2 i2:Expr}{f1 f2:List Expr}{it acc:Value}(I:Nat->c_->Prop)(turn:∀n s,I n s->wpAny (model prog w) A (pyNext it) (λr s₁=>match r with
   | none=>R (.ok .next) s₁
   | some v=>wpAny (model prog w) A (letOwnedTupleGo t2 it v) (λ_ s₂=>wpAny (model prog w) A (assign t2 env v) (λ_ s₃ =>
     wpAny (model prog w) A (forIn f2 true λc r=>if r=true then do let ok <- isTrue c env (eval c env);pure (LZ ok) else pure (LZ r)) (λok s₄ =>
      if ok=true then wpAny (model prog w) A (Af elt acc env) (λ_ s₆=>∃m,m<n/\I m s₆) (λ_ _=>False) s₄
      else ∃m,m<n/\I m s₄) (λ_ _=>False) s₃) (λ_ _=>False) s₂) (λ_ _=>False) s₁) (λ_ _=>False) s)(n:Nat)(h:I n s):
  codeAny (model prog w) A (.compLoop (lc2 elt t1 i1 f1 t2 i2 f2 scope pos) 1 it acc env) R s:=by
 refine codeAny_loop rfl I (λn s hI=>?_) n h;show wpAny _ A ((compTurn (lc2 elt t1 i1 f1 t2 i2 f2 scope pos) 1 it acc env).onRaise (λx=>do noteFrame x env;theTreesLotGoes x)) _ _ s;refine wpAny_noted ?_;rw [yf];refine cn (MN (cn (Ly (turn n s hI) (λr s₁ h₁=>?_) λ_ _ h'=>h'.elim)))
 cases r with
 | none=>exact f_ h₁
 | some v =>
  refine cn (Ly h₁ (λ_ s₂ h₂=>?_) λ_ _ h'=>h'.elim);refine cn (Ly h₂ (λ_ s₃ h₃=>cn (Ly h₃ (λok s₄ h₄=>?_) λ_ _ h'=>h'.elim)) λ_ _ h'=>h'.elim)
  cases ok with
  | false=>exact f_ ⟨rfl,h₄⟩
  | true=>exact cn (Ly h₄ (λ_ s₆ h₆=>f_ ⟨rfl,h₆⟩) λ_ _ h'=>h'.elim)
def ko{elt t1 i1 t2 i2:Expr}{f1 f2:List Expr}{it acc:Value}(h0:codeAny (model prog w) A (.compLoop (lc2 elt t1 i1 f1 t2 i2 f2 scope pos) 1 it acc env) R s)(h:wpAny (model prog w) A (pyIter it) (λit' s'=>codeAny (model prog w) A (.compLoop (lc2 elt t1 i1 f1 t2 i2 f2 scope pos) 1 it' acc env) R s')
   (notedBy (model prog w) A env λx s'=>R (.error x) s') s):
  codeAny (model prog w) A (.compStart (lc2 elt t1 i1 f1 t2 i2 f2 scope pos) 1 it acc env) R s:=by
 refine codeAny_of_tree ?_;show wpAny _ _ ((compStart (lc2 elt t1 i1 f1 t2 i2 f2 scope pos) 1 it acc env).onRaise (λx=>do noteFrame x env;standAt theWindowsPlace)) _ _ s;refine wpAny_notedAt ?_;unfold compStart;show wpAny _ _ (ask >>= _) _ _ s;refine cn (wpAny_askSetting (wpAny_ite ?_))
 split
 .first
   | exact cn (f_ (f_ (r_ rfl h0)))
   | exact f_ (r_ rfl h0)
 .first
   | exact cn (NO (cn (MN (cn (Ly h (λit' s' h'=>f_ (r_ rfl h')) λ_ _ x=>x)))))
abbrev TB:=St->Hp->(St->Hp->Prop)->Prop
noncomputable def PB(Y:Cx)(emit:Sem Unit)(tb:TB):Prop:=∀(pins:List (Addr×Obj)) (s:c_) (τ:St) (H:Hp) (N:St->Hp->Prop),Inv Y pins τ H s->tb τ H N ->
 wpAny (model Y.prog Y.w) Y.A emit (λ_ s'=>∃τ' H',Inv Y pins τ' H' s'/\N τ' H') (λ_ _=>False) s
noncomputable def B5(te:TE)(D:Addr):TB:=λτ H N=>te τ H λv H6=>∃ys,H6 D=some (.lst ys)/\ys.length<sizeLine/\N τ (upd H6 D (.lst (ys++[v])))
noncomputable def B6(wi:TI)(g:TG)(tts:TT)(tb:TB):TB:=λτ H N=>wi τ H λJ H6=>∃W:Nat->Nat->St->Hp->Prop,(∃n,W 0 n τ H6)/\∀j n τ3 H7,W j n τ3 H7 ->
 (J.stop j H7/\N τ3 H7)\/(J.go j H7/\∀y H8,J.yld j H7 y H8->g y τ3 H8 λτ4 H9=>tts τ4 H9 λok H10=>if ok=true then tb τ4 H10 (λτ5 H11=>∃n',n'<n/\W (j+1) n' τ5 H11) else ∃n',n'<n/\W (j+1) n' τ4 H10)
noncomputable def xh(ix:List (Option Nat))(wi:TI)(g:TG)(tts:TT)(tb:Addr->TB):TE:=λσ H Q=>wi σ H λJ H1=>∀D,H1 D=none->∃W:Nat->Nat->St->Hp->Prop,(∃m,W 0 m (sJ ix σ) (upd H1 D (.lst [])))/\∀i m τ H2,W i m τ H2 ->
 (J.stop i H2/\Q (.ref D) H2)\/(J.go i H2/\∀x H3,J.yld i H2 x H3->g x τ H3 λτ2 H4=>tts τ2 H4 λok H5=>if ok=true then tb D τ2 H5 (λτ6 H6=>∃m',m'<m/\W (i+1) m' τ6 H6)
  else ∃m',m'<m/\W (i+1) m' τ2 H5)
section
variable {Y:Cx}{elt:Expr}{D:Addr}
def EJ(hx:Y.xe=λ_ _=>False)(he:PE Y elt te):PB Y (Af elt (.ref D) Y.env) (B5 te D):=by
 intro pins s τ H N I h;have h1:=he pins s τ H _ I h;rw [hx] at h1;unfold Af;refine cn (thn h1 λv s1 ⟨x,H1,I1,r1,ys,hD,hz,q⟩=>?_);have h2:=eF (X:=Y) pins s1 τ H1 (.ref D) [x] (.ref D) [v] (λ_ H'=>N τ H') I1 rfl (.cons r1 .nil) ⟨D,ys,x,rfl,rfl,hD,hz,q⟩;rw [hx] at h2;exact cn (thn h2 λ_ s2 ⟨_,H2,I2,_,q2⟩=>f_ ⟨τ,H2,I2,q2⟩)
variable {t1 i1 t2 i2:Expr}{f1 f2:List Expr}{wi:TI}{g:TG}{tts:TT}{tb:TB}
def EK(hx:Y.xe=λ_ _=>False)(hc:Y.calm=true)(hi:PI Y t2 i2 wi)(hg:PG Y t2 g)(ht:PIf Y f2 tts)(hb:PB Y (Af elt (.ref D) Y.env) tb)(hs:∀x,foldedSetIterable i2 Y.env x=pure x:=by intro _;rfl):
  PB Y (yc (lc2 elt t1 i1 f1 t2 i2 f2 scope pos) i2 (.ref D) Y.env) (B6 wi g tts tb):=by
 intro pins s τ H N I h;have h1:=hi pins s τ H _ I h;rw [hx] at h1;unfold yc;refine cn (thn h1 λv s1 h1=>cn (MN (cn (O4 (hs v) (cn (I_ (thn h1 λitv s2 h2=>cn (wpAny_runOwn ?_))))))));obtain⟨it,fp,tn,J,H2,e,I2,T,st2,f2',W,⟨m0,w0⟩,turn⟩:=h2;subst e;have stat:∀{H':Hp},(∀b∈fp,H' b=none)->∀b∈fp,uQ Y pins H' b:=λhn b hb=>⟨hn b hb,(f2' b hb).2⟩
 have loop:∀s3:c_,Inv Y pins τ H2 s3->tn 0 s3.heap->codeAny (model Y.prog Y.w) Y.A (.compLoop (lc2 elt t1 i1 f1 t2 i2 f2 scope pos) 1 (.ref it) (.ref D) Y.env)
   (λr s'=>match r with|.ok f=>wpAny (model Y.prog Y.w) Y.A (pure ()) (λ_ s'=>∃τ' H',Inv Y pins τ' H' s'/\N τ' H') (λ_ _=>False) s'|.error e=>cameBackBy (model Y.prog Y.w) Y.A Y.env (λ_ _=>False) e s') s3:=by
  intro s3 I3 st3;refine pH (λn s'=>∃i τ' H',Inv Y pins τ' H' s'/\tn i s'.heap/\(∀b∈fp,H' b=none)/\W i n τ' H') ?_ m0 ⟨0,τ,H2,I3,st3,λb hb=>(f2' b hb).1,w0⟩;rintro n s5 ⟨i,τ5,H5,I5,st5,fr5,w5⟩
  rcases turn i n τ5 H5 w5 with ⟨stop,qn⟩|⟨go,step⟩
  .refine thn (T.done Y rfl rfl rfl hc i pins s5 τ5 H5 (λ_ _=>False) I5 (stat fr5) st5 stop) λr s6 ⟨hr,I6⟩=>?_;subst hr;exact f_ ⟨τ5,H5,I6,qn⟩
  .refine thn (T.item Y rfl rfl rfl hc i pins s5 τ5 H5 (λ_ _=>False) I5 (stat fr5) st5 go) λr s6 ⟨u,hr,h6⟩=>?_;subst hr;refine thn h6 λ_ s7 ⟨x,H7,I7,r7,y7,st7,fr7⟩=>?_;have I7':=I7.pinned (stat fr7) (T.obj _ _ st7)
   have again:∀{s8:c_}{τ8:St}{H8:Hp},Inv Y (pins++mX fp s7.heap) τ8 H8 s8->(∃m',m'<n/\W (i+1) m' τ8 H8) ->
     ∃m,m<n/\∃i τ' H',Inv Y pins τ' H' s8/\tn i s8.heap/\(∀b∈fp,H' b=none)/\W i m τ' H':=λ{s8 τ8 H8} I8 ⟨m',hm,w8⟩=>by
    refine⟨m',hm,i+1,τ8,H8,I8.unpinned,T.keep _ _ _ st7 λb hb o e=>(I8.pin (b,o) (u_ _ (u_ _ (cY hb e)))).1,λb hb=>?_,w8⟩;obtain⟨o,e,d⟩:=T.obj _ _ st7 b hb;exact (I8.pin (b,o) (u_ _ (u_ _ (cY hb e)))).2.1
   have h8:=hg _ s7 τ5 H7 x u _ I7' r7 (step x H7 y7);rw [hx] at h8;refine thn h8 λ_ s8 ⟨τ8,H8,I8,q8⟩=>?_;have h9:=ht _ s8 τ8 H8 _ I8 q8;rw [hx] at h9;refine thn h9 λokb s9 ⟨H9,I9,q9⟩=>?_
   cases okb with
   | false =>
    rw [if_neg k_] at q9;rw [if_neg k_];exact again I9 q9
   | true =>
    rw [if_pos rfl] at q9;rw [if_pos rfl];exact thn (hb _ s9 τ8 H9 _ I9 q9) λ_ s10 ⟨τ10,H10,I10,q10⟩=>again I10 q10
 exact ko (loop _ I2 st2) (T.self Y.A 0 _ _ _ st2 (loop _ I2 st2))
end
variable {elt t1 i1 t2 i2:Expr}{f1 f2:List Expr}{N':List Str}{wi:TI}{g:TG}{tts:TT}{tb:Addr->TB}{pins:List (Addr×Obj)}{σ:St}
def yg{use:Option (Value->Sem Unit)}{Qf:Value->c_->Prop}{p':Pos}{Q:VK}(hc:X.calm=true)(ok:wT X.env X.N scope N' ix)(hi:PI X t1 i1 wi)(blk:∀s H fp pn D,PG (bg X N' scope s H fp pn) t1 g/\PIf (bg X N' scope s H fp pn) f1 tts/\PB (bg X N' scope s H fp pn) (yc (lc2 elt t1 i1 f1 t2 i2 f2 scope pos) i2 (.ref D) (qN scope s.heap.objs.size X.env)) (tb D))(hs:∀x,foldedSetIterable i1 X.env x=pure x)(I:Inv X pins σ H s)(hw:xh ix wi g tts tb σ H Q)(fin:∀D C H' s',Inv X pins σ H' s'->Q (.ref D) H'->(∃m,s'.heap.Ns C m)->H' C=none->X.s₀.heap.objs.size<=C->C≠X.env.locals->(∀x c,X.env.cells.lookup x=some c->c≠C)->C∉X.fs->(∀p∈X.pn++pins,p.1≠C) ->
   compPost (model X.prog X.w) X.A X.xe use Qf (.ref D) C (.ok .next) s'):
  wpAny (model X.prog X.w) X.A (comprehension (lc2 elt t1 i1 f1 t2 i2 f2 scope pos) scope X.env p' (newList []) false (eval i1 X.env) use) Qf X.xe s:=by
 have hclos:closureFor scope X.env=pure (ju X.env scope.names []):=g9 λy hy e=>I.ok.has y.1 (ok.free y hy e).1;refine wpAny_comprehension_free (use:=use) rfl hs hclos ok.kind ok.loc (thn (hi pins s σ H _ I hw) λv s1 h1=>thn h1 λitv s2 h2=>?_);obtain⟨it,fp,tn,J,H2,e,I2,T,st2,fq2,hW⟩:=h2;subst e;obtain⟨W,⟨m0,w0⟩,turn⟩:=hW s2.heap.objs.size (I2.hok.fresh (gV _))
 have hfl:∀b∈fp,b<s2.heap.objs.size:=λb hb=>by
  obtain⟨o,e,_⟩:=T.obj 0 _ st2 b hb;exact n_ e
 refine LH ?_
 have I3:Inv X pins σ (upd H2 s2.heap.objs.size (.lst [])) { s2 with heap:=s2.heap.push { cls:=.type "list",dict:=none,data:=.seq ([]:List Value).toArray } } :=
  I2.laid (t':=s2.toks) (λb o e=>d_ _ e) (gV _) (show cm X.prog X.w _ _ _ (.lst []) from ⟨LY _,[],0,.nil,g_ _ rfl⟩)
 have st3:tn 0 (s2.heap.push { cls:=.type "list",dict:=none,data:=.seq ([]:List Value).toArray }):=T.keep 0 _ _ st2 λb _ o e=>d_ _ e;have f3:∀b∈fp,uQ X pins (upd H2 s2.heap.objs.size (.lst [])) b:=λb hb=>⟨by rw [aI (H_ (hfl b hb))];exact (fq2 b hb).1,(fq2 b hb).2⟩
 have hfl3:∀b∈fp,b<(s2.heap.push { cls:=.type "list",dict:=none,data:=.seq ([]:List Value).toArray }).objs.size:=λb hb=>by rw [Lz];exact M6 (hfl b hb)
 generalize hs3:({ s2 with heap:=s2.heap.push { cls:=.type "list",dict:=none,data:=.seq ([]:List Value).toArray } }:c_)=s3 at I3 ⊢;have eh3:s3.heap=s2.heap.push { cls:=.type "list",dict:=none,data:=.seq ([]:List Value).toArray }:=by rw [<- hs3]
 rw [<- eh3] at st3 hfl3;generalize hH3:upd H2 s2.heap.objs.size (.lst [])=H3 at I3 f3 w0;generalize hD:s2.heap.objs.size=D at *;refine eH ?_;have I4:=wV ok I3 f3 hfl3;obtain⟨hg,ht,he⟩:=blk s3 H3 fp pins D;have st4:tn 0 (pushCells (s3.heap.push { cls:=.type "dict",data:=.dict #[] }) scope.names):=T.keep 0 _ _ st3 λb _ o e=>NW _ _ b o (d_ _ e)
 have stat:∀{H':Hp},(∀b∈fp,H' b=none)->∀b∈fp,uQ (bg X N' scope s3 H3 fp pins) [] H' b:=λhn b hb=>by
  refine⟨hn b hb,H_ (hfl3 b hb),I4.ok.exfs b hb,.inl hb,(I4.ok.exf b hb).2,λp hp=>?_⟩;have hp':p∈X.pn++pins:=by simpa [bg] using hp
  exact (fq2 b hb).2.2.2.2.2 p hp'
 have loop:∀(s4:c_),Inv (bg X N' scope s3 H3 fp pins) [] (sJ ix σ) H3 s4->tn 0 s4.heap ->
   codeAny (model X.prog X.w) X.A (.compLoop (lc2 elt t1 i1 f1 t2 i2 f2 scope pos) 0 (.ref it) (.ref D) (qN scope s3.heap.objs.size X.env)) (compPost (model X.prog X.w) X.A X.xe use Qf (.ref D) s3.heap.objs.size) s4:=by
  intro s4 I4 st4;refine pG (λn s'=>∃i τ H',Inv (bg X N' scope s3 H3 fp pins) [] τ H' s'/\tn i s'.heap/\(∀b∈fp,H' b=none)/\W i n τ H') ?_ m0 ⟨0,_,H3,I4,st4,λb hb=>(f3 b hb).1,w0⟩;rintro n s5 ⟨i,τ,H5,I5,st5,fr5,w5⟩
  rcases turn i n τ H5 w5 with ⟨stop,qn⟩|⟨go,step⟩
  .refine thn (T.done (bg X N' scope s3 H3 fp pins) rfl rfl rfl hc i [] s5 τ H5 (λ_ _=>False) I5 (stat fr5) st5 stop) λr s6 ⟨hr,I6⟩=>?_;subst hr;have I7:Inv X pins σ H5 s6:=I3.call' (ch:=fp) I6.os I6.base I6.hok I6.bare λb hb=>⟨(fq2 b hb).2.2.2.1,(fq2 b hb).2.1,(fq2 b hb).2.2.2.2.1,(fq2 b hb).2.2.2.2.2⟩
   obtain⟨m6,hn6,_⟩:=I6.loc
   refine fin D s3.heap.objs.size H5 s6 I7 qn ⟨m6,hn6⟩ I6.free ?_ ?_ ?_ ?_ ?_
   .exact I3.sz
   .exact Oa I3.lt
   .intro x c e z;obtain⟨v,q⟩:=I3.cell x c e;have:=q.lt;rw [z] at this;exact K_ _ this
   .exact I3.nofs (gV _)
   .intro p hp z;have:=n_ (I3.pin p hp).1;rw [z] at this;exact K_ _ this
  .refine thn (T.item (bg X N' scope s3 H3 fp pins) rfl rfl rfl hc i [] s5 τ H5 (λ_ _=>False) I5 (stat fr5) st5 go) λr s6 ⟨u,hr,h6⟩=>?_;subst hr;refine thn h6 λ_ s7 ⟨x,H7,I7,r7,y7,st7,fr7⟩=>?_;have I7':=I7.pinned (stat fr7) (T.obj _ _ st7)
   have again:∀{s8:c_}{τ8:St}{H8:Hp},Inv (bg X N' scope s3 H3 fp pins) ([]++mX fp s7.heap) τ8 H8 s8->(∃m',m'<n/\W (i+1) m' τ8 H8) ->
     ∃m,m<n/\∃i τ H',Inv (bg X N' scope s3 H3 fp pins) [] τ H' s8/\tn i s8.heap/\(∀b∈fp,H' b=none)/\W i m τ H':=λ{s8 τ8 H8} I8 ⟨m',hm,w8⟩=>by
    refine⟨m',hm,i+1,τ8,H8,I8.unpinned,T.keep _ _ _ st7 λb hb o e=>(I8.pin (b,o) (u_ _ (u_ _ (cY hb e)))).1,λb hb=>?_,w8⟩;obtain⟨o,e,d⟩:=T.obj _ _ st7 b hb;exact (I8.pin (b,o) (u_ _ (u_ _ (cY hb e)))).2.1
   refine thn (hg _ s7 τ H7 x u _ I7' r7 (step x H7 y7)) λ_ s8 ⟨τ8,H8,I8,q8⟩=>?_;refine thn (ht _ s8 τ8 H8 _ I8 q8) λokb s9 ⟨H9,I9,q9⟩=>?_
   cases okb with
   | false =>
    rw [if_neg k_] at q9;rw [if_neg k_];exact again I9 q9
   | true =>
    rw [if_pos rfl] at q9;rw [if_pos rfl];refine thn (he _ s9 τ8 H9 _ I9 q9) λ_ s10 ⟨τ10,H10,I10,q10⟩=>?_;exact again I10 q10
 exact codeAny_compStart_list (loop _ I4 st4) (T.self X.A 0 _ _ _ st4 (loop _ I4 st4))
def rf{wi2:TI}{g2:TG}{tts2:TT}(N':List Str)(ix:List (Option Nat))(hc:X.calm=true)(hi:PI X t1 i1 wi)(blk:∀s H fp pn,PG (bg X N' scope s H fp pn) t1 g/\PIf (bg X N' scope s H fp pn) f1 tts/\PI (bg X N' scope s H fp pn) t2 i2 wi2/\PG (bg X N' scope s H fp pn) t2 g2/\PIf (bg X N' scope s H fp pn) f2 tts2/\PE (bg X N' scope s H fp pn) elt te)(chk:nv X.env.scope X.N scope N' ix=true)(hs:∀x,foldedSetIterable i1 X.env x=pure x:=by intro _;rfl)(hs2:∀(env:Env) x,foldedSetIterable i2 env x=pure x:=by intro _ _;rfl):
  PE X (.ListComp elt [⟨t1,i1,f1,0⟩,⟨t2,i2,f2,0⟩] scope pos) (xh ix wi g tts λD=>B6 wi2 g2 tts2 (B5 te D)):=by
 intro pins s σ H Q I hw;rw [eval_ListComp]
 refine yg (use:=none) hc (ny chk) hi (λs H fp pn D=>?_) hs I hw λD C H' s' I' q hm hn h1 h2 h3 h4 h5=>?_
 .obtain⟨b1,b2,b3,b4,b5,b6⟩:=blk s H fp pn;exact⟨b1,b2,EK (Y:=bg X N' scope s H fp pn) rfl hc b3 b4 b5 (EJ rfl b6) (hs2 _)⟩
 .obtain⟨m,hm⟩:=hm;refine⟨m,hm,λh' sb=>⟨.ref D,H',?_,rfl,q⟩⟩;exact I'.turned (t':=s'.toks) (λb o hb e=>(sb.2 b hb).trans e) hn h2 (.inr h1) h3 h5
variable {H1:Hp}
def kpt{O1 O2:Addr->Prop}{H2:Hp}(a:aL O H O1 H1)(b:aL O1 H1 O2 H2):aL O H O2 H2:=λc o n e=>b c o (a c o n e).1 (a c o n e).2
structure HF (ix:List (Option Nat)) (ρ1:PSt) (n:Nat) (it:Nat->D) (g:PTG) (pt:PTT) (pi2:PTI) (g2:PTG) (pt2:PTT) (pe:PTE) (Q:PKt):Prop where
 ex:∃I:Nat->List D->PSt->Prop,I 0 [] (bi ix ρ1) /\
  (∀k ys τ d,k<n->d=it k->I k ys τ->g (.dat d) τ λτ2=>pt τ2 λok τ3=>io ok (pi2 τ3 λn2 it2 τ4=>∃I2:Nat->List D->PSt->Prop,I2 0 ys τ4 /\
   (∀j zs τ d,j<n2->d=it2 j->I2 j zs τ->g2 (.dat d) τ λτ5=>pt2 τ5 λok τ6=>io ok (pe τ6 λp τ7=>zs.length<1000000/\I2 (j+1) (zs++[p.d]) τ7) (I2 (j+1) zs τ6))/\∀zs τ,I2 n2 zs τ->I (k+1) zs τ) (I (k+1) ys τ3)) /\
  ∀ys τ,I n ys τ->Q (.own ys) (eJ ix ρ1 τ)
noncomputable def C3(ix:List (Option Nat))(pi:PTI)(g:PTG)(pt:PTT)(pi2:PTI)(g2:PTG)(pt2:PTT)(pe:PTE):PTE:=λρ Q=>pi ρ λn it ρ1=>Hg ix ρ1=true/\HF ix ρ1 n it g pt pi2 g2 pt2 pe Q
def rg{wi2:TI}{pi pi2:PTI}{g2:TG}{pg pg2:PTG}{tts2:TT}{pt pt2:PTT}(hix:CQ ix=true)(hi:LI K wi pi)(hg:∀fs:List Nat,(∀k∈fs,k∈zT ix)->LGd K fs g pg)(ht:LT K tts pt)(hi2:LI K wi2 pi2)(hg2:∀fs:List Nat,(∀k∈fs,k∈zT ix)->LGd K fs g2 pg2)(ht2:LT K tts2 pt2)(he:LE K te pe):
  LE K (xh ix wi g tts λD=>B6 wi2 g2 tts2 (B5 te D)) (C3 ix pi pg pt pi2 pg2 pt2 pe):=λA ρ σ H Q Q' R q k=>hi A ρ σ H _ _ R q λJ H1 n it ρ1 q1 f1 R1 W D hD=>by
 obtain⟨hcap,⟨I,i0,turn,after⟩⟩:=q1
 let τρ0:=bi ix ρ1
 let τσ0:=sJ ix σ
 let Ai:Addr->Prop:=λb=>A b\/b=D\/(Wr ρ1 σ b/\¬ Wr τρ0 τσ0 b)
 let H0':=upd H1 D (.lst [])
 have wsub:∀b,Wr τρ0 τσ0 b->Wr ρ1 σ b:=λb ⟨m,p,e,o,s⟩=>by
  obtain⟨j,h1,h2⟩:=cG e;obtain⟨v,hv,_⟩:=R1.get j p h2;have:=cH h1 hv;rw [s] at this;cases this;exact⟨j,p,h2,o,hv⟩
 have nD:¬ Wr ρ1 σ D:=λz=>R1.wr z hD
 have oosub:∀b,OO Ai τρ0 τσ0 b->OO A ρ1 σ b\/b=D:=λb z=>by
  rcases z with (z|z|z)|z
  .exact .inl (.inl z)
  .exact .inr z
  .exact .inl (.inr z.1)
  .exact .inl (.inr (wsub b z))
 have kD:aL (OO A ρ1 σ) H1 (OO Ai τρ0 τσ0) H0':=λb o nn e=>by
  refine⟨λz=>?_,?_⟩
  .rcases oosub b z with z|z
   .exact nn z
   .rw [z,hD] at e;cases e
  .rw [show H0' b=H1 b from aI (bf e hD)];exact e
 have Ri:Rel K Ai τρ0 τσ0 H0':=by
  refine⟨by show (bi ix ρ1).length=(sJ ix σ).length;unfold bi sJ;rw [length_map,length_map],λm p e=>?_,λm l p q v e1 e2 o1 o2 s1 s2=>?_,λb z=>?_,λb z w=>?_⟩
  .obtain⟨j,h1,h2⟩:=cG e;obtain⟨v,hv,r⟩:=R1.get j p h2;refine⟨v,cH h1 hv,r.keeps kD λow a ea=>?_⟩;subst ea;exact aI (λz=>nD (by rw [<- z];exact⟨j,p,h2,ow,hv⟩))
  .obtain⟨j,h1,h2⟩:=cG e1;obtain⟨j',h3,h4⟩:=cG e2;obtain⟨v1,hv1,_⟩:=R1.get j p h2;obtain⟨v2,hv2,_⟩:=R1.get j' q h4;have t1:=cH h1 hv1;have t2:=cH h3 hv2;rw [s1] at t1;rw [s2] at t2;cases t1;cases t2;have:=R1.dj j j' p q _ h2 h4 o1 o2 hv1 hv2;subst this;exact mN hix h1 h3
  .rcases z with z|z|z
   .intro e
    by_cases zz:b=D
    .exact R1.dom b z (by rw [zz];exact hD)
    .rw [show H0' b=H1 b from aI zz] at e;exact R1.dom b z e
   .rw [z];show upd H1 D _ D≠none;rw [aY];exact nofun
   .intro e;rw [show H0' b=H1 b from aI (λzz=>nD (by rw [<- zz];exact z.1))] at e;exact R1.wr z.1 e
  .rcases z with z|z|z
   .exact R1.sep b z (wsub b w)
   .rw [z] at w;exact nD (wsub D w)
   .exact z.2 w
 let fxi:List (Nat×V):=(zT ix).filterMap λm=>match (τσ0[m]?) with|some (some v)=>some (m,v)|_=>none
 have hfx:∀p∈fxi,τσ0[p.1]?=some (some p.2):=λp hp=>by
  obtain⟨m,hm,e⟩:=MO.mp hp
  split at e
  .rename_i v ev;cases e;exact ev
  .cases e
 have hfs:∀m∈fxi.map B_,m∈zT ix:=λm hm=>by
  obtain⟨p,hp,rfl⟩:=LJ.mp hm;obtain⟨m',hm',e⟩:=MO.mp hp
  split at e
  .cases e;exact hm'
  .cases e
 have hgi:=hg (fxi.map B_) hfs;have hgi2:=hg2 (fxi.map B_) hfs
 have fxget:∀(m j:Nat) (v:V),ix[m]?=some (some j)->σ[j]?=some (some v)->(m,v)∈fxi:=λm j v h1 h2=>by
  refine MO.mpr ⟨m,?_,?_⟩
  .unfold zT;refine mem_filter.mpr ⟨mem_range.mpr (i_.mp h1).1,?_⟩;rw [cy,h1];rfl
  .show (match (sJ ix σ)[m]? with|some (some v)=>some (m,v)|_=>none)=_;rw [cH h1 h2]
 let Rr:Addr->Prop:=λb=>Wr τρ0 τσ0 b\/b=D
 have hRr:∀b,Rr b->OO Ai τρ0 τσ0 b:=λb z=>z.elim (λz=>.inr z) (λz=>.inl (.inr (.inl z)));have F0:gD fxi Rr H0' τρ0 τσ0 H0':=⟨λ_ _ _ h=>h,λ_ h=>h,λb w=>.inl (.inl w),hfx⟩
 refine⟨λi m τ H2=>i+m=n/\∃ys τρ xs,I i ys τρ/\Rel K Ai τρ τ H2/\gD fxi Rr H0' τρ τ H2/\H2 D=some (.lst xs)/\FVs K (OO Ai τρ τ) H2 xs ys/\∀b,Wr τρ τ b->Wr τρ0 τσ0 b,
  ⟨n,N6 n,[],τρ0,[],i0,Ri,F0,aY,.nil,λ_ h=>h⟩,λi m τ H2 ⟨him,ys,τρ,xs,iv,r2,F2,eD,fD,hw⟩=>?_⟩
 have kk:aL (OO A ρ1 σ) H1 (OO Ai τρ τ) H2:=λb o nn e=>(F2.keepsR hRr) b o (kD b o nn e).1 (kD b o nn e).2;obtain⟨go,stop⟩:=W _ H2 kk r2.dom2
 by_cases hk:i<n
 .obtain⟨g1,g2⟩:=go i hk;refine .inr ⟨g1,λx H3 y=>?_⟩;obtain⟨gr,fv⟩:=g2 x H3 y;have AiD:Ai D:=.inr (.inl rfl);refine hgi fxi Ai Rr H0' τρ τ H3 _ x _ _ rfl (F2.fr gr.fr) (r2.gr gr) fv (turn i ys τρ _ hk rfl iv) λτρ2 τ2 q2 r3 F3 w3=>?_;refine ht Ai τρ2 τ2 H3 _ _ r3 q2 λok H5 τρ3 q3 f5 r5=>?_;have F5:=F3.fr f5;have fD5:FVs K (OO Ai τρ3 τ2) H5 xs ys:=((fD.keeps (gr.fr (ρ:=τρ) (σ:=τ)).keeps).keeps (aL.less λb z=>z.imp id (w3 b))).keeps f5.keeps
  have eD5:H5 D=some (.lst xs):=f5.kp D _ (r3.sep D AiD) (gr D _ eD)
  cases ok with
  | true =>
   refine hi2 Ai τρ3 τ2 H5 _ _ r5 q3 λJ2 H6 n2 it2 τρ4 q4 f6 r6 W2=>?_;obtain⟨I2,j0,turn2,after2⟩:=q4;have F6:=F5.fr f6;have eD6:H6 D=some (.lst xs):=f6.kp D _ (r5.sep D AiD) eD5;have fD6:=fD5.keeps (f6.keeps (A:=Ai));have hw6:∀b,Wr τρ4 τ2 b->Wr τρ0 τσ0 b:=λb z=>hw b (w3 b (f5.ow b (f6.ow b z)))
   refine⟨λj l τ' H'=>j+l=n2/\∃zs τρ' xs',I2 j zs τρ'/\Rel K Ai τρ' τ' H'/\gD fxi Rr H0' τρ' τ' H'/\H' D=some (.lst xs')/\FVs K (OO Ai τρ' τ') H' xs' zs/\(∀b,Wr τρ' τ' b->Wr τρ0 τσ0 b)/\aL (OO Ai τρ4 τ2) H6 (OO Ai τρ' τ') H',
    ⟨n2,N6 n2,ys,τρ4,xs,j0,r6,F6,eD6,fD6,hw6,λb o n e=>⟨n,e⟩⟩,λj l τ' H7 ⟨hjl,zs,τρ',xs',jv,r7,F7,eD7,fD7,hw7,kk7⟩=>?_⟩
   obtain⟨go2,stop2⟩:=W2 _ H7 kk7 r7.dom2
   by_cases hj:j<n2
   .obtain⟨g1',g2'⟩:=go2 j hj;refine .inr ⟨g1',λy H8 yy=>?_⟩;obtain⟨gr8,fv8⟩:=g2' y H8 yy;refine hgi2 fxi Ai Rr H0' τρ' τ' H8 _ y _ _ rfl (F7.fr gr8.fr) (r7.gr gr8) fv8 (turn2 j zs τρ' _ hj rfl jv) λτρ9 τ9 q9 r9 F9 w9=>?_;refine ht2 Ai τρ9 τ9 H8 _ _ r9 q9 λok2 H10 τρ10 q10 f10 r10=>?_;have F10:=F9.fr f10;have k1:=(gr8.fr (ρ:=τρ') (σ:=τ')).keeps (A:=Ai);have k2:aL (OO Ai τρ' τ') H8 (OO Ai τρ9 τ9) H8:=aL.less λb z=>z.imp id (w9 b)
    have k3:=f10.keeps (A:=Ai);have fD10:FVs K (OO Ai τρ10 τ9) H10 xs' zs:=fD7.keeps (kpt k1 (kpt k2 k3));have eD10:H10 D=some (.lst xs'):=f10.kp D _ (r9.sep D AiD) (gr8 D _ eD7)
    cases ok2 with
    | true =>
     refine he Ai τρ10 τ9 H10 _ _ r10 q10 λv H11 p τρ11 q11 f11 o11=>?_;obtain⟨r11,fv11⟩:=o11.frz;have F11:=F10.fr f11;have eD11:H11 D=some (.lst xs'):=f11.kp D _ (r10.sep D AiD) eD10;have kw:aL (OO Ai τρ11 τ9) H11 (OO Ai τρ11 τ9) (upd H11 D (.lst (xs'++[v]))):=λb o nn e=>⟨nn,by rw [aI (λz=>nn (by rw [z];exact .inl AiD))];exact e⟩
     refine⟨xs',eD11,?_,l - 1,by omega,by omega,zs++[p.d],τρ11,xs'++[v],q11.2,r11.amb AiD,⟨λb o nn e=>?_,λb z=>?_,F11.ow,F11.fx⟩,aY,((fD10.keeps f11.keeps).append (.cons fv11 .nil)).keeps kw,λb z=>hw7 b (w9 b (f10.ow b (f11.ow b z))),kpt kk7 (kpt k1 (kpt k2 (kpt k3 (kpt f11.keeps kw))))⟩
     .have:xs'.length=zs.length:=fD10.length;have:=q11.1;exact w_ (by omega:xs'.length<1000000) (sz _ (gV _))
     .rw [aI (λz=>nn (.inr z))];exact F11.kp b o nn e
     .by_cases zz:b=D
      .rw [zz,aY];exact nofun
      .rw [aI zz];exact F11.dm b z
    | false=>exact⟨l - 1,by omega,by omega,zs,τρ10,xs',q10,r10,F10,eD10,fD10,λb z=>hw7 b (w9 b (f10.ow b z)),kpt kk7 (kpt k1 (kpt k2 k3))⟩
   .have e:j=n2:=by omega
    subst e;exact .inl ⟨stop2,m - 1,by omega,by omega,zs,τρ',xs',after2 zs τρ' jv,r7,F7,eD7,fD7,hw7⟩
  | false=>exact⟨m - 1,by omega,by omega,ys,τρ3,xs,q3,r5,F5,eD5,fD5,λb z=>hw b (w3 b (f5.ow b z))⟩
 .have e:i=n:=by omega
  subst e;refine .inl ⟨stop,?_⟩;have q':=after ys τρ iv
  have cap:∀(m j:Nat),ix[m]?=some (some j)->∃p v,ρ1[j]?=some (some p)/\σ[j]?=some (some v)/\τ[m]?=some (some v):=λm j e=>by
   have h1:=Na.mp hcap _ (Eo e);have h1:(match ρ1[j]? with|some (some _)=>true|_=>false)=true:=h1
   split at h1
   .rename_i p ep;obtain⟨v,hv,_⟩:=R1.get j p ep;exact⟨p,v,ep,hv,F2.fx _ (fxget m j v e hv)⟩
   .cases h1
  have get':∀(j:Nat) (p:PV),(eJ ix ρ1 τρ)[j]?=some (some p)->(∃m v,ix[m]?=some (some j)/\σ[j]?=some (some v)/\τ[m]?=some (some v)/\τρ[m]?=some (some p))\/(some j∉ix/\ρ1[j]?=some (some p)):=λj p e=>by
   by_cases hj:some j∈ix
   .obtain⟨m,hm,em⟩:=Mm hj;have em':ix[m]?=some (some j):=by rw [cx hm,em]
    obtain⟨p0,v,h1,h2,h3⟩:=cap m j em';rw [qW ix ρ1 τρ j m hix em' (by rw [r2.len];exact (i_.mp h3).1) (i_.mp h1).1] at e;exact .inl ⟨m,v,em',h2,h3,e⟩
   .rw [km ix ρ1 τρ j hj] at e;exact .inr ⟨hj,e⟩
  have nocap:∀(j:Nat) (p:PV) (b:Addr),some j∉ix->ρ1[j]?=some (some p)->p.isOwn=true->σ[j]?=some (some (.ref b))->¬ Wr τρ0 τσ0 b:=λj p b hj e o s ⟨m,q,e1,o1,s1⟩=>by
   obtain⟨j',h1,h2⟩:=cG e1;obtain⟨v,hv,_⟩:=R1.get j' q h2;have:=cH h1 hv;rw [s1] at this;cases this;have:=R1.dj j j' p q _ e h2 o o1 s hv;subst this;exact hj (Eo h1)
  have w':∀b,Wr (eJ ix ρ1 τρ) σ b->Wr τρ τ b\/(Wr ρ1 σ b/\¬ Wr τρ0 τσ0 b):=λb ⟨j,p,e,o,s⟩=>by
   rcases get' j p e with ⟨m,v,h1,h2,h3,h4⟩|⟨hj,h1⟩
   .rw [s] at h2;cases h2;exact .inl ⟨m,p,h4,o,h3⟩
   .exact .inr ⟨⟨j,p,h1,o,s⟩,nocap j p b hj h1 o s⟩
  have oo':∀b,OO (d0 A D) (eJ ix ρ1 τρ) σ b->OO Ai τρ τ b:=λb z=>by
   rcases z with (z|z)|z
   .exact .inl (.inl z)
   .exact .inl (.inr (.inl z))
   .rcases w' b z with z|z
    .exact .inr z
    .exact .inl (.inr (.inr z))
  have kp1:∀b o,¬ Wr τρ0 τσ0 b->b≠D->H1 b=some o->H2 b=some o:=λb o n1 n2 e=>F2.kp b o (λz=>z.elim n1 n2) (by rw [show H0' b=H1 b from aI n2];exact e);have k1:aL (OO A ρ1 σ) H1 (OO (d0 A D) (eJ ix ρ1 τρ) σ) H2:=λb o nn e=>⟨λz=>(kk b o nn e).1 (oo' b z),(kk b o nn e).2⟩
  have AiD:Ai D:=.inr (.inl rfl)
  have R':Rel K (d0 A D) (eJ ix ρ1 τρ) σ H2:=by
   refine⟨by rw [mM];exact R1.len,λj p e=>?_,λj l p q v e1 e2 o1 o2 s1 s2=>?_,λb z=>?_,λb z w=>?_⟩
   .rcases get' j p e with ⟨m,v,h1,h2,h3,h4⟩|⟨hj,h1⟩
    .obtain⟨v',hv',r⟩:=r2.get m p h4;rw [h3] at hv';cases hv';exact⟨v,h2,r.keeps (aL.less oo') λ_ _ _=>rfl⟩
    .obtain⟨v,hv,r⟩:=R1.get j p h1;refine⟨v,hv,r.keeps k1 λow a ea=>?_⟩;subst ea;obtain⟨a',u,e1,e2⟩:=r.ref ow;cases e1;rw [e2];exact kp1 a u (nocap j p a hj h1 ow hv) (λz=>by rw [z,hD] at e2;cases e2) e2
   .rcases get' j p e1 with ⟨m,v1,h1,h2,h3,h4⟩|⟨hj,h1⟩
    .rw [s1] at h2;cases h2
     rcases get' l q e2 with ⟨m',v2,g1,g2,g3,g4⟩|⟨hl,g1⟩
     .rw [s2] at g2;cases g2;have:=r2.dj m m' p q _ h4 g4 o1 o2 h3 g3;subst this;rw [h1] at g1;cases g1;rfl
     .exfalso;obtain⟨v',hv',r⟩:=r2.get m p h4;rw [h3] at hv';cases hv';obtain⟨a,u,ea,_⟩:=r.ref o1;subst ea;exact nocap l q a hl g1 o2 s2 (hw a ⟨m,p,h4,o1,h3⟩)
    .rcases get' l q e2 with ⟨m',v2,g1,g2,g3,g4⟩|⟨hl,g1⟩
     .rw [s2] at g2;cases g2;exfalso;obtain⟨v',hv',r⟩:=r2.get m' q g4;rw [g3] at hv';cases hv';obtain⟨a,u,ea,_⟩:=r.ref o2;subst ea;exact nocap j p a hj h1 o1 s1 (hw a ⟨m',q,g4,o2,g3⟩)
     .exact R1.dj j l p q v h1 g1 o1 o2 s1 s2
   .rcases z with z|z
    .exact r2.dom b (.inl z)
    .rw [z,eD];exact nofun
   .rcases w' b w with w|w
    .rcases z with z|z
     .exact r2.sep b (.inl z) w
     .rw [z] at w;exact r2.sep D AiD w
    .rcases z with z|z
     .exact R1.sep b z w.1
     .rw [z] at w;exact nD w.1
  have f2:Fr ρ1 σ H1 (eJ ix ρ1 τρ) H2:=by
   refine⟨λb o nn e=>kp1 b o (λz=>nn (wsub b z)) (λz=>by rw [z,hD] at e;cases e) e,λb z=>F2.dm b ?_,λb z=>?_⟩
   .intro e
    by_cases zz:b=D
    .exact z (by rw [zz];exact hD)
    .rw [show H0' b=H1 b from aI zz] at e;exact z e
   .rcases w' b z with z|z
    .exact wsub b (hw b z)
    .exact z.1
  have hD0:H D=none:=by
   cases e:H D with
   | none=>rfl
   | some o=>exact absurd hD (f1.dm D (by rw [e];exact nofun))
  exact k _ H2 (.own ys) _ q' (f1.trans f2) ⟨D,xs,rfl,λz=>R1.dom D z hD,hD0,eD,R',fD.keeps (aL.less oo')⟩
section
noncomputable def C4:TIp:=λx y H Q=>rI0 (λi j=>.int (i+j)) x y H Q\/∃a b,x=.str (S a)/\y=.str (S b)/\a.length+b.length<=1000000/\Q (.str (S (a++b))) H
def EL:PIp X .Add C4:=by
 intro pins s σ H x y v u Q I rx ry q
 rcases q with q|⟨a,b,rfl,rfl,hl,q⟩
 .exact DN pins s σ H x y v u Q I rx ry q
 .obtain⟨t,rfl⟩:=rx;obtain⟨t',rfl⟩:=ry;refine PyProof.Rows.iadd_str (λt2 k=>⟨.str (S (a++b)),H,I.tok k,⟨t2,by rw [BG]⟩,q⟩) ?_;rw [fc,fc];exact s_ hl (sz _ (gV _))
noncomputable def ipD:D->D->(D->Prop)->Prop
 | .int a,.int b,Q=>Q (.int (a+b))
 | .str a,.str b,Q=>a.length+b.length<=1000000/\Q (.str (a++b))
 | _,_,_=>False
noncomputable def HG(i:Nat)(pe:PTE):PTS:=λE ρ=>match ρ[i]? with
 | some (some (.dat d))=>pe ρ λp ρ1=>(match ρ1[i]? with
  | some (some (.dat d'))=>d'=d/\ipD d p.d λr=>fu i (.dat r) ρ1 E.nx
  | _=>False)
 | _=>False
variable {fs:List Nat}
def HH(hi:LG K fs (aS i) (fu i))(h:LE K te pe):LS K fs (Ko i te C4) (HG i pe):=λfx A R H0 ρ σ H E E' hf r F q k1 k2 k3 k4=>by
 unfold HG at q
 split at q
 .rename_i d e;obtain⟨v0,s0,rs0⟩:=r.get i _ e;refine⟨v0,s0,h A ρ σ H _ _ r q λv H1 p ρ1 q1 f1 o1=>?_⟩;obtain⟨R1,fv⟩:=o1.frz
  split at q1
  .rename_i d' e1;obtain⟨rfl,q1⟩:=q1;obtain⟨v1,s1,rs1⟩:=R1.get i _ e1;rw [s0] at s1;cases s1;have fv1:FV K (OO A ρ1 σ) H1 v0 d':=rs1;unfold ipD at q1
   split at q1
   .rename_i a b ep;rw [ep] at fv;cases fv1;cases fv;exact .inl ⟨a,b,rfl,rfl,hi fx A R H0 ρ1 σ H1 (.dat (.int (a+b))) _ _ _ hf (F.fr f1) ⟨R1,.int _⟩ q1 k1⟩
   .rename_i a b ep;rw [ep] at fv;cases fv1;cases fv;exact .inr ⟨a,b,rfl,rfl,q1.1,hi fx A R H0 ρ1 σ H1 (.dat (.str (a++b))) _ _ _ hf (F.fr f1) ⟨R1,.str _ (by rw [length_append];exact q1.1)⟩ q1.2 k1⟩
   .exact q1.elim
  .exact q1.elim
 .exact q.elim
abbrev HI:R2:=rI Kq λi j=>.int (i*2^j.toNat)
abbrev Ln:F2:=fI (λi j=>0<=j/\j<=1000000/\i.natAbs<2^64) λi j=>.int (i*2^j.toNat)
def HJ:OpR X (binaryOp .LShift) HI:=Gn
def C5:LO K HI Ln:=IM λ_ _ _ _=>.int _
abbrev JU:R2:=rI (λ_ j=>0<=j) λi j=>.int (i / 2^j.toNat)
abbrev Lo:F2:=fI (λ_ j=>0<=j) λi j=>.int (i / 2^j.toNat)
def JV:OpR X (binaryOp .RShift) JU:=Go
def HK:LO K JU Lo:=IM λ_ _ _ _=>.int _
abbrev EM:R2:=rI0 λi j=>.int (MY i j)
abbrev JW:F2:=fI0 λi j=>.int (MY i j)
def HL:OpR X (binaryOp .BitAnd) EM:=Gp
def EN:LO K EM JW:=BW λ_ _ _ _=>.int _
end
variable {E:Value->c_->Prop}
def rh{l:Addr}{vs:List Value}{Q:List Value->c_->Prop}(hl:IsTup s.heap l vs.toArray)(h:Q vs { s with heap:=(s.heap.push (seqObj "list" #[] 0)).update s.heap.objs.size (Lw (·++vs.toArray)) })(hsz:vs.length<=sizeLine:=by size_fits):
  wpAny (model prog w) A (collect (.ref l)) Q E s:=by
 obtain⟨o,ho,hc,n,hd⟩:=id hl;unfold collect;refine cn (wpAny_runValue (Mr entry_proto_collect' ?_));show wpAny _ _ (do again (.builtin "list.__iadd__" ⟨[<- newList [],.ref l],[]⟩)) _ _ s;refine cn (Ou (f_ ⟨Code.quiet_builtin _ (by decide +kernel),Mr entry_list_iadd' ?_⟩));show wpAny _ _ (N7 (.ref s.heap.objs.size) (.ref l) (.ref s.heap.objs.size)) _ _ { s with heap:=s.heap.push (seqObj "list" #[] 0) }
 unfold N7;have ho':(s.heap.push (seqObj "list" #[] 0)).get? l=some o:=d_ _ ho;refine cn (OI (T:="tuple") ⟨o,ho',hc⟩ ?_);have ht:(Mz "tuple" == Mz "tuple")=true:=by rfl
 rw [if_pos (by rw [ht];simp)];refine cn (listItems_at ho' hd ?_);refine cn (listItems_at (xs:=#[]) (n:=0) (g_ _ rfl) rfl ?_);rw [if_neg (by simp)];refine cn (Ov (xs:=#[]) (n:=0) (g_ _ rfl) rfl ?_ (LY _) (by show (#[]++vs.toArray).size<=sizeLine+1;simp only [Array.size_append,size_toArray,length_nil];omega));refine f_ ?_
 show wpAny (model prog w) A (do
   let o <- load s.heap.objs.size
   match o.data with
   | .seq xs _=>pure xs.toList
   | _=>unsupported "internal:collect") Q E { s with heap:=(s.heap.push (seqObj "list" #[] 0)).update s.heap.objs.size (Lw (·++vs.toArray)) }
 refine cn (wpAny_load (get?_update_seq (g_ _ rfl) _) ?_);show wpAny _ _ (pure ((#[]:Array Value)++vs.toArray).toList) Q E _;rw [show ((#[]:Array Value)++vs.toArray).toList=vs by simp];exact f_ h
variable {ns:List Int}{Q:Value->c_->Prop}
def tE{l:Addr}{vs:List Value}(hl:IsTup s.heap l vs.toArray)(hI:Mt vs ns)(h64:vs.length<64)(h:∀(out:Array Value) (ns':List Int),Mt out.toList ns'->ns'.Perm ns->ns'.Pairwise (·<=·)->Q (.ref (s.heap.objs.size+1)) { s with heap:=sortedAll s.heap vs out }):
  wpAny (model prog w) A (call (.builtin "sorted") [.ref l]) Q E s:=by
 refine Calls.call_function_entry kind_sorted plain_sorted entry_sorted (args_sorted1 _) ?_;unfold NZ.«sorted»;refine cn (m:=checkCount "sorted" 1 1 _) (f_ ?_);refine cn (rh hl ?_);refine cn (Ou ?_)
 have hsz:((s.heap.push (seqObj "list" #[] 0)).update s.heap.objs.size (Lw (·++vs.toArray))).objs.size=s.heap.objs.size+1:=by
  rw [MZ,size_push']
 have hoL:(((s.heap.push (seqObj "list" #[] 0)).update s.heap.objs.size (Lw (·++vs.toArray))).push (seqObj "list" vs.toArray 0)).get? (s.heap.objs.size+1)=some (seqObj "list" vs.toArray 0):=by
  rw [<- hsz];exact g_ _ rfl
 show wpAny _ _ _ _ _ { s with heap:=((s.heap.push (seqObj "list" #[] 0)).update s.heap.objs.size (Lw (·++vs.toArray))).push (seqObj "list" vs.toArray 0) };rw [hsz];refine cn (I_ (L3 slot_list_sort ⟨_,hoL,rfl⟩ entry_list_sort (list_sort_tree hoL hI h64 λout ns' a1 a2 a3=>⟨_,rfl,?_⟩) (args_list_sort _)));exact f_ ⟨_,rfl,h out ns' a1 a2 a3⟩
noncomputable def C6(K:b_):List V->Hp->VK->Prop:=λxs H Q=>∃(b:Bool) (p:Addr) (ns:List Int),xs=[.ref p]/\Sq b K H p (ns.map V.int)/\ns.length<64/\∀ns':List Int,ns'.Perm ns->ns'.Pairwise (·<=·)->∀q,H q=none->Q (.ref q) (upd H q (.lst (ns'.map V.int)))
def EO(K:b_)(e:X.K=K):bJ X (.builtin "sorted") (C6 K):=by
 subst e;intro pins s σ H xs us Q I r h;obtain⟨b,p,ns,rfl,hS,hne,q⟩:=h;obtain⟨u,rfl,ru⟩:=fJ r;cases (show u=l_ p from ru)
 cases b with
 | false=>exact EI X.K rfl pins s σ H _ _ Q I r ⟨p,ns,rfl,hS,hne,q⟩
 | true =>
  obtain⟨its,rv,pl,hz⟩:=I.tuple hS;have hi:=cZ rv;have hlen:its.length=ns.length:=by have:=rv.length;rw [length_map] at this;exact this.symm
  refine tE pl hi (by omega) λout ns' ho hp hs=>?_;obtain⟨e,he⟩:=sortedAll_at s.heap its out;have hle:s.heap.objs.size<=s.heap.objs.size+1:=le_succ _;refine⟨.ref (s.heap.objs.size+1),_,I.laid (a:=s.heap.objs.size+1) (o:=.lst (ns'.map V.int)) (t':=s.toks) (λb o z=>sortedAll_old z) hle ?_,rfl,q ns' hp hs _ (I.hok.fresh hle)⟩;refine⟨?_,out.toList,e,kd ho,he⟩;rw [length_map,hp.length_eq];exact sz _ (by omega)
noncomputable def C7:FN
 | [.lst ds],Q=>∃ns:List Int,ds=ns.map .int/\ns.length<64/\∀ns':List Int,ns'.Perm ns->ns'.Pairwise (·<=·)->Q (.own (ns'.map .int))
 | [.tup ds],Q=>∃ns:List Int,ds=ns.map .int/\ns.length<64/\∀ns':List Int,ns'.Perm ns->ns'.Pairwise (·<=·)->Q (.own (ns'.map .int))
 | _,_=>False
def B7:LC K (C6 K) C7:=by
 intro O H xs as Q Q' dom fs q k;unfold C7 at q
 split at q
 .obtain⟨ns,rfl,h0,q⟩:=q
  cases fs with
  | cons a b =>
   cases b;obtain⟨p,ys,rfl,e1,f1⟩:=a.lst;rw [f1.ints] at e1;exact⟨false,p,ns,rfl,SqL.of e1,h0,λns' h1 h2 p' hp'=>k _ _ _ (q ns' h1 h2) (Gr.new hp') (dF hp' (FVs.of_ints _))⟩
 .obtain⟨ns,rfl,h0,q⟩:=q
  cases fs with
  | cons a b =>
   cases b;obtain⟨p,ys,rfl,_,e1,f1⟩:=a.tup;rw [f1.ints] at e1;exact⟨true,p,ns,rfl,SqT.of e1,h0,λns' h1 h2 p' hp'=>k _ _ _ (q ns' h1 h2) (Gr.new hp') (dF hp' (FVs.of_ints _))⟩
 .exact q.elim
variable {items:Array Value}
theorem tF{it t:Addr}(hne:t≠it):∀(n i:Nat) (s:c_) (Q:List Value->c_->Prop),s.heap.IsListIter it t i->s.heap.IsList t items->i+n<=items.size ->
  (∀h',h'.IsListIter it t (i+n)->NA it s.heap h'->Q ((items.toList.drop i).take n) { s with heap:=h' })->wpAny (model prog w) A (draw (.ref it) n) Q E s
 | 0,i,s,Q,hit,_,_,hQ=>by
  show wpAny _ _ (pure []) Q E s;exact f_ (by simpa using hQ s.heap hit (Heap.SameBut.refl ..))
 | n+1,i,s,Q,hit,ht,hle,hQ=>by
  have hlt:i<items.size:=by omega
  show wpAny _ _ (pyNext (.ref it) >>= _) Q E s;refine cn (wpAny_pyNext_list_item hit ht (x:=items[i]) (by simp [hlt]) λh₁ hit₁ hs₁=>?_);refine cn (I_ (tF hne n (i+1) _ _ hit₁ (ht.extBut hs₁.extBut hne) (by omega) λh₂ hit₂ hs₂=>f_ ?_));have hd:items.toList.drop i=items[i]::items.toList.drop (i+1):=by simp [drop_eq_getElem_cons,hlt]
  have:=hQ h₂ (by rw [show i+(n+1)=i+1+n by omega];exact hit₂) (hs₁.trans hs₂);rw [hd,take_succ_cons] at this;exact this
def ml{t:Addr}{Q:List Value->c_->Prop}(hh:A.handled=none)(ht:s.heap.IsList t items)(hQ:∀h',O3 s.heap.objs.size s.heap h'->Q items.toList { s with heap:=h' }):wpAny (model prog w) A (unpackItems (.ref t) items.size none) Q E s:=by
 have hlt:t≠s.heap.objs.size:=by obtain⟨o,ho,_⟩:=ht;exact H_ (n_ ho)
 unfold unpackItems
 refine cn ?_
 .unfold notIterableAtAll;refine cn (wpAny_specialOf ht.typeIs PySem.F.slot_list_iter.lookup ?_);refine f_ ?_;simp only [false_eq_true,if_false];refine cn (I_ (MK ht ?_));refine cn (I_ (tF hlt items.size 0 _ _ ⟨_,g_ _ rfl,rfl,rfl⟩ (ht.push _) (by omega) λh₁ hit₁ hs₁=>?_))
  have hall:List.take items.size (List.drop 0 items.toList)=items.toList:=by
   rw [drop_zero];exact L9 (by simp)
  rw [hall];rw [if_neg (by simp)];have ht₁:h₁.IsList t items:=(ht.push _).extBut hs₁.extBut hlt;refine cn (I_ (wpAny_pyNext_list_end hh hit₁ ht₁ (by simp) λh₂ he₂=>?_));simp only [Option.isSome_none,false_eq_true,if_false];refine f_ (hQ h₂ λb o hb e=>he₂ b o hb (hs₁.extBut b o hb (d_ _ e)))
def k9{elts:List Expr}{x1}{pos:Pos}{t:Addr}{items:Array Value}{Q:Unit->c_->Prop}(hh:A.handled=none)(ht:s.heap.IsList t items)
  (hn:(assignEach elts env).length=items.size) (hstar:(assignEach elts env).findIdx? (·.1)=none)
  (h:∀h',O3 s.heap.objs.size s.heap h'->wpAny (model prog w) A (assignInOrder ((assignEach elts env).map (·.2)) items.toList) Q E { s with heap:=h' }) :
  wpAny (model prog w) A (assign (.Tuple elts x1 pos) env (.ref t)) Q E s:=by
 rw [assign_Tuple];refine cn (MN ?_);unfold unpack;rw [hn,hstar];exact cn (I_ (ml hh ht h))
noncomputable def tG(K:b_)(n:Nat)(t:TGs):TG:=λv σ H Q=>∃b a xs,v=.ref a/\Sq b K H a xs/\xs.length=n/\t xs σ H Q
variable {es:List Expr}
def di(K:b_)(eK:X.K=K){t:TGs}(hc:X.calm=true)(h:PGs X es t)(hn:(assignEach es X.env).length=n:=by rfl)(hst:(assignEach es X.env).findIdx? (·.1)=none:=by rfl):PG X (.Tuple es k pos) (tG K n t):=by
 subst eK;intro pins s σ H v u Q I r hw;obtain⟨b,a,xs,e1,hq,hl,hw⟩:=hw
 cases b with
 | true=>exact Gg hc h hn hst pins s σ H v u Q I r ⟨a,xs,e1,hq,hl,hw⟩
 | false =>
  subst e1;cases r;obtain⟨its,rv,ht,hz⟩:=I.list hq;refine k9 (I.ok.hd hc) ht.isList (by simp [hn,<- hl,rv.length]) hst λh' hx=>?_;have I1:Inv X pins σ H { s with heap:=h' }:=I.kept (t':=s.toks) λb o e=>hx b o (H_ (n_ e)) e;exact h pins _ σ H xs _ Q I1 (by simpa using rv) hw
noncomputable def tH(n:Nat)(gs:CM):PTG:=λp ρ Q=>match p with|.dat (.tup ds)=>ds.length=n/\gs ds ρ Q|.dat (.lst ds)=>ds.length=n/\gs ds ρ Q|.own ds=>ds.length=n/\gs ds ρ Q|_=>False
section
variable {fs:List Nat}
def cB{gs:TGs}{pgs:CM}(h:LGs K fs gs pgs):LGd K fs (tG K n gs) (tH n pgs):=λfx A R H0 ρ σ H d v Q Q' hf F r fv q k=>by
 unfold tH at q
 split at q
 .rename_i e;cases e
  cases fv with
  | tup nn e f=>exact⟨true,_,_,rfl,SqT.of e,by rw [f.length];exact q.1,h fx A R H0 ρ σ H _ _ Q Q' hf F r f q.2 k⟩
 .rename_i e;cases e
  cases fv with
  | lst nn e f=>exact⟨false,_,_,rfl,SqL.of e,by rw [f.length];exact q.1,h fx A R H0 ρ σ H _ _ Q Q' hf F r f q.2 k⟩
 .rename_i e;cases e
 .exact q.elim
def Ag{gs:TGs}{pgs:CM}(h:LGs K fs gs pgs):LG K fs (tG K n gs) (tH n pgs):=λfx A R H0 ρ σ H p v Q Q' hf F o q k=>by
 unfold tH at q
 split at q
 .obtain⟨r,fv⟩:=o
  cases fv with
  | tup nn e f=>exact⟨true,_,_,rfl,SqT.of e,by rw [f.length];exact q.1,h fx A R H0 ρ σ H _ _ Q Q' hf F r f q.2 λρ' σ' q' r' F' _=>k ρ' σ' H q' r' F'⟩
 .obtain⟨r,fv⟩:=o
  cases fv with
  | lst nn e f=>exact⟨false,_,_,rfl,SqL.of e,by rw [f.length];exact q.1,h fx A R H0 ρ σ H _ _ Q Q' hf F r f q.2 λρ' σ' q' r' F' _=>k ρ' σ' H q' r' F'⟩
 .obtain⟨r,fv⟩:=o.frz
  cases fv with
  | lst nn e f=>exact⟨false,_,_,rfl,SqL.of e,by rw [f.length];exact q.1,h fx A R H0 ρ σ H _ _ Q Q' hf F r f q.2 λρ' σ' q' r' F' _=>k ρ' σ' H q' r' F'⟩
 .exact q.elim
end
noncomputable def uL(d:D)(xs:List D):Prop:=d=.lst xs\/d=.tup xs
def EQ{d:D}{xs:List D}{Q:PV->Prop}(h:uL d xs)(q:Q (.own xs)):EB [d] Q:=by
 rcases h with rfl|rfl <;> exact q
def B8{d:D}{xs:List D}{Q:PV->Prop}(h:uL d xs)(q:Q (.dat (.tup xs))):lN [d] Q:=by
 rcases h with rfl|rfl <;> exact q
theorem HM{d:D}{xs:List D}{F:Nat->(Nat->D)->Prop}(h:uL d xs)(q:F xs.length (itD xs)):(match JF d with|some (n,it)=>F n it|none=>False):=by
 rcases h with rfl|rfl <;> exact q
def uL.lst(xs:List D):uL (.lst xs) xs:=.inl rfl
def uL.tup(xs:List D):uL (.tup xs) xs:=.inr rfl
noncomputable def nSt:Expr->Bool
 | .Starred _ _=>false
 | _=>true
variable {e:Expr}
def jA(h:nSt e=true):starEach (e::es) env=(false,eval e env)::starEach es env:=by
 cases e <;> first|rfl|cases h
theorem i3:∀{es:List Expr},es.all nSt=true->(backTo pos (starEach es env)).any (·.1)=false
 | [],_=>rfl
 | e::es,h=>by
  rw [all_cons,and_eq_true] at h;rw [jA h.1];show (false || (backTo pos (starEach es env)).any (·.1))=false;rw [i3 h.2];rfl
section
variable {t:TA}
def paC(ha:PE X e te)(hr:PA X es t)(hn:nSt e=true:=by rfl):PA X (e::es) (ax te t):=DS ha hr (jA hn)
variable {x:Str}{ps:List Str}{sp:Sp}{p:Pos}{C:Addr}
def ak(C:Cal X.prog X.w X.K X.mg X.base k x ps sp)(hr:fR k X.A)(ha:PA X (e::es) t)(hg:Gl X x:=by rfl)(hdb:(x == ("__debug__":Str))=false:=by decide)(hn:nSt e=true:=by rfl)(hp:es.all nSt=true:=by rfl):
  PE X (.Call (.Name x p) (e::es) [] pos) (cq sp [] E0 t):=GP C hr ha hg hdb (jA hn) (i3 hp)
variable {dvs:List V}
def B9(j:Nat)(C:GV X.prog X.w X.K X.mg X.base k x ps dvs sp)(hr:fR k X.A)(hj:j<=dvs.length)(ha:PA X (e::es) t)(hg:Gl X x:=by rfl)(hdb:(x == ("__debug__":Str))=false:=by decide)(hn:nSt e=true:=by rfl)(hp:es.all nSt=true:=by rfl):
  PE X (.Call (.Name x p) (e::es) [] pos) (cq sp (dvs.drop j) E0 t):=Ee j C hr hj ha hg hdb (jA hn) (i3 hp)
def xi(M:GX X.prog X.w X.K X.mg X.base k C x ps sp)(hr:fR (k+1) X.A)(ha:PA X (e::es) t)(hg:Gl X x:=by rfl)(hdb:(x == ("__debug__":Str))=false:=by decide)(hn:nSt e=true:=by rfl)(hp:es.all nSt=true:=by rfl):
  PE X (.Call (.Name x p) (e::es) [] pos) (Bw C sp [] E0 t):=Ef M hr ha hg hdb (jA hn) (i3 hp)
variable {id:String}{r:List V->Hp->VK->Prop}
def al(hc:bJ X (.builtin id) r)(hg:Gl X x)(hm:X.mg x=none)(hv:bootBuiltins x=some (.builtin id))(ha:PA X (e::es) t)(hnn:x≠"__name__":=by decide)(hdb:(x == ("__debug__":Str))=false:=by decide)(hn:nSt e=true:=by rfl)(hp:es.all nSt=true:=by rfl):
  PE X (.Call (.Name x p) (e::es) [] pos) (tCB r t):=Bz hc hg hm hv ha hnn hdb (jA hn) (i3 hp)
variable {T:String}
def a8(hc:bJ X (.type T) r)(hg:Gl X x)(hm:X.mg x=none)(hv:bootBuiltins x=some (.type T))(ha:PA X (e::es) t)(hnn:x≠"__name__":=by decide)(hdb:(x == ("__debug__":Str))=false:=by decide)(hn:nSt e=true:=by rfl)(hp:es.all nSt=true:=by rfl):
  PE X (.Call (.Name x p) (e::es) [] pos) (tCB r t):=zd hc hg hm hv ha hnn hdb (jA hn) (i3 hp)
end
noncomputable def plT:Expr->Bool
 | .Call _ _ _ _=>true
 | .Name _ _=>true
 | .Subscript _ _ _=>true
 | .Attribute _ _ _=>true
 | _=>false
def ER(h:plT e=true):∀whole,isTrue e env whole=(do let v <- whole;standAt e.pos;holding [v] (truthy v)):=by
 cases e <;> first|(intro _;rfl)|cases h
def cf{t:TE}(h:PE X e t)(hp:plT e=true:=by rfl):PT X e (tB t):=Gb h (ER hp)
noncomputable def qf(a b:List Nat):Bool:=decide (0<=fnd b a 0)
variable {a b:List Nat}
def ES:qf a b=true ↔ ∃k,stA b a k=true:=by
 unfold qf
 constructor
 .intro h;have h0:fnd b a 0≠-1:=λz=>by rw [z] at h;exact absurd (of_decide_eq_true h) (by decide)
  obtain⟨k,_,_,h1,_⟩:=mK h0;exact⟨k,h1⟩
 .rintro⟨k,hk⟩
  by_cases h0:fnd b a 0=-1
  .rw [BO h0 k (LY _)] at hk;cases hk
  .obtain⟨j,e,_⟩:=mK h0;rw [e];exact decide_eq_true (by omega)
noncomputable def rj(a b:List Nat)(k:Nat):Prop:=k<min a.length b.length/\b.take k <:+ a/\∀j,j<min a.length b.length->b.take j <:+ a->j<=k
variable {j:Nat}
def rj.uniq(x:rj a b j)(y:rj a b k):j=k:=le_antisymm (y.2.2 j x.1 x.2.1) (x.2.2 k y.1 y.2.1)
noncomputable def dB(a b:List Nat):Nat:=open Classical in if h:∃k,rj a b k then Classical.choose h else 0
def iA(ha:0<a.length)(hb:0<b.length):rj a b (dB a b):=by
 obtain⟨k,h1,h2,h3⟩:=nA (λk=>b.take k <:+ a) (by rw [take_zero];exact nil_suffix) (min a.length b.length) (by omega);have h:∃k,rj a b k:=⟨k,h1,h2,h3⟩
 unfold dB;rw [dif_pos h];exact OU h
def rk(h:rj a b k):dB a b=k:=(iA (by have:=h.1;omega) (by have:=h.1;omega)).uniq h
def Ca(h:l.Pairwise (·<·)){m:Nat}(hm:m∈l)(hle:∀a∈l,m<=a):l.headD 0=m:=by
 cases l with
 | nil=>cases hm
 | cons x r =>
  show x=m;have h1:=hle x (mem_cons_self ..)
  rcases A_.mp hm with e|e
  .exact e.symm
  .have:=(Nn.mp h).1 m e;omega
noncomputable def tI(ws:List (List Nat)):D:=.tup (ws.map λw=>.tup (ws.map λv=>.int (dB w v:Int)))
def nD(k:Nat):D:=.int (k:Int)
theorem rm(w:List Nat):∀ws:List (List Nat),inD (.str w) (ws.map .str)=decide (w∈ws)
 | []=>by simp [inD]
 | v::r=>by
  have ih:=rm w r;unfold inD at ih ⊢;rw [map_cons,any_cons,ih];show ((v == w) || decide (w∈r))=_
  by_cases h:v=w
  .subst h;simp
  .rw [beq_eq_false_iff_ne.mpr h,NS]
   by_cases h2:w∈r
   .rw [decide_eq_true h2,decide_eq_true (m_ _ h2)]
   .rw [decide_eq_false h2,decide_eq_false (λz=>(A_.mp z).elim (λe=>h e.symm) h2)]
theorem C8(k:Nat):∀ks:List Nat,inD (.int (k:Int)) (ks.map nD)=decide (k∈ks)
 | []=>by simp [inD]
 | v::r=>by
  have ih:=C8 k r;unfold inD at ih ⊢;rw [map_cons,any_cons,ih];show (((v:Int) == (k:Int)) || decide (k∈r))=_
  by_cases h:v=k
  .subst h;simp
  .rw [show ((v:Int) == (k:Int))=false from beq_eq_false_iff_ne.mpr (by omega),NS]
   by_cases h2:k∈r
   .rw [decide_eq_true h2,decide_eq_true (m_ _ h2)]
   .rw [decide_eq_false h2,decide_eq_false (λz=>(A_.mp z).elim (λe=>h e.symm) h2)]
def Ah(ws:List (List Nat)):(ws.map D.str).all D.fl=true:=by rw [all_map];exact Na.mpr λ_ _=>rfl
def JX(ks:List Nat):(ks.map nD).all D.fl=true:=by rw [all_map];exact Na.mpr λ_ _=>rfl
def Aj(n:Nat):tm 0 n=(e_ n).map nD:=by
 unfold tm nD;exact LW λk _=>by rw [ON]
theorem kq(p:α->Bool)(g:α->β):∀l:List α,l.filterMap (λa=>if p a=true then some (g a) else none)=(l.filter p).map g
 | []=>rfl
 | a::r=>by
  rw [M8,filter_cons]
  cases h:p a with
  | true=>simp [kq p g r]
  | false=>simp [kq p g r]
def Ak(n:Nat):(tm 0 n).length=n:=by unfold tm;rw [length_map,tj]
def Al(h:j<(tm 0 n).length):itD (tm 0 n) j=.int (j:Int):=jf (by
 rw [Ak] at h;unfold tm;rw [h_,LQ h];show some (D.int (0+(j:Int)))=_;rw [ON])
def xj(a b:List Int):deq (.lst (a.map .int)) (.lst (b.map .int))=decide (a=b):=by
 unfold deq;show M_ (.list (D.pys _)) (.list (D.pys _))=_;rw [nK,nK];simp only [M_];exact nu a b
noncomputable def C9(n:Nat):List Int:=(e_ n).map λk=>((k:Nat):Int)
def tJ(n:Nat):tm 0 n=(C9 n).map D.int:=by
 unfold tm C9;rw [map_map];exact LW λk _=>by show D.int (0+(k:Int))=D.int (k:Int);rw [ON]
def u8(n:Nat):(C9 n).Pairwise (·<=·):=by
 unfold C9;rw [NI];exact On.imp λh=>by omega
def ET{a b:List Int}(hp:b.Perm a)(hs:b.Pairwise (·<=·)):decide (b=C9 n)=decide (a.Perm (C9 n)):=by
 by_cases h:b=C9 n
 .rw [decide_eq_true h,decide_eq_true (by rw [<- h];exact hp.symm)]
 .rw [decide_eq_false h,decide_eq_false λz=>h (List.Perm.eq_of_pairwise (λx y _ _ h1 h2=>by omega) hs (u8 n) (hp.trans z))]
open PySem.Builtin PySem.Builtin.ObjectAttr
open PySem.Builtin PySem.Builtin.ObjectAttr
open PySem.Builtin PySem.Builtin.ObjectAttr
open PySem.Builtin PySem.Builtin.ObjectAttr
def Am(d:D):(PV.dat d).d=d:=rfl
def An(ds:List D):(PV.own ds).d=.lst ds:=rfl
def Ao(ks:List Key)(ds:List D):(PV.odc ks ds).d=.dic ks ds:=rfl
def Ap(c:Str)(ns:List Str)(ds:List D):(PV.ins c ns ds).d=.obj c ns ds:=rfl
def HN(ds:List D):mkL false ds=.own ds:=rfl
def HP(ds:List D):mkL true ds=.dat (.tup ds):=rfl
noncomputable def pkm(ρ:PSt)(j:Nat):Option PV:=match ρ[j]? with
 | some v=>v
 | none=>none
def xk(v:Option PV)(r:PSt):pkm (v::r) 0=v:=rfl
def xm(v:Option PV)(r:PSt)(n:Nat):pkm (v::r) (n+1)=pkm r n:=rfl
def tK(ρ:PSt):bi [] ρ=[]:=rfl
def qg(ix:List (Option Nat))(ρ:PSt):bi (none::ix) ρ=none::bi ix ρ:=rfl
def qh(j:Nat)(ix:List (Option Nat))(ρ:PSt):bi (some j::ix) ρ=pkm ρ j::bi ix ρ:=rfl
def tL(j:Nat)(ix:List (Option Nat))(ρ:PSt)(t:Option PV)(τ:PSt):eJ (some j::ix) ρ (t::τ)=eJ ix (ρ.set j t) τ:=rfl
def tM(ix:List (Option Nat))(ρ:PSt)(t:Option PV)(τ:PSt):eJ (none::ix) ρ (t::τ)=eJ ix ρ τ:=rfl
def xn(ρ τ:PSt):eJ [] ρ τ=ρ:=rfl
noncomputable def Lp(pe:PTE):PTE:=λρ Q=>pe ρ λp ρ1=>Q (.dat p.d) ρ1
def tN{ta:TE}(h:LE K ta pe):LE K ta (Lp pe):=λA ρ σ H Q Q' R q k=>h A ρ σ H _ Q' R q λv H' p ρ' q f o=>k v H' (.dat p.d) ρ' q f o.frz
def lc{e:α->D}{xs:List α}(h:k<xs.length):itD (xs.map e) k=e xs[k]:=jf (by rw [h_,cx h];rfl)
def Aq(f:α->β)(xs:List α)(g:Nat->β)(h:∀k (hk:k<xs.length),g k=f xs[k]):(e_ xs.length).map g=xs.map f:=by
 apply NG;intro i;rw [h_,h_]
 by_cases hi:i<xs.length
 .rw [LQ hi,cx hi];exact congrArg some (h i hi)
 .rw [v_ (by rw [tj];omega),v_ (by omega)];rfl
section
variable {e:α->D}{xs:List α}{g:PTG}{pt:PTT}{Q:PKt}
def KT(T:PSt->Prop)(f:α->Option D)(h0:T (bi ix ρ1))(hs:∀x∈xs,∀τ,T τ->∀(K1:D->PSt->Prop) (K2:PSt->Prop),(∀d τ',f x=some d->T τ'->K1 d τ')->(∀τ',f x=none->T τ'->K2 τ')->g (.dat (e x)) τ λτ2=>pt τ2 λok τ3=>io ok (pe τ3 λp τ4=>K1 p.d τ4) (K2 τ3))(hq:∀τ,T τ->Q (.own (xs.filterMap f)) (eJ ix ρ1 τ)):mj ix ρ1 (xs.map e).length (itD (xs.map e)) g pt pe Q:=by
 refine cfm T (λk=>(xs[k]?).bind f) h0 (λk τ d hk ed t K1 K2 k1 k2=>?_) λτ t=>?_
 .rw [length_map] at hk;rw [lc hk] at ed;subst ed;have eg:(xs[k]?).bind f=f xs[k]:=by rw [cx hk];rfl
  rw [eg] at k1 k2;exact hs _ (Ml hk) τ t K1 K2 k1 k2
 .have e1:(e_ (xs.map e).length).filterMap (λk=>(xs[k]?).bind f)=xs.filterMap f:=by
   rw [length_map];have h1:(e_ xs.length).map (λk=>(xs[k]?).bind f)=xs.map f:=Aq f xs _ λk hk=>by rw [cx hk];rfl
   have h2:∀l:List Nat,l.filterMap (λk=>(xs[k]?).bind f)=(l.map λk=>(xs[k]?).bind f).filterMap id:=λl=>by rw [Ot];rfl
   rw [h2,h1,Ot];rfl
  rw [e1];exact hq τ t
def EU(T:PSt->Prop)(f:α->D)(h0:T (bi ix ρ1))(hs:∀x∈xs,∀τ,T τ->∀K1:D->PSt->Prop,(∀τ',T τ'->K1 (f x) τ')->g (.dat (e x)) τ λτ2=>pe τ2 λp τ4=>K1 p.d τ4)(hq:∀τ,T τ->Q (.own (xs.map f)) (eJ ix ρ1 τ)):mj ix ρ1 (xs.map e).length (itD (xs.map e)) g yM pe Q:=by
 refine KT T (λx=>some (f x)) h0 (λx hx τ t K1 K2 k1 k2=>?_) λτ t=>?_
 .exact hs x hx τ t K1 λτ' t'=>k1 _ τ' rfl t'
 .rw [show xs.filterMap (λx=>some (f x))=xs.map f by rw [<- filterMap_eq_map];rfl];exact hq τ t
def JY(p:α->Bool)(f:α->β):∀xs:List α,xs.filterMap (λx=>if p x=true then some (f x) else none)=(xs.filter p).map f:=kq p f
def cfX(T:PSt->Prop)(p:α->Bool)(f:α->D)(h0:T (bi ix ρ1))(hs:∀x∈xs,∀τ,T τ->∀(K1:D->PSt->Prop) (K2:PSt->Prop),(∀τ',p x=true->T τ'->K1 (f x) τ')->(∀τ',p x=false->T τ'->K2 τ')->g (.dat (e x)) τ λτ2=>pt τ2 λok τ3=>io ok (pe τ3 λp τ4=>K1 p.d τ4) (K2 τ3))(hq:∀τ,T τ->Q (.own ((xs.filter p).map f)) (eJ ix ρ1 τ)):mj ix ρ1 (xs.map e).length (itD (xs.map e)) g pt pe Q:=by
 refine KT T (λx=>if p x=true then some (f x) else none) h0 (λx hx τ t K1 K2 k1 k2=>hs x hx τ t K1 K2 (λτ' h t'=>k1 _ τ' (by rw [if_pos h]) t') λτ' h t'=>k2 τ' (by rw [if_neg (by rw [h];decide)]) t') λτ t=>?_;rw [JY];exact hq τ t
def cm1(f:α->D)(hs:∀x∈xs,∀(v:Option PV) (K1:D->PSt->Prop),(∀v',K1 (f x) (v'::(bi ix ρ1).tail))->g (.dat (e x)) (v::(bi ix ρ1).tail) λτ2=>pe τ2 λp τ4=>K1 p.d τ4)(hq:∀v:Option PV,Q (.own (xs.map f)) (eJ ix ρ1 (v::(bi ix ρ1).tail)))(hx:bi ix ρ1=none::(bi ix ρ1).tail:=by rfl):mj ix ρ1 (xs.map e).length (itD (xs.map e)) g yM pe Q:=by
 refine EU (λτ=>∃v,τ=v::(bi ix ρ1).tail) f ⟨none,hx⟩ ?_ ?_
 .rintro x hx τ ⟨v,rfl⟩ K1 k1;exact hs x hx v K1 λv'=>k1 _ ⟨v',rfl⟩
 .rintro τ ⟨v,rfl⟩;exact hq v
def cf1(p:α->Bool)(f:α->D)(hs:∀x∈xs,∀(v:Option PV) (K1:D->PSt->Prop) (K2:PSt->Prop),(∀v',p x=true->K1 (f x) (v'::(bi ix ρ1).tail))->(∀v',p x=false->K2 (v'::(bi ix ρ1).tail))->g (.dat (e x)) (v::(bi ix ρ1).tail) λτ2=>pt τ2 λok τ3=>io ok (pe τ3 λp τ4=>K1 p.d τ4) (K2 τ3))(hq:∀v:Option PV,Q (.own ((xs.filter p).map f)) (eJ ix ρ1 (v::(bi ix ρ1).tail)))(hx:bi ix ρ1=none::(bi ix ρ1).tail:=by rfl):mj ix ρ1 (xs.map e).length (itD (xs.map e)) g pt pe Q:=by
 refine cfX (λτ=>∃v,τ=v::(bi ix ρ1).tail) p f ⟨none,hx⟩ ?_ ?_
 .rintro x hx τ ⟨v,rfl⟩ K1 K2 k1 k2;exact hs x hx v K1 K2 (λv' h=>k1 _ h ⟨v',rfl⟩) λv' h=>k2 _ h ⟨v',rfl⟩
 .rintro τ ⟨v,rfl⟩;exact hq v
end
def cmR{g:PTG}{Q:PKt}(f:Nat->D)(hs:∀k,k<n->∀(v:Option PV) (K1:D->PSt->Prop),(∀v',K1 (f k) (v'::(bi ix ρ1).tail))->g (.dat (it k)) (v::(bi ix ρ1).tail) λτ2=>pe τ2 λp τ4=>K1 p.d τ4)(hq:∀v:Option PV,Q (.own ((e_ n).map f)) (eJ ix ρ1 (v::(bi ix ρ1).tail)))(hx:bi ix ρ1=none::(bi ix ρ1).tail:=by rfl):mj ix ρ1 n it g yM pe Q:=by
 refine CY (λτ=>∃v,τ=v::(bi ix ρ1).tail) f ⟨none,hx⟩ ?_ ?_
 .rintro k τ d hk rfl ⟨v,rfl⟩ K1 k1;exact hs k hk v K1 λv'=>k1 _ ⟨v',rfl⟩
 .rintro τ ⟨v,rfl⟩;exact hq v
def cfR{g:PTG}{pt:PTT}{Q:PKt}(p:Nat->Bool)(f:Nat->D)(hs:∀k,k<n->∀(v:Option PV) (K1:D->PSt->Prop) (K2:PSt->Prop),(∀v',p k=true->K1 (f k) (v'::(bi ix ρ1).tail))->(∀v',p k=false->K2 (v'::(bi ix ρ1).tail))->g (.dat (it k)) (v::(bi ix ρ1).tail) λτ2=>pt τ2 λok τ3=>io ok (pe τ3 λp τ4=>K1 p.d τ4) (K2 τ3))(hq:∀v:Option PV,Q (.own (((e_ n).filter p).map f)) (eJ ix ρ1 (v::(bi ix ρ1).tail)))(hx:bi ix ρ1=none::(bi ix ρ1).tail:=by rfl):mj ix ρ1 n it g pt pe Q:=by
 refine cfm (λτ=>∃v,τ=v::(bi ix ρ1).tail) (λk=>if p k=true then some (f k) else none) ⟨none,hx⟩ ?_ ?_
 .rintro k τ d hk rfl ⟨v,rfl⟩ K1 K2 k1 k2;exact hs k hk v K1 K2 (λv' h=>k1 _ _ (by rw [if_pos h]) ⟨v',rfl⟩) λv' h=>k2 _ (by rw [if_neg (by rw [h];decide)]) ⟨v',rfl⟩
 .rintro τ ⟨v,rfl⟩;rw [kq];exact hq v
section
variable {e:α->D}{xs:List α}{g:PTG}{pb:PTS}{nx bk:PSt->Prop}{rt:PV->PSt->Prop}
def IR(J:List α->PSt->Prop)(h0:J [] ρ1)(hs:∀pre x suf ρ,xs=pre++x::suf->J pre ρ->g (.dat (e x)) ρ λρ2=>pb { nx:=J (pre++[x]),rt:=rt,bk:=bk,ct:=J (pre++[x]) } ρ2)(hq:∀ρ,J xs ρ->nx ρ):
  ∃I:Nat->PSt->Prop,I 0 ρ1/\(∀k ρ d,k<(xs.map e).length->d=itD (xs.map e) k->I k ρ->g (.dat d) ρ λρ2=>pb { nx:=I (k+1),rt:=rt,bk:=bk,ct:=I (k+1) } ρ2)/\∀ρ,I (xs.map e).length ρ->nx ρ:=by
 refine⟨λk ρ=>J (xs.take k) ρ,by show J (xs.take 0) ρ1;rw [take_zero];exact h0,λk ρ d hk ed hJ=>?_,λρ h=>hq ρ (by have h:J (xs.take (xs.map e).length) ρ:=h;rw [length_map,take_length] at h;exact h)⟩;rw [length_map] at hk;rw [lc hk] at ed;subst ed;have ht:xs.take (k+1)=xs.take k++[xs[k]]:=by rw [take_succ,cx hk];rfl
 show g _ ρ λρ2=>pb { nx:=J (xs.take (k+1)),rt:=rt,bk:=bk,ct:=J (xs.take (k+1)) } ρ2;rw [ht];exact hs _ _ (xs.drop (k+1)) ρ (by rw [getElem_cons_drop,L4]) hJ
end
def EV(f:α->Bool)(xs:List α):(xs.map f).any id=xs.any f:=by rw [any_map];rfl
def yh(f:α->Bool)(xs:List α):xs.map (λx=>D.bl (f x))=(xs.map f).map D.bl:=by rw [map_map];rfl
def u9(f:α->Int)(xs:List α):xs.map (λx=>D.int (f x))=(xs.map f).map D.int:=by rw [map_map];rfl
def va(f:α->List Nat)(xs:List α):xs.map (λx=>D.str (f x))=(xs.map f).map D.str:=by rw [map_map];rfl
variable {t:List Nat}
def Ar{w:List Nat}:stA t w k=true ↔ ∃a b,t=a++w++b/\a.length=k:=by
 unfold stA;rw [decide_eq_true_eq]
 constructor
 .rintro⟨h1,h2⟩;refine⟨t.take k,t.drop (k+w.length),?_,by rw [length_take];omega⟩
  have h3:t.drop k=w++t.drop (k+w.length):=by
   conv=>lhs;rw [<- L4 w.length (t.drop k),h2,drop_drop]
  rw [append_assoc,<- h3,L4]
 .rintro⟨a,b,rfl,rfl⟩;refine⟨by rw [length_append,length_append];omega,?_⟩;rw [append_assoc,drop_left,take_left]
def tO:qf a b=true ↔ a <:+: b:=by
 rw [ES]
 constructor
 .rintro⟨k,hk⟩;obtain⟨u,v,e,_⟩:=Ar.mp hk;exact⟨u,v,e.symm⟩
 .rintro⟨u,v,e⟩;exact⟨u.length,Ar.mpr ⟨u,v,e.symm,rfl⟩⟩
def rn:qf a b=true ↔ 0<=fnd b a 0:=by unfold qf;exact decide_eq_true_iff
def xo:qf a b=false ↔ fnd b a 0<0:=by
 unfold qf;rw [decide_eq_false_iff_not];omega
def Cb(h:rj a b k)(ht:a <:+ t):b <:+ t++b.drop k:=by
 obtain⟨u,hu⟩:=List.IsSuffix.trans h.2.1 ht;refine⟨u,?_⟩;rw [<- hu,append_assoc,L4]
def As(f:α->β)(xs:List α)(i:Nat):(xs.map f).eraseIdx i=(xs.eraseIdx i).map f:=by
 rw [eraseIdx_eq_take_drop_succ,eraseIdx_eq_take_drop_succ,map_append,map_take,map_drop]
def At{js:List α}(h:i<js.length):(js.eraseIdx i++[js[i]]).Perm js:=by
 rw [eraseIdx_eq_take_drop_succ,append_assoc];have e:js=js.take i++(js[i]::js.drop (i+1)):=by rw [getElem_cons_drop,L4]
 conv=>rhs;rw [e]
 exact List.Perm.append_left _ (perm_append_singleton _ _)
def Lq(h:i<n):ixN n (i:Int)=some i:=by
 unfold ixN;rw [if_pos (by omega),if_pos (by omega),toNat_natCast]
end L2
namespace L2
open PySem PySem.W PyProof.Rows
variable {n:Nat}{r:Nat->Nat}{cmp:Nat->Nat->(Bool->c_->Prop)->c_->Prop}{s:c_}
noncomputable def Ans(n:Nat)(r:Nat->Nat)(cmp:Nat->Nat->(Bool->c_->Prop)->c_->Prop)(s:c_):Prop :=
 ∀(i j:Nat) (C:Bool->c_->Prop),i<n->j<n->C (decide (r i<r j)) s->cmp i j C s
noncomputable def kk(r:Nat->Nat)(p:Array Nat)(i:Nat):Nat:=r (p.getD i 0)
noncomputable def Pm(n:Nat)(p:Array Nat):Prop:=p.toList.Perm (e_ n)
variable {p:Array Nat}
def Pm.size(h:Pm n p):p.size=n:=by
 have:=List.Perm.length_eq h;rw [y_,tj] at this;exact this
variable {i:Nat}
def Pm.lt(h:Pm n p)(hi:i<n):p.getD i 0<n:=by
 have hs:=h.size;have e:p.getD i 0=p[i]'(by omega):=by simp [Array.getD,hs,hi]
 rw [e];exact mem_range.mp (h.mem_iff.mp (Array.getElem_mem_toList (by omega)))
def gE(i:Nat):p.getD i 0=(p[i]?).getD 0:=by
 simp [Array.getD_eq_getD_getElem?]
def Pm.rev(h:Pm n p)(i j:Nat):Pm n (kas_rev p i j):=by
 have:=(mirror_perm p i j ((j - i) / 2))
 exact (Of.mp this).trans h
def Pm.bub(h:Pm n p)(i j:Nat):Pm n (bubble p i j):=(Of.mp (bubble_perm p i j)).trans h
variable {j:Nat}
def Au(hj:j<=p.size)(k:Nat):kk r (kas_rev p i j) k=if i<=k/\k<j then kk r p (i+j - 1 - k) else kk r p k:=by
 unfold kk kas_rev;rw [gE,gE,gE,getElem?_mirror_all hj];split <;> rfl
variable {k:Nat}
def Db{d:Nat}(hs:k<p.size)(hd:d<=k)(i:Nat):kk r (bubble p k d) i=if i=k - d then kk r p k else if k - d<i/\i<=k then kk r p (i - 1) else kk r p i:=by
 unfold kk;rw [gE,gE,gE,gE,getElem?_bubble hs d hd]
 repeat' split
 all_goals rfl
noncomputable def Up(r:Nat->Nat)(p:Array Nat)(k:Nat):Prop:=∀i j,i<=j->j<k->kk r p i<=kk r p j
noncomputable def Dn(r:Nat->Nat)(p:Array Nat)(k:Nat):Prop:=∀i j,i<=j->j<k->kk r p j<=kk r p i
def Up.succ(h:Up r p k)(h1:1<=k)(g:kk r p (k - 1)<=kk r p k):Up r p (k+1):=λi j hij hj=>by
 rcases ML j k with z|z
 .exact h i j hij z
 .have:j=k:=by omega
  subst this
  rcases ML i j with y|y
  .exact s_ (h i (j - 1) (by omega) (by omega)) g
  .have:i=j:=by omega
   rw [this];exact gV _
def Dn.succ(h:Dn r p k)(h1:1<=k)(g:kk r p k<=kk r p (k - 1)):Dn r p (k+1):=λi j hij hj=>by
 rcases ML j k with z|z
 .exact h i j hij z
 .have:j=k:=by omega
  subst this
  rcases ML i j with y|y
  .exact s_ g (h i (j - 1) (by omega) (by omega))
  .have:i=j:=by omega
   rw [this];exact gV _
def Dn.up(h:Dn r p k)(hk:k<=p.size):Up r (kas_rev p 0 k) k:=λi j hij hj=>by
 rw [Au hk,Au hk,if_pos ⟨by omega,by omega⟩,if_pos ⟨by omega,by omega⟩];exact h _ _ (by omega) (by omega)
def rp{a m:Nat}(hm:m<=p.size)(hb:∀k,a<=k->k<m->kk r p k=kk r p (m - 1))(k:Nat):kk r (kas_rev p a m) k=kk r p k:=by
 rw [Au hm]
 split
 .rename_i h;rw [hb k h.1 h.2,hb _ (by omega) (by omega)]
 .rfl
def Dn.same{p':Array Nat}(h:Dn r p k)(e:∀i,kk r p' i=kk r p i):Dn r p' k:=λi j hij hj=>by rw [e,e];exact h i j hij hj
variable {α:Type}{c:Bool}
def qi{T₁ T₂:KasT α}{Q:α->c_->Prop}(h1:c=true->T₁.kasWp cmp Q s)(h2:c=false->T₂.kasWp cmp Q s):(if c=true then T₁ else T₂).kasWp cmp Q s:=by
 cases c with
 | true=>exact h1 rfl
 | false=>exact h2 rfl
theorem Av(A:Ans n r cmp s)(hp:Pm n p){G:Nat->c_->Prop}:∀(f m:Nat),1<=m->m+f<=n->Up r p m ->
  (∀m',m<=m'->m'<=m+f->Up r p m'->(m'=m+f\/(m'<m+f/\kk r p m'<kk r p (m' - 1)))->G m' s)->(kas_asc p f m).kasWp cmp G s
 | 0,m,h1,hf,hu,k=>k m (gV _) (gV _) hu (.inl rfl)
 | f+1,m,h1,hf,hu,k=>by
  show cmp (p.getD m 0) (p.getD (m - 1) 0) (λc s'=>(if c=true then KasT.ret m else kas_asc p f (m+1)).kasWp cmp G s') s
  refine A _ _ _ (hp.lt (by omega)) (hp.lt (by omega)) (qi (λe=>?_) λe=>?_)
  .exact k m (gV _) (by omega) hu (.inr ⟨by omega,of_decide_eq_true e⟩)
  .have e':¬ (kk r p m<kk r p (m - 1)):=of_decide_eq_false e;exact Av A hp f (m+1) (by omega) (by omega) (hu.succ h1 (by omega)) λm' a b c d=>k m' (by omega) (by omega) c (by omega)
noncomputable def Blk(r:Nat->Nat)(p:Array Nat)(m q:Nat):Prop:=q+1<=m/\∀k,m - (q+1)<=k->k<m->kk r p k=kk r p (m - 1)
theorem rq(A:Ans n r cmp s){G:Array Nat×Nat×Nat->c_->Prop}:∀(f:Nat) (p:Array Nat) (m q:Nat),Pm n p->m+f<=n->Dn r p m->Blk r p m q ->
  (∀p' m' q',Pm n p'->m<=m'->m'<=n->Dn r p' m'->Blk r p' m' q'->G (p',m',q') s)->(kas_desc f p m q).kasWp cmp G s
 | 0,p,m,q,hp,hf,hd,hb,k=>k p m q hp (gV _) (by omega) hd hb
 | f+1,p,m,q,hp,hf,hd,hb,k=>by
  have hb1:=hb.1;have hs:=hp.size
  show cmp (p.getD m 0) (p.getD (m - 1) 0) (λc s'=>(if c=true then (if q > 0 then kas_desc f (kas_rev p (m - (q+1)) m) (m+1) 0 else kas_desc f p (m+1) 0)
   else .ask (p.getD (m - 1) 0) (p.getD m 0) λd=>if d=true then .ret (p,m,q) else kas_desc f p (m+1) (q+1)).kasWp cmp G s') s
  refine A _ _ _ (hp.lt (by omega)) (hp.lt (by omega)) (qi (λe=>?_) λe=>?_)
  .have e':kk r p m<kk r p (m - 1):=of_decide_eq_true e;have B:∀p':Array Nat,Blk r p' (m+1) 0:=λp'=>⟨by omega,λk h1 h2=>by rw [show k=m+1 - 1 by omega]⟩
   split
   .have same:=rp (r:=r) (p:=p) (a:=m - (q+1)) (m:=m) (by omega) hb.2;refine rq A f _ (m+1) 0 (hp.rev _ _) (by omega) ((hd.same same).succ (by omega) (by rw [same,same];omega)) (B _) λp' m' q' a b c d e=>k p' m' q' a (by omega) c d e
   .exact rq A f p (m+1) 0 hp (by omega) (hd.succ (by omega) (by omega)) (B _) λp' m' q' a b c d e=>k p' m' q' a (by omega) c d e
  .have e':¬ (kk r p m<kk r p (m - 1)):=of_decide_eq_false e;show cmp (p.getD (m - 1) 0) (p.getD m 0) (λd s'=>(if d=true then KasT.ret (p,m,q) else kas_desc f p (m+1) (q+1)).kasWp cmp G s') s
   refine A _ _ _ (hp.lt (by omega)) (hp.lt (by omega)) (qi (λg=>?_) λg=>?_)
   .exact k p m q hp (gV _) (by omega) hd hb
   .have g':¬ (kk r p (m - 1)<kk r p m):=of_decide_eq_false g;refine rq A f p (m+1) (q+1) hp (by omega) (hd.succ (by omega) (by omega)) ⟨by omega,λk h1 h2=>?_⟩ λp' m' q' a b c d e=>k p' m' q' a (by omega) c d e
    rcases ML k m with z|z
    .rw [hb.2 k (by omega) z,add_sub_cancel];omega
    .rw [show k=m+1 - 1 by omega]
def Aw(A:Ans n r cmp s){G:Nat×Array Nat->c_->Prop}{m:Nat}(h1:1<=m)(hm:m<=n)(hp:Pm n p)(hd:Dn r p m)(k:∀m' p',1<=m'->m'<=n->Pm n p'->Up r p' m'->G (m',p') s):(kas_tail3 m n p).kasWp cmp G s:=by
 unfold kas_tail3;rw [Nq];exact Av A (hp.rev 0 m) (n - m) m h1 (by omega) (hd.up (by rw [hp.size];exact hm)) λm' a b c _=>k m' _ (by omega) (by omega) (hp.rev 0 m) c
def nL(A:Ans n r cmp s){G:Nat×Array Nat->c_->Prop}{m:Nat}(hm:m<n)(hp:Pm n p)(hd:Dn r p (m+1))(k:∀m' p',1<=m'->m'<=n->Pm n p'->Up r p' m'->G (m',p') s):(kas_descPart m n p).kasWp cmp G s:=by
 unfold kas_descPart;rw [Nq];refine rq A (n - (m+1)) p (m+1) 0 hp (by omega) hd ⟨by omega,λk h1 h2=>by rw [show k=m+1 - 1 by omega]⟩ λp' m' q' a b c d e=>?_
 try dsimp only
 split
 .have same:=rp (r:=r) (p:=p') (a:=m' - (q'+1)) (m:=m') (by rw [a.size];exact c) e.2;exact Aw A (by omega) c (a.rev _ _) (d.same same) k
 .exact Aw A (by omega) c a d k
def Cc(A:Ans n r cmp s){G:Nat×Array Nat->c_->Prop}(hn:1<=n)(hp:Pm n p)(k:∀m' p',1<=m'->m'<=n->Pm n p'->Up r p' m'->G (m',p') s):(kas_count n p).kasWp cmp G s:=by
 unfold kas_count;rw [Nq];refine Av A hp (n - 1) 1 (gV _) (by omega) (λi j _ hj=>by rw [show i=0 by omega,show j=0 by omega];exact gV _) λm a b c d=>?_
 try dsimp only
 refine qi (λ_=>k m p a (by omega) hp c) λe=>?_
 have hm:m<n:=by
  have:m≠n:=λz=>by rw [z] at e;simp at e
  omega
 have dd:kk r p m<kk r p (m - 1):=by rcases d with d|d <;> omega
 split
 .rename_i g;show cmp (p.getD 0 0) (p.getD (m - 1) 0) (λc s'=>(if c=true then KasT.ret (m,p) else kas_descPart m n (kas_rev p 0 m)).kasWp cmp G s') s;refine A _ _ _ (hp.lt (by omega)) (hp.lt (by omega)) (qi (λ_=>k m p a (by omega) hp c) λe2=>?_);have e2':¬ (kk r p 0<kk r p (m - 1)):=of_decide_eq_false e2;have hs:=hp.size
  have all:∀i,0<=i->i<m->kk r p i=kk r p (m - 1):=λi _ hi=>by
   have h1:=c 0 i (by omega) hi;have h2:=c i (m - 1) (by omega) (by omega);omega
  have same:=rp (r:=r) (p:=p) (a:=0) (m:=m) (by omega) all;refine nL A hm (hp.rev _ _) (Dn.succ (λi j hij hj=>?_) a (by rw [same,same];omega)) k;rw [same,same,all i (by omega) (by omega),all j (by omega) (by omega)];exact gV _
 .refine nL A hm hp (Dn.succ (λi j _ hj=>?_) a (by omega)) k;rw [show i=0 by omega,show j=0 by omega];exact gV _
theorem rz(A:Ans n r cmp s){G:Nat->c_->Prop}(hk:k<n)(hp:Pm n p)(hu:Up r p k)(g:∀l,l<=k->(∀i,i<l->kk r p i<=kk r p k)->(∀i,l<=i->i<k->kk r p k<kk r p i)->G l s):∀(f l h:Nat),h - l<=f->l<=h->h<=k->(∀i,i<l->kk r p i<=kk r p k)->(∀i,h<=i->i<k->kk r p k<kk r p i)->(kas_place p k f l h).kasWp cmp G s
 | 0,l,h,hf,hl,hh,a,b=>g l (by omega) a λi h1 h2=>b i (by omega) h2
 | f+1,l,h,hf,hl,hh,a,b=>by
  unfold kas_place
  split
  .exact g l (by omega) a λi h1 h2=>b i (by omega) h2
  .show cmp (p.getD k 0) (p.getD ((l+h) / 2) 0) (λc s'=>(if c=true then kas_place p k f l ((l+h) / 2) else kas_place p k f ((l+h) / 2+1) h).kasWp cmp G s') s
   refine A _ _ _ (hp.lt (by omega)) (hp.lt (by omega)) (qi (λe=>?_) λe=>?_)
   .have e':kk r p k<kk r p ((l+h) / 2):=of_decide_eq_true e;refine rz A hk hp hu g f l _ (by omega) (by omega) (by omega) a λi h1 h2=>?_;have:=hu _ i h1 h2;omega
   .have e':¬ (kk r p k<kk r p ((l+h) / 2)):=of_decide_eq_false e;refine rz A hk hp hu g f _ h (by omega) (by omega) hh (λi h1=>?_) b;have:=hu i ((l+h) / 2) (by omega) (by omega);omega
theorem Dc(A:Ans n r cmp s){G:Array Nat->c_->Prop}(g:∀p,Pm n p->Up r p n->G p s):∀(f:Nat) (p:Array Nat) (k:Nat),Pm n p->k+f=n->Up r p k->(kas_bin f p k).kasWp cmp G s
 | 0,p,k,hp,hf,hu=>g p hp (by rw [show n=k by omega];exact hu)
 | f+1,p,k,hp,hf,hu=>by
  show ((kas_place p k k 0 k).bind λl=>kas_bin f (bubble p k (k - l)) (k+1)).kasWp cmp G s;rw [Nq];refine rz A (by omega) hp hu (λl hl a b=>?_) k 0 k (by omega) (by omega) (gV _) (λi h=>by omega) λi h1 h2=>by omega
  refine Dc A g f _ (k+1) (hp.bub _ _) (by omega) λi j hij hj=>?_;have hs:=hp.size;rw [Db (by omega) (by omega),Db (by omega) (by omega),show k - (k - l)=l by omega]
  split
  .rename_i h1
   split
   .exact gV _
   .split
    .exact le_of_lt (b _ (by omega) (by omega))
    .omega
  .rename_i h1
   split
   .rename_i h2;rw [if_neg (by omega)];rw [if_pos ⟨by omega,by omega⟩];exact hu _ _ (by omega) (by omega)
   .rename_i h2
    split
    .exact a i (by omega)
    .split
     .exact hu _ _ (by omega) (by omega)
     .exact hu _ _ (by omega) (by omega)
def EW(A:Ans n r cmp s)(hn:1<=n){G:Array Nat->c_->Prop}(g:∀p,Pm n p->Up r p n->G p s):(kas_sort n).kasWp cmp G s:=by
 unfold kas_sort;rw [Nq];refine Cc A hn (show Pm n (List.toArray (e_ n)) from O5 _) λm p h1 h2 hp hu=>?_
 try dsimp only
 split
 .rw [show max m 1=m by omega];exact Dc A g (n - m) p m hp (by omega) hu
 .exact g p hp (by rw [show n=m by omega];exact hu)
end L2
namespace L2
open PySem PySem.Spec PyProof.Rows
noncomputable def lxB:List Int->List Int->Bool
 | [],[]=>false
 | [],_::_=>true
 | _::_,[]=>false
 | x::xs,y::ys=>if x=y then lxB xs ys else decide (x<y)
def tP{x y:Int}{xs ys:List Int}:lxB (x::xs) (y::ys)=true ↔ x<y\/(x=y/\lxB xs ys=true):=by
 show (if x=y then lxB xs ys else decide (x<y))=true ↔ _
 split
 .rename_i h;subst h;simp
 .rename_i h;simp [h]
theorem Dd:∀xs:List Int,lxB xs xs=false
 | []=>rfl
 | x::xs=>by show (if x=x then lxB xs xs else _)=false;rw [if_pos rfl];exact Dd xs
theorem HQ:∀{xs ys zs:List Int},lxB xs ys=true->lxB ys zs=true->lxB xs zs=true
 | [],[],_,h,_=>by cases h
 | [],_::_,[],_,h=>by cases h
 | [],_::_,_::_,_,_=>rfl
 | _::_,[],_,h,_=>by cases h
 | _::_,_::_,[],_,h=>by cases h
 | x::xs,y::ys,z::zs,h1,h2=>by
  rw [tP] at h1 h2 ⊢
  rcases h1 with a|⟨rfl,a⟩
  .rcases h2 with b|⟨rfl,b⟩
   .left;omega
   .left;exact a
  .rcases h2 with b|⟨rfl,b⟩
   .left;exact b
   .right;exact⟨rfl,HQ a b⟩
theorem De:∀{xs ys:List Int},lxB xs ys=false->lxB ys xs=false->xs=ys
 | [],[],_,_=>rfl
 | [],_::_,h,_=>by cases h
 | _::_,[],_,h=>by cases h
 | x::xs,y::ys,h1,h2=>by
  have a:¬ (x<y\/(x=y/\lxB xs ys=true)):=λz=>by rw [tP.mpr z] at h1;cases h1
  have b:¬ (y<x\/(y=x/\lxB ys xs=true)):=λz=>by rw [tP.mpr z] at h2;cases h2
  have e:x=y:=by omega
  subst e
  have a':lxB xs ys=false:=by
   cases g:lxB xs ys with
   | false=>rfl
   | true=>exact absurd (.inr ⟨rfl,g⟩) a
  have b':lxB ys xs=false:=by
   cases g:lxB ys xs with
   | false=>rfl
   | true=>exact absurd (.inr ⟨rfl,g⟩) b
  rw [De a' b']
variable {α:Type}
theorem Df{p q:α->Bool}:∀{l:List α},(∀x∈l,p x=true->q x=true)->l.countP p<=l.countP q
 | [],_=>gV _
 | a::l,h=>by
  have ih:=Df (l:=l) λx hx=>h x (m_ _ hx);rw [O6,O6];have:=h a (mem_cons_self ..)
  cases e:p a with
  | false=>simp only [false_eq_true,if_false];omega
  | true=>rw [this e];simp only [if_true];omega
theorem Dg{p q:α->Bool}{y:α}(hp:p y=false)(hq:q y=true):∀{l:List α},y∈l->(∀x∈l,p x=true->q x=true)->l.countP p<l.countP q
 | [],hy,_=>by cases hy
 | a::l,hy,h=>by
  have h':∀x∈l,p x=true->q x=true:=λx hx=>h x (m_ _ hx);rw [O6,O6]
  rcases A_.mp hy with rfl|z
  .have:=Df h';rw [hp,hq];simp only [false_eq_true,if_false,if_true];omega
  .have ih:=Dg hp hq z h';have:=h a (mem_cons_self ..)
   cases e:p a with
   | false=>simp only [false_eq_true,if_false];omega
   | true=>rw [this e];simp only [if_true];omega
noncomputable def rkL(rows:List (List Int))(i:Nat):Nat:=rows.countP λr=>lxB r (rows.getD i [])
variable {i j:Nat}
def xp{rows:List (List Int)}(hi:i<rows.length)(hj:j<rows.length):lxB (rows.getD i []) (rows.getD j [])=decide (rkL rows i<rkL rows j):=by
 have mem:∀{i},i<rows.length->rows.getD i []∈rows:=λ{i} h=>by
  rw [cy,cx h];exact Ml h
 have one:∀{i j},i<rows.length->lxB (rows.getD i []) (rows.getD j [])=true->rkL rows i<rkL rows j:=λ{i j} hi e =>
  Dg (p:=λr=>lxB r (rows.getD i [])) (q:=λr=>lxB r (rows.getD j [])) (y:=rows.getD i []) (Dd _) e (mem hi) λx _ hx=>HQ (ys:=rows.getD i []) hx e
 cases e:lxB (rows.getD i []) (rows.getD j []) with
 | true=>rw [decide_eq_true (one hi e)]
 | false =>
  symm;refine decide_eq_false ?_
  cases g:lxB (rows.getD j []) (rows.getD i []) with
  | true=>have:=one hj g;omega
  | false =>
   have z:=De e g;unfold rkL;rw [z];exact K_ _
noncomputable def EX(h:Heap)(a:Addr)(r:List Int):Prop:=r≠[]/\∃o xs n,h.get? a=some o/\o.cls=.type "tuple"/\o.data=.seq xs n/\Mt xs.toList r
variable {ns:List Int}
def nM{vs:List Value}(h:Mt vs ns):vs.length=ns.length:=by
 induction h with
 | nil=>rfl
 | cons n t _ ih=>rw [length_cons,length_cons,ih]
variable {prog:t_}{w:World}{A:C0}{s:c_}
theorem Dh{b:Bool}{Q:Bool->c_->Prop}:∀{us vs:List Value}{xs ys:List Int}{i:Nat}{fin:Bool},Mt us xs->Mt vs ys->fin=decide (xs.length<ys.length)->Q (lxB xs ys) s->PySem.W.KatLex prog w A b fin Q (us.zip vs) i s
 | _,_,_,_,i,fin,.nil,.nil,hf,h=>by subst hf;exact h
 | _,_,_,_,i,fin,.nil,.cons n t _,hf,h=>by
  subst hf;show Q (decide (0<_+1)) s;rw [decide_eq_true (succ_pos _)];exact h
 | _,_,_,_,i,fin,.cons n t _,.nil,hf,h=>by
  subst hf;show Q (decide (_+1<0)) s;rw [decide_eq_false (Ny _)];exact h
 | _,_,n::xs,m::ys,i,fin,.cons _ t a,.cons _ u c,hf,h=>by
  rw [zip_cons_cons];refine PySem.W.kat_cons (wpAny_eqBool_int ?_)
  refine PySem.W.kat_go (λe=>PySem.W.kat_yes ?_) λe=>PySem.W.kat_no ?_
  .have e':n=m:=by simpa using e
   refine Dh a c ?_ ?_
   .rw [hf,length_cons,length_cons];exact decide_eq_decide.mpr (by omega)
   .have:lxB (n::xs) (m::ys)=lxB xs ys:=if_pos e';rw [this] at h;exact h
  .have e':¬ n=m:=by simpa using e
   have:lxB (n::xs) (m::ys)=decide (n<m):=if_neg e';rw [this] at h
   cases g:(b && i == 0) with
   | true=>exact oneLt_int h
   | false=>exact PySem.W.kat_one _ _ (lt_int h)
def HR{x y:Addr}{r q:List Int}{vs:List Value}{b:Bool}{C:Bool->c_->Prop}(hx:vs.getD i L6=.ref x)(hy:vs.getD j L6=.ref y)(tx:EX s.heap x r)(ty:EX s.heap y q)(h:C (lxB r q) s):
  PySem.W.kas_ask prog w A (tuples' b) vs i j C s:=by
 obtain⟨_,o,xs,n,e1,_,d1,i1⟩:=tx;obtain⟨_,o2,ys,n2,e2,_,d2,i2⟩:=ty;unfold PySem.W.kas_ask;rw [hx,hy];refine PySem.W.kat_lt e1 d1 e2 d2 (Dh i1 i2 ?_ h);rw [<- nM i1,<- nM i2,y_,y_]
variable {h:Heap}
theorem Ax:∀{prs:List (Addr×List Int)},(∀pr∈prs,EX h pr.1 pr.2)->∃fs:List Value,fs.length=prs.length/\(∀v∈fs,∃i t,v=NL i t)/\PySem.W.KatTups h (prs.map λpr=>l_ pr.1) fs
 | [],_=>⟨[],rfl,nofun,trivial⟩
 | pr::prs,hh=>by
  obtain⟨fs,hl,hi,ht⟩:=Ax (prs:=prs) λq hq=>hh q (m_ _ hq);obtain⟨ne,o,xs,n,e,c,d,ia⟩:=hh pr (mem_cons_self ..);obtain⟨a,l⟩:=pr;dsimp only at ne e ia;obtain⟨xl⟩:=xs;have ia:Mt xl l:=ia
  match xl,l,ia,ne,d with
  | _,_,.nil,ne,_=>exact absurd rfl ne
  | .int i t::vs,_,.cons _ _ r,_,d =>
   refine⟨.int i t::fs,by rw [length_cons,length_cons,hl],λv hv=>?_,PySem.W.KatTups.cons e c d (by simp) ht⟩
   rcases A_.mp hv with rfl|hv
   .exact⟨i,t,rfl⟩
   .exact hi v hv
variable {E:Value->c_->Prop}{n:Nat}
def rA{a:Addr}{prs:List (Addr×List Int)}{P:Fin->c_->Prop}(ho:s.heap.get? a=some (seqObj "list" (prs.map λpr=>l_ pr.1).toArray n))(ht:∀pr∈prs,EX s.heap pr.1 pr.2)(h64:prs.length<64)(h:∀prs':List (Addr×List Int),prs'.Perm prs->prs'.Pairwise (λx y=>lxB y.2 x.2=false)->P (.done (.ret .none)) { s with heap:=sortedHeap s.heap a (prs.map λpr=>l_ pr.1) (prs'.map λpr=>l_ pr.1).toArray }):
  wpAny (model prog w) A (NZ.«list.sort» ⟨[.ref a],[]⟩) P E s:=by
 rw [list_sort_plain];have ha:a<s.heap.objs.size:=n_ ho;generalize hvs:(prs.map λpr=>l_ pr.1)=vs at ho h;have hlen:vs.length=prs.length:=by rw [<- hvs,length_map]
 refine cn (listItems_at ho rfl ?_);refine cn (Ov ho rfl ?_ (by rw [size_toArray,Md];omega) (LY _));obtain⟨e1,ho1⟩:∃e1,(s.heap.update a (Lw λ_=>#[])).get? a=some (seqObj "list" #[] e1):=⟨_,get?_update_seq ho (λ_=>#[])⟩
 refine cn (seqEpoch_at ho1 rfl ?_);refine cn (wpAny_newTuple ?_ (by show vs.length<=_;rw [Md];omega));refine cn (Ou ?_ (LY _));refine I_ ?_
 have keep:∀b o,b≠a->s.heap.get? b=some o->(((s.heap.update a (Lw λ_=>#[])).push (seqObj "tuple" vs.toArray 0)).push (seqObj "list" #[] 0)).get? b=some o:=λb o hb q=>by
  have hlt:b<s.heap.objs.size:=n_ q;rw [MM _ _ _ (by rw [size_push',MZ];exact H_ (M6 hlt)),MM _ _ _ (by rw [MZ];exact H_ hlt),Heap.get?_update_ne _ _ _ _ hb];exact q
 have ht':∀pr∈prs,EX (((s.heap.update a (Lw λ_=>#[])).push (seqObj "tuple" vs.toArray 0)).push (seqObj "list" #[] 0)) pr.1 pr.2:=λpr hpr=>by
  obtain⟨ne,o,xs,m,e,c,d,ia⟩:=ht pr hpr;refine⟨ne,o,xs,m,keep _ _ (λz=>?_) e,c,d,ia⟩;rw [z,ho] at e;rw [<- q_ e] at c;exact absurd (show Mz "list"=Mz "tuple" from c) (by decide)
 have ho6:(((s.heap.update a (Lw λ_=>#[])).push (seqObj "tuple" vs.toArray 0)).push (seqObj "list" #[] 0)).get? a=some (seqObj "list" #[] e1):=by
  rw [MM _ _ _ (by rw [size_push',MZ];exact H_ (M6 ha)),MM _ _ _ (by rw [MZ];exact H_ ha)];exact ho1
 show wpAny (model prog w) A _ P E { s with heap:=((s.heap.update a (Lw λ_=>#[])).push (seqObj "tuple" vs.toArray 0)).push (seqObj "list" #[] 0) };dsimp only;have hsz:vs.toArray.size=vs.length:=by simp
 by_cases h2:vs.toArray.size<2
 .rw [if_pos h2,if_pos h2];refine cn (f_ ?_);rw [StateT.run_pure];refine cn (f_ ?_);dsimp only;refine cn (seqEpoch_at ho6 rfl ?_);refine cn (Ov ho6 rfl ?_ (LY _) (by rw [Array.size_map];show (pairsOf vs).size<=_;rw [pairsOf_size,Md];omega));simp only [bne_self_eq_false,false_eq_true,if_false];refine f_ ?_
  have q:=h prs (O5 _) (by
   match prs,hlen with
   | [],_=>exact .nil
   | [x],_=>exact .cons (λ_ z=>by cases z) .nil
   | _::_::_,hl=>rw [hsz] at h2;rw [hl] at h2;simp only [length_cons] at h2;omega)
  rw [hvs] at q
  have e:(arrOf (SortSt.mk' general' (vs.toArray.zip vs.toArray) #[] 7 none)).map (·.2)=vs.toArray:=by
   show (vs.toArray.zip vs.toArray).map (·.2)=vs.toArray;apply Array.toList_inj.mp;rw [Array.toList_map,Array.toList_zip];exact map_snd_zip (gV _)
  rw [<- e] at q;exact q
 .rw [if_neg h2,if_neg h2];obtain⟨fs,fl,fi,ft⟩:=Ax ht';rw [hvs] at ft
  refine cn (PySem.W.kat_kind (T:=.type "int") ft (by omega) (λv hv=>?_) rfl ?_)
  .obtain⟨i,t,rfl⟩:=fi v hv;exact PySem.W.Looks.of_pure rfl
  refine cn (Ly (PySem.W.kat_run (ks:=vs) (vs:=vs) (Q:=λst' s'=>∃p:Array Nat,Pm vs.length p/\Up (rkL (prs.map (·.2))) p vs.length/\arrOf st'=p.map (PySem.W.kas_item (vs.toArray.zip vs.toArray))/\failedOf st'=none/\s'={ s with heap:=((s.heap.update a (Lw λ_=>#[])).push (seqObj "tuple" vs.toArray 0)).push (seqObj "list" #[] 0) })
   (G:=λp s'=>Pm vs.length p/\Up (rkL (prs.map (·.2))) p vs.length/\s'={ s with heap:=((s.heap.update a (Lw λ_=>#[])).push (seqObj "tuple" vs.toArray 0)).push (seqObj "list" #[] 0) })
   rfl (by omega) (by omega) (λp' st' s' a1 a2 a3 a4=>⟨p',a4.1,a4.2.1,a2,a3,a4.2.2⟩) (EW (r:=rkL (prs.map (·.2))) (λi j C hi hj hC=>?_) (by omega) λp hp hu=>⟨hp,hu,rfl⟩)) ?_ λ_ _ e=>e)
  .rw [hlen] at hi hj
   have gx:∀{i},i<prs.length->vs.getD i L6=.ref (prs.getD i (0,[])).1/\EX (((s.heap.update a (Lw λ_=>#[])).push (seqObj "tuple" vs.toArray 0)).push (seqObj "list" #[] 0)) (prs.getD i (0,[])).1 ((prs.map (·.2)).getD i []):=λ{i} hi=>by
    have e:prs.getD i (0,[])=prs[i]:=by rw [cy,cx hi];rfl
    refine⟨?_,?_⟩
    .rw [e,<- hvs,cy,h_,cx hi];rfl
    .have:=ht' prs[i] (Ml hi);rw [e,cy,h_,cx hi];exact this
   obtain⟨x1,x2⟩:=gx hi;obtain⟨y1,y2⟩:=gx hj;refine HR x1 y1 x2 y2 ?_;rw [xp (by rw [length_map];exact hi) (by rw [length_map];exact hj)];exact hC
  .rintro⟨⟨⟩,st'⟩ s' ⟨p,hp,hu,har,hf,rfl⟩;dsimp only;have hout:=PySem.W.kat_snds (ks:=vs) (vs:=vs) rfl har;rw [hout];refine cn (seqEpoch_at ho6 rfl ?_);refine cn (Ov ho6 rfl ?_ (LY _) (by rw [size_toArray,length_map,y_,hp.size,Md];omega));rw [hf];simp only [bne_self_eq_false,false_eq_true,if_false];refine f_ ?_;have hlt:∀i∈p.toList,i<prs.length:=λi hi=>by rw [<- hlen];exact mem_range.mp (hp.mem_iff.mp hi)
   have eall:(e_ prs.length).map (λi=>prs.getD i (0,[]))=prs:=by
    apply NG;intro i;rw [h_]
    rcases ML i prs.length with z|z
    .rw [LQ z,cx z];show some (prs.getD i (0,[]))=_;rw [cy,cx z];rfl
    .rw [v_ (by rw [tj];exact z),v_ z];rfl
   have q:=h (p.toList.map λi=>prs.getD i (0,[])) (by
    have:=List.Perm.map (λi=>prs.getD i (0,[])) (show p.toList.Perm (e_ prs.length) from hlen ▸ hp);rw [eall] at this;exact this) (by
    rw [NI,pairwise_iff_getElem];intro i j hi hj hij;rw [y_] at hi hj;have hs:=hp.size;have hh:=hu i j (le_of_lt hij) (by omega);have k1:kk (rkL (prs.map (·.2))) p i=rkL (prs.map (·.2)) p.toList[i]:=by unfold kk;simp [Array.getD,hi]
    have k2:kk (rkL (prs.map (·.2))) p j=rkL (prs.map (·.2)) p.toList[j]:=by unfold kk;simp [Array.getD,hj]
    rw [k1,k2] at hh;have li:=hlt p.toList[i] (Ml _);have lj:=hlt p.toList[j] (Ml _)
    have g:∀{k},k<prs.length->(prs.getD k (0,[])).2=(prs.map (·.2)).getD k []:=λ{k} hk=>by
     rw [cy,cy,h_,cx hk];rfl
    rw [g li,g lj,xp (by rw [length_map];exact lj) (by rw [length_map];exact li)];exact decide_eq_false (by omega))
   have e:((p.toList.map λi=>prs.getD i (0,[])).map λpr=>l_ pr.1)=p.toList.map λi=>vs.getD i L6:=by
    rw [map_map];refine LW λi hi=>?_;have:=hlt i hi;rw [<- hvs];show l_ (prs.getD i (0,[])).1=_;rw [cy,cy,h_,cx this];rfl
   rw [e] at q;exact q
variable {Q:Value->c_->Prop}
def vc{l:Addr}{prs:List (Addr×List Int)}(hl:s.heap.IsList l (prs.map λpr=>l_ pr.1).toArray)(ht:∀pr∈prs,EX s.heap pr.1 pr.2)(h64:prs.length<64)(h:∀prs':List (Addr×List Int),prs'.Perm prs->prs'.Pairwise (λx y=>lxB y.2 x.2=false)->Q (.ref (s.heap.objs.size+1)) { s with heap:=sortedAll s.heap (prs.map λpr=>l_ pr.1) (prs'.map λpr=>l_ pr.1).toArray }):
  wpAny (model prog w) A (call (.builtin "sorted") [.ref l]) Q E s:=by
 refine Calls.call_function_entry kind_sorted plain_sorted entry_sorted (args_sorted1 _) ?_;unfold NZ.«sorted»;have hlen:(prs.map λpr=>l_ pr.1).length=prs.length:=length_map _;refine cn (m:=checkCount "sorted" 1 1 _) (f_ ?_);refine cn (collect_list hl ?_ (by rw [Md];omega));refine cn (Ou ?_ (by rw [Md];omega))
 have hsz:((s.heap.push (seqObj "list" #[] 0)).update s.heap.objs.size (Lw (·++(prs.map λpr=>l_ pr.1).toArray))).objs.size=s.heap.objs.size+1:=by
  rw [MZ,size_push']
 have hoL:(((s.heap.push (seqObj "list" #[] 0)).update s.heap.objs.size (Lw (·++(prs.map λpr=>l_ pr.1).toArray))).push (seqObj "list" (prs.map λpr=>l_ pr.1).toArray 0)).get? (s.heap.objs.size+1)=some (seqObj "list" (prs.map λpr=>l_ pr.1).toArray 0):=by
  rw [<- hsz];exact g_ _ rfl
 have keep:∀b o,s.heap.get? b=some o->(((s.heap.push (seqObj "list" #[] 0)).update s.heap.objs.size (Lw (·++(prs.map λpr=>l_ pr.1).toArray))).push (seqObj "list" (prs.map λpr=>l_ pr.1).toArray 0)).get? b=some o:=λb o q=>by
  have hlt:b<s.heap.objs.size:=n_ q;rw [MM _ _ _ (by rw [hsz];exact H_ (M6 hlt)),Heap.get?_update_ne _ _ _ _ (H_ hlt),MM _ _ _ (H_ hlt)];exact q
 show wpAny _ _ _ _ _ { s with heap:=((s.heap.push (seqObj "list" #[] 0)).update s.heap.objs.size (Lw (·++(prs.map λpr=>l_ pr.1).toArray))).push (seqObj "list" (prs.map λpr=>l_ pr.1).toArray 0) };rw [hsz]
 refine cn (I_ (L3 slot_list_sort ⟨_,hoL,rfl⟩ entry_list_sort (rA hoL (λpr hpr=>?_) h64 λprs' a1 a2=>⟨_,rfl,?_⟩) (args_list_sort _)))
 .obtain⟨ne,o,xs,m,e,c⟩:=ht pr hpr;exact⟨ne,o,xs,m,keep _ _ e,c⟩
 .exact f_ ⟨_,rfl,h prs' a1 a2⟩
abbrev tQ(r:List Int):D:=.tup (r.map .int)
variable {K:b_}
noncomputable def Ay(K:b_):List V->Hp->VK->Prop:=λxs H Q=>∃(p:Addr) (prs:List (Addr×List Int)),xs=[.ref p]/\SqL K H p (prs.map λpr=>V.ref pr.1)/\(∀pr∈prs,SqT K H pr.1 (pr.2.map V.int)/\pr.2≠[])/\prs.length<64 /\
 ∀prs':List (Addr×List Int),prs'.Perm prs->prs'.Pairwise (λx y=>lxB y.2 x.2=false)->∀q,H q=none->Q (.ref q) (upd H q (.lst (prs'.map λpr=>V.ref pr.1)))
theorem Az:∀{prs:List (Addr×List Int)}{us:List Value},bK (prs.map λpr=>V.ref pr.1) us->us=prs.map λpr=>l_ pr.1
 | [],_,.nil=>rfl
 | pr::prs,_,.cons r t=>by
  rw [map_cons,Az t,show _=l_ pr.1 from r]
theorem tR:∀prs:List (Addr×List Int),bK (prs.map λpr=>V.ref pr.1) (prs.map λpr=>l_ pr.1)
 | []=>.nil
 | pr::prs=>.cons (show c9 (V.ref pr.1) (l_ pr.1) from rfl) (tR prs)
variable {X:Cx}
def EY(K:b_)(e:X.K=K):bJ X (.builtin "sorted") (Ay K):=by
 subst e;intro pins s σ H xs us Q I r h;obtain⟨p,prs,rfl,hS,ht,h64,q⟩:=h;obtain⟨u,rfl,ru⟩:=fJ r;cases (show u=l_ p from ru);obtain⟨its,rv,pl,hz⟩:=I.list hS;have hv:=Az rv;subst hv
 refine vc pl.isList (λpr hpr=>?_) h64 λprs' hp hs=>?_
 .obtain⟨sq,ne⟩:=ht pr hpr;obtain⟨its,rv,⟨o,e,c,n,d⟩,_⟩:=I.tuple sq;exact⟨ne,o,_,n,e,c,d,cZ rv⟩
 .obtain⟨e,he⟩:=sortedAll_at s.heap (prs.map λpr=>l_ pr.1) (prs'.map λpr=>l_ pr.1).toArray;have hle:s.heap.objs.size<=s.heap.objs.size+1:=le_succ _;refine⟨.ref (s.heap.objs.size+1),_,I.laid (a:=s.heap.objs.size+1) (o:=.lst (prs'.map λpr=>V.ref pr.1)) (t':=s.toks) (λb o z=>sortedAll_old z) hle ?_,rfl,q prs' hp hs _ (I.hok.fresh hle)⟩;refine⟨?_,_,e,tR prs',he⟩;rw [length_map,hp.length_eq]
  exact sz _ (by omega)
noncomputable def Di:FN
 | [.lst ds],Q=>∃rows:List (List Int),ds=rows.map tQ/\(rows.length<64/\∀r∈rows,r≠[])/\∀rows':List (List Int),rows'.Perm rows->rows'.Pairwise (λa b=>lxB b a=false)->Q (.own (rows'.map tQ))
 | _,_=>False
variable {O:Addr->Prop}{H:Hp}
theorem rB:∀{rows:List (List Int)}{ys:List V},FVs K O H ys (rows.map tQ)->∃prs:List (Addr×List Int),ys=prs.map (λpr=>V.ref pr.1)/\prs.map (·.2)=rows/\∀pr∈prs,¬ O pr.1/\H pr.1=some (.tup (pr.2.map V.int))
 | [],_,.nil=>⟨[],rfl,rfl,nofun⟩
 | r::rows,_,.cons a b=>by
  obtain⟨prs,h1,h2,h3⟩:=rB (rows:=rows) b
  cases a with
  | tup n e f =>
   rw [f.ints] at e;refine⟨(_,r)::prs,by rw [h1];rfl,by rw [<- h2];rfl,λpr hp=>?_⟩
   rcases A_.mp hp with rfl|hp
   .exact⟨n,e⟩
   .exact h3 pr hp
theorem xq:∀{prs:List (Addr×List Int)},(∀pr∈prs,¬ O pr.1/\H pr.1=some (.tup (pr.2.map V.int)))->FVs K O H (prs.map λpr=>V.ref pr.1) ((prs.map (·.2)).map tQ)
 | [],_=>.nil
 | pr::prs,h=>.cons (.tup (h pr (mem_cons_self ..)).1 (h pr (mem_cons_self ..)).2 (FVs.of_ints _)) (xq λq hq=>h q (m_ _ hq))
def Cd:LC K (Ay K) Di:=by
 intro O H xs as Q Q' dom fs q k;unfold Di at q
 split at q
 .obtain⟨rows,rfl,h0,q⟩:=q
  cases fs with
  | cons a b =>
   cases b;obtain⟨p,ys,rfl,e1,f1⟩:=a.lst;obtain⟨prs,rfl,rfl,h3⟩:=rB f1;rw [length_map] at h0;refine⟨p,prs,rfl,SqL.of e1,λpr hp=>⟨SqT.of (h3 pr hp).2,h0.2 _ (Ma hp)⟩,h0.1,λprs' h1 h2 p' hp'=>k _ _ _ (q (prs'.map (·.2)) (h1.map _) (by rw [NI];exact h2)) (Gr.new hp') (dF hp' (xq λpr hp=>h3 pr (h1.mem_iff.mp hp)))⟩
 .exact q.elim
def vd{P:List α->Prop}(h0:P [])(h1:∀l a,P l->P (l++[a]))(l:List α):P l:=by
 have go:∀r:List α,P r.reverse:=λr=>by
  induction r with
  | nil=>exact h0
  | cons a r ih=>rw [N1];exact h1 _ _ ih
 have:=go l.reverse
 rwa [reverse_reverse] at this
noncomputable def glT(ws:List (List Nat)):Nat->List Nat->List Nat
 | _,[]=>[]
 | i,j::r=>(pw ws j).drop (dB (pw ws i) (pw ws j))++glT ws j r
noncomputable def glN(ws:List (List Nat)):List Nat->List Nat
 | []=>[]
 | j::r=>pw ws j++glT ws j r
noncomputable def EZ(ws:List (List Nat)):Nat->List Nat->Nat
 | _,[]=>0
 | i,j::r=>dB (pw ws i) (pw ws j)+EZ ws j r
noncomputable def KU(ws:List (List Nat)):List Nat->Nat
 | []=>0
 | j::r=>EZ ws j r
theorem xr(ws:List (List Nat))(j:Nat):∀(i:Nat) (r:List Nat) (l:Nat),glT ws i (r++[l]++[j])=glT ws i (r++[l])++(pw ws j).drop (dB (pw ws l) (pw ws j))
 | i,[],l=>by
  show (pw ws l).drop _++((pw ws j).drop _++[])=(pw ws l).drop _++[]++_;rw [LA,LA]
 | i,a::r,l=>by
  show (pw ws a).drop _++glT ws a (r++[l]++[j])=(pw ws a).drop _++glT ws a (r++[l])++_;rw [xr ws j a r l,append_assoc]
def rC(ws:List (List Nat))(pre:List Nat)(l j:Nat):glN ws (pre++[l]++[j])=glN ws (pre++[l])++(pw ws j).drop (dB (pw ws l) (pw ws j)):=by
 cases pre with
 | nil=>show pw ws l++((pw ws j).drop _++[])=pw ws l++[]++_;rw [LA,LA]
 | cons a r =>
  show pw ws a++glT ws a (r++[l]++[j])=pw ws a++glT ws a (r++[l])++_;rw [xr,append_assoc]
variable {ws:List (List Nat)}
theorem AA:∀{i:Nat}{r:List Nat},0<(pw ws i).length->(∀j∈r,0<(pw ws j).length)->(glT ws i r).length+EZ ws i r=(r.map λj=>(pw ws j).length).sum
 | i,[],_,_=>rfl
 | i,j::r,hi,h=>by
  have hj:=h j (mem_cons_self ..);have ih:=AA (i:=j) (r:=r) hj λk hk=>h k (m_ _ hk);have hl:=(iA hi hj).1;show ((pw ws j).drop _++glT ws j r).length+(dB _ _+EZ ws j r)=_;rw [length_append,length_drop,map_cons,sum_cons,<- ih];omega
variable {js:List Nat}
def E1(h:∀j∈js,0<(pw ws j).length):(glN ws js).length+KU ws js=(js.map λj=>(pw ws j).length).sum:=by
 cases js with
 | nil=>rfl
 | cons j r =>
  have:=AA (h j (mem_cons_self ..)) λk hk=>h k (m_ _ hk);show (pw ws j++glT ws j r).length+EZ ws j r=_;rw [length_append,map_cons,sum_cons,<- this];omega
def E2:∀{pre:List Nat}{l:Nat},(∀j∈pre++[l],0<(pw ws j).length)->pw ws l <:+ glN ws (pre++[l]):=λ{pre}=>by
 induction pre using vd with
 | h0=>intro l _;exact⟨[],by show pw ws l=pw ws l++[];rw [LA]⟩
 | h1 pre a ih =>
  intro l h;rw [rC];have ha:=h a (by simp);have hl:=h l (by simp);exact Cb (iA ha hl) (ih λj hj=>h j (M2 _ hj))
def E3(pre suf:List Nat):glN ws pre <+: glN ws (pre++suf):=by
 induction suf using vd with
 | h0=>rw [LA];exact prefix_refl _
 | h1 suf a ih =>
  rw [<- append_assoc]
  rcases eq_nil_or_concat (pre++suf) with e|⟨r,l,e⟩
  .have:pre=[]:=(append_eq_nil_iff.mp e).1;rw [this];exact nil_prefix
  .rw [concat_eq_append] at e;rw [e] at ih ⊢;rw [rC];exact ih.trans (Ow _ _)
def HS(h:∀j∈js,0<(pw ws j).length)(hj:j∈js):pw ws j <:+: glN ws js:=by
 obtain⟨pre,suf,rfl⟩:=append_of_mem hj;have e:pre++j::suf=(pre++[j])++suf:=by simp
 rw [e] at h ⊢;exact (E2 λk hk=>h k (M2 _ hk)).isInfix.trans (E3 _ suf).isInfix
variable {t:List Nat}
def AB{a b c:Nat}(h1:a<=b)(h2:b<=c):(t.drop a).take (b - a)++(t.drop b).take (c - b)=(t.drop a).take (c - a):=by
 rw [show c - a=(b - a)+(c - b) by omega,take_add,drop_drop,show a+(b - a)=b by omega]
theorem tS{P:Nat->Nat}:∀{i:Nat}{r:List Nat},(∀j∈i::r,0<(pw ws j).length/\stA t (pw ws j) (P j)=true)->(i::r).Pairwise (λa b=>P a<P b)->(i::r).Pairwise (λa b=>¬ pw ws b <:+: pw ws a) ->
  ∃e,e<=t.length/\P i+(pw ws i).length<=e/\(glT ws i r).length<=e - (P i+(pw ws i).length)/\((glT ws i r).length=e - (P i+(pw ws i).length)->glT ws i r=(t.drop (P i+(pw ws i).length)).take (e - (P i+(pw ws i).length)))
 | i,[],h,_,_=>⟨P i+(pw ws i).length,(of_decide_eq_true (h i (mem_cons_self ..)).2).1,gV _,LY _,λ_=>by rw [sub_self,take_zero];rfl⟩
 | i,j::r,h,hp,ha=>by
  obtain⟨p1,p2⟩:=Nn.mp hp;obtain⟨a1,a2⟩:=Nn.mp ha;obtain⟨e,e1,e2,e3,e4⟩:=tS (i:=j) (r:=r) (λk hk=>h k (m_ _ hk)) p2 a2;have hij:=p1 j (mem_cons_self ..);have nij:=a1 j (mem_cons_self ..);obtain⟨i0,iS⟩:=h i (mem_cons_self ..);obtain⟨j0,jS⟩:=h j (m_ _ (mem_cons_self ..));obtain⟨iL,iE⟩:=of_decide_eq_true iS;obtain⟨jL,jE⟩:=of_decide_eq_true jS;obtain⟨k1,k2,k3⟩:=iA i0 j0
  generalize hwi:pw ws i=wi at *;generalize hwj:pw ws j=wj at *
  have hend:P i+wi.length<P j+wj.length:=by
   rcases ML (P i+wi.length) (P j+wj.length) with z|z
   .exact z
   .refine absurd ?_ nij
    have e:wj=((wi.drop (P j - P i)).take wj.length):=by
     conv=>rhs;rw [<- iE]
     rw [drop_take,drop_drop,show P i+(P j - P i)=P j by omega,take_take,show min wj.length (wi.length - (P j - P i))=wj.length by omega,jE]
    rw [e];exact (take_prefix _ _).isInfix.trans (drop_suffix _ _).isInfix
  have hgl:glT ws i (j::r)=wj.drop (dB wi wj)++glT ws j r:=by show (pw ws j).drop (dB (pw ws i) (pw ws j))++_=_;rw [hwi,hwj]
  have hk:P i+wi.length - P j<=dB wi wj:=by
   rcases eq_zero_or_pos (P i+wi.length - P j) with z|z
   .omega
   .refine k3 _ (by omega) ?_;refine⟨wi.take (wi.length - (P i+wi.length - P j)),?_⟩
    have e:wj.take (P i+wi.length - P j)=wi.drop (wi.length - (P i+wi.length - P j)):=by
     conv=>lhs;rw [<- jE]
     conv=>rhs;rw [<- iE]
     rw [take_take,drop_take,drop_drop]
     congr 1
     .rw [length_take,length_drop];omega
     .congr 1;rw [length_take,length_drop];omega
    rw [e,L4]
  refine⟨e,e1,by omega,?_,λhe=>?_⟩
  .rw [hgl,length_append,length_drop];omega
  .rw [hgl,length_append,length_drop] at he;have o1:P j<=P i+wi.length:=by omega
   have o2:dB wi wj=P i+wi.length - P j:=by omega
   rw [hgl,e4 (by omega),<- AB (t:=t) (a:=P i+wi.length) (b:=P j+wj.length) (c:=e) (by omega) (by omega)];congr 1;rw [o2]
   conv=>lhs;rw [<- jE]
   rw [drop_take,drop_drop,show P j+(P i+wi.length - P j)=P i+wi.length by omega];congr 1;omega
def AC{P:Nat->Nat}(h:∀j∈js,0<(pw ws j).length/\stA t (pw ws j) (P j)=true)(hp:js.Pairwise (λa b=>P a<P b))(ha:js.Pairwise (λa b=>¬ pw ws b <:+: pw ws a)):
  (glN ws js).length<=t.length/\((glN ws js).length=t.length->glN ws js=t):=by
 cases js with
 | nil=>exact⟨LY _,λe=>(Mh.mp e.symm).symm⟩
 | cons i r =>
  obtain⟨e,e1,e2,e3,e4⟩:=tS h hp ha;obtain⟨iL,iE⟩:=of_decide_eq_true (h i (mem_cons_self ..)).2;have hg:glN ws (i::r)=pw ws i++glT ws i r:=rfl;rw [hg,length_append];refine⟨by omega,λz=>?_⟩;have p0:P i=0:=by omega
  rw [e4 (by omega)];have el:e=t.length:=by omega
  rw [p0,drop_zero] at iE;rw [el,p0,N6];have:=AB (t:=t) (a:=0) (b:=(pw ws i).length) (c:=t.length) (LY _) (by omega);rw [drop_zero,N2,N2,take_length,iE] at this;exact this
variable {a b:List Nat}
def tT(h:a <:+: b):a.length<=b.length:=h.length_le
variable {β:Type}
def KW(f:α->β)(xs:List α):eA (xs.map f) (some 1) none=(xs.tail).map f:=by
 rw [show (1:Int)=((1:Nat):Int) from rfl,ip,<- map_drop,drop_one]
def JZ(f:α->β)(xs:List α):eA (xs.map f) none (some 1)=(xs.take 1).map f:=by
 rw [show (1:Int)=((1:Nat):Int) from rfl,gq,<- map_take]
section
variable {e:α->D}{xs:List α}{ρ1:PSt}{g:PTG}{pb:PTS}{nx bk:PSt->Prop}{rt:PV->PSt->Prop}{it:Nat->D}
def Lr(J:List α->PSt->Prop)(h0:J (xs.take 1) ρ1)(hs:∀pre a b suf ρ,xs=pre++a::b::suf->J (pre++[a]) ρ->g (.dat (.tup [e a,e b])) ρ λρ2=>pb { nx:=J (pre++[a]++[b]),rt:=rt,bk:=bk,ct:=J (pre++[a]++[b]) } ρ2)(hq:∀ρ,J xs ρ->nx ρ)(hn:n=min (xs.map e).length (xs.tail.map e).length:=by rfl)(hit:∀k,it k=.tup [itD (xs.map e) k,itD (xs.tail.map e) k]:=by intro k;rfl):
  ∃I:Nat->PSt->Prop,I 0 ρ1/\(∀k ρ d,k<n->d=it k->I k ρ->g (.dat d) ρ λρ2=>pb { nx:=I (k+1),rt:=rt,bk:=bk,ct:=I (k+1) } ρ2)/\∀ρ,I n ρ->nx ρ:=by
 rw [length_map,length_map,length_tail] at hn
 refine⟨λk ρ=>J (xs.take (k+1)) ρ,h0,λk ρ d hk ed hJ=>?_,λρ h=>hq ρ ?_⟩
 .have k1:k+1<xs.length:=by omega
  have k0:k<xs.length:=by omega
  rw [hit,lc k0,lc (by rw [length_tail];omega),getElem_tail] at ed;subst ed;have t1:xs.take (k+1)=xs.take k++[xs[k]]:=by rw [take_succ,cx k0];rfl
  have t2:xs.take (k+1+1)=xs.take k++[xs[k]]++[xs[k+1]]:=by rw [take_succ,cx k1,t1];rfl
  show g _ ρ λρ2=>pb { nx:=J (xs.take (k+1+1)),rt:=rt,bk:=bk,ct:=J (xs.take (k+1+1)) } ρ2;rw [t2];refine hs _ _ _ (xs.drop (k+1+1)) ρ ?_ (by rw [<- t1];exact hJ);rw [getElem_cons_drop,getElem_cons_drop,L4]
 .have h:J (xs.take (n+1)) ρ:=h;rw [L9 (by omega)] at h;exact h
end
section
variable {xs:List α}{ys:List β}
def AD{γ:Type}(f:α->β->γ)(xs:List α)(ys:List β)(h:Nat->γ)(hh:∀k (h1:k<xs.length) (h2:k<ys.length),h k=f xs[k] ys[k]):(e_ (min xs.length ys.length)).map h=(xs.zip ys).map λp=>f p.1 p.2:=by
 apply NG;intro i;rw [h_,h_]
 by_cases hi:i<min xs.length ys.length
 .have h1:i<xs.length:=by omega
  have h2:i<ys.length:=by omega
  rw [LQ hi,cx (by rw [length_zip];exact hi),getElem_zip];exact congrArg some (hh i h1 h2)
 .rw [v_ (by rw [tj];omega),v_ (by rw [length_zip];omega)];rfl
variable {e:α->D}{e':β->D}{ix:List (Option Nat)}{ρ1:PSt}{g:PTG}{pe:PTE}{Q:PKt}{it:Nat->D}
def cmZ(f:α->β->D)(hs:∀a b,(a,b)∈xs.zip ys->∀(v w:Option PV) (K1:D->PSt->Prop),(∀v' w',K1 (f a b) (v'::w'::(bi ix ρ1).tail.tail))->g (.dat (.tup [e a,e' b])) (v::w::(bi ix ρ1).tail.tail) λτ2=>pe τ2 λp τ4=>K1 p.d τ4)(hq:∀v w:Option PV,Q (.own ((xs.zip ys).map λp=>f p.1 p.2)) (eJ ix ρ1 (v::w::(bi ix ρ1).tail.tail)))(hx:bi ix ρ1=none::none::(bi ix ρ1).tail.tail:=by rfl)(hn:n=min (xs.map e).length (ys.map e').length:=by rfl)(hit:∀k,it k=.tup [itD (xs.map e) k,itD (ys.map e') k]:=by intro k;rfl):mj ix ρ1 n it g yM pe Q:=by
 rw [length_map,length_map] at hn;subst hn
 by_cases h0:0<min xs.length ys.length
 .have ga:∀k,k<min xs.length ys.length->∃h1:k<xs.length,∃h2:k<ys.length,it k=.tup [e xs[k],e' ys[k]]:=λk hk=>⟨by omega,by omega,by rw [hit,lc (by omega),lc (by omega)]⟩
  have hx0:0<xs.length:=by omega
  have hy0:0<ys.length:=by omega
  refine CY (λτ=>∃v w,τ=v::w::(bi ix ρ1).tail.tail) (λk=>f (xs.getD k xs[0]) (ys.getD k ys[0])) ⟨none,none,hx⟩ ?_ ?_
  .rintro k τ d hk rfl ⟨v,w,rfl⟩ K1 k1;obtain⟨h1,h2,ek⟩:=ga k hk;rw [ek];have g1:xs.getD k xs[0]=xs[k]:=by rw [cy,cx h1];rfl
   have g2:ys.getD k ys[0]=ys[k]:=by rw [cy,cx h2];rfl
   rw [g1,g2] at k1;refine hs _ _ ?_ v w K1 λv' w'=>k1 _ ⟨v',w',rfl⟩;refine mem_iff_getElem.mpr ⟨k,by rw [length_zip];exact hk,by rw [getElem_zip]⟩
  .rintro τ ⟨v,w,rfl⟩;rw [AD f xs ys _ λk h1 h2=>by rw [cy,cx h1,cy,cx h2];rfl];exact hq v w
 .refine CY (λτ=>∃v w,τ=v::w::(bi ix ρ1).tail.tail) (λ_=>.non) ⟨none,none,hx⟩ (λk τ d hk=>by omega) ?_;rintro τ ⟨v,w,rfl⟩;have e1:min xs.length ys.length=0:=by omega
  have e2:xs.zip ys=[]:=Mh.mp (by rw [length_zip];exact e1);have:=hq v w;rw [e2] at this;rw [e1];exact this
end
variable {ix:List (Option Nat)}{ρ1:PSt}{pe:PTE}
def cm2{e:α->D}{xs:List α}{g:PTG}{Q:PKt}(f:α->D)(hs:∀x∈xs,∀(v w:Option PV) (K1:D->PSt->Prop),(∀v' w',K1 (f x) (v'::w'::(bi ix ρ1).tail.tail))->g (.dat (e x)) (v::w::(bi ix ρ1).tail.tail) λτ2=>pe τ2 λp τ4=>K1 p.d τ4)(hq:∀v w:Option PV,Q (.own (xs.map f)) (eJ ix ρ1 (v::w::(bi ix ρ1).tail.tail)))(hx:bi ix ρ1=none::none::(bi ix ρ1).tail.tail:=by rfl):mj ix ρ1 (xs.map e).length (itD (xs.map e)) g yM pe Q:=by
 refine EU (λτ=>∃v w,τ=v::w::(bi ix ρ1).tail.tail) f ⟨none,none,hx⟩ ?_ ?_
 .rintro x hx τ ⟨v,w,rfl⟩ K1 k1;exact hs x hx v w K1 λv' w'=>k1 _ ⟨v',w',rfl⟩
 .rintro τ ⟨v,w,rfl⟩;exact hq v w
def AE(a b:List Nat):(!(Nx (S b) (S a) 0 (S b).length 1).isEmpty)=qf a b:=by
 have e:=zD b a 0;unfold qf;rw [<- e]
 cases Nx (S b) (S a) 0 (S b).length 1 with
 | nil=>rfl
 | cons k r=>exact (decide_eq_true (by omega:(0:Int)<=(k:Int))).symm
noncomputable def J0(neg:Bool):R2:=λx y H Q=>∃a b,x=.str (S a)/\y=.str (S b)/\Q (.bl (if neg then !qf a b else qf a b)) H
def HU:OpR X (compareOp .In) (J0 false):=by
 intro pins s σ H x y v u Q I rx ry h;obtain⟨a,b,rfl,rfl,q⟩:=h;obtain⟨t,rfl⟩:=rx;obtain⟨t',rfl⟩:=ry;exact P.in_str ⟨.bl _,H,I,rfl,by rw [AE];exact q⟩
def AF:OpR X (compareOp .NotIn) (J0 true):=by
 intro pins s σ H x y v u Q I rx ry h;obtain⟨a,b,rfl,rfl,q⟩:=h;obtain⟨t,rfl⟩:=rx;obtain⟨t',rfl⟩:=ry;exact P.notIn_str ⟨.bl _,H,I,rfl,by rw [AE];exact q⟩
noncomputable def IS(K:b_)(neg:Bool):R2:=λx y H Q=>rIn K neg x y H Q\/J0 neg x y H Q
def Ce(K:b_)(e:X.K=K):OpR X (compareOp .In) (IS K false):=OpR.or (Lj K e) HU
def Cf(K:b_)(e:X.K=K):OpR X (compareOp .NotIn) (IS K true):=OpR.or (Ep K e) AF
noncomputable def J1(neg:Bool):F2
 | .str a,.str b,Q=>Q (.dat (.bl (if neg then !qf a b else qf a b)))
 | a,.lst ds,Q=>(a.fl=true/\ds.all D.fl=true)/\Q (.dat (.bl (if neg then !inD a ds else inD a ds)))
 | a,.tup ds,Q=>(a.fl=true/\ds.all D.fl=true)/\Q (.dat (.bl (if neg then !inD a ds else inD a ds)))
 | _,_,_=>False
def tU{neg:Bool}:LO K (IS K neg) (J1 neg):=by
 intro O H x y a b Q Q' dom fx fy q k;unfold J1 at q
 split at q
 .obtain⟨rfl,_⟩:=fx.str;obtain⟨rfl,_⟩:=fy.str;exact .inr ⟨_,_,rfl,rfl,k _ H _ q (Gr.refl _) (.bl _)⟩
 .exact .inl (G4 O H x y _ _ Q Q' dom fx fy q k)
 .exact .inl (G4 O H x y _ _ Q Q' dom fx fy q k)
 .exact q.elim
def Cg{m:Nat}(hw:∀w∈ws,w.length<=m)(j:Nat):(pw ws j).length<=m:=by
 by_cases h:j<ws.length
 .exact hw _ (bC h)
 .unfold pw;rw [cy,v_ (by omega)];exact LY _
noncomputable def nN(n:Int):Nat:=if n == 0 then 0 else n.natAbs.log2+1
noncomputable def E4:V->List V->Hp->VK->Prop:=λx xs H Q=>∃n,x=.int n/\xs=[]/\Q (.int (nN n:Nat)) H
def E5:MtR X "int.bit_length" E4:=by
 intro pins s σ H x xs v us Q I rx rs h;obtain⟨n,rfl,rfl,q⟩:=h;obtain⟨t,rfl⟩:=rx;have hus:=rs.zero;subst hus;exact call_gives F.slot_int_bit_length (typeIs_int s n t) F.entry_int_bit_length (F.args_int_bit_length_1 _) (AutoIntG2.int_bit_length_int_0 n t) ⟨.int _,H,I.tok _,⟨_,rfl⟩,q⟩
noncomputable def HV(pe:PTE):PTE:=λρ Q=>pe ρ λp ρ1=>match p with
 | .dat (.int n)=>Q (.dat (.int (nN n:Nat))) ρ1
 | _=>False
variable {te:TE}
def E6(he:LE K te pe):LE K (IH K "int" E4 te) (HV pe):=λA ρ σ H Q Q' R q k=>he A ρ σ H _ _ R q λv H1 p ρ1 q1 f1 o1=>by
 unfold HV at *
 split at q1
 .obtain⟨R1,fv⟩:=o1;cases fv;exact⟨rfl,_,rfl,rfl,k _ H1 _ ρ1 q1 f1 ⟨R1,.int _⟩⟩
 .exact q1.elim
variable {pa:PA1}
def E7{o:Expr}{to:TE}{name:Str}{apos cpos:Pos}{T id:String}{r:V->List V->Hp->VK->Prop}(K:b_)(eK:X.K=K)(pa:PlainAttrs T)(slot:Slot T name id)(hty:typeOf (.builtin id)=pure (.type "method_descriptor"))(hm:MtR X id r)(ho:PE X o to)(hbase:attributeBase o name X.env (eval o X.env)=eval o X.env:=by rfl)(hline:(apos.endLine == cpos.line)=true:=by rfl):PE X (.Call (.Attribute o name apos) [] [] cpos) (IH K T r to):=eK ▸ GA pa slot hty hm ho hbase hline
noncomputable def Dj(K:b_):R2:=λx y H Q=>∃a b ys,x=.ref a/\y=.ref b/\SqT K H a []/\SqT K H b ys/\Q (.ref b) H
def Ch:OpR X (binaryOp .Add) (Dj X.K):=by
 intro pins s σ H x y v u Q I rx ry h;obtain⟨a,b,ys,rfl,rfl,ha,hb,q⟩:=h;cases rx;cases ry;obtain⟨its,r1,p1,_⟩:=I.tuple ha;obtain⟨its2,r2,p2,_⟩:=I.tuple hb;have e0:its=[]:=r1.nil_iff.mpr rfl;subst e0;obtain⟨⟨cls,dd,data,sl⟩,ho,hc,n,hd⟩:=id p1;obtain⟨⟨cls2,dd2,data2,sl2⟩,ho2,hc2,n2,hd2⟩:=id p2;simp only at hc hd hc2 hd2;subst hc hd hc2 hd2;exact OG ⟨_,ho,rfl⟩ ⟨_,ho2,rfl⟩ OA seq_tuple_add NE Nv (Nj _ _) (tuple_addW0 a b _ _ n n2 dd dd2 sl sl2 rfl) ⟨ho,ho2,.ref b,H,I,rfl,q⟩
noncomputable def mn(K:b_):R2:=λx y H Q=>Em K x y H Q\/Dj K x y H Q
def cA(K:b_)(e:X.K=K):OpR X (binaryOp .Add) (mn K):=OpR.or (Jy K e) (by subst e;exact Ch)
noncomputable def HW:F2
 | .tup a,.tup b,Q=>a.length+b.length<=1000000/\Q (.dat (.tup (a++b)))
 | a,b,Q=>Jz a b Q
def bL:LO K (mn K) HW:=by
 intro O H x y a b Q Q' dom fx fy q k;unfold HW at q
 split at q
 .rename_i Q ds es
  cases ds with
  | cons d ds=>exact .inl (CK O H x y _ _ _ Q' dom fx fy ⟨nofun,q⟩ k)
  | nil =>
   obtain⟨p1,xs1,rfl,n1,e1,f1⟩:=fx.tup;obtain⟨p2,xs2,rfl,n2,e2,f2⟩:=fy.tup;cases f1;exact .inr ⟨p1,p2,xs2,rfl,rfl,SqT.of e1,SqT.of e2,k _ H _ q.2 (Gr.refl _) (.tup n2 e2 f2)⟩
 .exact .inl (CK O H x y _ _ _ Q' dom fx fy q k)
noncomputable def KY:Expr->Bool
 | .ListComp ..|.SetComp ..|.DictComp ..=>false
 | _=>true
variable {e:Expr}{env:Env}
def AG{o i:Expr}{p:Pos}{l:Nat}(h:KY e=true):swapsWithSole [.Subscript o i p] e l env=pure false:=by
 show swapsWith e (some (.Subscript o i p)) l env=pure false;cases e <;> first|rfl|cases h
def ve{o i:Expr}{p:Pos}:swappedStores [.Subscript o i p] e env=pure none:=rfl
variable {g:TG}{pos:Pos}
def AH{o i:Expr}{p:Pos}(he:PE X e te)(hg:PG X (.Subscript o i p) g)(hn:KY e=true:=by rfl):PS X (.Assign [.Subscript o i p] e pos) (Fz te g) :=
 wK he hg (AG hn) ve rfl
noncomputable def dD(K:b_)(x:Str)(st:Stmt):Prop:=∃(f:Addr) (oc kV dc pm cd ct:Value) (od an:Option Addr) (sl:Array (Option Value)),we K mainGlobals x=some (some (.ref f)) /\
 K.lookup f=some ⟨oc,od,.func (F_ x x (bV st) (bn st) (ah st) .none kV dc pm an cd ct),sl⟩/\LN K cd x=true/\D_ K (.ref f)=true
variable {x:Str}{st:Stmt}{f:Addr}{oc pm ct:Value}{od an:Option Addr}
def HX{kV dc cd:Value}{sl:Array (Option Value)}(a:we K mainGlobals x=some (some (.ref f)))(l:K.lookup f=some ⟨oc,od,.func (F_ x x (bV st) (bn st) (ah st) .none kV dc pm an cd ct),sl⟩)(c:LN K cd x=true)(k:D_ K (.ref f)=true):dD K x st:=⟨f,oc,kV,dc,pm,cd,ct,od,an,sl,a,l,c,k⟩
variable {mg:Str->Option Value}
def aO(q:dD K x st)(X:K.In h)(G:h.Ns mainGlobals mg):aX K mg x st:=by
 obtain⟨f,oc,kV,dc,pm,cd,ct,od,an,sl,a,l,c,k⟩:=q;exact .mk' X G a l c k
noncomputable def HY(K:b_)(te ts:TE):TE:=λσ H Q=>te σ H λx H1=>ts σ H1 λy H2=>y=.int (-1)/\((∃l,x=.str (S l)/\l.length<=sizeLine/\Q (.str (S l.reverse)) H2)\/∃a xs,x=.ref a/\SqL K H2 a xs/\∀p,H2 p=none->Q (.ref p) (upd H2 p (.lst xs.reverse)))
def E8(K:b_)(e0:X.K=K){st:Expr}{ts:TE}{p2:Pos}(he:PE X e te)(hst:PE X st ts):
  PE X (.Subscript e (.Slice none none (some st) p2) pos) (HY K te ts):=by
 subst e0;intro pins s σ H Q I h;refine Subscript_ (thn (he pins s σ H _ I h) λv s1 ⟨x,H1,I1,r1,q1⟩=>?_);refine wpAny_Slice ?_;rw [evalPart_none];refine f_ (f_ ?_);rw [evalPart_some];refine thn (hst pins s1 σ H1 _ I1 q1) λvs s2 ⟨y,H2,I2,r2,q2⟩=>?_;obtain⟨rfl,q2⟩:=q2;obtain⟨t',rfl⟩:=r2;have I3:Inv X pins σ H2 { s2 with heap:=s2.heap.push { cls:=.type "slice",data:=.fields #[.none,.none,.int (-1) t'] } }:=I2.kept (t':=s2.toks) λb ob q=>d_ _ q
 rcases q2 with ⟨l,rfl,hz,q⟩|⟨a,xs,rfl,hx,q⟩
 .obtain⟨t,rfl⟩:=r1;have hm:∀t2 k,EP X pins σ Q (.str (Txt.sliceBy (S l) none none (-1,t')) t2) { { s2 with heap:=s2.heap.push { cls:=.type "slice",data:=.fields #[.none,.none,.int (-1) t'] } } with toks:=k }:=λt2 k=>⟨.str (S l.reverse),H2,I3.tok _,⟨t2,by rw [Jk]⟩,q⟩
  refine tail_any (ops:=[.ref s2.heap.objs.size,.str (S l) t]) (typeIs_str _ _ t) slot_str_getitem.lookup (wpAny_getItem_str_slice (l:=none) (u:=none) (st:=some (-1,t')) ⟨_,g_ _ rfl,rfl,rfl⟩ rfl ?_) (by with_unfolding_all rfl);exact post_val_or_str ⟨s_ (Txt.sliceBy_le _ _ _ (-1,t') (by show (-1:Int)≠0;decide)) (by rw [fc];exact hz),hm⟩
 .cases r1;obtain⟨its,r,ht,hz⟩:=I3.list hx;have hlen:=r.length;refine tail_any (ops:=[.ref a,.ref s2.heap.objs.size]) ht.isList.typeIs Ol.lookup (wpAny_getItem_list_slice ht.isList ⟨_,g_ _ rfl,rfl,rfl⟩ .none .none (st:=some (-1)) (.int _ _) (by simp) ?_ (by rw [size_toArray] <;> omega)) (by first|with_unfolding_all rfl|rfl);rw [PySem.W.krv_pick];refine⟨.ref _,_,I3.laid (t':=s2.toks) (o:=.lst xs.reverse) (λb ob q=>d_ _ q) (gV _) ?_,rfl,q _ (I3.hok.fresh (gV _))⟩
  exact⟨by rw [LD];exact hz,_,0,r.reverse,g_ _ rfl⟩
noncomputable def J3(pa:PA1)(pe:PTE):PTE:=λρ Q=>pa ρ λx ρ1=>pe ρ1 λp ρ2=>match cont ρ2 x,p with
 | some (.str l),.dat (.int (-1))=>Q (.dat (.str l.reverse)) ρ2
 | some (.lst ds),.dat (.int (-1))=>Q (.own ds.reverse) ρ2
 | _,_=>False
variable {ta tb:TE}
def E9(ha:LA1 K ta pa)(hb:LE K tb pe):LE K (HY K ta tb) (J3 pa pe):=λA ρ σ H Q Q' R q k =>
 ha A ρ σ H _ _ R q λv H1 a ρ1 q1 f1 R1 o1=>hb A ρ1 σ H1 _ _ R1 q1 λw H2 p ρ2 q2 f2 o2=>by
  split at q2
  .rename_i l e1;obtain⟨R2,fw⟩:=o2;cases fw;have fx:=R2.cont (o1.keeps f2.keeps) e1;exact⟨rfl,.inl ⟨l,fx.str.1,sz _ fx.str.2,k _ H2 _ ρ2 q2 (f1.trans f2) ⟨R2,.str _ (by rw [LD];exact fx.str.2)⟩⟩⟩
  .rename_i ds e1;obtain⟨R2,fw⟩:=o2;cases fw;obtain⟨a,xs,rfl,e2,f3⟩:=(R2.cont (o1.keeps f2.keeps) e1).lst;exact⟨rfl,.inr ⟨a,xs,rfl,SqL.of e2,λp hp=>k _ _ _ ρ2 q2 ((f1.trans f2).trans (Gr.new hp).fr) (((dF hp f3.reverse).out R2 (Gr.new hp)).h0 λb z=>f2.dm b (f1.dm b z))⟩⟩
  .exact q2.elim
section
open PySem.AutoSeq1 (wpAny_loadPart')
open PySem.MeetsSeq PySem.MeetsSeq2 PySem.MeetsSeq3
end
section
variable {d:Value}
abbrev dfl(d:Value):List (Str×Value):=[((Mu "default"),d)]
def mxn:(toString "max"++toString ".loop":String)="max.loop":=by decide
variable {P:t_}{R:Result->c_->Prop}{I:Addr}{fp wr:List Addr}{Pv:Nat->Value->Prop}{St:Nat->Heap->Prop}
theorem vf(W:Walks P w A.in1 I fp wr n Pv St)(bt:Nat->Nat->Bool)(hcmp:CmpOf P w A.in1 .Gt Pv bt)(B:Addr)(hB:B∉fp):∀(k j:Nat) (z:c_) (vb:Value) (c:Nat),n=j+1+k->St (j+1) z.heap->Pv (argBest bt j) vb ->
  z.heap.get? B=some { cls:=.type "list",dict:=none,data:=.seq #[vb,vb] c,slots:=#[] } ->
  (∀v h' tk,Pv (argBest bt (n - 1)) v->(∀b o,b∉wr->b≠B->z.heap.get? b=some o->h'.get? b=some o)->R (.ok (.ret v)) { z with heap:=h',toks:=tk }) ->
  codeAny (model P w) A (.builtin "max.loop" ⟨[.ref I,.none,.ref B],dfl d⟩) R z
 | 0,j,z,vb,c,hn,st,pb,hS,hR=>by
  refine Mr F.entry_max_loop ?_;rw [Mn F.plain_max_loop _];show wpAny _ A.in1 (seqItems? (.ref B) >>= _) _ _ z;refine cn (LB hS rfl ?_);show wpAny _ A.in1 (tryCatch (pyNext (.ref I)) _ >>= _) _ _ z;refine cn (Mb (W.done z _ _ (by rw [hn];exact st) λh' tk old=>?_));have hS':=old B _ (λq=>hB (W.sub _ q)) hS;show wpAny _ A.in1 (updateSeq B (λ_=>#[]) >>= _) _ _ _
  refine cn (M3 hS' rfl (cn (Mw (f_ ?_))));exact hR vb _ tk (by rw [hn];exact pb) λb o h1 h2 e=>(C_ _ _ (MW h2)).trans (old b o h1 e)
 | k+1,j,z,vb,c,hn,st,pb,hS,hR=>by
  refine Mr F.entry_max_loop ?_;rw [Mn F.plain_max_loop _];show wpAny _ A.in1 (seqItems? (.ref B) >>= _) _ _ z;refine cn (LB hS rfl ?_);show wpAny _ A.in1 (tryCatch (pyNext (.ref I)) _ >>= _) _ _ z;refine cn (Mb (W.item (j+1) z _ _ (by omega) st λv h' tk hv st' old=>?_));have hS':=old B _ (λq=>hB (W.sub _ q)) hS;show wpAny _ A.in1 (tryCatch (holding [v,v] (richCompare .Gt v vb >>= _)) _ >>= _) _ _ _
  refine cn (Mb (I_ (cn (hcmp (j+1) (argBest bt j) v vb _ _ _ hv pb ?_))));refine cn (I_ (J_ ?_));refine cn (Mw (f_ ?_))
  cases hb:bt (j+1) (argBest bt j) with
  | true =>
   simp only [if_true];refine cn (M3 hS' rfl (cn (Mw ?_)));rw [mxn];refine f_ ⟨MT F.plain_max_loop _,vf W bt hcmp B hB k (j+1) _ v _ (by omega) (W.frame _ _ _ st' λb hb o e=>(C_ _ _ (λq:B=b=>hB (by rw [q];exact hb))).trans e) (by show Pv (if bt (j+1) (argBest bt j) then j+1 else argBest bt j) v;rw [hb];exact hv) (Mg _ hS' rfl) λv' h2 t2 p2 o2=>?_⟩
   exact hR v' h2 t2 p2 λb o h1 h3 e=>o2 b o h1 h3 ((C_ _ _ (MW h3)).trans (old b o h1 e))
  | false =>
   simp only [false_eq_true,if_false];refine cn (Mw ?_);rw [mxn];refine f_ ⟨MT F.plain_max_loop _,vf W bt hcmp B hB k (j+1) _ vb c (by omega) st' (by show Pv (if bt (j+1) (argBest bt j) then j+1 else argBest bt j) vb;rw [hb];exact pb) hS' λv' h2 t2 p2 o2=>?_⟩;exact hR v' h2 t2 p2 λb o h1 h3 e=>o2 b o h1 h3 (old b o h1 e)
def Ci(W:Walks P w A.in1 I fp wr n Pv St)(bt:Nat->Nat->Bool)(hcmp:CmpOf P w A.in1 .Gt Pv bt)(B:Addr)(hB:B∉fp){z:c_}{c:Nat}(st:St 0 z.heap)(hS:z.heap.get? B=some { cls:=.type "list",dict:=none,data:=.seq #[] c,slots:=#[] })(hR0:n=0->∀h' tk,(∀b o,b∉wr->b≠B->z.heap.get? b=some o->h'.get? b=some o)->R (.ok (.ret d)) { z with heap:=h',toks:=tk })(hR:0<n->∀v h' tk,Pv (argBest bt (n - 1)) v->(∀b o,b∉wr->b≠B->z.heap.get? b=some o->h'.get? b=some o)->R (.ok (.ret v)) { z with heap:=h',toks:=tk }):
  codeAny (model P w) A (.builtin "max.loop" ⟨[.ref I,.none,.ref B],dfl d⟩) R z:=by
 refine Mr F.entry_max_loop ?_;rw [Mn F.plain_max_loop _];show wpAny _ A.in1 (seqItems? (.ref B) >>= _) _ _ z;refine cn (LB hS rfl ?_);show wpAny _ A.in1 (tryCatch (pyNext (.ref I)) _ >>= _) _ _ z
 by_cases hn:n=0
 .refine cn (Mb (W.done z _ _ (by rw [hn];exact st) λh' tk old=>?_));show wpAny _ A.in1 (rule _ >>= _) _ _ _;refine cn (NO (f_ ?_));exact hR0 hn h' tk λb o h1 _ e=>old b o h1 e
 .refine cn (Mb (W.item 0 z _ _ (by omega) st λv h' tk hv st' old=>?_));have hS':=old B _ (λq=>hB (W.sub _ q)) hS;show wpAny _ A.in1 (updateSeq B (λ_=>#[v,v]) >>= _) _ _ _;refine cn (M3 hS' rfl ?_);rw [mxn];refine f_ ⟨MT F.plain_max_loop _,vf W bt hcmp B hB (n - 1) 0 _ v _ (by omega) (W.frame _ _ _ st' λb hb o e=>(C_ _ _ (λq:B=b=>hB (by rw [q];exact hb))).trans e) hv (Mg _ hS' rfl) λv' h2 t2 p2 o2=>?_⟩
  exact hR (by omega) v' h2 t2 p2 λb o h1 h3 e=>o2 b o h1 h3 ((C_ _ _ (MW h3)).trans (old b o h1 e))
end
def AI(a v:Value):argsOk "max" ⟨[a],dfl v⟩:=by unfold argsOk;kernel_rfl
def AJ{P:t_}{z:c_}{l:Addr}{xs:Array (Int×Tok)}{d:Value}(hh:A.handled=none)(hl:z.heap.IsList l (intItems xs))(k0:xs.size=0->∀h' tk,(∀b o,z.heap.get? b=some o->h'.get? b=some o)->Q d { z with heap:=h',toks:=tk })(k:0<xs.size->∀v h' tk,(intItems xs)[argBest (λi j=>decide (numAt xs i > numAt xs j)) (xs.size - 1)]?=some v->(∀b o,z.heap.get? b=some o->h'.get? b=some o)->Q v { z with heap:=h',toks:=tk }):
  wpAny (model P w) A (call (.builtin "max") [.ref l] (dfl d)) Q E z:=by
 have hsz:(intItems xs).size=xs.size:=by simp [intItems]
 refine kmk_tree F.kind_max F.plain_max F.entry_max (AI _ _) ?_;show wpAny _ A.in1 (Mv "max" ["key","default"] 0 ⟨[],dfl d⟩ >>= _) _ _ z;refine cn (O4 (show Mv "max" ["key","default"] 0 ⟨[],dfl d⟩=pure [none,some d] from rfl) ?_);refine cn (f_ ?_);refine cn (iter_intList hl λs₂ e st hfp hlI=>?_);subst e;refine cn (LH ?_)
 rw [mxn];have W:=Walks.list (prog:=P) (w:=w) (A:=A.in1) hh _ l hlI (intItems xs)
 refine f_ ⟨MT F.plain_max_loop _,Ci W _ (CmpOf.ints_gt (numAt xs) (λ_ _=>intItems_at)) _ (λhm=>K_ _ (hfp _ hm)) (W.frame _ _ _ st λb _ o e=>d_ _ e) (g_ _ rfl) (λe0 h' tk old=>?_) λe0 v h' tk hv old=>?_⟩
 .exact k0 (by omega) h' tk (old_kept λb o hb e=>old b o hb (H_ (n_ e)) (d_ _ e))
 .exact k (by omega) v h' tk (by rw [hsz] at hv;exact hv) (old_kept λb o hb e=>old b o hb (H_ (n_ e)) (d_ _ e))
noncomputable def Fa(K:b_)(x d:V)(H:Hp)(Q:VK):Prop:=∃(p:Addr) (ns:List Int),x=.ref p/\SqL K H p (ns.map V.int)/\(ns=[]->Q d H)/\(0<ns.length->∀m:Int,m∈ns->(∀a∈ns,a<=m)->Q (.int m) H)
variable {tf:TE}
noncomputable def HZ(K:b_)(te tf:TE):TE:=λσ H Q=>te σ H λx H1=>tf σ H1 λd H2=>Fa K x d H2 Q
variable {pins:List (Addr×Obj)}{σ:St}{u:Value}
def Ia(K:b_)(e:X.K=K)(hc:X.calm=true){x d:V}{v:Value}{Q:VK}(I:Inv X pins σ H s)(rx:c9 x u)(rd:c9 d v)(h:Fa K x d H Q):
  wpAny (model X.prog X.w) X.A (call (.builtin "max") [u] (dfl v)) (EP X pins σ Q) X.xe s:=by
 subst e;obtain⟨p,ns,rfl,hS,q0,q⟩:=h;cases (show u=l_ p from rx);obtain⟨its,rv,pl,hz⟩:=I.list hS;have hi:Mt its ns:=cZ rv;have hl:=pl.isList;obtain⟨ys,e⟩:=hi.allInts.items;have hns:ns=ys.toList.map (·.1):=by rw [<- hi.numsOf,<- nums_intItems,<- e]
 have hsz:ns.length=ys.size:=by rw [hns,length_map,y_]
 rw [e] at hl
 refine AJ (by exact I.ok.hd hc) hl (λh0 h' tk hk=>?_) λh0 v h' tk hv hk=>?_
 .exact⟨d,H,I.kept (t':=tk) hk,rd,q0 (eq_nil_of_length_eq_zero (by omega))⟩
 .obtain⟨t,rfl⟩:=intItems_at hv;obtain⟨h1,h2⟩:=argBest_gt (numAt ys) (ys.size - 1)
  refine⟨.int _,H,I.kept (t':=tk) hk,⟨t,rfl⟩,q (by omega) _ ?_ λa ha=>?_⟩
  .rw [hns,numAt_eq];exact getD_mem (by rw [length_map,y_];omega)
  .rw [hns] at ha;obtain⟨j,hj,rfl⟩:=mem_getD ha;rw [length_map,y_] at hj;rw [<- numAt_eq];exact h2 j (by omega)
def Fb{f:Expr}{p kp:Pos}(K:b_)(eK:X.K=K)(hc:X.calm=true)(hg:Gl X "max")(hm:X.mg "max"=none)(ha:PA X [e] (ax te bU))(hf:PE X f tf)(hs:backTo pos (starEach [e] X.env)=(false,eval e X.env)::backTo pos (starEach [] X.env):=by rfl)(hpl:(backTo pos (starEach [e] X.env)).any (·.1)=false:=by rfl):
  PE X (.Call (.Name "max" p) [e] [⟨some (Mu "default"),f,kp⟩] pos) (HZ K te tf):=by
 intro pins s σ H Q I h;refine MD (jd I hg hm boot_max ?_);refine Ox (thn (ha pos pins s σ H (λvs H1=>match vs with|[x]=>tf σ H1 λd H2=>Fa K x d H2 Q|_=>False) I h) λus s1 ⟨vs,H1,I1,r1,q1⟩=>?_) hs hpl
 match vs,r1,q1 with
 | [x],r1,q1 =>
  obtain⟨u,rfl,ru⟩:=fJ r1;refine OV (thn (hf pins s1 σ H1 _ I1 q1) λv s2 ⟨d,H2,I2,rd,q2⟩=>O7 ?_);exact Ia K eK hc I2 ru rd q2
noncomputable def J4(pa:PA1)(pe:PTE):PTE:=λρ Q=>pa ρ λx ρ1=>pe ρ1 λp ρ2=>match cont ρ2 x,p with
 | some (.lst ds),.dat (.int d)=>∃ns:List Int,ds=ns.map .int/\(ns=[]->Q (.dat (.int d)) ρ2)/\(0<ns.length->∀m:Int,m∈ns->(∀a∈ns,a<=m)->Q (.dat (.int m)) ρ2)
 | _,_=>False
def Fc(ha:LA1 K te pa)(he:LE K tf pe):LE K (HZ K te tf) (J4 pa pe):=λA ρ σ H Q Q' R q k =>
 ha A ρ σ H _ _ R q λv H1 a ρ1 q1 f1 R1 o1=>he A ρ1 σ H1 _ _ R1 q1 λu H2 p ρ2 q2 f2 o2=>by
  obtain⟨R2,fv⟩:=o2.frz
  split at q2
  .rename_i ds d e2;obtain⟨ns,rfl,q0,q2⟩:=q2;cases (show FV K _ H2 u (.int d) from fv);obtain⟨a1,xs1,rfl,g1,g2⟩:=(R2.cont (o1.keeps f2.keeps) e2).lst;rw [g2.ints] at g1;exact⟨a1,ns,rfl,SqL.of g1,λe=>k _ H2 _ ρ2 (q0 e) (f1.trans f2) ⟨R2,.int _⟩,λh m h1 h2=>k _ H2 _ ρ2 (q2 h m h1 h2) (f1.trans f2) ⟨R2,.int _⟩⟩
  .exact q2.elim
noncomputable def KZ(i:Nat)(pe:PTE):PTE:=λρ Q=>match ρ[i]? with
 | some (some (.own _))=>pe ρ λp ρ1=>(match ρ1[i]?,p.d with
  | some (some (.own ds)),.lst es=>ds.length+es.length<=1000000/\Q (.dat .non) (ρ1.set i (some (.own (ds++es))))
  | _,_=>False)
 | _=>False
def Ib(h:LE K te pe):LE K (tBM K "list" zh (aJ i) (ax te bU)) (KZ i pe):=λA ρ σ H Q Q' R q k=>by
 unfold KZ at q
 split at q
 .rename_i ds0 e0;obtain⟨a0,xs0,s0,g0,f0⟩:=R.ownAt e0;refine⟨_,s0,.inl ⟨rfl,xs0,SqL.of g0⟩,h A ρ σ H _ _ R q λv H1 p ρ1 q1 f1 o1=>?_⟩;obtain⟨R1,fv⟩:=o1.frz
  split at q1
  .rename_i ds es e1 e2;rw [e2] at fv;obtain⟨a,xs,s,g,f⟩:=R1.ownAt e1;rw [s0] at s;cases s
   cases fv with
   | lst no ez fz =>
    obtain⟨R2,f2⟩:=R1.lstw e1 s0 (f.append fz);exact⟨a0,_,xs,_,rfl,rfl,g,ez,s_ (by rw [f.length,fz.length];exact q1.1) (sz _ (gV _)),k _ _ _ _ q1.2 (f1.trans f2) ⟨R2,.non⟩⟩
  .exact q1.elim
 .exact q.elim
variable {ρ:PSt}{x:Nat}{rows:List (List D)}
noncomputable def cl(x:Nat)(ρ:PSt):Option (List (List D))->PSt
 | none=>ρ
 | some rows=>ρ.set x (some (.own (rows.map D.lst)))
def AK(x:Nat)(ρ:PSt):cl x ρ none=ρ:=rfl
def AL(x:Nat)(ρ:PSt)(rows:List (List D)):cl x ρ (some rows)=ρ.set x (some (.own (rows.map D.lst))):=rfl
noncomputable def mvd(ρ:PSt)(g r:Nat)(ds:List D):PSt:=(ρ.set r (some (.own ds))).set g none
def Dk(ρ:PSt)(g r:Nat)(ds:List D):mvd ρ g r ds=(ρ.set r (some (.own ds))).set g none:=rfl
noncomputable def tBI(t:TE):TT:=λσ H Q=>t σ H λx H1=>∃i,x=.int i/\Q (i != 0) H1
def Ic{t:TE}(h:PE X e t)(he:∀whole,isTrue e X.env whole=(do let v <- whole;standAt e.pos;holding [v] (truthy v)):=by intro _;rfl):PT X e (tBI t):=by
 intro pins s σ H Q I hw;refine isTrue_plain (thn (h pins s σ H _ I hw) λv s1 ⟨x,H1,I1,r1,q1⟩=>?_) (he _);obtain⟨d,rfl,q⟩:=q1;obtain⟨t,rfl⟩:=r1;exact truthy_int ⟨H1,I1,q⟩
noncomputable def pBI(pe:PTE):PTT:=λρ Q=>pe ρ λp ρ1=>match p with
 | .dat (.int i)=>Q (i != 0) ρ1
 | _=>False
def J5(h:LE K te pe):LT K (tBI te) (pBI pe):=λA ρ σ H Q Q' R q k=>h A ρ σ H _ _ R q λv H1 p ρ1 q1 f1 o1=>by
 split at q1
 .rename_i b;obtain⟨R1,f⟩:=o1;cases f;exact⟨b,rfl,k _ H1 ρ1 q1 f1 R1⟩
 .exact q1.elim
noncomputable def ahB(a b:List Nat):Bool:=if a.length≠b.length then decide (a.length<b.length) else decide (a<b)
theorem xt:∀a:List Nat,¬ a<a
 | []=>by simp
 | x::a=>by rw [Mx];exact λz=>z.elim (λh=>K_ _ h) λh=>xt a h.2
theorem AM:∀a b:List Nat,a.length=b.length->a<b\/a=b\/b<a
 | [],[],_=>.inr (.inl rfl)
 | x::a,y::b,h=>by
  rw [Mx,Mx]
  rcases Nat.lt_trichotomy x y with c|c|c
  .exact .inl (.inl c)
  .subst c
   rcases AM a b (Pi h) with e|e|e
   .exact .inl (.inr ⟨rfl,e⟩)
   .exact .inr (.inl (by rw [e]))
   .exact .inr (.inr (.inr ⟨rfl,e⟩))
  .exact .inr (.inr (.inl c))
theorem rD:∀a b c:List Nat,a.length=b.length->b.length=c.length->a<b->b<c->a<c
 | [],[],_,_,_,h,_=>absurd h (xt [])
 | x::a,y::b,z::c,h1,h2,p,q=>by
  rw [Mx] at *
  rcases p with p|⟨p,p'⟩ <;> rcases q with q|⟨q,q'⟩
  .exact .inl (lt_trans p q)
  .exact .inl (q ▸ p)
  .exact .inl (p ▸ q)
  .exact .inr ⟨p.trans q,rD a b c (Pi h1) (Pi h2) p' q'⟩
theorem AN:∀u a b:List Nat,(u++a<u++b) ↔ a<b
 | [],_,_=>Iff.rfl
 | x::u,a,b=>by
  show x::(u++a)<x::(u++b) ↔ _;rw [Mx];exact⟨λh=>h.elim (λh=>absurd h (K_ _)) λh=>(AN u a b).mp h.2,λh=>.inr ⟨rfl,(AN u a b).mpr h⟩⟩
def qj:ahB a b=false ↔ b.length<a.length\/(a.length=b.length/\¬ a<b):=by
 unfold ahB
 by_cases h:a.length=b.length
 .rw [if_neg (λz=>z h),decide_eq_false_iff_not];exact⟨λz=>.inr ⟨h,z⟩,λz=>z.elim (λz=>by omega) λz=>z.2⟩
 .rw [if_pos h,decide_eq_false_iff_not];exact⟨λz=>.inl (by omega),λz=>z.elim (λz=>by omega) λz=>absurd z.1 h⟩
def tV(a:List Nat):ahB a a=false:=qj.mpr (.inr ⟨rfl,xt a⟩)
def Fd(h:ahB a b=false)(h':ahB b a=false):a=b:=by
 rw [qj] at h h'
 rcases h with h|⟨h,n⟩
 .rcases h' with h'|⟨h',_⟩ <;> omega
 .rcases h' with h'|⟨h',n'⟩
  .omega
  .rcases AM a b h with e|e|e
   .exact absurd e n
   .exact e
   .exact absurd e n'
def mQ{c:List Nat}(h:ahB a b=false)(h':ahB b c=false):ahB a c=false:=by
 rw [qj] at *
 rcases h with h|⟨h,n⟩
 .left;rcases h' with h'|⟨h',_⟩ <;> omega
 .rcases h' with h'|⟨h',n'⟩
  .left;omega
  .refine .inr ⟨h.trans h',λz=>?_⟩
   rcases AM a b h with e|e|e
   .exact n e
   .exact n' (e ▸ z)
   .exact n' (rD b a c h.symm (h.trans h') e z)
def J6(h:ahB a b=true):ahB b a=false:=by
 rw [qj];unfold ahB at h
 by_cases e:a.length=b.length
 .rw [if_neg (λz=>z e),decide_eq_true_eq] at h;exact .inr ⟨e.symm,λz=>xt a (rD a b a e e.symm h z)⟩
 .rw [if_pos e,decide_eq_true_eq] at h;exact .inl h
def Ie(u a b:List Nat):ahB (u++a) (u++b)=ahB a b:=by
 unfold ahB;rw [length_append,length_append]
 by_cases h:a.length=b.length
 .rw [if_neg (by omega),if_neg (by omega)];exact decide_eq_decide.mpr (AN u a b)
 .rw [if_pos (by omega),if_pos (by omega)];exact decide_eq_decide.mpr (by omega)
def Dl(h:ahB a b=false):b.length<=a.length:=by
 rw [qj] at h;omega
noncomputable def Lst(S:List Nat->Prop)(t:List Nat):Prop:=S t/\∀u,S u->ahB u t=false
def Lst.uniq{S:List Nat->Prop}{u:List Nat}(h:Lst S t)(h':Lst S u):t=u:=Fd (h'.2 t h.1) (h.2 u h'.1)
def Lst.congr{S S':List Nat->Prop}(h:Lst S t)(e:∀u,S u ↔ S' u):Lst S' t:=⟨(e t).mp h.1,λu hu=>h.2 u ((e u).mpr hu)⟩
def vg(t:List Nat):Lst (·∈[t]) t:=⟨G_.mpr rfl,λu hu=>by rw [G_.mp hu];exact tV t⟩
def xu{ts:List (List Nat)}(h:Lst (·∈ts) b):Lst (·∈ts++[t]) (if ahB t b=true then t else b):=by
 by_cases c:ahB t b=true
 .rw [if_pos c];refine⟨u_ _ (G_.mpr rfl),λu hu=>?_⟩
  rcases MA.mp hu with h'|h'
  .exact mQ (h.2 u h') (J6 c)
  .rw [G_.mp h'];exact tV t
 .rw [if_neg c];refine⟨M2 _ h.1,λu hu=>?_⟩
  rcases MA.mp hu with h'|h'
  .exact h.2 u h'
  .rw [G_.mp h'];exact not_eq_true _ ▸ c
def Dm:∀{ts:List (List Nat)},ts≠[]->∃t,Lst (·∈ts) t:=λ{ts}=>by
 induction ts using vd with
 | h0=>exact λh=>absurd rfl h
 | h1 l a ih =>
  intro _
  by_cases c:l=[]
  .rw [c];exact⟨a,vg a⟩
  .obtain⟨t,ht⟩:=ih c;exact⟨_,xu ht⟩
inductive Way (L:List (List (Nat×Nat))):Nat->List Nat->Prop
 | nil {n:Nat}:L.getD n []=[]->Way L n []
 | cons {n j r:Nat}{js:List Nat}:(j,r)∈L.getD n []->Way L r js->Way L n (j::js)
noncomputable def tlG(hd:Nat->Nat->List Nat)(ls:Nat->List Nat):Nat->List Nat->List Nat
 | i,[]=>ls i
 | i,j::r=>hd i j++tlG hd ls j r
noncomputable def FH(L:List (List (Nat×Nat)))(hd:Nat->Nat->List Nat)(ls:Nat->List Nat)(n i:Nat)(t:List Nat):Prop:=∃js,Way L n js/\t=tlG hd ls i js
variable {L:List (List (Nat×Nat))}{hd:Nat->Nat->List Nat}{ls:Nat->List Nat}
def Fe(h:L.getD n []=[]):Lst (FH L hd ls n i) (ls i):=⟨⟨[],.nil h,rfl⟩,λu ⟨js,w,e⟩=>by
 cases w with
 | nil _=>rw [e];exact tV _
 | cons m _=>rw [h] at m;cases m⟩
def Cj{E:Nat->Nat->List Nat}(hn:L.getD n []≠[])(hE:∀p∈L.getD n [],Lst (FH L hd ls p.2 p.1) (E p.2 p.1))(h:Lst (·∈(L.getD n []).map λp=>hd i p.1++E p.2 p.1) t):Lst (FH L hd ls n i) t:=by
 obtain⟨hm,hl⟩:=h;obtain⟨p,hp,rfl⟩:=LJ.mp hm;obtain⟨js,w,e⟩:=(hE p hp).1;refine⟨⟨p.1::js,.cons hp w,by rw [e];rfl⟩,λu ⟨js',w',e'⟩=>?_⟩
 cases w' with
 | nil z=>exact absurd z hn
 | @cons _ j r js'' m w'' =>
  have h1:=(hE (j,r) m).2 _ ⟨js'',w'',rfl⟩;rw [e'];refine mQ (b:=hd i j++E r j) ?_ (hl _ (LJ.mpr ⟨(j,r),m,rfl⟩));show ahB (hd i j++_) _=false;rw [Ie];exact h1
def Ff{E:Nat->Nat->List Nat}(hn:L.getD n []≠[])(hE:∀p∈L.getD n [],Lst (FH L hd ls p.2 p.1) (E p.2 p.1))(h:Lst (·∈(L.getD n []).map λp=>E p.2 p.1) t):Lst (λu=>∃j js,Way L n (j::js)/\u=tlG hd ls j js) t:=by
 obtain⟨hm,hl⟩:=h;obtain⟨p,hp,rfl⟩:=LJ.mp hm;obtain⟨js,w,e⟩:=(hE p hp).1;refine⟨⟨p.1,js,.cons hp w,e⟩,λu ⟨j,js',w',e'⟩=>?_⟩
 cases w' with
 | @cons _ _ r _ m w''=>rw [e'];exact mQ ((hE (j,r) m).2 _ ⟨js',w'',rfl⟩) (hl _ (LJ.mpr ⟨(j,r),m,rfl⟩))
noncomputable def hdW(ws:List (List Nat))(i j:Nat):List Nat:=(pw ws i).take ((pw ws i).length - dB (pw ws i) (pw ws j))
variable {k:Nat}
def Fg(h:rj a b k):a=a.take (a.length - k)++b.take k:=by
 have h1:=h.1;obtain⟨u,e⟩:=h.2.1;have hl:(b.take k).length=k:=by rw [length_take];omega
 have:u=a.take (a.length - k):=by
  rw [<- e,length_append,hl,add_sub_cancel,take_left]
 rw [<- this,e]
theorem AO:∀(js:List Nat) (i:Nat),0<(pw ws i).length->(∀j∈js,0<(pw ws j).length)->tlG (hdW ws) (pw ws) i js=glN ws (i::js)
 | [],i,_,_=>by show pw ws i=pw ws i++_;rw [show glT ws i []=[] from rfl,LA]
 | j::r,i,hi,hj=>by
  have h0:=hj j mem_cons_self;have ih:=AO r j h0 λk hk=>hj k (m_ _ hk);have hs:=Fg (iA hi h0);show hdW ws i j++tlG (hdW ws) (pw ws) j r=pw ws i++((pw ws j).drop (dB (pw ws i) (pw ws j))++glT ws j r)
  rw [ih];show _++(pw ws j++glT ws j r)=_;unfold hdW;generalize dB (pw ws i) (pw ws j)=k at hs ⊢;generalize hA:(pw ws i).take ((pw ws i).length - k)=A at hs ⊢;rw [hs,append_assoc,<- append_assoc (as:=(pw ws j).take _),L4]
def Do{w:Nat}(h:∀n,∀p∈L.getD n [],p.1<w)(hw:Way L n js):∀j∈js,j<w:=by
 induction hw with
 | nil _=>exact λj hj=>nomatch hj
 | cons m _ ih=>exact λj hj=>(A_.mp hj).elim (λe=>e ▸ h _ _ m) (ih j)
def Fh(h:∀n,∀p∈L.getD n [],p.2<n)(hw:Way L n js):js.length<=n:=by
 induction hw with
 | nil _=>exact LY _
 | cons m _ ih=>have:=h _ _ m;show _+1<=_;omega
theorem AQ{w m:Nat}(h1:∀i j,(hd i j).length<=m)(h2:∀i,(ls i).length<=m):∀(js:List Nat) (i:Nat),(tlG hd ls i js).length<=m*(js.length+1)
 | [],i=>by show (ls i).length<=m*1;rw [Nat.mul_one];exact h2 i
 | j::r,i=>by
  have:=AQ h1 h2 (w:=w) r j;have:=h1 i j;show (hd i j++_).length<=m*(r.length+1+1);rw [length_append,mul_succ];omega
noncomputable def lf(m:Nat):List Nat:=(e_ 12).filter m.testBit
def rE{m:Nat}(hm:m<2^n)(h:m.testBit i=true):i<n:=by
 rcases ML i n with h2|h2
 .exact h2
 .rw [Og (w_ hm (My (n:=2) (by decide) h2))] at h;cases h
def iB{m:Nat}(hm:m<4096):j∈lf m ↔ m.testBit j=true:=by
 unfold lf;rw [mem_filter,mem_range];exact⟨λh=>h.2,λh=>⟨rE (n:=12) hm h,h⟩⟩
def rF{m:Nat}(hm:m<4096)(h:m.testBit i=true):2^i<=m/\∀j,(m - 2^i).testBit j=(m.testBit j && decide (j≠i)):=by
 have ge:∀s:Nat,s.testBit i=true->2^i<=s:=λs hs=>by
  rcases ML s (2^i) with z|z
  .rw [Og z] at hs;cases hs
  .exact z
 refine⟨ge m h,λj=>?_⟩;obtain⟨q,s,hs,e⟩:∃q s,s<2^(i+1)/\m=2^(i+1)*q+s:=⟨m / 2^(i+1),m % 2^(i+1),mod_lt _ (pow_pos (by decide)),(div_add_mod m (2^(i+1))).symm⟩
 subst e
 have hsb:s.testBit i=true:=by
  rw [Nz _ hs,if_pos (by omega)] at h;exact h
 have h1:=ge s hsb;obtain⟨r,rfl⟩:∃r,s=2^i+r:=⟨s - 2^i,by omega⟩
 have hp:2^(i+1)=2^i+2^i:=by rw [pow_succ];omega
 have hr:r<2^i:=by omega
 rw [show 2^(i+1)*q+(2^i+r) - 2^i=2^(i+1)*q+r by omega,Nz _ (show r<2^(i+1) by omega),Nz _ hs]
 by_cases c:j<i+1
 .rw [if_pos c,if_pos c]
  rcases ML j i with z|z
  .rw [testBit_two_pow_add_gt z];simp;omega
  .have:j=i:=by omega
   subst this;rw [Og hr];simp
 .rw [if_neg c,if_neg c];simp;omega
noncomputable def fO(n:Nat):List (List (Nat×Nat)):=(e_ (2^n)).map λm=>(lf m).map λi=>(i,m - 2^i)
def i4{m:Nat}(h:m<2^n):(fO n).getD m []=(lf m).map λi=>(i,m - 2^i):=by
 unfold fO;rw [cy,h_,LQ h];rfl
def rG{m:Nat}(hn:n<=12){p:Nat×Nat}(h:p∈(fO n).getD m []):m<2^n/\p.1<n/\p.2<m/\m.testBit p.1=true/\p.2=m - 2^p.1:=by
 by_cases c:m<2^n
 .rw [i4 c] at h;obtain⟨i,hi,rfl⟩:=LJ.mp h;have h12:m<4096:=w_ c (My (n:=2) (by decide) hn);have hb:=(iB h12).mp hi;have:=(rF h12 hb).1;have h0:0<2^i:=pow_pos (by decide);exact⟨c,rE c hb,by show m - 2^i<m;omega,hb,rfl⟩
 .rw [cy,v_ (by unfold fO;rw [length_map,tj];omega)] at h;cases h
theorem rH(hn:n<=12):∀(js:List Nat) (m:Nat),m<2^n->(Way (fO n) m js ↔ js.Nodup/\∀i,i∈js ↔ m.testBit i=true)
 | [],m,hm=>by
  have h12:m<4096:=w_ hm (My (n:=2) (by decide) hn)
  constructor
  .rintro (h|_);rw [i4 hm] at h;have h:=Nb.mp h;exact⟨nodup_nil,λi=>⟨λz=>(not_mem_nil z).elim,λz=>by rw [<- iB h12,h] at z;cases z⟩⟩
  .rintro⟨_,h⟩;refine .nil ?_;rw [i4 hm,Nb];exact eq_nil_iff_forall_not_mem.mpr λi hi=>nomatch (h i).mpr ((iB h12).mp hi)
 | j::r,m,hm=>by
  have h12:m<4096:=w_ hm (My (n:=2) (by decide) hn)
  constructor
  .intro h
   cases h with
   | @cons _ _ r' _ hc hw =>
    obtain⟨_,c2,c3,c4,c5⟩:=rG hn hc;have c4:m.testBit j=true:=c4;have c5:r'=m - 2^j:=c5;subst c5;obtain⟨nd,hi⟩:=(rH hn r _ (lt_trans c3 hm)).mp hw;have hb:=(rF h12 c4).2
    refine⟨NM.mpr ⟨λz=>?_,nd⟩,λi=>?_⟩
    .have:=(hi j).mp z;rw [hb,decide_eq_false (λz=>z rfl),O0] at this;cases this
    .rw [A_,hi,hb]
     by_cases e:i=j
     .subst e;simp [c4]
     .simp [e]
  .rintro⟨nd,hi⟩;have c4:=(hi j).mp mem_cons_self;obtain⟨c1,hb⟩:=rF h12 c4;obtain⟨nj,nd⟩:=NM.mp nd
   refine .cons (r:=m - 2^j) ?_ ((rH hn r _ (lt_of_le_of_lt (sub_le _ _) hm)).mpr ⟨nd,λi=>?_⟩)
   .rw [i4 hm];exact LJ.mpr ⟨j,(iB h12).mpr c4,rfl⟩
   .rw [hb,and_eq_true,decide_eq_true_eq,<- hi,A_];refine⟨λh=>⟨.inr h,λe=>nj (e ▸ h)⟩,λh=>h.1.elim (λe=>absurd e h.2) id⟩
def Ck(hn:n<=12):Way (fO n) (2^n - 1) js ↔ js.Perm (e_ n):=by
 have h0:0<2^n:=pow_pos (by decide);rw [rH hn js _ (by omega)]
 constructor
 .rintro⟨nd,h⟩;refine (perm_ext_iff_of_nodup nd NU).mpr λi=>?_;rw [h,testBit_two_pow_sub_one,mem_range,decide_eq_true_eq]
 .intro h;refine⟨h.nodup_iff.mpr NU,λi=>?_⟩;rw [h.mem_iff,testBit_two_pow_sub_one,mem_range,decide_eq_true_eq]
noncomputable def tBL(K:b_)(t:TE):TT:=λσ H Q=>t σ H λx H1=>∃k,IF K x H1 k/\Q k H1
variable {a:Expr}
def Fi(K:b_)(e:X.K=K)(ha:PE X a ta)(he:∀whole,isTrue a X.env whole=(do let v <- whole;standAt a.pos;holding [v] (truthy v)):=by intro _;rfl):PT X a (tBL K ta):=by
 subst e;exact Br ha he
noncomputable def pBL(pe:PTE):PTT:=λρ Q=>pe ρ λp ρ1=>match p.d with
 | .lst ds=>Q (!ds.isEmpty) ρ1
 | .tup ds=>Q (!ds.isEmpty) ρ1
 | _=>False
variable {xs:List V}{ds:List D}
def FVs.emp(h:FVs K O H xs ds):(!xs.isEmpty)=!ds.isEmpty:=by cases h <;> rfl
def J7(h:LE K ta pe):LT K (tBL K ta) (pBL pe):=λA ρ σ H Q Q' R q k=>h A ρ σ H _ _ R q λv H1 p ρ1 q1 f1 o1=>by
 obtain⟨R1,f⟩:=o1.frz
 split at q1
 .rename_i ds e;rw [e] at f
  cases f with
  | lst na ea fa=>exact⟨!ds.isEmpty,.inl ⟨_,SqL.of ea,fa.emp.symm⟩,k _ H1 ρ1 q1 f1 R1⟩
 .rename_i ds e;rw [e] at f
  cases f with
  | tup na ea fa=>exact⟨!ds.isEmpty,.inr (.inl ⟨_,SqT.of ea,fa.emp.symm⟩),k _ H1 ρ1 q1 f1 R1⟩
 .exact q1.elim
noncomputable def K0(K:b_)(ta tb:TE):TE:=λσ H Q=>ta σ H λx H1=>∃k,IF K x H1 k/\if k=true then Q x H1 else tb σ H1 Q
variable {b:Expr}{rest:List Expr}
def Ig(K:b_)(e:X.K=K)(ha:PE X a ta)(hb:PE X (.BoolOp .Or (b::rest) pos) tb):PE X (.BoolOp .Or (a::b::rest) pos) (K0 K ta tb):=by
 subst e;intro pins s σ H Q I h;refine BoolOp_or (thn (ha pins s σ H _ I h) λv s1 ⟨x,H1,I1,r1,q1⟩=>?_);obtain⟨k,hk,q1⟩:=q1;refine thn (CD pins s1 σ H1 x v (λk' H'=>k'=k/\H'=H1) I1 r1 ⟨k,hk,rfl,rfl⟩) λc s2 z=>?_;obtain⟨H2,I2,z1,z2⟩:=z;subst z1 z2
 cases c with
 | false=>exact hb pins s2 σ _ Q I2 q1
 | true=>exact⟨x,_,I2,r1,q1⟩
noncomputable def Ls(a b:PTE):PTE:=λρ Q=>a ρ λp ρ1=>match p.d with
 | .lst ds=>io (!ds.isEmpty) (Q p ρ1) (b ρ1 Q)
 | .tup ds=>io (!ds.isEmpty) (Q p ρ1) (b ρ1 Q)
 | _=>False
variable {pe':PTE}
def Ih(ha:LE K ta pe)(hb:LE K tb pe'):LE K (K0 K ta tb) (Ls pe pe'):=λA ρ σ H Q Q' R q k=>ha A ρ σ H _ _ R q λv H1 p ρ1 q1 f1 o1=>by
 obtain⟨R1,f⟩:=o1.frz
 have fin:∀c:Bool,io c (Q p ρ1) (pe' ρ1 Q)->(if c=true then Q' v H1 else tb σ H1 Q'):=λc z=>by
  cases c with
  | false=>exact hb A ρ1 σ H1 _ _ R1 z λb H2 p2 ρ2 q2 f2 o2=>k b H2 p2 ρ2 q2 (f1.trans f2) (o2.h0 λb z=>f1.dm b z)
  | true=>exact k _ H1 _ ρ1 z f1 o1
 split at q1
 .rename_i ds e;rw [e] at f
  cases f with
  | lst na ea fa=>exact⟨!ds.isEmpty,.inl ⟨_,SqL.of ea,fa.emp.symm⟩,fin _ q1⟩
 .rename_i ds e;rw [e] at f
  cases f with
  | tup na ea fa=>exact⟨!ds.isEmpty,.inr (.inl ⟨_,SqT.of ea,fa.emp.symm⟩),fin _ q1⟩
 .exact q1.elim
noncomputable def fZ(a b:List Nat):Bool:=qf a b || qf a.reverse b
def fC{a b:List Nat}:fZ a b=true ↔ a <:+: b\/a.reverse <:+: b:=by
 unfold fZ;rw [or_eq_true,tO,tO]
def AR(a:List Nat):fZ a a=true:=fC.mpr (.inl (infix_refl _))
def lg{a b c:List Nat}(h1:fZ a b=true)(h2:fZ b c=true):fZ a c=true:=by
 rw [fC] at h1 h2 ⊢
 rcases h1 with h1|h1 <;> rcases h2 with h2|h2
 .exact .inl (h1.trans h2)
 .exact .inr ((MU.mpr h1).trans h2)
 .exact .inr (h1.trans h2)
 .refine .inl (List.IsInfix.trans ?_ h2);have:=MU.mpr h1
  rwa [reverse_reverse] at this
noncomputable def jb(ps:List (List Nat))(i:Nat):Bool:=decide (pw ps i∈ps.take i) || decide ((pw ps i).reverse∈ps.take i)
noncomputable def f8(ps:List (List Nat))(i:Nat):Bool:=!jb ps i && !(ps.filter λo=>decide ((pw ps i).length<o.length)).any λo=>fZ (pw ps i) o
variable {ps:List (List Nat)}
def dW:f8 ps i=true ↔ jb ps i=false/\∀o∈ps,(pw ps i).length<o.length->fZ (pw ps i) o=false:=by
 unfold f8;rw [and_eq_true,Bool.not_eq_true',Bool.not_eq_true',any_eq_false]
 constructor
 .rintro⟨h1,h2⟩;refine⟨h1,λo ho hl=>?_⟩;have:=h2 o (mem_filter.mpr ⟨ho,decide_eq_true hl⟩);simpa using this
 .rintro⟨h1,h2⟩;refine⟨h1,λo ho=>?_⟩;obtain⟨m1,m2⟩:=mem_filter.mp ho;rw [h2 o m1 (of_decide_eq_true m2)];decide
def vh{w:List Nat}(hi:i<ps.length)(h:w∈ps.take i):∃i',i'<i/\pw ps i'=w:=by
 obtain⟨i',hi'⟩:=mem_iff_getElem?.mp h
 have hlt:i'<i:=by
  have:=(i_.mp hi').1;rw [length_take] at this;omega
 refine⟨i',hlt,?_⟩;rw [getElem?_take,if_pos hlt] at hi';have:=cj (ws:=ps) (k:=i') (by omega);rw [hi'] at this;exact (q_ this).symm
def qk(hw:∀w∈ps,w.length<=60):∀(m i:Nat),i<ps.length->(61 - (pw ps i).length)*(ps.length+1)+i<=m->∃j,j<ps.length/\f8 ps j=true/\fZ (pw ps i) (pw ps j)=true:=by
 intro m
 induction m with
 | zero =>
  intro i hi h;have hl:=hw _ (Eo (cj hi));have:0<(61 - (pw ps i).length)*(ps.length+1):=mul_pos (by omega) (by omega);omega
 | succ m ih =>
  intro i hi h;have hl:=hw _ (Eo (cj hi))
  by_cases hk:f8 ps i=true
  .exact⟨i,hi,hk,AR _⟩
  .cases h1:jb ps i with
   | true =>
    unfold jb at h1;rw [or_eq_true,decide_eq_true_eq,decide_eq_true_eq] at h1
    rcases h1 with h1|h1
    .obtain⟨i',hlt,he⟩:=vh hi h1;obtain⟨j,a1,a2,a3⟩:=ih i' (by omega) (by rw [he];omega);exact⟨j,a1,a2,by rw [<- he];exact a3⟩
    .obtain⟨i',hlt,he⟩:=vh hi h1;obtain⟨j,a1,a2,a3⟩:=ih i' (by omega) (by rw [he,LD];omega);rw [he] at a3;exact⟨j,a1,a2,lg (fC.mpr (.inr (infix_refl _))) a3⟩
   | false =>
    have h2:∃o∈ps,(pw ps i).length<o.length/\fZ (pw ps i) o=true:=by
     apply Classical.byContradiction;intro z;refine hk (dW.mpr ⟨h1,λo ho hlo=>?_⟩)
     cases hs:fZ (pw ps i) o with
     | false=>rfl
     | true=>exact absurd ⟨o,ho,hlo,hs⟩ z
    obtain⟨o,ho,hlo,hs⟩:=h2;obtain⟨i',hi'⟩:=mem_iff_getElem?.mp ho;have hlt:i'<ps.length:=(i_.mp hi').1
    have he:pw ps i'=o:=by
     have:=cj hlt;rw [hi'] at this;exact (q_ this).symm
    have hm:(61 - o.length+1)*(ps.length+1)<=(61 - (pw ps i).length)*(ps.length+1):=mul_le_mul_right _ (by have:=hw o ho;omega);rw [add_mul,Nat.one_mul] at hm;obtain⟨j,a1,a2,a3⟩:=ih i' hlt (by rw [he];omega);rw [he] at a3;exact⟨j,a1,a2,lg hs a3⟩
noncomputable def aE(ps:List (List Nat)):List Nat:=(e_ ps.length).filter (f8 ps)
noncomputable def AS(ps:List (List Nat)):List Nat:=(e_ ps.length).filter λi=>!decide (i∈aE ps)
noncomputable def ag(ps:List (List Nat)):List (List Nat):=(aE ps).map (pw ps)
def c6(h:i∈aE ps):i<ps.length:=mem_range.mp (mem_filter.mp h).1
def jB(ps:List (List Nat)):(aE ps).length<=ps.length:=s_ (Nf ..) (by rw [tj];omega)
def dn{m:Nat}(h:Pcs m ps):Pcs m (ag ps):=λw hw=>by
 obtain⟨i,hi,rfl⟩:=LJ.mp hw;exact h _ (bC (c6 hi))
def f9(ps:List (List Nat)):(ag ps).length<=ps.length:=by unfold ag;rw [length_map];exact jB ps
noncomputable def kr(ps:List (List Nat))(i:Nat):List Nat:=(aE ps).filter λj=>fZ (pw ps i) (pw ps j)
noncomputable def nO(ps:List (List Nat))(i:Nat):Nat:=(kr ps i).headD 0
def yi{m:Nat}(hm:m∈kr ps i)(hle:∀a∈kr ps i,m<=a):nO ps i=m:=Ca (((On).filter _).filter _) hm hle
def vk(hw:∀w∈ps,w.length<=60)(hi:i<ps.length):∃j,j∈kr ps i:=by
 obtain⟨j,h1,h2,h3⟩:=qk hw _ i hi (gV _);exact⟨j,mem_filter.mpr ⟨mem_filter.mpr ⟨mem_range.mpr h1,h2⟩,h3⟩⟩
noncomputable def J8(ps:List (List Nat))(i:Nat):Nat:=if qf (pw ps i) (pw ps (nO ps i))=true then 0 else 1
noncomputable def trn(w:List Nat)(k:Nat):List Nat:=if k=1 then w.reverse else w
noncomputable def i5(ps:List (List Nat))(i:Nat):D:=.tup [.int (i:Int),.int (nO ps i:Int),.int (fnd (pw ps (nO ps i)) (trn (pw ps i) (J8 ps i)) 0),.int (J8 ps i:Int)]
noncomputable def am(ws:List (List Nat)):List (List Nat):=ws.flatMap λw=>[w,w.reverse]
noncomputable def xv(ps:List (List Nat)):Int:=((ag ps).map λw=>(w.length:Int)).sum
noncomputable def kt:List Str:=["pieces","kept","words","left","states","laps","total"]
noncomputable def ku(ps:List (List Nat)):List D:=[.tup (ps.map .str),.tup ((aE ps).map nD),.tup ((ag ps).map .str),.tup ((AS ps).map (i5 ps)),.tup ((am (ag ps)).map .str),tI (am (ag ps)),.int (xv ps)]
theorem bB:∀ws:List (List Nat),(am ws).length=2*ws.length
 | []=>rfl
 | w::r=>by
  have:=bB r;unfold am at this ⊢;rw [flatMap_cons,length_append,this,length_cons];show 2+_=2*(r.length+1);omega
def nP(u v:List (List Nat)):am (u++v)=am u++am v:=by unfold am;rw [flatMap_append]
def vm{s:List Nat}(h:s∈am ws):∃w∈ws,s=w\/s=w.reverse:=by
 obtain⟨w,hw,h⟩:=mem_flatMap.mp h;refine⟨w,hw,?_⟩;simpa using h
theorem nQ:∀{ws:List (List Nat)}{i:Nat},i<ws.length->(am ws)[2*i]?=some (pw ws i)/\(am ws)[2*i+1]?=some (pw ws i).reverse
 | [],_,h=>absurd h (Ny _)
 | w::r,0,_=>⟨rfl,rfl⟩
 | w::r,i+1,h=>by
  obtain⟨a,b⟩:=nQ (ws:=r) (i:=i) (by simpa using h);have e:am (w::r)=[w,w.reverse]++am r:=by unfold am;rw [flatMap_cons]
  have p:pw (w::r) (i+1)=pw r i:=rfl;rw [e,p]
  constructor
  .rw [Mf (by show 2<=_;omega)];show (am r)[2*(i+1) - 2]?=_;rw [show 2*(i+1) - 2=2*i by omega];exact a
  .rw [Mf (by show 2<=_;omega)];show (am r)[2*(i+1)+1 - 2]?=_;rw [show 2*(i+1)+1 - 2=2*i+1 by omega];exact b
def cU{m:Nat}(h:Pcs m ws):Pcs m (am ws):=λs hs=>by
 obtain⟨w,hw,e⟩:=vm hs;have g:=h w hw
 rcases e with rfl|rfl
 .exact g
 .exact⟨by rw [LD];exact g.1,by rw [LD];exact g.2.1,λc hc=>g.2.2 c (mem_reverse.mp hc)⟩
noncomputable def XI(K:b_)(G:Addr)(nm:String)(C:Addr):Prop:=we K mainGlobals nm=some (some (.ref C))/\(∃(q:Str) (N:Addr) (bs sub:List Value) (sn:List Str) (ab:Bool) (col:Option Bool) (k0 k1 k2 k3 k5:Option Value),K.lookup C=some (excClassObj nm q C N bs (.ref G::[.type "ValueError",.type "Exception",.type "BaseException",.type "object"]) true sn sub ab col none k0 k1 k2 k3 k5 "ValueError.__new__")) /\
 pf K (.ref C) "__getattribute__"=some (some (.builtin "BaseException.__getattribute__"))/\pf K (.ref C) "__getattr__"=some none/\pf K (.ref C) "__setattr__"=some (some (.builtin "object.__setattr__"))/\pf K (.ref C) "__class__"=some (some (.builtin "object.__class__"))/\D_ K (.ref C)=true
variable {C:Addr}
def J9{G:Addr}{nm:String}{q:Str}{N:Addr}{bs sub:List Value}{sn:List Str}{ab:Bool}{col:Option Bool}{k0 k1 k2 k3 k5:Option Value}(a:we K mainGlobals nm=some (some (.ref C)))(l:K.lookup C=some (excClassObj nm q C N bs (.ref G::[.type "ValueError",.type "Exception",.type "BaseException",.type "object"]) true sn sub ab col none k0 k1 k2 k3 k5 "ValueError.__new__"))(g:pf K (.ref C) "__getattribute__"=some (some (.builtin "BaseException.__getattribute__")))(h:pf K (.ref C) "__getattr__"=some none)(s:pf K (.ref C) "__setattr__"=some (some (.builtin "object.__setattr__")))(c:pf K (.ref C) "__class__"=some (some (.builtin "object.__class__")))(k:D_ K (.ref C)=true):XI K G nm C :=
 ⟨a,⟨_,_,_,_,_,_,_,_,_,_,_,_,l⟩,g,h,s,c,k⟩
noncomputable def XJ(K:b_)(C:Addr)(qn at_:String)(st:Stmt):Prop:=∃(fx:Addr) (oc kV dc pm cd ct:Value) (od an:Option Addr) (sl:Array (Option Value)),pf K (.ref C) "__init__"=some (some (.ref fx))/\OZ K (.ref fx)=some (.type "function")/\K.lookup fx=some ⟨oc,od,.func (F_ "__init__" qn (bV st) (bn st) (ah st) .none kV dc pm an cd ct),sl⟩/\LN K cd qn=true/\D_ K (.ref fx)=true/\pf K (.ref C) at_=some none
def Ka{qn at_:String}{fx:Addr}{kV dc cd:Value}{sl:Array (Option Value)}(i:pf K (.ref C) "__init__"=some (some (.ref fx)))(t:OZ K (.ref fx)=some (.type "function"))(l:K.lookup fx=some ⟨oc,od,.func (F_ "__init__" qn (bV st) (bn st) (ah st) .none kV dc pm an cd ct),sl⟩)(c:LN K cd qn=true)(k:D_ K (.ref fx)=true)(n:pf K (.ref C) at_=some none):XJ K C qn at_ st :=
 ⟨_,_,_,_,_,_,_,_,_,_,i,t,l,c,k,n⟩
section
open PySem.AutoSeq1 (wpAny_loadPart')
open PySem.MeetsSeq PySem.MeetsSeq2 PySem.MeetsSeq3
end
def fR.m(r:fR k A)(h:Pa j k=true):fR j A:=r.mono (Oo h)
section
variable {x:Str}{ps:List Str}
abbrev Cm(x:Str)(st:Stmt)(ps:List Str):Prop:=∀(kV doc pm:Value) (an:Option Addr) (cdv ct:Value) (us:List Value),us.length=ps.length->bindArgs (F_ x x (bV st) (bn st) (ah st) .none kV doc pm an cdv ct) ⟨us,[]⟩=pure (ps.zip us)
variable {P:t_}{base:Heap}{N:List Str}
def aX.oP{c:FN}{pp:PTS}(D:aX K mg x st)(S:aw N ps (ah st))(hb:Cm x st ps)(ln:∀ds Q,c ds Q->ds.length=n)(h1:n=ps.length)(h2:Pa n N.length=true)(rd:∀ds Q,c ds Q->IQ pp N.length ds Q)(hbody:∀(f:Addr) (cdv:Value) (A:C0) (outer:List Env) (s:c_) (H:Hp) (E:XK),fR k (A.deeper (envOfC x (ah st) s.heap.objs.size f cdv))->(A.deeper (envOfC x (ah st) s.heap.objs.size f cdv)).units+64<cLine ->
   ∃t,PSs (wO CX0 P w K mg base N x (ah st) f cdv A outer s H E).nox (bn st) t/\LS K [] t pp):Cal P w K mg base (k+1) x ps (spP K c):=by
 refine D.ok S hb (λvs H Q E h=>(JP ln h).trans h1) λf cdv A outer s H vs Q E hr h=>?_;obtain⟨t,h3,h4⟩:=hbody f cdv A outer s H E hr hr.units;exact⟨t,h3,fnP h4 (λds Q h=>s_ (Oz (ln ds Q h)) (Oo h2)) rd h⟩
def aX.oR{c:FR}{pp:PTS}(D:aX K mg x st)(S:aw N ps (ah st))(hb:Cm x st ps)(ln:∀p ds Q,c p ds Q->ds.length+1=n)(h1:n=ps.length)(h2:Pa n N.length=true)(rd:∀p ds Q,p.isOwn=true->c p ds Q->JQ pp N.length p ds Q)(hbody:∀(f:Addr) (cdv:Value) (A:C0) (outer:List Env) (s:c_) (H:Hp) (E:XK),fR k (A.deeper (envOfC x (ah st) s.heap.objs.size f cdv))->(A.deeper (envOfC x (ah st) s.heap.objs.size f cdv)).units+64<cLine ->
   ∃t,PSs (wO CX0 P w K mg base N x (ah st) f cdv A outer s H E).nox (bn st) t/\LS K [0] t pp):Cal P w K mg base (k+1) x ps (spR K c):=by
 refine D.ok S hb (λvs H Q E h=>(KQ ln h).trans h1) λf cdv A outer s H vs Q E hr h=>?_;obtain⟨t,h3,h4⟩:=hbody f cdv A outer s H E hr hr.units;exact⟨t,h3,fnR h4 (λp ds Q h=>s_ (Oz (ln p ds Q h)) (Oo h2)) rd h⟩
end
noncomputable def psO{fs:List Nat}{A:b_->(Str->Option Value)->Prop}{ts:b_->(Str->Option Value)->TS}{ps:PTS}(_:∀K mg,A K mg->LS K fs (ts K mg) ps):PTS:=ps
noncomputable def cN(p:Prop):List D->Prop|[]=>p|_=>False
noncomputable def cD(f:D->List D->Prop):List D->Prop|d::r=>f d r|_=>False
noncomputable def cS(f:List Nat->List D->Prop):List D->Prop|.str t::r=>f t r|_=>False
noncomputable def cI(f:Int->List D->Prop):List D->Prop|.int t::r=>f t r|_=>False
noncomputable def cL(f:List D->List D->Prop):List D->Prop|.lst t::r=>f t r|_=>False
noncomputable def cT(f:List D->List D->Prop):List D->Prop|.tup t::r=>f t r|_=>False
noncomputable def cR(f:List Int->List D->Prop):List D->Prop|.scr t::r=>f t r|_=>False
noncomputable def cO(f:Str->List Str->List D->List D->Prop):List D->Prop|.obj c ns fs::r=>f c ns fs r|_=>False
noncomputable def oL(f:List D->Prop):PV->Prop|.own ds=>f ds|_=>False
def Kb{l:List α}(h:l.length=1):∃a,l=[a]:=match l,h with|[a],_=>⟨a,rfl⟩
def Ii{l:List α}(h:l.length=2):∃a b,l=[a,b]:=match l,h with|[a,b],_=>⟨a,b,rfl⟩
def Kc{l:List α}(h:l.length=3):∃a b c,l=[a,b,c]:=match l,h with|[a,b,c],_=>⟨a,b,c,rfl⟩
noncomputable def oI(c:Str)(f:Prop):PV->Prop|.ins c' ns ds=>c'=c/\ns=[]/\ds=[]/\f|_=>False
section
variable {P:List D->Prop}
@[elab_as_elim] theorem cC {p:Prop}(h:cN p ds)(k:p->P []):P ds:=match ds,h with|[],h=>k h
@[elab_as_elim] theorem AT {f:D->List D->Prop}(h:cD f ds)(k:∀d r,f d r->P (d::r)):P ds:=match ds,h with|d::r,h=>k d r h
@[elab_as_elim] theorem mR {f:List Nat->List D->Prop}(h:cS f ds)(k:∀t r,f t r->P (.str t::r)):P ds:=match ds,h with|.str t::r,h=>k t r h
@[elab_as_elim] theorem fb {f:Int->List D->Prop}(h:cI f ds)(k:∀t r,f t r->P (.int t::r)):P ds:=match ds,h with|.int t::r,h=>k t r h
@[elab_as_elim] theorem vn {f:List D->List D->Prop}(h:cL f ds)(k:∀t r,f t r->P (.lst t::r)):P ds:=match ds,h with|.lst t::r,h=>k t r h
@[elab_as_elim] theorem vo {f:List D->List D->Prop}(h:cT f ds)(k:∀t r,f t r->P (.tup t::r)):P ds:=match ds,h with|.tup t::r,h=>k t r h
@[elab_as_elim] theorem Lu {f:List Int->List D->Prop}(h:cR f ds)(k:∀t r,f t r->P (.scr t::r)):P ds:=match ds,h with|.scr t::r,h=>k t r h
@[elab_as_elim] theorem Dp {f:Str->List Str->List D->List D->Prop}(h:cO f ds)(k:∀c ns fs r,f c ns fs r->P (.obj c ns fs::r)):P ds:=match ds,h with|.obj c ns fs::r,h=>k c ns fs r h
@[elab_as_elim] theorem Bl {P:PV->Prop}{p:PV}{f:List D->Prop}(h:oL f p)(k:∀es,f es->P (.own es)):P p:=match p,h with|.own es,h=>k es h
@[elab_as_elim] theorem Lv {P:PV->Prop}{p:PV}{c:Str}{f:Prop}(h:oI c f p)(k:f->P (.ins c [] [])):P p:=match p,h with|.ins _ _ _,⟨e1,e2,e3,hf⟩=>by subst e1 e2 e3;exact k hf
end
abbrev PRl(c:FN)(pp:PTS)(m n:Nat):Prop:=∀ds Q,c ds Q->ds.length=n/\IQ pp m ds Q
abbrev RRl(c:FR)(pp:PTS)(m n:Nat):Prop:=∀p ds Q,c p ds Q->ds.length+1=n/\JQ pp m p ds Q
section
variable {P:t_}{base:Heap}{x:Str}{N ps:List Str}
def aX.oP2{c:FN}{pp:PTS}(D:aX K mg x st)(S:aw N ps (ah st))(hb:Cm x st ps)(rl:PRl c pp N.length n)(h1:n=ps.length)(h2:Pa n N.length=true)(hbody:∀(f:Addr) (cdv:Value) (A:C0) (outer:List Env) (s:c_) (H:Hp) (E:XK),fR k (A.deeper (envOfC x (ah st) s.heap.objs.size f cdv))->(A.deeper (envOfC x (ah st) s.heap.objs.size f cdv)).units+64<cLine ->
   ∃t,PSs (wO CX0 P w K mg base N x (ah st) f cdv A outer s H E).nox (bn st) t/\LS K [] t pp):Cal P w K mg base (k+1) x ps (spP K c):=D.oP S hb (λds Q h=>(rl ds Q h).1) h1 h2 (λds Q h=>(rl ds Q h).2) hbody
def aX.oR2{c:FR}{pp:PTS}(D:aX K mg x st)(S:aw N ps (ah st))(hb:Cm x st ps)(rl:RRl c pp N.length n)(h1:n=ps.length)(h2:Pa n N.length=true)(hbody:∀(f:Addr) (cdv:Value) (A:C0) (outer:List Env) (s:c_) (H:Hp) (E:XK),fR k (A.deeper (envOfC x (ah st) s.heap.objs.size f cdv))->(A.deeper (envOfC x (ah st) s.heap.objs.size f cdv)).units+64<cLine ->
   ∃t,PSs (wO CX0 P w K mg base N x (ah st) f cdv A outer s H E).nox (bn st) t/\LS K [0] t pp):Cal P w K mg base (k+1) x ps (spR K c):=D.oR S hb (λp ds Q h=>(rl p ds Q h).1) h1 h2 (λp ds Q _ h=>(rl p ds Q h).2) hbody
end
theorem Ij:∀xs ys:List Int,HT.lexLt xs ys=lxB xs ys
 | [],[]=>rfl
 | [],_::_=>rfl
 | _::_,[]=>rfl
 | x::xs,y::ys=>by
  rw [HT.lexLt_cons];show _=if x=y then lxB xs ys else decide (x<y)
  rw [Ij xs ys]
abbrev yO(h0 h:Heap):Prop:=∀b o,h0.get? b=some o->h.get? b=some o
section
def mwn:(toString "min"++toString ".loop":String)="min.loop":=by decide
variable {P:t_}{R:Result->c_->Prop}{I:Addr}{fp wr:List Addr}{Pv:Nat->Value->Prop}{St:Nat->Heap->Prop}{h0:Heap}
theorem vp{kw:List (Str×Value)}(W:Walks P w A.in1 I fp wr n Pv St)(bt:Nat->Nat->Bool)(hcmp:∀i j vi vj (y:c_) (Q:Value->c_->Prop) (E:Value->c_->Prop),yO h0 y.heap->Pv i vi->Pv j vj->Q (.bool (bt i j)) y->wpAny (model P w) A.in1 (richCompare .Lt vi vj) Q E y)(B:Addr)(hB:B∉fp)(nB:∀b o,h0.get? b=some o->b≠B)(nw:∀b o,h0.get? b=some o->b∉wr):∀(k j:Nat) (z:c_) (vb:Value) (c:Nat),n=j+1+k->St (j+1) z.heap->yO h0 z.heap->Pv (argBest bt j) vb ->
  z.heap.get? B=some { cls:=.type "list",dict:=none,data:=.seq #[vb,vb] c,slots:=#[] } ->
  (∀v h' tk,Pv (argBest bt (n - 1)) v->yO h0 h'->R (.ok (.ret v)) { z with heap:=h',toks:=tk }) ->
  codeAny (model P w) A (.builtin "min.loop" ⟨[.ref I,.none,.ref B],kw⟩) R z
 | 0,j,z,vb,c,hn,st,hz,pb,hS,hR=>by
  refine Mr F.entry_min_loop ?_;rw [Mn F.plain_min_loop _];show wpAny _ A.in1 (seqItems? (.ref B) >>= _) _ _ z;refine cn (LB hS rfl ?_);show wpAny _ A.in1 (tryCatch (pyNext (.ref I)) _ >>= _) _ _ z;refine cn (Mb (W.done z _ _ (by rw [hn];exact st) λh' tk old=>?_));have hS':=old B _ (λq=>hB (W.sub _ q)) hS;show wpAny _ A.in1 (updateSeq B (λ_=>#[]) >>= _) _ _ _
  refine cn (M3 hS' rfl (cn (Mw (f_ ?_))));exact hR vb _ tk (by rw [hn];exact pb) λb o e=>(C_ _ _ (MW (nB b o e))).trans (old b o (nw b o e) (hz b o e))
 | k+1,j,z,vb,c,hn,st,hz,pb,hS,hR=>by
  refine Mr F.entry_min_loop ?_;rw [Mn F.plain_min_loop _];show wpAny _ A.in1 (seqItems? (.ref B) >>= _) _ _ z;refine cn (LB hS rfl ?_);show wpAny _ A.in1 (tryCatch (pyNext (.ref I)) _ >>= _) _ _ z;refine cn (Mb (W.item (j+1) z _ _ (by omega) st λv h' tk hv st' old=>?_));have hS':=old B _ (λq=>hB (W.sub _ q)) hS;have hz1:yO h0 h':=λb o e=>old b o (nw b o e) (hz b o e)
  show wpAny _ A.in1 (tryCatch (holding [v,v] (richCompare .Lt v vb >>= _)) _ >>= _) _ _ _;refine cn (Mb (I_ (cn (hcmp (j+1) (argBest bt j) v vb _ _ _ hz1 hv pb ?_))));refine cn (I_ (J_ ?_));refine cn (Mw (f_ ?_))
  cases hb:bt (j+1) (argBest bt j) with
  | true =>
   simp only [if_true];refine cn (M3 hS' rfl (cn (Mw ?_)));rw [mwn];exact f_ ⟨MT F.plain_min_loop _,vp W bt hcmp B hB nB nw k (j+1) _ v _ (by omega) (W.frame _ _ _ st' λb hb o e=>(C_ _ _ (λq:B=b=>hB (by rw [q];exact hb))).trans e) (λb o e=>(C_ _ _ (MW (nB b o e))).trans (hz1 b o e)) (by show Pv (if bt (j+1) (argBest bt j) then j+1 else argBest bt j) v;rw [hb];exact hv) (Mg _ hS' rfl) λv' h2 t2 p2 o2=>hR v' h2 t2 p2 o2⟩
  | false =>
   simp only [false_eq_true,if_false];refine cn (Mw ?_);rw [mwn];exact f_ ⟨MT F.plain_min_loop _,vp W bt hcmp B hB nB nw k (j+1) _ vb c (by omega) st' hz1 (by show Pv (if bt (j+1) (argBest bt j) then j+1 else argBest bt j) vb;rw [hb];exact pb) hS' λv' h2 t2 p2 o2=>hR v' h2 t2 p2 o2⟩
variable {d:Value}
def Cn(W:Walks P w A.in1 I fp wr n Pv St)(bt:Nat->Nat->Bool)(hcmp:∀i j vi vj (y:c_) (Q:Value->c_->Prop) (E:Value->c_->Prop),yO h0 y.heap->Pv i vi->Pv j vj->Q (.bool (bt i j)) y->wpAny (model P w) A.in1 (richCompare .Lt vi vj) Q E y)(B:Addr)(hB:B∉fp)(nB:∀b o,h0.get? b=some o->b≠B)(nw:∀b o,h0.get? b=some o->b∉wr){z:c_}{c:Nat}(st:St 0 z.heap)(hz:yO h0 z.heap)(hS:z.heap.get? B=some { cls:=.type "list",dict:=none,data:=.seq #[] c,slots:=#[] })(hR0:n=0->∀h' tk,yO h0 h'->R (.ok (.ret d)) { z with heap:=h',toks:=tk })(hR:0<n->∀v h' tk,Pv (argBest bt (n - 1)) v->yO h0 h'->R (.ok (.ret v)) { z with heap:=h',toks:=tk }):
  codeAny (model P w) A (.builtin "min.loop" ⟨[.ref I,.none,.ref B],dfl d⟩) R z:=by
 refine Mr F.entry_min_loop ?_;rw [Mn F.plain_min_loop _];show wpAny _ A.in1 (seqItems? (.ref B) >>= _) _ _ z;refine cn (LB hS rfl ?_);show wpAny _ A.in1 (tryCatch (pyNext (.ref I)) _ >>= _) _ _ z
 by_cases hn:n=0
 .refine cn (Mb (W.done z _ _ (by rw [hn];exact st) λh' tk old=>?_));show wpAny _ A.in1 (rule _ >>= _) _ _ _;refine cn (NO (f_ ?_));exact hR0 hn h' tk λb o e=>old b o (nw b o e) (hz b o e)
 .refine cn (Mb (W.item 0 z _ _ (by omega) st λv h' tk hv st' old=>?_));have hS':=old B _ (λq=>hB (W.sub _ q)) hS;show wpAny _ A.in1 (updateSeq B (λ_=>#[v,v]) >>= _) _ _ _;refine cn (M3 hS' rfl ?_);rw [mwn];exact f_ ⟨MT F.plain_min_loop _,vp W bt hcmp B hB nB nw (n - 1) 0 _ v _ (by omega) (W.frame _ _ _ st' λb hb o e=>(C_ _ _ (λq:B=b=>hB (by rw [q];exact hb))).trans e) (λb o e=>(C_ _ _ (MW (nB b o e))).trans (old b o (nw b o e) (hz b o e))) hv (Mg _ hS' rfl) λv' h2 t2 p2 o2=>hR (by omega) v' h2 t2 p2 o2⟩
end
def AU(a v:Value):argsOk "min" ⟨[a],dfl v⟩:=by unfold argsOk;kernel_rfl
def AW{P:t_}{z:c_}{l:Addr}{vs:Array Value}{d:Value}(hh:A.handled=none)(hl:z.heap.IsList l vs)(bt:Nat->Nat->Bool)(hcmp:∀i j vi vj (y:c_) (Q:Value->c_->Prop) (E:Value->c_->Prop),yO z.heap y.heap->vs[i]?=some vi->vs[j]?=some vj->Q (.bool (bt i j)) y->wpAny (model P w) A.in1 (richCompare .Lt vi vj) Q E y)(k0:vs.size=0->∀h' tk,yO z.heap h'->Q d { z with heap:=h',toks:=tk })(k:0<vs.size->∀v h' tk,vs[argBest bt (vs.size - 1)]?=some v->yO z.heap h'->Q v { z with heap:=h',toks:=tk }):
  wpAny (model P w) A (call (.builtin "min") [.ref l] (dfl d)) Q E z:=by
 refine kmk_tree F.kind_min F.plain_min F.entry_min (AU _ _) ?_;show wpAny _ A.in1 (Mv "min" ["key","default"] 0 ⟨[],dfl d⟩ >>= _) _ _ z;refine cn (O4 (show Mv "min" ["key","default"] 0 ⟨[],dfl d⟩=pure [none,some d] from rfl) ?_);refine cn (f_ ?_);refine cn (MK hl ?_);refine cn (LH ?_)
 rw [mwn];have hlt:l<z.heap.objs.size:=by obtain⟨_,e,_⟩:=hl;exact n_ e
 have e1:(z.heap.push { cls:=.type "list_iterator",data:=.fields #[.ref l,.int 0 0] }).objs.size=z.heap.objs.size+1:=Lz ..;have W:=Walks.list (prog:=P) (w:=w) (A:=A.in1) hh z.heap.objs.size l (H_ hlt) vs;have old:yO z.heap (z.heap.push { cls:=.type "list_iterator",data:=.fields #[.ref l,.int 0 0] }):=λb o e=>d_ _ e;have st0:(z.heap.push { cls:=.type "list_iterator",data:=.fields #[.ref l,.int 0 0] }).IsListIter z.heap.objs.size l 0:=⟨_,g_ _ rfl,rfl,rfl⟩
 have hl1:=hl.at λo e=>old l o e;show wpAny _ _ _ _ _ _;generalize z.heap.push { cls:=.type "list_iterator",data:=.fields #[.ref l,.int 0 0] }=h1 at e1 old st0 hl1
 refine f_ ⟨MT F.plain_min_loop _,Cn (h0:=z.heap) W bt hcmp h1.objs.size (λhm=>?_) (λb o e=>H_ (lt_trans (n_ e) (by omega))) (λb o e hm=>?_) (W.frame _ _ _ ⟨st0,hl1⟩ λb _ o e=>d_ _ e) (λb o e=>d_ _ (old b o e)) (g_ _ rfl) k0 k⟩
 .rcases A_.mp hm with q|q
  .exact absurd (e1.symm.trans q) (succ_ne_self _)
  .have q:=G_.mp q;exact absurd (q.symm ▸ hlt:h1.objs.size<z.heap.objs.size) (by rw [e1];exact not_lt.mpr (le_succ _))
 .have q:=G_.mp hm;exact absurd (n_ e) (by rw [q];exact K_ _)
noncomputable def Fj(K:b_)(x d:V)(H:Hp)(Q:VK):Prop:=∃(p:Addr) (prs:List (Addr×List Int)),x=.ref p/\SqL K H p (prs.map λpr=>V.ref pr.1)/\(∀pr∈prs,SqT K H pr.1 (pr.2.map V.int))/\(prs=[]->Q d H)/\∀pr∈prs,(∀q∈prs,lxB q.2 pr.2=false)->Q (.ref pr.1) H
noncomputable def Ik(K:b_)(te tf:TE):TE:=λσ H Q=>te σ H λx H1=>tf σ H1 λd H2=>Fj K x d H2 Q
def Il(K:b_)(e:X.K=K)(hc:X.calm=true)(hu:X.A.units+64<cLine){x d:V}{v:Value}{Q:VK}(I:Inv X pins σ H s)(rx:c9 x u)(rd:c9 d v)(h:Fj K x d H Q):
  wpAny (model X.prog X.w) X.A (call (.builtin "min") [u] (dfl v)) (EP X pins σ Q) X.xe s:=by
 subst e;obtain⟨p,prs,rfl,hS,ht,q0,q⟩:=h;cases (show u=l_ p from rx);obtain⟨its,rv,pl,hz⟩:=I.list hS;have hv:=Az rv;subst hv;have hsz:(prs.map λpr=>l_ pr.1).toArray.size=prs.length:=by rw [size_toArray,length_map]
 have at_:∀{i:Nat}{u:Value},(prs.map λpr=>l_ pr.1).toArray[i]?=some u->∃pr,prs[i]?=some pr/\u=.ref pr.1:=λ{i u} h=>by
  rw [getElem?_toArray,h_] at h
  cases g:prs[i]? with
  | none=>rw [g] at h;cases h
  | some pr=>rw [g] at h;cases h;exact⟨pr,rfl,rfl⟩
 have gd:∀{i:Nat}{pr:Addr×List Int},prs[i]?=some pr->i<(prs.map (·.2)).length/\(prs.map (·.2)).getD i []=pr.2:=λ{i pr} h=>by
  have hi:i<prs.length:=by
   by_cases c:i<prs.length
   .exact c
   .rw [v_ (by omega)] at h;cases h
  exact⟨by rw [length_map];exact hi,by rw [cy,h_,h];rfl⟩
 refine AW (by exact I.ok.hd hc) pl.isList (λi j=>decide (-(rkL (prs.map (·.2)) i:Int) > -(rkL (prs.map (·.2)) j:Int))) (λi j vi vj y Q E old hi hj z=>?_) (λh0 h' tk old=>?_) λh0 u h' tk hu old=>?_
 .obtain⟨pi,gi,rfl⟩:=at_ hi;obtain⟨pj,gj,rfl⟩:=at_ hj;obtain⟨ii,ei⟩:=gd gi;obtain⟨ij,ej⟩:=gd gj;obtain⟨is1,vs1,⟨o,e,c,n,d⟩,_⟩:=I.tuple (ht pi (Eo gi));obtain⟨is2,vs2,⟨o2,e2,c2,n2,d2⟩,_⟩:=I.tuple (ht pj (Eo gj));refine HT.lt_tupInts (s:=y) (A:=X.A.in1) ⟨o,old _ _ e,c,n,d⟩ ⟨o2,old _ _ e2,c2,n2,d2⟩ (cZ vs1) (cZ vs2) (lt_of_le_of_lt (add_le_add_left (by decide:1<=64) _) hu) ?_
  rw [Ij,<- ei,<- ej,xp ii ij];refine (congrArg (λb=>Q (.bool b) y) (decide_eq_decide.mpr ?_)).mpr z;constructor <;> intro h <;> omega
 .exact⟨d,H,I.kept (t':=tk) old,rd,q0 (eq_nil_of_length_eq_zero (by omega))⟩
 .obtain⟨pr,g,rfl⟩:=at_ hu;obtain⟨h1,h2⟩:=argBest_gt (λi=>-(rkL (prs.map (·.2)) i:Int)) ((prs.map λpr=>l_ pr.1).toArray.size - 1);obtain⟨ib,eb⟩:=gd g;refine⟨.ref pr.1,H,I.kept (t':=tk) old,rfl,q pr (Eo g) λr hr=>?_⟩;obtain⟨j,hj,ej⟩:=Mm hr;obtain⟨ij,e2⟩:=gd (cx hj);have:=h2 j (by omega);rw [<- ej,<- e2,<- eb,xp ij ib];exact decide_eq_false (by omega)
def Fk{f:Expr}{p kp:Pos}(K:b_)(eK:X.K=K)(hc:X.calm=true)(hu:X.A.units+64<cLine)(hg:Gl X "min")(hm:X.mg "min"=none)(ha:PA X [e] (ax te bU))(hf:PE X f tf)(hs:backTo pos (starEach [e] X.env)=(false,eval e X.env)::backTo pos (starEach [] X.env):=by rfl)(hpl:(backTo pos (starEach [e] X.env)).any (·.1)=false:=by rfl):
  PE X (.Call (.Name "min" p) [e] [⟨some (Mu "default"),f,kp⟩] pos) (Ik K te tf):=by
 intro pins s σ H Q I h;refine MD (jd I hg hm boot_min ?_);refine Ox (thn (ha pos pins s σ H (λvs H1=>match vs with|[x]=>tf σ H1 λd H2=>Fj K x d H2 Q|_=>False) I h) λus s1 ⟨vs,H1,I1,r1,q1⟩=>?_) hs hpl
 match vs,r1,q1 with
 | [x],r1,q1 =>
  obtain⟨u,rfl,ru⟩:=fJ r1;refine OV (thn (hf pins s1 σ H1 _ I1 q1) λv s2 ⟨d,H2,I2,rd,q2⟩=>O7 ?_);exact Il K eK hc hu I2 ru rd q2
noncomputable def Ke(pa:PA1)(pe:PTE):PTE:=λρ Q=>pa ρ λx ρ1=>pe ρ1 λp ρ2=>match cont ρ2 x,p with
 | some (.lst ds),.dat d=>∃rows:List (List Int),ds=rows.map tQ/\(rows=[]->Q (.dat d) ρ2)/\∀r∈rows,(∀q∈rows,lxB q r=false)->Q (.dat (tQ r)) ρ2
 | _,_=>False
def Fl(ha:LA1 K te pa)(he:LE K tf pe):LE K (Ik K te tf) (Ke pa pe):=λA ρ σ H Q Q' R q k =>
 ha A ρ σ H _ _ R q λv H1 a ρ1 q1 f1 R1 o1=>he A ρ1 σ H1 _ _ R1 q1 λu H2 p ρ2 q2 f2 o2=>by
  obtain⟨R2,fv⟩:=o2.frz
  split at q2
  .rename_i ds d e2;obtain⟨rows,rfl,q0,q2⟩:=q2;obtain⟨a1,xs1,rfl,g1,g2⟩:=(R2.cont (o1.keeps f2.keeps) e2).lst;obtain⟨prs,rfl,hr,hp⟩:=rB g2;refine⟨a1,prs,rfl,SqL.of g1,λpr h=>SqT.of (hp pr h).2,λe=>k _ H2 _ ρ2 (q0 (by rw [<- hr,e];rfl)) (f1.trans f2) ⟨R2,fv⟩,λpr h hm=>k _ H2 _ ρ2 (q2 pr.2 (by rw [<- hr];exact Ma h) λq hq=>?_) (f1.trans f2) ⟨R2,.tup (hp pr h).1 (hp pr h).2 (FVs.of_ints _)⟩⟩
   rw [<- hr] at hq;obtain⟨p',h',rfl⟩:=LJ.mp hq;exact hm p' h'
  .exact q2.elim
def aA(i:Nat):LA1 K (aJ i) (pSl i):=fM
def cJ(i:Nat):LE K (aJ i) (x4 i):=iu
def yP(i:Int):LE K (tC (.int i)) (pC (.int i)):=le_int
def aU(i:Nat):LA1 K (aJ i) (pFz (x4 i)):=ai iu
def bq(i:Int):LA1 K (tC (.int i)) (pFz (pC (.int i))):=ai le_int
def cp{fs:List Nat}(i:Nat)(hi:fs.contains i=false):LG K fs (aS i) (fu i):=zR hi
def aQ{fs:List Nat}(i:Nat)(hi:fs.contains i=false):LGd K fs (aS i) (fu i):=fA hi
end L2
namespace K52
open PySem PySem.Spec PyProof.Rows L2
noncomputable def top(i:Nat):Stmt:=PySem.Challenge.pw_shortglue_k52_whole_turned_pieces.main.body.getD i (.Pass ⟨0,0,0,0⟩)
abbrev rJ:Stmt:=top 8
abbrev jC:Stmt:=top 9
abbrev gF:Stmt:=top 10
abbrev iC:Stmt:=top 11
abbrev ee:Stmt:=top 12
abbrev nR:Stmt:=top 14
abbrev lh:Stmt:=top 16
abbrev ll:Stmt:=top 17
abbrev lm:Stmt:=top 18
abbrev jD:Stmt:=top 19
abbrev lp:Stmt:=top 20
abbrev eM:Stmt:=top 21
abbrev dG:Stmt:=top 24
abbrev Fm:Stmt:=top 26
abbrev lq:Stmt:=top 27
abbrev gb:Stmt:=top 32
abbrev lr:Stmt:=top 33
abbrev gG:Stmt:=top 34
abbrev fP:Stmt:=top 36
abbrev eO:Stmt:=top 37
abbrev lu:Stmt:=top 39
abbrev lv:Stmt:=top 40
abbrev gH:Stmt:=top 42
abbrev jF:Stmt:=top 43
abbrev rK:Stmt:=top 45
abbrev nS:Stmt:=top 46
abbrev dH:Stmt:=top 47
abbrev dr:Stmt:=top 48
abbrev eP:Stmt:=top 49
abbrev bF:Stmt:=zl (top 50) 0
abbrev bG:Stmt:=zl (top 50) 1
abbrev nU:Stmt:=top 51
abbrev jG:Stmt:=top 52
abbrev jH:Stmt:=top 53
abbrev nV:Stmt:=top 54
abbrev dt:Stmt:=top 55
abbrev iD:Stmt:=top 57
abbrev lw:Stmt:=top 58
abbrev lx:Stmt:=top 59
abbrev ly:Stmt:=top 60
abbrev nW:Stmt:=top 61
abbrev lz:Stmt:=top 62
abbrev iF:Stmt:=top 63
abbrev nX:Stmt:=top 64
abbrev gI:Stmt:=top 65
abbrev lA:Stmt:=top 66
abbrev jI:Stmt:=top 67
abbrev fQ:Stmt:=top 68
abbrev iG:Stmt:=top 69
abbrev lB:Stmt:=top 70
abbrev iH:Stmt:=top 71
abbrev lC:Stmt:=top 72
abbrev jJ:Stmt:=top 73
abbrev jK:Stmt:=top 74
abbrev lD:Stmt:=top 75
abbrev gJ:Stmt:=top 76
abbrev Co:Stmt:=top 77
def AX:aw ["thing"] ["thing"] (ah rJ):=⟨rfl,rfl,rfl,by decide +kernel,rfl,by decide +kernel,by decide +kernel⟩
def tW:aw ["thing"] ["thing"] (ah jC):=⟨rfl,rfl,rfl,by decide +kernel,rfl,by decide +kernel,by decide +kernel⟩
def pI:aw ["thing","many"] ["thing","many"] (ah gF):=⟨rfl,rfl,rfl,by decide +kernel,rfl,by decide +kernel,by decide +kernel⟩
def rL:aw ["thing","many"] ["thing","many"] (ah iC):=⟨rfl,rfl,rfl,by decide +kernel,rfl,by decide +kernel,by decide +kernel⟩
def lE:aw ["thing","many"] ["thing","many"] (ah ee):=⟨rfl,rfl,rfl,by decide +kernel,rfl,by decide +kernel,by decide +kernel⟩
def yj:aw ["mark"] ["mark"] (ah nR):=⟨rfl,rfl,rfl,by decide +kernel,rfl,by decide +kernel,by decide +kernel⟩
def vq:aw ["one","other"] ["one","other"] (ah lh):=⟨rfl,rfl,rfl,by decide +kernel,rfl,by decide +kernel,by decide +kernel⟩
def gK:aw ["texts","best","text"] ["texts"] (ah ll):=⟨rfl,rfl,rfl,by decide +kernel,rfl,by decide +kernel,by decide +kernel⟩
def vt:aw ["words","laps"] ["words","laps"] (ah lm):=⟨rfl,rfl,rfl,by decide +kernel,rfl,by decide +kernel,by decide +kernel⟩
def tX:aw ["many"] ["many"] (ah jD):=⟨rfl,rfl,rfl,by decide +kernel,rfl,by decide +kernel,by decide +kernel⟩
def gL:aw ["heads","lasts","lefts","ends","choices","nexts"] ["heads","lasts","lefts"] (ah lp):=⟨rfl,rfl,rfl,by decide +kernel,rfl,by decide +kernel,by decide +kernel⟩
def hX:aw ["words","laps","lefts","ends"] ["words","laps","lefts"] (ah eM):=⟨rfl,rfl,rfl,by decide +kernel,rfl,by decide +kernel,by decide +kernel⟩
def du:aw ["turnable","many","lefts"] ["turnable"] (ah dG):=⟨rfl,rfl,rfl,by decide +kernel,rfl,by decide +kernel,by decide +kernel⟩
def Dq:aw ["one","other","k"] ["one","other"] (ah Fm):=⟨rfl,rfl,rfl,by decide +kernel,rfl,by decide +kernel,by decide +kernel⟩
def vv:aw ["words"] ["words"] (ah lq):=⟨rfl,rfl,rfl,by decide +kernel,rfl,by decide +kernel,by decide +kernel⟩
def yk:aw ["thing","least","most"] ["thing","least","most"] (ah gb):=⟨rfl,rfl,rfl,by decide +kernel,rfl,by decide +kernel,by decide +kernel⟩
def vw:aw ["thing","least","most"] ["thing","least","most"] (ah lr):=⟨rfl,rfl,rfl,by decide +kernel,rfl,by decide +kernel,by decide +kernel⟩
def pJ:aw ["text","piece"] ["text","piece"] (ah gG):=⟨rfl,rfl,rfl,by decide +kernel,rfl,by decide +kernel,by decide +kernel⟩
def eQ:aw ["things","at","thing"] ["things"] (ah fP):=⟨rfl,rfl,rfl,by decide +kernel,rfl,by decide +kernel,by decide +kernel⟩
def mo:aw ["piece","other"] ["piece","other"] (ah eO):=⟨rfl,rfl,rfl,by decide +kernel,rfl,by decide +kernel,by decide +kernel⟩
def vx:aw ["thing","many"] ["thing","many"] (ah lu):=⟨rfl,rfl,rfl,by decide +kernel,rfl,by decide +kernel,by decide +kernel⟩
def eR:aw ["words","laps","row","text","before","number"] ["words","laps","row"] (ah lv):=⟨rfl,rfl,rfl,by decide +kernel,rfl,by decide +kernel,by decide +kernel⟩
def jg:aw ["many","numbers"] ["many"] (ah gH):=⟨rfl,rfl,rfl,by decide +kernel,rfl,by decide +kernel,by decide +kernel⟩
def iI:aw ["paper","laps","pairs","gives","takes"] ["paper","laps","pairs"] (ah jF):=⟨rfl,rfl,rfl,by decide +kernel,rfl,by decide +kernel,by decide +kernel⟩
def AY:aw ["text"] ["text"] (ah rK):=⟨rfl,rfl,rfl,by decide +kernel,rfl,by decide +kernel,by decide +kernel⟩
def yl:aw ["text","way"] ["text","way"] (ah nS):=⟨rfl,rfl,rfl,by decide +kernel,rfl,by decide +kernel,by decide +kernel⟩
def kv:aw ["piece","other"] ["piece","other"] (ah dH):=⟨rfl,rfl,rfl,by decide +kernel,rfl,by decide +kernel,by decide +kernel⟩
def eT:aw ["pieces","at","piece"] ["pieces","at"] (ah dr):=⟨rfl,rfl,rfl,by decide +kernel,rfl,by decide +kernel,by decide +kernel⟩
def cK:aw ["pieces","kept","at","piece","holder","way"] ["pieces","kept","at"] (ah eP):=⟨rfl,rfl,rfl,by decide +kernel,rfl,by decide +kernel,by decide +kernel⟩
def hZ:aw ["self","pieces","indexes"] ["self","pieces"] (ah bF):=⟨rfl,rfl,rfl,by decide +kernel,rfl,by decide +kernel,by decide +kernel⟩
def mq:aw ["self"] ["self"] (ah bG):=⟨rfl,rfl,rfl,by decide +kernel,rfl,by decide +kernel,by decide +kernel⟩
def ym:aw ["thing","many"] ["thing","many"] (ah nU):=⟨rfl,rfl,rfl,by decide +kernel,rfl,by decide +kernel,by decide +kernel⟩
def tY:aw ["turnable","ways"] ["turnable","ways"] (ah jG):=⟨rfl,rfl,rfl,by decide +kernel,rfl,by decide +kernel,by decide +kernel⟩
def lQ:aw ["text","word","found"] ["text","word"] (ah jH):=⟨rfl,rfl,rfl,by decide +kernel,rfl,by decide +kernel,by decide +kernel⟩
def eB:aw ["turnable","text","found","i","word","place","way"] ["turnable","text"] (ah nV):=⟨rfl,rfl,rfl,by decide +kernel,rfl,by decide +kernel,by decide +kernel⟩
def bX:aw ["turnable","paper","many","pairs","sums"] ["turnable","paper"] (ah dt):=⟨rfl,rfl,rfl,by decide +kernel,rfl,by decide +kernel,by decide +kernel⟩
def gM:aw ["_law_script","_law_k","_law_cell"] ["_law_script","_law_k"] (ah iD):=⟨rfl,rfl,rfl,by decide +kernel,rfl,by decide +kernel,by decide +kernel⟩
def nY:aw ["_law_stream_here","_law_many","_law_digit"] ["_law_stream_here","_law_many"] (ah lw):=⟨rfl,rfl,rfl,by decide +kernel,rfl,by decide +kernel,by decide +kernel⟩
def vy:aw ["_law_stream_here","_law_letters","_law_most"] ["_law_stream_here","_law_letters","_law_most"] (ah lx):=⟨rfl,rfl,rfl,by decide +kernel,rfl,by decide +kernel,by decide +kernel⟩
def gN:aw ["_law_text","_law_found","_law_sign"] ["_law_text"] (ah ly):=⟨rfl,rfl,rfl,by decide +kernel,rfl,by decide +kernel,by decide +kernel⟩
def ql:aw ["_law_stream_here","_law_text","_law_most","_law_at"] ["_law_stream_here","_law_text","_law_most"] (ah nW):=⟨rfl,rfl,rfl,by decide +kernel,rfl,by decide +kernel,by decide +kernel⟩
def gO:aw ["_law_stream_here","_law_most","_law_letters","_law_base_here"] ["_law_stream_here","_law_most"] (ah lz):=⟨rfl,rfl,rfl,by decide +kernel,rfl,by decide +kernel,by decide +kernel⟩
def aW:aw ["_law_stream_here","_law_many","_law_most","_law_letters","_law_base_here","_law_found","_law_k","_law_way","_law_piece"] ["_law_stream_here","_law_many","_law_most"] (ah iF):=⟨rfl,rfl,rfl,by decide +kernel,rfl,by decide +kernel,by decide +kernel⟩
def qm:aw ["_law_one","_law_other","_law_k"] ["_law_one","_law_other"] (ah nX):=⟨rfl,rfl,rfl,by decide +kernel,rfl,by decide +kernel,by decide +kernel⟩
def dM:aw ["_law_pieces_here","_law_k","_law_piece","_law_back_here","_law_other"] ["_law_pieces_here","_law_k"] (ah gI):=⟨rfl,rfl,rfl,by decide +kernel,rfl,by decide +kernel,by decide +kernel⟩
def vz:aw ["_law_pieces_here"] ["_law_pieces_here"] (ah lA):=⟨rfl,rfl,rfl,by decide +kernel,rfl,by decide +kernel,by decide +kernel⟩
def tZ:aw ["_law_found"] ["_law_found"] (ah jI):=⟨rfl,rfl,rfl,by decide +kernel,rfl,by decide +kernel,by decide +kernel⟩
def eU:aw ["_law_stream_here","_law_row","_law_left","_law_found"] ["_law_stream_here","_law_row"] (ah fQ):=⟨rfl,rfl,rfl,by decide +kernel,rfl,by decide +kernel,by decide +kernel⟩
def kx:aw ["_law_stream_here","_law_one","_law_other","_law_many"] ["_law_stream_here","_law_one","_law_other","_law_many"] (ah iG):=⟨rfl,rfl,rfl,by decide +kernel,rfl,by decide +kernel,by decide +kernel⟩
def bH:aw ["_law_stream_here","_law_texts_here","_law_text","_law_one","_law_word_here","_law_way","_law_many"] ["_law_stream_here","_law_texts_here"] (ah lB):=⟨rfl,rfl,rfl,by decide +kernel,rfl,by decide +kernel,by decide +kernel⟩
def gP:aw ["_law_words","_law_found","_law_word_here"] ["_law_words"] (ah iH):=⟨rfl,rfl,rfl,by decide +kernel,rfl,by decide +kernel,by decide +kernel⟩
def vA:aw ["_law_stream_here","_law_many"] ["_law_stream_here","_law_many"] (ah lC):=⟨rfl,rfl,rfl,by decide +kernel,rfl,by decide +kernel,by decide +kernel⟩
def t5:aw ["_law_words","_law_ways_here"] ["_law_words","_law_ways_here"] (ah jJ):=⟨rfl,rfl,rfl,by decide +kernel,rfl,by decide +kernel,by decide +kernel⟩
def dX:aw ["_law_words","_law_states_here","_law_gives","_law_a","_law_laps"] ["_law_words"] (ah jK):=⟨rfl,rfl,rfl,by decide +kernel,rfl,by decide +kernel,by decide +kernel⟩
def cu:aw ["_law_turnable","_law_other","_law_text","_law_flipped","_law_rows","_law_others","_law_one","_law_two","_law_word_here","_law_due"] ["_law_turnable","_law_other","_law_text","_law_flipped"] (ah lD):=⟨rfl,rfl,rfl,by decide +kernel,rfl,by decide +kernel,by decide +kernel⟩
def b9:aw ["_law_stream_here","_law_turnable","_law_text","_law_words","_law_paper","_law_bound_here","_law_laid_here","_law_again"] ["_law_stream_here","_law_turnable","_law_text"] (ah gJ):=⟨rfl,rfl,rfl,by decide +kernel,rfl,by decide +kernel,by decide +kernel⟩
def ky:aw ["_law_script","_law_k","_law_stream_here","_law_pieces_here","_law_flipped","_law_others","_law_turnable","_law_other","_law_text"] ["_law_script"] (ah Co):=⟨rfl,rfl,rfl,by decide +kernel,rfl,by decide +kernel,by decide +kernel⟩
structure Txt (mg:Str->Option Value):Prop where
 b_abs:mg "abs"=none
 b_all:mg "all"=none
 b_any:mg "any"=none
 b_bool:mg "bool"=none
 b_enumerate:mg "enumerate"=none
 b_int:mg "int"=none
 b_isinstance:mg "isinstance"=none
 b_len:mg "len"=none
 b_list:mg "list"=none
 b_max:mg "max"=none
 b_min:mg "min"=none
 b_range:mg "range"=none
 b_sorted:mg "sorted"=none
 b_str:mg "str"=none
 b_sum:mg "sum"=none
 b_tuple:mg "tuple"=none
 b_zip:mg "zip"=none
 g_MOST_PIECES:∃t,mg "MOST_PIECES"=some (.int 40 t)
 g_MOST_SIGNS:∃t,mg "MOST_SIGNS"=some (.int 60 t)
 g_MOST_TURNED_WORDS:∃t,mg "MOST_TURNED_WORDS"=some (.int 6 t)
structure TxC (K:b_):Prop where
 cl_Turnable:Cls K (bQ K "Turnable")
 n_Turnable_pieces:eE K (bQ K "Turnable") "pieces"
 n_Turnable_kept:eE K (bQ K "Turnable") "kept"
 n_Turnable_words:eE K (bQ K "Turnable") "words"
 n_Turnable_left:eE K (bQ K "Turnable") "left"
 n_Turnable_states:eE K (bQ K "Turnable") "states"
 n_Turnable_laps:eE K (bQ K "Turnable") "laps"
 n_Turnable_total:eE K (bQ K "Turnable") "total"
local macro_rules | `(tactic| walk_at "s")=>`(tactic| first | (with_reducible omega) | (with_reducible assumption) | (with_reducible rfl) | exact le_of_ble_eq_true rfl | (simp only [length_cons,length_nil,length_append,length_map];(with_reducible omega)) | assumption | rfl | (refine ⟨?_,?_⟩ <;> first | (with_reducible omega) | (with_reducible assumption) | (with_reducible rfl) | exact le_of_ble_eq_true rfl | assumption | rfl | (refine ⟨?_,?_⟩ <;> first | (with_reducible omega) | (with_reducible assumption) | (with_reducible rfl) | exact le_of_ble_eq_true rfl | assumption | rfl | (refine ⟨?_,?_⟩ <;> first | (with_reducible omega) | (with_reducible assumption) | (with_reducible rfl) | exact le_of_ble_eq_true rfl | assumption | rfl | fail) | fail) | fail) | omega | fail)
local macro_rules | `(tactic| walk_at "r")=>`(tactic| ((try dsimp only [set_cons_zero,set_cons_succ,Am,An,Ap,Ao,HN,HP,tK,qg,qh,xk,xm,tail_cons,tL,tM,xn,AK,AL,Dk]);(conv=>whnf);(repeat (first | ((with_reducible refine And.intro ?_ ?_);(next=>walk_at "s");(conv=>whnf)) | ((with_reducible refine (show Exists _ from ?_));(first | (refine ⟨_,rfl,?_⟩) | (refine ⟨_,uL.lst _,?_⟩) | (refine ⟨_,uL.tup _,?_⟩));(conv=>whnf)) | ((refine (show io _ _ _ from ?_));(first | (with_reducible refine Lc (by assumption) ?_) | (with_reducible refine Ld (by assumption) ?_) | (with_reducible refine Jt (by assumption) ?_) | (with_reducible refine Ej (by assumption) ?_) | ((with_reducible refine Jr ?_ ?_);(next=>(first | (with_reducible rfl) | (with_reducible assumption) | (with_reducible omega)))) | ((with_reducible refine Js ?_ ?_);(next=>(first | (with_reducible rfl) | (with_reducible assumption) | (with_reducible omega)))) | ((with_reducible refine GY ?_ ?_);(next=>(first | (with_reducible rfl) | (with_reducible assumption) | (with_reducible omega)))) | ((with_reducible refine GZ ?_ ?_);(next=>(first | (with_reducible rfl) | (with_reducible assumption) | (with_reducible omega)))));(conv=>whnf))));(try refine (show io _ _ _ from ?_));(try dsimp only [set_cons_zero,set_cons_succ,Am,An,Ap,Ao,HN,HP,tK,qg,qh,xk,xm,tail_cons,tL,tM,xn,AK,AL,Dk])))
local macro_rules | `(tactic| walk_at "z")=>`(tactic| dsimp only [IQ,JQ,dS,List.map,List.length,List.replicate,cons_append,nil_append,Nat.reduceSub,Nat.reduceAdd,Nat.zero_add])
noncomputable def stv(s:Int×Int):PV:=.own [.int s.1,.int s.2]
noncomputable def SOk:Int×Int->Prop
 | (a,b)=>0<=a/\0<=b/\b < 2 ^ 60
noncomputable def iJ:FN:=λa_ Q=>cD (λd=>cN (d.sort=true/\Q (.dat (.bl (JS d))))) a_
noncomputable def dY:FN:=λa_ Q=>cD (λd=>cN (d.sort=true/\Q (.dat (.bl (HB d))))) a_
variable {α:Type}
def kz(xs:List α):(xs.map λ_=>true).all id=true:=Na.mpr λb h=>by
 obtain⟨_,_,rfl⟩:=LJ.mp h;rfl
noncomputable def ca:FN:=λa_ Q=>cD (λd=>cI (λm=>cN (∃zs:List Int,uL d (zs.map .int)/\((zs.length:Int)=m/\m<=1000)/\Q (.dat (.bl true))))) a_
noncomputable def er:FN:=λa_ Q=>cL (λds=>cI (λm=>cN (∃zs:List Int,ds=zs.map .int/\((zs.length:Int)=m/\m<=1000/\∀z∈zs,0<=z)/\Q (.dat (.bl true))))) a_
noncomputable def dI:FN:=λa_ Q=>cT (λds=>cI (λm=>cN (∃gs ts:List Int,ds=[gs,ts].map (λzs=>D.lst (zs.map .int))/\(m<=1000/\∀zs∈[gs,ts],(zs.length:Int)=m/\∀z∈zs,0<=z)/\Q (.dat (.bl true))))) a_
def Im(m i:Nat):MY ((m:Int) / 2^(i:Int).toNat) 1=if m.testBit i then 1 else 0:=by
 have e:(m:Int) / 2^(i:Int).toNat=((m / 2^i:Nat):Int):=by
  rw [toNat_natCast,natCast_ediv,natCast_pow];rfl
 rw [e];generalize hq:m / 2^i=q
 have h:MY (q:Int) 1=((q &&& 1:Nat):Int):=by
  unfold MY;simp
 rw [h,and_one_is_mod]
 have ht:m.testBit i=decide (q % 2=1):=by
  rw [testBit_eq_decide_div_mod_eq,hq]
 rw [ht]
 by_cases c:q % 2=1
 .rw [decide_eq_true c,if_pos rfl,c];rfl
 .rw [decide_eq_false c,if_neg (by decide),show q % 2=0 by omega];rfl
variable {k:Nat}
def t6(h:k<4096):k<2^nN (k:Int)/\nN (k:Int)<=12:=by
 unfold nN
 by_cases c:k=0
 .subst c;exact⟨by decide,by decide⟩
 .have e:((k:Int) == 0)=false:=by rw [beq_eq_false_iff_ne];omega
  rw [e,if_neg (by decide),natAbs_natCast];refine⟨lt_log2_self,?_⟩;have:=(log2_lt c (k:=12)).mpr h;omega
def yn(h:k<4096):(e_ (nN (k:Int))).filter k.testBit=lf k:=by
 obtain⟨h1,h2⟩:=t6 h;unfold lf;generalize nN (k:Int)=n at h1 h2;obtain⟨d,hd⟩:∃d,12=n+d:=⟨12 - n,by omega⟩
 have:∀d,(e_ (n+d)).filter k.testBit=(e_ n).filter k.testBit:=λd=>by
  induction d with
  | zero=>rfl
  | succ d ih =>
   rw [<- add_assoc,range_succ,filter_append,ih,filter_cons,if_neg]
   .simp
   .intro z;have:=rE h1 z;omega
 rw [hd,this d]
def K3(n:Nat):(1:Int)*2^(n:Int).toNat=((2^n:Nat):Int):=by rw [toNat_natCast,Int.one_mul,natCast_pow];rfl
def kA(k:Nat):(lf k).length<=12:=by
 unfold lf;refine s_ (Nf ..) ?_;rw [tj];exact gV _
noncomputable def gc:FN:=λa_ Q=>cI (λm=>cN (∃k:Nat,m=(k:Int)/\k<4096/\Q (.own ((lf k).map nD)))) a_
noncomputable def jM:FN:=λa_ Q=>cS (λa=>cS (λb=>cN (Q (.dat (.bl (ahB a b)))))) a_
noncomputable def eV:FN:=λa_ Q=>cL (λds=>cN (∃ts:List (List Nat),ds=ts.map .str/\(ts≠[]/\ts.length<=100000)/\∀t,Lst (·∈ts) t->Q (.dat (.str t)))) a_
noncomputable def hdD(w:Nat)(hd:Nat->Nat->List Nat):List D:=(e_ w).map λi=>.lst ((e_ w).map λj=>.str (hd i j))
variable {β:Type}
def Dr[Inhabited α](f:List Nat->β)(ws:List (List Nat)):ws.map f=(e_ ws.length).map λi=>f (pw ws i):=by
 refine ext_getElem (by rw [length_map,length_map,tj]) λi h1 h2=>?_;rw [length_map] at h1;rw [getElem_map,getElem_map,getElem_range];congr 1;exact q_ ((cx h1).symm.trans (cj h1))
noncomputable def jN:FN:=λa_ Q=>cT (λds=>cT (λls=>cN (∃ws:List (List Nat),ds=ws.map .str/\(.tup ls=tI ws/\ws.length<=200/\∀w∈ws,0<w.length/\w.length<=60)/\Q (.dat (.lst (hdD ws.length (hdW ws))))))) a_
noncomputable def chD(c:List (Nat×Nat)):D:=.lst (c.map λp=>.tup [nD p.1,nD p.2])
noncomputable def K4(L:List (List (Nat×Nat))):D:=.lst (L.map chD)
noncomputable def fE:FN:=λa_ Q=>cI (λm=>cN (∃k:Nat,m=(k:Int)/\k<=12/\Q (.dat (K4 (fO k))))) a_
structure nZ (L:List (List (Nat×Nat))) (hd:Nat->Nat->List Nat) (ls:Nat->List Nat) (w k:Nat) (es:List (List (List Nat))):Prop where
 len:es.length=k
 wid:∀n,n<k->(es.getD n []).length=w
 lst:∀n,n<k->∀i,i<w->Lst (FH L hd ls n i) ((es.getD n []).getD i [])
noncomputable def esD(es:List (List (List Nat))):List D:=es.map λe=>.lst (e.map .str)
structure jO (L:List (List (Nat×Nat))) (w:Nat):Prop where
 many:L.length<=4096
 ch:∀n,∀p∈L.getD n [],p.1<w/\p.2<n
 few:∀n,(L.getD n []).length<=100
variable {L:List (List (Nat×Nat))}{hd:Nat->Nat->List Nat}{ls:Nat->List Nat}
def nZ.snoc{w:Nat}{es:List (List (List Nat))}(h:nZ L hd ls w k es){e:List (List Nat)}(hw:e.length=w)(he:∀i,i<w->Lst (FH L hd ls k i) (e.getD i [])):nZ L hd ls w (k+1) (es++[e]):=by
 have g1:∀n,n<k->(es++[e]).getD n []=es.getD n []:=λn hn=>by rw [cy,MJ (by rw [h.len];exact hn),<- cy]
 have g2:(es++[e]).getD k []=e:=by rw [cy,Mf (by rw [h.len];exact gV _),h.len,sub_self];rfl
 refine⟨by rw [length_append,h.len];rfl,λn hn=>?_,λn hn i hi=>?_⟩
 .by_cases c:n<k
  .rw [g1 n c];exact h.wid n c
  .rw [show n=k by omega,g2];exact hw
 .by_cases c:n<k
  .rw [g1 n c];exact h.lst n c i hi
  .rw [show n=k by omega,g2];exact he i hi
variable {n i:Nat}
def nZ.txt{w:Nat}{es:List (List (List Nat))}(h:nZ L hd ls w k es)(hL:jO L w)(h1:∀i j,(hd i j).length<=60)(h2:∀i,(ls i).length<=60)(hn:n<k)(hk:n<=4096)(hi:i<w):((es.getD n []).getD i []).length<=300000:=by
 obtain⟨⟨js,hw,e⟩,_⟩:=h.lst n hn i hi;rw [e];have:=AQ (w:=w) h1 h2 js i;have:=Fh (λn p hp=>(hL.ch n p hp).2) hw;omega
def Ds(h:k<L.length):itD (L.map chD) k=chD (L.getD k []):=jf (by rw [h_,cx h,cy,cx h];rfl)
def Dt{es:List (List (List Nat))}(h:n<es.length):atI (esD es) (n:Int)=some (.lst ((es.getD n []).map .str)):=gZ (j:=n) (by unfold esD;rw [h_,cx h,cy,cx h];rfl) rfl
variable {j:Nat}
def Io{w:Nat}(hj:j<w):atI ((e_ w).map λj=>D.str (hd i j)) (j:Int)=some (.str (hd i j)):=gZ (j:=j) (by rw [h_,LQ hj];rfl) rfl
noncomputable def Cp(ts:List (List Nat)):List Nat:=open Classical in if h:ts≠[] then Classical.choose (Dm h) else []
def xw{ts:List (List Nat)}(h:ts≠[]):Lst (·∈ts) (Cp ts):=by unfold Cp;rw [dif_pos h];exact OU (Dm h)
def Du{w:Nat}{f:Nat->List Nat}(h:i<w):((e_ w).map f).getD i []=f i:=by rw [cy,h_,LQ h];rfl
noncomputable def jP:FN:=λa_ Q=>cL (λhs=>cD (λla=>cL (λcs=>cN (∃(w:Nat) (hd:Nat->Nat->List Nat),hs=hdD w hd/\∃L:List (List (Nat×Nat)),cs=L.map chD/\∃ls:Nat->List Nat,(uL la ((e_ w).map λi=>.str (ls i))/\jO L w/\(∀i j,(hd i j).length<=60)/\(∀i,(ls i).length<=60)/\w<=200)/\∀es:List (List (List Nat)),nZ L hd ls w L.length es->Q (.dat (.lst (esD es))))))) a_
variable {ws:List (List Nat)}
def Iq(hw:∀w∈ws,0<w.length/\w.length<=60)(i j:Nat):(hdW ws i j).length<=60:=by
 unfold hdW;rw [length_take];have:=Cg (λw h=>(hw w h).2) i;omega
variable {t:List Nat}
def Ir(hw:∀w∈ws,0<w.length/\w.length<=60)(hL:jO L ws.length)(hn:L.getD n []≠[])(h:Lst (λu=>∃j js,Way L n (j::js)/\u=tlG (hdW ws) (pw ws) j js) t):Lst (λu=>∃js,Way L n js/\u=glN ws js) t:=by
 have hp:∀i,i<ws.length->0<(pw ws i).length:=λi hi=>(hw _ (bC hi)).1
 refine h.congr λu=>⟨λ⟨j,js,w,e⟩=>?_,λ⟨js,w,e⟩=>?_⟩
 .have hl:=Do (λn p hp=>(hL.ch n p hp).1) w;exact⟨j::js,w,by rw [e,AO js j (hp j (hl j mem_cons_self)) λk hk=>hp k (hl k (m_ _ hk))]⟩
 .cases js with
  | nil=>cases w with|nil z=>exact absurd z hn
  | cons j js =>
   have hl:=Do (λn p hp=>(hL.ch n p hp).1) w;exact⟨j,js,w,by rw [e,AO js j (hp j (hl j mem_cons_self)) λk hk=>hp k (hl k (m_ _ hk))]⟩
def Fn(hn:L.getD n []=[]):Lst (λu=>∃js,Way L n js/\u=glN ws js) []:=by
 refine⟨⟨[],.nil hn,rfl⟩,λu ⟨js,w,e⟩=>?_⟩
 cases w with
 | nil _=>rw [e];exact tV _
 | cons m _=>rw [hn] at m;cases m
variable {ds:List D}
def Fo(h:0<ds.length):atI ds (-1)=some (itD ds (ds.length - 1)):=by
 unfold atI ixN;rw [if_neg (by decide),if_pos (by omega),show ((-1:Int)+(ds.length:Int)).toNat=ds.length - 1 by omega];unfold itD;show ds[ds.length - 1]?=_;rw [cy,cx (by omega)];rfl
noncomputable def ef:FN:=λa_ Q=>cT (λds=>cT (λls=>cL (λcs=>cN (∃ws:List (List Nat),ds=ws.map .str/\∃L:List (List (Nat×Nat)),cs=L.map chD/\(.tup ls=tI ws/\ws.length<=200/\(∀w∈ws,0<w.length/\w.length<=60)/\jO L ws.length/\0<L.length)/\∀t,Lst (λu=>∃js,Way L (L.length - 1) js/\u=glN ws js) t->Q (.dat (.str t)))))) a_
def iK(n:Nat):(fO n).length=2^n:=by unfold fO;rw [length_map,tj]
def Cq(h:n<=12):jO (fO n) n :=
 ⟨by rw [iK];exact My (n:=2) (by decide) h,λm p hp=>⟨(rG h hp).2.1,(rG h hp).2.2.1⟩,λm=>by
  by_cases c:m<2^n
  .rw [i4 c,length_map];exact s_ (kA m) (by decide)
  .rw [cy,v_ (by rw [iK];omega)];exact LY _⟩
noncomputable def uM(ch:List (Nat×Nat)):List (Nat×Nat):=ch.flatMap λp=>[(2*p.1,p.2),(2*p.1+1,p.2)]
noncomputable def n5(n:Nat):List (List (Nat×Nat)):=(fO n).map uM
def rM{ch:List (Nat×Nat)}{r:Nat}:(j,r)∈uM ch ↔ (j / 2,r)∈ch:=by
 unfold uM;rw [mem_flatMap]
 constructor
 .rintro⟨p,hp,h⟩;simp only [A_,not_mem_nil,or_false] at h
  rcases h with h|h <;> (
   have h1:=congrArg B_ h;have h2:=congrArg MF h;have h1:j=_:=h1;have h2:r=_:=h2;have:(j / 2,r)=p:=Oy (by show j / 2=p.1;omega) h2;rw [this];exact hp)
 .intro h;refine⟨_,h,?_⟩;have:j=2*(j / 2)\/j=2*(j / 2)+1:=by omega
  rcases this with e|e
  .exact A_.mpr (.inl (Oy e rfl))
  .exact m_ _ (G_.mpr (Oy e rfl))
def i6(n m:Nat):(n5 n).getD m []=uM ((fO n).getD m []):=by
 unfold n5;rw [cy,cy,h_];cases (fO n)[m]? <;> rfl
def xx{ch:List (Nat×Nat)}:uM ch=[] ↔ ch=[]:=by
 cases ch with
 | nil=>exact⟨λ_=>rfl,λ_=>rfl⟩
 | cons p r=>exact⟨λh=>(nomatch h),λh=>(nomatch h)⟩
theorem Fp:∀(js:List Nat) (m:Nat),Way (n5 n) m js ↔ Way (fO n) m (js.map (· / 2))
 | [],m=>by
  constructor
  .intro h0
   cases h0 with
   | nil h=>rw [i6] at h;exact .nil (xx.mp h)
  .intro h0
   cases h0 with
   | nil h=>exact .nil (by rw [i6];exact xx.mpr h)
 | j::js,m=>by
  constructor
  .intro h
   cases h with
   | cons c w=>rw [i6] at c;exact .cons (rM.mp c) ((Fp js _).mp w)
  .intro h
   cases h with
   | cons c w=>exact .cons (by rw [i6];exact rM.mpr c) ((Fp js _).mpr w)
def n6(n:Nat):(n5 n).length=2^n:=by unfold n5 fO;rw [length_map,length_map,tj]
def xy(u v:List (Nat×Nat)):uM (u++v)=uM u++uM v:=by unfold uM;rw [flatMap_append]
def xz(u:List (Nat×Nat)):(uM u).length=2*u.length:=by
 induction u with
 | nil=>rfl
 | cons p r ih=>rw [show p::r=[p]++r from rfl,xy,length_append,ih,length_append];show 2+_=2*(1+_);omega
def Cr(h:n<=12):jO (n5 n) (2*n):=by
 have ok:=Cq h
 refine⟨by rw [n6,<- iK];exact ok.many,λm p hp=>?_,λm=>?_⟩
 .rw [i6] at hp;have:=ok.ch m _ (rM.mp (show (p.1,p.2)∈_ from hp));have h1:p.1 / 2<n:=this.1;exact⟨by omega,this.2⟩
 .rw [i6,xz]
  by_cases c:m<2^n
  .rw [i4 c,length_map];have:=kA m;omega
  .rw [cy,v_ (by rw [iK];omega)];exact LY _
variable {js:List Nat}
def qo(h:n<=12):Way (n5 n) ((n5 n).length - 1) js ↔ (js.map (· / 2)).Perm (e_ n):=by
 rw [n6,Fp,Ck h]
noncomputable def ck:FN:=λa_ Q=>cO (λc ns fs=>cN (c="Turnable"/\ns=kt/\∃ps:List (List Nat),fs=ku ps/\(Pcs 60 ps/\(ag ps).length<=6)/\∀t,Lst (λu=>∃js:List Nat,(js.map (· / 2)).Perm (e_ (ag ps).length)/\u=glN (am (ag ps)) js) t->Q (.dat (.str t)))) a_
noncomputable def t9:FN:=λa_ Q=>cS (λa=>cS (λb=>cN ((0<a.length/\a.length<=10000)/\(0<b.length/\b.length<=10000)/\Q (.dat (.int (dB a b:Int)))))) a_
noncomputable def gQ:FN:=λa_ Q=>cT (λds=>cN (∃ws:List (List Nat),ds=ws.map .str/\(ws.length<=1000/\∀w∈ws,0<w.length/\w.length<=10000)/\Q (.dat (tI ws)))) a_
noncomputable def gf:FN:=λa_ Q=>cD (λd=>cI (λa=>cI (λb=>cN (d.sort=true/\JR d<=1000000/\Q (.dat (.bl (BZ d a b))))))) a_
noncomputable def gR:FN:=λa_ Q=>cI (λx=>cI (λa=>cI (λb=>cN ((a<=x/\x<=b)/\Q (.dat (.bl true)))))) a_
noncomputable def cb:FN:=λa_ Q=>cS (λa=>cS (λb=>cN (Q (.dat (.int (fnd a b 0)))))) a_
noncomputable def dw:FN:=λa_ Q=>cD (λd=>cN (∃ws:List (List Nat),uL d (ws.map .str)/\(ws.length<=40/\Pcs 60 ws)/\Q (.dat .non))) a_
noncomputable def bY:FN:=λa_ Q=>cS (λa=>cS (λb=>cN (Q (.dat (.bl (qf a b)))))) a_
def AZ(js:List Nat):js.map nD=(js.map λj=>((j:Nat):Int)).map D.int:=by rw [map_map];rfl
noncomputable def jQ:FN:=λa_ Q=>cL (λds=>cI (λm=>cN (∃js:List Nat,ds=js.map nD/\(0<=m/\m<=60/\js.Perm (e_ m.toNat))/\Q (.dat (.bl true))))) a_
def xA{i:Int}(h:k<ws.length)(e:i=(k:Int)):atI (ws.map λw=>D.tup (ws.map λv=>.int (dB w v:Int))) i=some (.tup (ws.map λv=>.int (dB (pw ws k) v:Int))) :=
 gZ (j:=k) (by rw [h_,cj h];rfl) e
def A0{u:List Nat}{i:Int}(h:k<ws.length)(e:i=(k:Int)):atI (ws.map λv=>D.int (dB u v:Int)) i=some (.int (dB u (pw ws k):Int)) :=
 gZ (j:=k) (by rw [h_,cj h];rfl) e
def Is{m:Nat}(hw:∀j,(pw ws j).length<=m):∀js:List Nat,(glN ws js).length<=js.length*m:=by
 have go:∀(r:List Nat) (i:Nat),(glT ws i r).length<=r.length*m:=λr=>by
  induction r with
  | nil=>intro i;exact LY _
  | cons j r ih =>
   intro i;show ((pw ws j).drop _++glT ws j r).length<=_;rw [length_append,length_drop,length_cons,succ_mul];have:=ih j;have:=hw j;omega
 intro js
 cases js with
 | nil=>exact LY _
 | cons j r =>
  show (pw ws j++glT ws j r).length<=_;rw [length_append,length_cons,succ_mul];have:=go r j;have:=hw j;omega
def Cg{m:Nat}(hw:∀w∈ws,w.length<=m)(j:Nat):(pw ws j).length<=m:=by
 by_cases h:j<ws.length
 .exact hw _ (bC h)
 .unfold pw;rw [cy,v_ (by omega)];exact LY _
def A1(ws:List (List Nat))(js:List Nat):((js.take 1).map (pw ws)).flatten=glN ws (js.take 1):=by
 cases js with
 | nil=>rfl
 | cons j r=>rfl
noncomputable def jR:FN:=λa_ Q=>cT (λds=>cD (λd2=>cD (λd=>cN (∃ws:List (List Nat),ds=ws.map .str/\d2=tI ws/\(ws.length<=60/\∀w∈ws,w.length<=60)/\∃js:List Nat,uL d (js.map nD)/\(js.length<=60/\∀j∈js,j<ws.length)/\Q (.dat (.str (glN ws js))))))) a_
abbrev prT(p:Nat×Nat):D:=.tup [.int (p.1:Int),.int (p.2:Int)]
noncomputable def Cs(n:Nat):List (Nat×Nat):=(e_ n).flatMap λi=>((e_ n).filter λj=>decide (i≠j)).map λj=>(i,j)
def Ct{p:Nat×Nat}:p∈Cs n ↔ p.1<n/\p.2<n/\p.1≠p.2:=by
 unfold Cs;rw [mem_flatMap]
 constructor
 .rintro⟨i,hi,h⟩;obtain⟨j,hj,rfl⟩:=LJ.mp h;rw [mem_filter] at hj;exact⟨mem_range.mp hi,mem_range.mp hj.1,of_decide_eq_true hj.2⟩
 .rintro⟨h1,h2,h3⟩;exact⟨p.1,mem_range.mpr h1,LJ.mpr ⟨p.2,mem_filter.mpr ⟨mem_range.mpr h2,decide_eq_true h3⟩,rfl⟩⟩
theorem rN(n:Nat):∀L:List Nat,(L.flatMap λi=>((e_ n).filter λj=>decide (i≠j)).map λj=>(i,j)).length<=L.length*n
 | []=>by simp
 | i::L=>by
  rw [flatMap_cons,length_append,length_map,length_cons,succ_mul];have h1:=rN n L;have h2:((e_ n).filter λj=>decide (i≠j)).length<=n:=s_ (Nf ..) (by rw [tj];exact gV _);omega
noncomputable def dN:FN:=λa_ Q=>cI (λm=>cN ((0<=m/\m<=40)/\Q (.own ((Cs m.toNat).map prT)))) a_
abbrev IT(ws:List (List Nat))(w:List Nat):D:=.tup (ws.map λv=>.int (dB w v:Int))
def xB{zs:List Int}(h:i<zs.length):atI (zs.map D.int) (i:Int)=some (.int (zs.getD i 0)) :=
 gZ (j:=i) (by rw [h_,cx h,cy,cx h];rfl) rfl
noncomputable def iM:FN:=λa_ Q=>cT (λds=>cT (λls=>cL (λps=>cN (∃gs ts:List Int,ds=[gs,ts].map (λzs=>D.lst (zs.map .int))/\∃ws:List (List Nat),ls=ws.map (IT ws)/\∃prs:List (Nat×Nat),ps=prs.map prT/\(ws.length<=40/\prs.length<=1600/\(∀zs∈[gs,ts],zs.length=ws.length/\∀z∈zs,0<=z)/\∀p∈prs,p.1<ws.length/\p.2<ws.length/\(dB (pw ws p.1) (pw ws p.2):Int)<=gs.getD p.1 0+ts.getD p.2 0)/\Q (.dat (.bl true)))))) a_
noncomputable def eW:FN:=λa_ Q=>cS (λl=>cN (l.length<=10000/\Q (.dat (.str l.reverse)))) a_
noncomputable def c8:FN:=λa_ Q=>cS (λl=>cI (λw=>cN (l.length<=10000/\Q (.dat (.str (if w=1 then l.reverse else l)))))) a_
noncomputable def bx:FN:=λa_ Q=>cS (λa=>cS (λb=>cN (a.length<=10000/\Q (.dat (.bl (fZ a b)))))) a_
noncomputable def bI:FN:=λa_ Q=>cT (λds=>cI (λi=>cN (∃ws:List (List Nat),ds=ws.map .str/\(ws.length<=1000/\∀w∈ws,w.length<=10000)/\(0<=i/\i<(ws.length:Int))/\Q (.dat (.bl (f8 ws i.toNat)))))) a_
noncomputable def bZ:FN:=λa_ Q=>cT (λds=>cT (λks=>cI (λi=>cN (∃ws:List (List Nat),ds=ws.map .str/\ks=(aE ws).map nD/\(ws.length<=1000/\∀w∈ws,w.length<=60)/\(0<=i/\i<(ws.length:Int))/\Q (.dat (i5 ws i.toNat)))))) a_
noncomputable def bM:FR:=λp a_ Q=>oI "Turnable" (cD (λd=>cN (∃ws:List (List Nat),uL d (ws.map .str)/\(ws.length<=40/\Pcs 60 ws)/\Q (.dat .non) (.ins "Turnable" kt (ku ws)))) a_) p
noncomputable def bj:FN:=λa_ Q=>cO (λc ns fs=>cN (c="Turnable"/\ns=kt/\∃ws:List (List Nat),fs=ku ws/\Q (.dat (.int ((ag ws).length:Int))))) a_
noncomputable def lF:FN:=λa_ Q=>cT (λrs=>cI (λm=>cN (∃zs:List (Nat×Nat),rs=zs.map prT/\(0<=m/\m<=60/\(zs.map B_).Perm (e_ m.toNat)/\∀z∈zs,z.2<2)/\Q (.dat (.bl true))))) a_
noncomputable def dZ:FN:=λa_ Q=>cO (λc ns fs=>cT (λrs=>cN (c="Turnable"/\ns=kt/\∃ps:List (List Nat),fs=ku ps/\∃zs:List (Nat×Nat),rs=zs.map prT/\((ps.length<=20/\Pcs 60 ps)/\(zs.map B_).Perm (e_ (ag ps).length)/\∀z∈zs,z.2<2)/\Q (.dat (.str (glN (am (ag ps)) (zs.map λz=>2*z.1+z.2))))))) a_
noncomputable def fwW(A B:Int):Int×Int:=if A<0 then (if B<0 then (-1,0) else (B,1)) else if B<0 then (A,0) else if B<A then (B,1) else (A,0)
abbrev cE(t w:List Nat):Int×Int:=fwW (fnd t w 0) (fnd t w.reverse 0)
def Fq{A B:Int}(h:[[A,0],[B,1]].filter (λr=>decide (0<=r.getD 0 0))=[]):fwW A B=(-1,0):=by
 have h1:=filter_eq_nil_iff.mp h;have a:¬ decide (0<=A)=true:=h1 [A,0] (mem_cons_self ..);have b:¬ decide (0<=B)=true:=h1 [B,1] (m_ _ (G_.mpr rfl));rw [decide_eq_true_eq] at a b;unfold fwW;rw [if_pos (by omega),if_pos (by omega)]
def Iu{A B:Int}{r:List Int}(hr:r∈[[A,0],[B,1]].filter (λr=>decide (0<=r.getD 0 0)))(hm:∀q∈[[A,0],[B,1]].filter (λr=>decide (0<=r.getD 0 0)),lxB q r=false):r=[(fwW A B).1,(fwW A B).2]:=by
 obtain⟨m,c⟩:=mem_filter.mp hr;have oa:0<=A->lxB [A,0] r=false:=λz=>hm _ (mem_filter.mpr ⟨mem_cons_self ..,decide_eq_true z⟩);have ob:0<=B->lxB [B,1] r=false:=λz=>hm _ (mem_filter.mpr ⟨m_ _ (G_.mpr rfl),decide_eq_true z⟩);have no:∀{x y:Int}{xs ys:List Int},lxB (x::xs) (y::ys)=false->¬ (x<y\/(x=y/\lxB xs ys=true)):=λh z=>by rw [tP.mpr z] at h;cases h
 unfold fwW
 rcases A_.mp m with rfl|m
 .have c:0<=A:=of_decide_eq_true c;rw [if_neg (by omega)]
  by_cases b:B<0
  .rw [if_pos b]
  .have:=no (ob (by omega));rw [if_neg b,if_neg (λz=>this (.inl z))]
 .have m:=G_.mp m;subst m;have c:0<=B:=of_decide_eq_true c
  by_cases a:A<0
  .rw [if_pos a,if_neg (by omega)]
  .have:=no (oa (by omega))
   have h:B<A:=by
    rcases Int.lt_trichotomy A B with h|h|h
    .exact absurd (.inl h) this
    .exact absurd (.inr ⟨h,rfl⟩) this
    .exact h
   rw [if_neg a,if_neg (by omega),if_pos h]
noncomputable def fh(t:List Nat)(ws:List (List Nat))(i:Nat):List Int:=[(cE t (pw ws i)).1,(i:Int),(cE t (pw ws i)).2]
abbrev wyT(t:List Nat)(ws:List (List Nat))(i:Nat):D:=.tup [nD i,.int (cE t (pw ws i)).2]
def Fs{rows:List (List Int)}(hp:rows.Perm ((e_ n).map (fh t ws)))(hs:rows.Pairwise (λa b=>lxB b a=false)):
  ∃js:List Nat,rows=js.map (fh t ws)/\js.Perm (e_ n)/\js.Pairwise (λa b=>lxB (fh t ws b) (fh t ws a)=false):=by
 have num:∀k,((fh t ws k).getD 1 0).toNat=k:=λk=>toNat_natCast k
 have e1:rows=(rows.map λr=>(r.getD 1 0).toNat).map (fh t ws):=by
  rw [map_map]
  conv=>lhs;rw [<- map_id rows]
  refine LW λr hr=>?_;obtain⟨k,_,e⟩:=LJ.mp (hp.mem_iff.mp hr);show r=fh t ws (r.getD 1 0).toNat;rw [<- e,num]
 refine⟨_,e1,?_,?_⟩
 .have:=hp.map λr=>(r.getD 1 0).toNat
  rw [map_map,show (e_ n).map ((λr=>(r.getD 1 0).toNat) ∘ fh t ws)=e_ n by
   conv=>rhs;rw [<- map_id (e_ n)]
   exact LW λk _=>num k] at this
  exact this
 .rw [e1] at hs;exact NI.mp hs
noncomputable def iN:FN:=λa_ Q=>cS (λt=>cS (λw=>cN (w.length<=10000/\Q (.dat (.tup [.int (cE t w).1,.int (cE t w).2]))))) a_
variable {ps:List (List Nat)}
def vB{a b:Nat}(ha:a<ps.length)(hb:b<ps.length)(ka:f8 ps a=true)(kb:f8 ps b=true)(h:a≠b):fZ (pw ps a) (pw ps b)=false:=by
 cases hs:fZ (pw ps a) (pw ps b) with
 | false=>rfl
 | true =>
  obtain⟨a1,a2⟩:=dW.mp ka;obtain⟨b1,b2⟩:=dW.mp kb
  rcases ML (pw ps a).length (pw ps b).length with z|z
  .have:=a2 _ (bC hb) z;rw [hs] at this;cases this
  .have e:pw ps a=pw ps b\/(pw ps a).reverse=pw ps b:=by
    rcases fC.mp hs with g|g
    .exact .inl (g.eq_of_length (by have:=tT g;omega))
    .exact .inr (g.eq_of_length (by have:=tT g;rw [LD] at this ⊢;omega))
   have mem:∀{x y:Nat},x<y->y<ps.length->pw ps x∈ps.take y:=λ{x y} h1 h2=>by
    refine Eo (i:=x) ?_;rw [getElem?_take,if_pos h1];exact cj (by omega)
   rcases ML a b with y|y
   .have m:=mem y hb
    have:jb ps b=true:=by
     unfold jb
     rcases e with e|e
     .rw [e] at m;rw [decide_eq_true m,OP]
     .rw [show pw ps a=(pw ps b).reverse by rw [<- e,reverse_reverse]] at m;rw [decide_eq_true m,OQ]
    rw [b1] at this;cases this
   .have m:=mem (show b<a by omega) ha
    have:jb ps a=true:=by
     unfold jb
     rcases e with e|e
     .rw [<- e] at m;rw [decide_eq_true m,OP]
     .rw [<- e] at m;rw [decide_eq_true m,OQ]
    rw [a1] at this;cases this
def ua(h:i<(ag ps).length):∃k,(aE ps)[i]?=some k/\pw (ag ps) i=pw ps k/\k<ps.length/\f8 ps k=true:=by
 have hk:i<(aE ps).length:=by unfold ag at h;rwa [length_map] at h
 have hm:=Ml hk;refine⟨(aE ps)[i],cx hk,?_,c6 hm,(mem_filter.mp hm).2⟩;unfold ag pw;rw [cy,h_,cx hk];rfl
def jT(hi:i<(ag ps).length)(hj:j<(ag ps).length)(h:i≠j):fZ (pw (ag ps) i) (pw (ag ps) j)=false:=by
 obtain⟨a,a1,a2,a3,a4⟩:=ua hi;obtain⟨b,b1,b2,b3,b4⟩:=ua hj;rw [a2,b2];refine vB a3 b3 a4 b4 λe=>h ?_;subst e;have nd:(aE ps).Nodup:=((On).filter _).imp λh=>H_ h;have l1:=(i_.mp a1).1;exact (getElem?_inj l1 nd).mp (a1.trans b1.symm)
def rO{u v:List Nat}{a b:Nat}(h:trn u a <:+: trn v b):fZ u v=true:=by
 rw [fC];unfold trn at h
 split at h <;> split at h
 .exact .inl (MU.mp h)
 .exact .inr h
 .have:=MU.mpr h;rw [reverse_reverse] at this;exact .inr this
 .exact .inl h
def qq{w:List Nat}(h:0<=(cE t w).1):∃k:Nat,(cE t w).2=(k:Int)/\k<2/\stA t (trn w k) (cE t w).1.toNat=true:=by
 have st:∀v:List Nat,0<=fnd t v 0->stA t v (fnd t v 0).toNat=true:=λv hv=>by
  obtain⟨k,e,_,s,_⟩:=mK (a:=t) (b:=v) (lo:=0) (by omega);rw [e];exact s
 unfold cE fwW at h ⊢
 by_cases a:fnd t w 0<0
 .rw [if_pos a] at h ⊢
  by_cases b:fnd t w.reverse 0<0
  .rw [if_pos b] at h;exact absurd h (by decide)
  .rw [if_neg b];exact⟨1,rfl,by decide,st w.reverse (by omega)⟩
 .rw [if_neg a]
  by_cases b:fnd t w.reverse 0<0
  .rw [if_pos b];exact⟨0,rfl,by decide,st w (by omega)⟩
  .rw [if_neg b]
   by_cases c:fnd t w.reverse 0<fnd t w 0
   .rw [if_pos c];exact⟨1,rfl,by decide,st w.reverse (by omega)⟩
   .rw [if_neg c];exact⟨0,rfl,by decide,st w (by omega)⟩
def A2{u v:List Nat}(h1:stA t u k=true)(h2:stA t v k=true)(hl:u.length<=v.length):u <:+: v:=by
 obtain⟨_,e1⟩:=of_decide_eq_true h1;obtain⟨_,e2⟩:=of_decide_eq_true h2
 have:u=v.take u.length:=by
  rw [<- e2,take_take,show min u.length v.length=u.length by omega,e1]
 rw [this];exact (take_prefix _ _).isInfix
noncomputable def mS(t w:List Nat):Nat:=(cE t w).2.toNat
def i7(hi:i<ws.length)(hk:k<2):pw (am ws) (2*i+k)=trn (pw ws i) k:=by
 obtain⟨a,b⟩:=nQ hi;unfold pw;rw [cy];have:k=0\/k=1:=by omega
 rcases this with rfl|rfl
 .rw [show 2*i+0=2*i from rfl,a];rfl
 .rw [b];rfl
def Dv{a b:Nat}(la:a<(ag ps).length)(lb:b<(ag ps).length)(ha:0<=(cE t (pw (ag ps) a)).1)(hb:0<=(cE t (pw (ag ps) b)).1)(h:a≠b):(cE t (pw (ag ps) a)).1≠(cE t (pw (ag ps) b)).1:=λz=>by
 obtain⟨ka,_,_,sa⟩:=qq ha;obtain⟨kb,_,_,sb⟩:=qq hb;rw [z] at sa
 rcases Nat.le_total (trn (pw (ag ps) a) ka).length (trn (pw (ag ps) b) kb).length with y|y
 .have:=rO (A2 sa sb y);rw [jT la lb h] at this;cases this
 .have:=rO (A2 sb sa y);rw [jT lb la (MW h)] at this;cases this
def A3(hf:∀j,j<(ag ps).length->0<=(cE t (pw (ag ps) j)).1)(hj:js.Perm (e_ (ag ps).length))(hs:js.Pairwise λa b=>lxB (fh t (ag ps) b) (fh t (ag ps) a)=false):js.Pairwise (λa b=>(cE t (pw (ag ps) a)).1<(cE t (pw (ag ps) b)).1):=by
 have lt:∀j∈js,j<(ag ps).length:=λj h=>mem_range.mp (hj.mem_iff.mp h);have nd:js.Pairwise λa b=>a≠b:=hj.symm.nodup NU;refine List.Pairwise.imp_of_mem (R:=λa b=>lxB (fh t (ag ps) b) (fh t (ag ps) a)=false/\a≠b) (λ{a b} ha hb h=>?_) (hs.and nd);have ne:=Dv (lt a ha) (lt b hb) (hf a (lt a ha)) (hf b (lt b hb)) h.2
 rcases Int.lt_trichotomy (cE t (pw (ag ps) a)).1 (cE t (pw (ag ps) b)).1 with z|z|z
 .exact z
 .exact absurd z ne
 .have:lxB (fh t (ag ps) b) (fh t (ag ps) a)=true:=tP.mpr (.inl z);rw [h.1] at this;cases this
abbrev uN(t:List Nat)(ws:List (List Nat))(js:List Nat):List Nat:=js.map λi=>2*i+mS t (pw ws i)
def kB(hp:Pcs 60 ps)(hf:∀j,j<(ag ps).length->0<=(cE t (pw (ag ps) j)).1)(hj:js.Perm (e_ (ag ps).length))(rise:js.Pairwise (λa b=>(cE t (pw (ag ps) a)).1<(cE t (pw (ag ps) b)).1)):
  (glN (am (ag ps)) (uN t (ag ps) js)).length<=t.length/\((glN (am (ag ps)) (uN t (ag ps) js)).length=t.length->glN (am (ag ps)) (uN t (ag ps) js)=t):=by
 have lt:∀j∈js,j<(ag ps).length:=λj h=>mem_range.mp (hj.mem_iff.mp h);have nd:js.Pairwise λa b=>a≠b:=hj.symm.nodup NU;have wp:=dn hp
 have st:∀j,j<(ag ps).length->mS t (pw (ag ps) j)<2/\stA t (trn (pw (ag ps) j) (mS t (pw (ag ps) j))) (cE t (pw (ag ps) j)).1.toNat=true:=λj h=>by
  obtain⟨k,e,hk,s⟩:=qq (hf j h);have:mS t (pw (ag ps) j)=k:=by unfold mS;rw [e,toNat_natCast]
  rw [this];exact⟨hk,s⟩
 have dv:∀i k:Nat,k<2->(2*i+k) / 2=i:=λi k hk=>by omega
 refine AC (P:=λs=>(cE t (pw (ag ps) (s / 2))).1.toNat) (t:=t) (λs hs'=>?_) ?_ ?_
 .obtain⟨i,hi,rfl⟩:=LJ.mp hs';obtain⟨hk,s⟩:=st i (lt i hi);rw [i7 (lt i hi) hk,dv i _ hk];refine⟨?_,s⟩;have:=(wp _ (bC (lt i hi))).1;unfold trn
  split
  .rw [LD];exact this
  .exact this
 .refine NI.mpr (rise.imp_of_mem λ{a b} ha hb h=>?_);rw [dv a _ (st a (lt a ha)).1,dv b _ (st b (lt b hb)).1];have:=hf a (lt a ha);omega
 .refine NI.mpr (nd.imp_of_mem λ{a b} ha hb h z=>?_);rw [i7 (lt a ha) (st a (lt a ha)).1,i7 (lt b hb) (st b (lt b hb)).1] at z;have:=rO z;rw [jT (lt b hb) (lt a ha) (MW h)] at this;cases this
noncomputable def jc(ps:List (List Nat))(u:List Nat):Prop:=∀p∈ps,fZ p u=true
noncomputable def GlT(ws:List (List Nat))(u:List Nat):Prop:=∃js:List Nat,(js.map (· / 2)).Perm (e_ ws.length)/\u=glN (am ws) js
def rP(a b:List Nat)(x y:Nat):fZ (trn a x) (trn b y)=fZ a b:=by
 have r:∀a b:List Nat,fZ a.reverse b=fZ a b:=λa b=>by unfold fZ;rw [reverse_reverse,Bool.or_comm]
 have r2:∀a b:List Nat,fZ a b.reverse=fZ a b:=λa b=>by
  rw [MI,fC,fC]
  constructor
  .rintro (h|h)
   .have:=MU.mpr h;rw [reverse_reverse] at this;exact .inr this
   .exact .inl (MU.mp h)
  .rintro (h|h)
   .exact .inr (MU.mpr h)
   .have:=MU.mpr h;rw [reverse_reverse] at this;exact .inl this
 unfold trn
 split <;> split
 .rw [r,r2]
 .rw [r]
 .rw [r2]
 .rfl
def A4(hp:Pcs 60 ws)(h:(js.map (· / 2)).Perm (e_ ws.length)):jc ws (glN (am ws) js):=λw hw=>by
 obtain⟨i,hi,rfl⟩:=Mm hw;obtain⟨j,hj,e⟩:=LJ.mp (h.mem_iff.mpr (mem_range.mpr hi));have e:j / 2=i:=e
 have lt:∀k∈js,k<(am ws).length:=λk hk=>by
  have:=mem_range.mp (h.mem_iff.mp (Ma (f:=(· / 2)) hk));rw [bB];omega
 have g:=HS (ws:=am ws) (js:=js) (λk hk=>((cU hp) _ (bC (lt k hk))).1) hj
 have s:pw (am ws) j=trn (pw ws i) (j % 2):=by
  have:=i7 (ws:=ws) (i:=i) (k:=j % 2) hi (mod_lt _ (by decide));rw [<- this];congr 1;omega
 rw [s] at g;have e2:pw ws i=ws[i]:=q_ ((cj hi).symm.trans (cx hi));rw [<- e2,fC];unfold trn at g
 split at g
 .exact .inr g
 .exact .inl g
def ub{u:List Nat}(hw:∀w∈ps,w.length<=60)(h:jc (ag ps) u):jc ps u:=λp hp=>by
 obtain⟨i,hi,rfl⟩:=Mm hp;have e2:pw ps i=ps[i]:=q_ ((cj hi).symm.trans (cx hi));obtain⟨j,h1,h2,h3⟩:=qk hw _ i hi (gV _);rw [<- e2];refine lg h3 (h _ ?_);exact Ma (mem_filter.mpr ⟨mem_range.mpr h1,h2⟩)
def A5{w:List Nat}(h:w∈ag ps):w∈ps:=by
 obtain⟨i,hi,rfl⟩:=LJ.mp h;exact bC (c6 hi)
def yo{w:List Nat}(h:fZ w t=true):0<=(cE t w).1:=by
 unfold fZ at h;rw [or_eq_true,rn,rn] at h;unfold cE fwW
 by_cases a:fnd t w 0<0
 .rw [if_pos a,if_neg (by omega)];show 0<=fnd t w.reverse 0;omega
 .rw [if_neg a]
  by_cases b:fnd t w.reverse 0<0
  .rw [if_pos b];show 0<=fnd t w 0;omega
  .rw [if_neg b]
   by_cases c:fnd t w.reverse 0<fnd t w 0
   .rw [if_pos c];show 0<=fnd t w.reverse 0;omega
   .rw [if_neg c];show 0<=fnd t w 0;omega
def kC(h:∀i∈js,mS t (pw ws i)<2):(uN t ws js).map (· / 2)=js:=by
 rw [map_map]
 conv=>rhs;rw [<- map_id js]
 refine LW λi hi=>?_;have:=h i hi;show (2*i+mS t (pw ws i)) / 2=i;omega
def n8{w:List Nat}(h:0<=(cE t w).1):mS t w<2:=by
 obtain⟨k,e,hk,_⟩:=qq h;unfold mS;rw [e,toNat_natCast];exact hk
def i8{u:List Nat}(h:jc ps u):∀j,j<(ag ps).length->0<=(cE u (pw (ag ps) j)).1:=λj hj=>yo (h _ (A5 (bC hj)))
def A6{u:List Nat}(hf:∀j,j<(ag ps).length->0<=(cE u (pw (ag ps) j)).1):∃js:List Nat,js.Perm (e_ (ag ps).length)/\js.Pairwise (λa b=>(cE u (pw (ag ps) a)).1<(cE u (pw (ag ps) b)).1):=by
 let le:Nat->Nat->Bool:=λa b=>decide ((cE u (pw (ag ps) a)).1<=(cE u (pw (ag ps) b)).1)
 have hp:=mergeSort_perm (e_ (ag ps).length) le
 have hs:((e_ (ag ps).length).mergeSort le).Pairwise (λa b=>le a b=true):=pairwise_mergeSort (le:=le) (λa b c h1 h2=>decide_eq_true (Pj (of_decide_eq_true h1) (of_decide_eq_true h2))) (λa b=>by
  rcases Int.le_total (cE u (pw (ag ps) a)).1 (cE u (pw (ag ps) b)).1 with h|h
  .rw [show le a b=true from decide_eq_true h,OP]
  .rw [show le b a=true from decide_eq_true h,OQ]) _
 have nd:=hp.nodup_iff.mpr NU;refine⟨_,hp,(hs.and nd).imp_of_mem λ{a b} ma mb h=>?_⟩;have la:=mem_range.mp (hp.mem_iff.mp ma);have lb:=mem_range.mp (hp.mem_iff.mp mb);have h1:(cE u (pw (ag ps) a)).1<=(cE u (pw (ag ps) b)).1:=of_decide_eq_true h.1;have h2:=Dv la lb (hf a la) (hf b lb) h.2;omega
def A7(hp:Pcs 60 ps){u:List Nat}(h:jc ps u):∃js:List Nat,(js.map (· / 2)).Perm (e_ (ag ps).length)/\ahB u (glN (am (ag ps)) js)=false:=by
 have hf:=i8 h;obtain⟨js,h1,h2⟩:=A6 hf;obtain⟨b1,b2⟩:=kB hp hf h1 h2
 refine⟨uN u (ag ps) js,?_,?_⟩
 .rw [kC λi hi=>n8 (hf i (mem_range.mp (h1.mem_iff.mp hi)))];exact h1
 .by_cases e:(glN (am (ag ps)) (uN u (ag ps) js)).length=u.length
  .rw [b2 e];exact tV u
  .rw [qj];left;omega
def rQ(hp:Pcs 60 ps)(h:(js.map (· / 2)).Perm (e_ (ag ps).length)):jc ps (glN (am (ag ps)) js):=ub (λw hw=>(hp w hw).2.1) (A4 (dn hp) h)
def Iv(hp:Pcs 60 ps)(h:Lst (GlT (ag ps)) t):Lst (jc ps) t:=by
 obtain⟨⟨js,h1,e⟩,hl⟩:=h;refine⟨by rw [e];exact rQ hp h1,λu hu=>?_⟩;obtain⟨ks,k1,k2⟩:=A7 hp hu;exact mQ k2 (hl _ ⟨ks,k1,rfl⟩)
def xC(hp:Pcs 60 ps)(h:Lst (jc ps) t)(hj:js.Perm (e_ (ag ps).length))(rise:js.Pairwise (λa b=>(cE t (pw (ag ps) a)).1<(cE t (pw (ag ps) b)).1)):glN (am (ag ps)) (uN t (ag ps) js)=t:=by
 have hf:=i8 h.1;obtain⟨b1,b2⟩:=kB hp hf hj rise;have hh:jc ps (glN (am (ag ps)) (uN t (ag ps) js)):=rQ hp (by rw [kC λi hi=>n8 (hf i (mem_range.mp (hj.mem_iff.mp hi)))];exact hj);have:=Dl (h.2 _ hh);exact b2 (by omega)
noncomputable def Dw(ps qs:List (List Nat))(fl:List Bool):Prop:=qs.length=ps.length/\fl.length=ps.length/\∀i,i<ps.length->pw qs i=trn (pw ps i) (if fl.getD i false then 1 else 0)
variable {qs:List (List Nat)}
def uc{fl:List Bool}(h:Dw ps qs fl)(u:List Nat):jc ps u ↔ jc qs u:=by
 obtain⟨h1,_,h3⟩:=h
 have e:∀i,i<ps.length->fZ (pw qs i) u=fZ (pw ps i) u:=λi hi=>by
  rw [h3 i hi];have:=rP (pw ps i) u (if fl.getD i false then 1 else 0) 0;exact this
 constructor
 .intro g p hp;obtain⟨i,hi,rfl⟩:=Mm hp;rw [show qs[i]=pw qs i from q_ ((cx hi).symm.trans (cj hi)),e i (by omega)];exact g _ (bC (by omega))
 .intro g p hp;obtain⟨i,hi,rfl⟩:=Mm hp;rw [show ps[i]=pw ps i from q_ ((cx hi).symm.trans (cj hi)),<- e i hi];exact g _ (bC (by omega))
def iO(a:List Nat)(x:Nat):(trn a x).length=a.length:=by
 unfold trn;split
 .exact LD
 .rfl
def Dx(a b:List Nat)(x y:Nat):(trn a x=trn b y\/trn a x=(trn b y).reverse) ↔ (a=b\/a=b.reverse):=by
 have rr:∀u v:List Nat,u.reverse=v ↔ u=v.reverse:=λu v=>⟨λh=>by rw [<- h,reverse_reverse],λh=>by rw [h,reverse_reverse]⟩
 unfold trn
 split <;> split
 .rw [reverse_reverse,rr,rr,reverse_reverse]
 .rw [rr,rr,reverse_reverse,Or.comm]
 .rw [reverse_reverse,Or.comm]
 .exact Iff.rfl
def xD(hi:i<ps.length):jb ps i=true ↔ ∃j,j<i/\(pw ps j=pw ps i\/pw ps j=(pw ps i).reverse):=by
 have mem:∀{w:List Nat},w∈ps.take i ↔ ∃j,j<i/\pw ps j=w:=λ{w}=>by
  constructor
  .exact vh hi
  .rintro⟨j,hj,rfl⟩;refine Eo (i:=j) ?_;rw [getElem?_take,if_pos hj];exact cj (by omega)
 unfold jb;rw [or_eq_true,decide_eq_true_eq,decide_eq_true_eq,mem,mem]
 constructor
 .rintro (⟨j,h1,h2⟩|⟨j,h1,h2⟩)
  .exact⟨j,h1,.inl h2⟩
  .exact⟨j,h1,.inr h2⟩
 .rintro⟨j,h1,h2|h2⟩
  .exact .inl ⟨j,h1,h2⟩
  .exact .inr ⟨j,h1,h2⟩
def n9{fl:List Bool}(h:Dw ps qs fl):aE qs=aE ps:=by
 obtain⟨h1,_,h3⟩:=h;unfold aE;rw [h1];refine filter_congr λi hi=>?_;have hi:=mem_range.mp hi
 have told:jb qs i=jb ps i:=by
  rw [MI,xD (show i<qs.length by omega),xD hi]
  constructor
  .rintro⟨j,hj,e⟩;rw [h3 j (by omega),h3 i hi] at e;exact⟨j,hj,(Dx _ _ _ _).mp e⟩
  .rintro⟨j,hj,e⟩;refine⟨j,hj,?_⟩;rw [h3 j (by omega),h3 i hi];exact (Dx _ _ _ _).mpr e
 have at_:∀ws:List (List Nat),(∀o∈ws,∃j,j<ws.length/\o=pw ws j):=λws o ho=>by
  obtain⟨j,hj,e⟩:=Mm ho;exact⟨j,hj,by rw [<- e];exact (q_ ((cj hj).symm.trans (cx hj))).symm⟩
 rw [MI,dW,dW,told]
 refine and_congr Iff.rfl ⟨λg o ho hl=>?_,λg o ho hl=>?_⟩
 .obtain⟨j,hj,rfl⟩:=at_ ps o ho;have:=g (pw qs j) (bC (by omega)) (by rw [h3 i hi,h3 j hj,iO,iO];exact hl);rw [h3 i hi,h3 j hj,rP] at this;exact this
 .obtain⟨j,hj,rfl⟩:=at_ qs o ho;have hj2:j<ps.length:=by omega
  rw [h3 i hi,h3 j hj2,iO,iO] at hl;rw [h3 i hi,h3 j hj2,rP];exact g _ (bC hj2) hl
def Ft{A B:Int}(h:0<=(fwW A B).1)(ne:0<=A->A≠B):(fwW B A).1=(fwW A B).1/\(fwW B A).2=1 - (fwW A B).2:=by
 have fin:∀x y:Int×Int,fwW A B=x->fwW B A=y->y.1=x.1->y.2=1 - x.2->(fwW B A).1=(fwW A B).1/\(fwW B A).2=1 - (fwW A B).2:=λx y e1 e2 e3 e4=>by rw [e1,e2];exact⟨e3,e4⟩
 by_cases a:A<0
 .by_cases b:B<0
  .unfold fwW at h;rw [if_pos a,if_pos b] at h;exact absurd h (by decide)
  .exact fin (B,1) (B,0) (by unfold fwW;rw [if_pos a,if_neg b]) (by unfold fwW;rw [if_neg b,if_pos a]) rfl rfl
 .have ne:=ne (by omega)
  by_cases b:B<0
  .exact fin (A,0) (A,1) (by unfold fwW;rw [if_neg a,if_pos b]) (by unfold fwW;rw [if_pos b,if_neg a]) rfl rfl
  .by_cases c:B<A
   .exact fin (B,1) (B,0) (by unfold fwW;rw [if_neg a,if_neg b,if_pos c]) (by unfold fwW;rw [if_neg b,if_neg a,if_neg (by omega)]) rfl rfl
   .exact fin (A,0) (A,1) (by unfold fwW;rw [if_neg a,if_neg b,if_neg c]) (by unfold fwW;rw [if_neg b,if_neg a,if_pos (by omega)]) rfl rfl
def Cu{w:List Nat}(h:0<=(cE t w).1):(cE t w.reverse).1=(cE t w).1/\(cE t w.reverse).2=if w=w.reverse then (cE t w).2 else 1 - (cE t w).2:=by
 have e0:cE t w.reverse=fwW (fnd t w.reverse 0) (fnd t w 0):=by unfold cE;rw [reverse_reverse]
 rw [e0]
 by_cases e:w=w.reverse
 .rw [if_pos e];have:fnd t w.reverse 0=fnd t w 0:=by rw [<- e]
  unfold cE;rw [this];exact⟨rfl,rfl⟩
 .rw [if_neg e];refine Ft h λh0 z=>?_
  have st:∀v:List Nat,0<=fnd t v 0->stA t v (fnd t v 0).toNat=true:=λv hv=>by
   obtain⟨k,e,_,s,_⟩:=mK (a:=t) (b:=v) (lo:=0) (by omega);rw [e];exact s
  have s1:=st w h0;have s2:=st w.reverse (by omega);rw [z] at s1;exact e ((A2 s1 s2 (by rw [LD];exact gV _)).eq_of_length (by rw [LD]))
theorem ud{f:Nat->Int}:∀{l m:List Nat},l.Perm m->l.Pairwise (λa b=>f a<f b)->m.Pairwise (λa b=>f a<f b)->l=m
 | [],m,h,_,_=>h.nil_eq
 | a::l,[],h,_,_=>absurd h.symm.nil_eq (by simp)
 | a::l,b::m,h,h1,h2=>by
  obtain⟨a1,a2⟩:=Nn.mp h1;obtain⟨b1,b2⟩:=Nn.mp h2
  have e:a=b:=by
   rcases A_.mp (h.mem_iff.mp (mem_cons_self ..)) with e|e
   .exact e
   .rcases A_.mp (h.mem_iff.mpr (mem_cons_self ..)) with g|g
    .exact g.symm
    .have:=b1 a e;have:=a1 b g;omega
  subst e;rw [ud (List.Perm.cons_inv h) a2 b2]
def kE{fl:List Bool}(h:Dw ps qs fl):(ag qs).length=(ag ps).length/\∀i,i<(ag ps).length->pw (ag qs) i=trn (pw (ag ps) i) (if fl.getD ((aE ps).getD i 0) false then 1 else 0):=by
 have hk:=n9 h;refine⟨by unfold ag;rw [hk,length_map,length_map],λi hi=>?_⟩;have hi2:i<(aE ps).length:=by unfold ag at hi;rwa [length_map] at hi
 have g:∀xs:List (List Nat),pw ((aE ps).map (pw xs)) i=pw xs ((aE ps).getD i 0):=λxs=>by
  unfold pw;rw [cy,h_,cx hi2,cy (l:=aE ps),cx hi2];rfl
 unfold ag;rw [hk,g qs,g ps];refine h.2.2 _ ?_;rw [cy,cx hi2];exact c6 (Ml hi2)
def yp{fl:List Bool}(h:Dw ps qs fl)(hi:i<(ag ps).length)(h0:0<=(cE t (pw (ag ps) i)).1):(cE t (pw (ag qs) i)).1=(cE t (pw (ag ps) i)).1/\(cE t (pw (ag qs) i)).2=if fl.getD ((aE ps).getD i 0) false=true/\pw (ag ps) i≠(pw (ag ps) i).reverse then 1 - (cE t (pw (ag ps) i)).2 else (cE t (pw (ag ps) i)).2:=by
 rw [(kE h).2 i hi]
 cases fl.getD ((aE ps).getD i 0) false with
 | false=>rw [if_neg (by simp)];exact⟨rfl,rfl⟩
 | true =>
  have:=Cu h0;refine⟨this.1,this.2.trans ?_⟩
  by_cases e:pw (ag ps) i=(pw (ag ps) i).reverse
  .rw [if_pos e,if_neg (λz=>z.2 e)]
  .rw [if_neg e,if_pos ⟨rfl,e⟩]
abbrev wyZ(t:List Nat)(ws:List (List Nat))(js:List Nat):List (Nat×Nat):=js.map λi=>(i,mS t (pw ws i))
def A8(t:List Nat)(ws:List (List Nat))(js:List Nat):(wyZ t ws js).map B_=js:=by
 rw [map_map];exact List.map_id' _
def A9(t:List Nat)(ws:List (List Nat))(js:List Nat):(wyZ t ws js).map (λz=>2*z.1+z.2)=uN t ws js:=by
 rw [map_map];rfl
def Kf(h:∀i∈js,0<=(cE t (pw ws i)).1):js.map (wyT t ws)=(wyZ t ws js).map prT:=by
 rw [map_map];refine LW λi hi=>?_;obtain⟨k,e,_,_⟩:=qq (h i hi);show D.tup [nD i,.int (cE t (pw ws i)).2]=D.tup [.int (i:Int),.int (mS t (pw ws i):Int)];unfold mS;rw [e,toNat_natCast];rfl
noncomputable def dJ:FN:=λa_ Q=>cO (λc ns fs=>cS (λt=>cN (c="Turnable"/\ns=kt/\∃ps:List (List Nat),fs=ku ps/\(ps.length<=20/\Pcs 60 ps)/\(∀j,j<(ag ps).length->0<=(cE t (pw (ag ps) j)).1)/\(∀js:List Nat,js.Perm (e_ (ag ps).length)->js.Pairwise (λa b=>(cE t (pw (ag ps) a)).1<(cE t (pw (ag ps) b)).1)->Q (.dat (.tup ((wyZ t (ag ps) js).map prT))))))) a_
noncomputable def FI(n:Nat):List (Nat×Nat):=(Cs (2*n)).filter λp=>decide (p.1 / 2≠p.2 / 2)
def Cv{p:Nat×Nat}(h:p∈FI n):p.1<2*n/\p.2<2*n/\p.1 / 2≠p.2 / 2:=by
 unfold FI at h;rw [mem_filter,Ct,decide_eq_true_eq] at h;exact⟨h.1.1,h.1.2.1,h.2⟩
noncomputable def mxG(gs:List Int)(i:Nat):Int:=if gs.getD (2*i+1) 0 > gs.getD (2*i) 0 then gs.getD (2*i+1) 0 else gs.getD (2*i) 0
noncomputable def mxS(gs:List Int)(n:Nat):List Int:=(e_ n).map (mxG gs)
def Fu{a b:α}(h:b∈u1 n a):b=a:=(mem_replicate.mp h).2
noncomputable def cW:FN:=λa_ Q=>cO (λc ns fs=>cT (λds=>cN (c="Turnable"/\ns=kt/\∃ps:List (List Nat),fs=ku ps/\∃gs:List Int,ds=[gs,u1 (2*(ag ps).length) 0].map (λzs=>D.lst (zs.map .int))/\((ag ps).length<=20/\gs.length=2*(ag ps).length/\(∀g∈gs,0<=g)/\∀a b,a<2*(ag ps).length->b<2*(ag ps).length->a / 2≠b / 2->(dB (pw (am (ag ps)) a) (pw (am (ag ps)) b):Int)<=gs.getD a 0)/\Q (.dat (.int (((ag ps).map λw=>(w.length:Int)).sum - (mxS gs (ag ps).length).sum)))))) a_
noncomputable def gS:FN:=λa_ Q=>cR (λns=>cI (λk=>cN ((0<=k/\k<=1000/\ns.length<=1000)/\∀s:Int×Int,SOk s->Q (stv s)))) a_
noncomputable def aD:FR:=λp a_ Q=>oL (λes_=>cI (λc0=>cI (λc1=>cN (cI (λm=>cN (SOk (c0,c1)/\0<m/\m<=1000000/\∀(x:Int) (s:Int×Int),SOk s->0<=x->x<m->Q (.dat (.int x)) (stv s))) a_))) es_) p
noncomputable def eX:FR:=λp a_ Q=>oL (λes_=>cI (λc0=>cI (λc1=>cN (cS (λls=>cI (λm=>cN (SOk (c0,c1)/\(0<ls.length/\ls.length<=26/\Lts ls)/\(0<m/\m<=10000)/\∀(w:List Nat) (s:Int×Int),SOk s->0<w.length->w.length<=m.toNat->Lts w->Q (.dat (.str w)) (stv s)))) a_))) es_) p
noncomputable def cX:FN:=λa_ Q=>cS (λl=>cN (l.length<=10000/\Q (.dat (.str l.reverse)))) a_
noncomputable def i9:FR:=λp a_ Q=>oL (λes_=>cI (λc0=>cI (λc1=>cN (cS (λt=>cI (λm=>cN (SOk (c0,c1)/\(0<t.length/\t.length<=100000/\Lts t)/\(0<m/\m<=10000)/\∀(w:List Nat) (s:Int×Int),SOk s->0<w.length->w.length<=m.toNat->Lts w->Q (.dat (.str w)) (stv s)))) a_))) es_) p
noncomputable def jU:FR:=λp a_ Q=>oL (λes_=>cI (λc0=>cI (λc1=>cN (cI (λm=>cN (SOk (c0,c1)/\(0<m/\m<=100)/\∀(ls b:List Nat) (s:Int×Int),SOk s->(0<ls.length/\ls.length<=26/\Lts ls)->(0<b.length/\b.length<=100000/\Lts b)->Q (.dat (.tup [.str ls,.str b])) (stv s))) a_))) es_) p
def vC(h:∀w∈ws,Lts w):w4 (.lst (ws.map .str)) (.lst []):=w4.of (Sh.lstS h) (Sh.lstI [])
def ue(ws:List (List Nat)):deq (.lst (ws.map .str)) (.lst [])=decide (ws=[]):=by
 show M_ (.list (D.pys (ws.map .str))) (.list [])=_;rw [u7];cases ws <;> simp [M_,Nk]
variable {l:List Nat}
def Ba(h:Lts l):Lts l.reverse:=λc hc=>h c (mem_reverse.mp hc)
noncomputable def gT:FR:=λp a_ Q=>oL (λes_=>cI (λc0=>cI (λc1=>cN (cI (λn=>cI (λm=>cN (SOk (c0,c1)/\(0<=n/\n<=100/\0<m/\m<=60)/\∀(ps:List (List Nat)) (s:Int×Int),SOk s->ps.length=n.toNat->Pcs m.toNat ps->Q (.dat (.lst (ps.map .str))) (stv s)))) a_))) es_) p
noncomputable def gg:FN:=λa_ Q=>cS (λa=>cS (λb=>cN (a.length<=10000/\(0<b.length/\b.length<=10000)/\Q (.dat (.int (dB a b:Int)))))) a_
noncomputable def dO:FN:=λa_ Q=>cL (λds=>cI (λi=>cN (∃ws:List (List Nat),ds=ws.map .str/\(ws.length<=1000/\∀w∈ws,w.length<=10000)/\(0<=i/\i<(ws.length:Int))/\Q (.dat (.bl (!f8 ws i.toNat)))))) a_
noncomputable def jV:FN:=λa_ Q=>cL (λds=>cN (∃ws:List (List Nat),ds=ws.map .str/\(ws.length<=1000/\∀w∈ws,w.length<=10000)/\Q (.own ((aE ws).map nD)))) a_
noncomputable def iP:FN:=λa_ Q=>cD (λd=>cN (d.sort=true/\Q (.dat (.bl (HB d))))) a_
def Bb(js:List Nat):js.map nD=(js.map λj=>((j:Nat):Int)).map D.int:=by rw [map_map];rfl
def Bc(rs:List Nat):w4 (.lst (rs.map nD)) (.lst []):=by rw [Bb];exact w4.of (Sh.lstI _) (Sh.lstI [])
def Fv(rs:List Nat):deq (.lst (rs.map nD)) (.lst [])=decide (rs=[]):=by
 rw [Bb,show (D.lst [])=D.lst (([]:List Int).map D.int) from rfl,xj];exact decide_eq_decide.mpr ⟨λz=>by simpa using z,λz=>by rw [z];rfl⟩
noncomputable def dy:FR:=λp a_ Q=>oL (λes_=>cI (λc0=>cI (λc1=>cN (cL (λds=>cN (∃xs:List Nat,ds=xs.map nD/\(SOk (c0,c1)/\xs.length<=1000)/\∀(js:List Nat) (s:Int×Int),js.Perm xs->SOk s->Q (.dat (.lst (js.map nD))) (stv s))) a_))) es_) p
noncomputable def gU:FR:=λp a_ Q=>oL (λes_=>cI (λc0=>cI (λc1=>cN (cS (λa=>cS (λb=>cI (λm=>cN (SOk (c0,c1)/\(0<=m/\m<=(a.length:Int)/\a.length<=10000/\b.length<=10000)/\∀(r:Nat) (s:Int×Int),SOk s->(r:Int)<=m->b.take r <:+ a->Q (.dat (.int (r:Int))) (stv s))))) a_))) es_) p
noncomputable def jW:FR:=λp a_ Q=>oL (λes_=>cI (λc0=>cI (λc1=>cN (cL (λds=>cN (∃ws:List (List Nat),ds=ws.map .str/\(SOk (c0,c1)/\ws.length<=40/\Pcs 60 ws)/\∀(T:List Nat) (s:Int×Int),SOk s->T.length<=10000->(∀w∈ws,w <:+: T)->Q (.dat (.str T)) (stv s))) a_))) es_) p
noncomputable def dz:FN:=λa_ Q=>cD (λd=>cN (∃ws:List (List Nat),uL d (ws.map .str)/\(ws.length<=1000/\∀w∈ws,w.length<=10000)/\Q (.dat (.lst ((am ws).map .str))))) a_
noncomputable def jX:FR:=λp a_ Q=>oL (λes_=>cI (λc0=>cI (λc1=>cN (cI (λm=>cN (SOk (c0,c1)/\(0<=m/\m<=20)/\∀(ks:List (Nat×Nat)) (s:Int×Int),SOk s->(ks.map B_).Perm (e_ m.toNat)->(∀p∈ks,p.2<2)->Q (.dat (.lst (ks.map prT))) (stv s))) a_))) es_) p
noncomputable def iQ:FN:=λa_ Q=>cL (λds=>cL (λes=>cN (∃ws:List (List Nat),ds=ws.map .str/\∃ks:List (Nat×Nat),es=ks.map prT/\(ws.length<=20/\Pcs 60 ws/\ks.length<=100/\∀p∈ks,p.1<ws.length/\p.2<2)/\Q (.dat (.lst ((ks.map λp=>pw (am ws) (2*p.1+p.2)).map .str)))))) a_
noncomputable def iR:FN:=λa_ Q=>cL (λds=>cN (∃ws:List (List Nat),ds=ws.map .str/\(ws.length<=6/\Pcs 60 ws)/\∀gs:List Int,gs.length=2*ws.length->(∀a b,a<2*ws.length->b<2*ws.length->a / 2≠b / 2->(dB (pw (am ws) a) (pw (am ws) b):Int)<=gs.getD a 0)->(∀g∈gs,0<=g/\g<=60)->Q (.dat (.tup [.lst (gs.map .int),.lst ((u1 (2*ws.length) (0:Int)).map .int)])))) a_
def xE{w:List Nat}(h:0<=(cE t w).1):((mS t w:Nat):Int)=(cE t w).2:=by
 obtain⟨k,e,_,_⟩:=qq h;unfold mS;rw [e];rfl
noncomputable def flW(ps:List (List Nat))(fl:List Bool):List (List Nat):=(ps.zip fl).map λp=>trn p.1 (if p.2 then 1 else 0)
def Cw{fl:List Bool}(h:fl.length=ps.length):Dw ps (flW ps fl) fl:=by
 refine⟨by unfold flW;rw [length_map,length_zip,h];exact min_self _,h,λi hi=>?_⟩;have h2:i<fl.length:=by omega
 unfold flW pw;rw [cy,h_,cx (show i<(ps.zip fl).length by rw [length_zip];omega),getElem_zip,cy,cx hi,cy (l:=fl),cx h2];rfl
def Fw{fl:List Bool}(hp:Pcs 60 ps):Pcs 60 (flW ps fl):=λw hw=>by
 obtain⟨p,hm,rfl⟩:=LJ.mp hw;obtain⟨h1,h2,h3⟩:=hp _ (NN hm).1;refine⟨by rw [iO];exact h1,by rw [iO];exact h2,?_⟩;unfold trn
 split
 .exact λx hx=>h3 x (mem_reverse.mp hx)
 .exact h3
def Cy{fl:List Bool}(h:Dw ps qs fl):(ag qs).map (λw=>(w.length:Int))=(ag ps).map λw=>(w.length:Int):=by
 obtain⟨h1,h2⟩:=kE h;refine ext_getElem (by rw [length_map,length_map];exact h1) λi a b=>?_;rw [length_map] at a b;have:=h2 i b;rw [getElem_map,getElem_map,show (ag qs)[i]=pw (ag qs) i from q_ ((cx a).symm.trans (cj a)),show (ag ps)[i]=pw (ag ps) i from q_ ((cx b).symm.trans (cj b)),this,iO]
noncomputable def jY:FN:=λa_ Q=>cO (λc ns fs=>cO (λc2 ns2 fs2=>cS (λt=>cL (λbs=>cN (c="Turnable"/\ns=kt/\c2="Turnable"/\ns2=kt/\∃ps qs:List (List Nat),∃fl:List Bool,fs=ku ps/\fs2=ku qs/\bs=fl.map .bl/\(ps.length<=6/\Pcs 60 ps/\Pcs 60 qs/\Dw ps qs fl)/\Lst (jc ps) t/\Q (.dat (.bl true))))))) a_
theorem Dy{ss:List (List Nat)}{G:Nat->Int}(h0:∀i,0<=G i)(hL:∀a b,a<ss.length->b<ss.length->a / 2≠b / 2->(dB (pw ss a) (pw ss b):Int)<=G a):∀(r:List Nat) (i:Nat),((i::r).map (· / 2)).Nodup->(∀j∈i::r,j<ss.length)->(EZ ss i r:Int)<=((i::r).map G).sum
 | [],i,_,_=>by
  have:=h0 i;show ((0:Nat):Int)<=G i+0;omega
 | j::r,i,hd,hm=>by
  have hd:i / 2∉((j::r).map (· / 2))/\((j::r).map (· / 2)).Nodup:=NM.mp hd;have ih:=Dy h0 hL r j hd.2 λk hk=>hm k (m_ _ hk);have l:=hL i j (hm i mem_cons_self) (hm j (m_ _ mem_cons_self)) λz=>hd.1 (by rw [z];exact mem_cons_self);show ((dB (pw ss i) (pw ss j)+EZ ss j r:Nat):Int)<=G i+((j::r).map G).sum;omega
theorem Dz{f g:Nat->Int}:∀{l:List Nat},(∀i∈l,f i<=g i)->(l.map f).sum<=(l.map g).sum
 | [],_=>Oq _
 | a::l,h=>by
  have:=Dz (l:=l) λi hi=>h i (m_ _ hi);have:=h a mem_cons_self;rw [map_cons,map_cons,sum_cons,sum_cons];omega
theorem xF(f:Nat->Nat):∀l:List Nat,(((l.map f).sum:Nat):Int)=(l.map λi=>((f i:Nat):Int)).sum
 | []=>rfl
 | a::l=>by rw [map_cons,map_cons,sum_cons,sum_cons,<- xF f l,natCast_add]
def xG{as bs:List Int}(h:as.Perm bs):as.sum=bs.sum:=by
 induction h with
 | nil=>rfl
 | cons x _ ih=>rw [sum_cons,sum_cons,ih]
 | swap x y l=>rw [sum_cons,sum_cons,sum_cons,sum_cons];omega
 | trans _ _ i1 i2=>rw [i1,i2]
def qt(hp:Pcs 60 ps){gs:List Int}(g0:∀g∈gs,0<=g)(hL:∀a b,a<2*(ag ps).length->b<2*(ag ps).length->a / 2≠b / 2->(dB (pw (am (ag ps)) a) (pw (am (ag ps)) b):Int)<=gs.getD a 0){u:List Nat}(h:jc ps u):
  ((ag ps).map λw=>(w.length:Int)).sum - (mxS gs (ag ps).length).sum<=(u.length:Int):=by
 have hf:=i8 h;obtain⟨js,hj,hr⟩:=A6 hf;have hb:=(kB hp hf hj hr).1;have wp:=dn hp;generalize ag ps=ws at hf hj hr hb wp hL ⊢;have lt:∀i∈js,i<ws.length:=λi h=>mem_range.mp (hj.mem_iff.mp h);have w2:∀i∈js,mS u (pw ws i)<2:=λi hi=>n8 (hf i (lt i hi));have half:=kC w2;have sl:=bB ws
 have kl:∀k∈uN u ws js,k<(am ws).length:=λk hk=>by
  obtain⟨i,hi,rfl⟩:=LJ.mp hk;have:=lt i hi;have:=w2 i hi;omega
 have e1:=E1 λk hk=>((cU wp) _ (bC (kl k hk))).1
 have e2:((((uN u ws js).map λj=>(pw (am ws) j).length).sum:Nat):Int)=(ws.map λw=>(w.length:Int)).sum:=by
  rw [xF,map_map]
  have:js.map ((λj=>(((pw (am ws) j).length:Nat):Int)) ∘ λi=>2*i+mS u (pw ws i))=js.map λi=>((pw ws i).length:Int):=LW λi hi=>by
   show (((pw (am ws) (2*i+mS u (pw ws i))).length:Nat):Int)=_;rw [i7 (lt i hi) (w2 i hi),iO]
  rw [this,xG (hj.map _)];congr 1;refine ext_getElem (by rw [length_map,length_map,tj]) λi a b=>?_;rw [length_map,tj] at a;rw [getElem_map,getElem_map,getElem_range];unfold pw;rw [cy,cx a];rfl
 have g1:∀i,0<=gs.getD i 0:=λi=>by
  rw [cy]
  cases e:gs[i]? with
  | none=>exact Oq _
  | some x=>exact g0 x (Eo e)
 have e3:(KU (am ws) (uN u ws js):Int)<=((uN u ws js).map λk=>gs.getD k 0).sum:=by
  generalize hk:uN u ws js=ks at half kl
  cases ks with
  | nil=>exact Oq _
  | cons i r=>exact Dy g1 (λa b ha hb=>hL a b (by omega) (by omega)) r i (by rw [half];exact hj.nodup_iff.mpr NU) kl
 have e4:((uN u ws js).map λk=>gs.getD k 0).sum<=(mxS gs ws.length).sum:=by
  rw [map_map,show (mxS gs ws.length).sum=(js.map (mxG gs)).sum from (xG (hj.map _)).symm];refine Dz λi hi=>?_;have:=w2 i hi;show gs.getD (2*i+mS u (pw ws i)) 0<=mxG gs i;unfold mxG
  rcases (show mS u (pw ws i)=0\/mS u (pw ws i)=1 by omega) with e|e
  .rw [e,show 2*i+0=2*i from rfl];split <;> omega
  .rw [e];split <;> omega
 omega
noncomputable def dP:FR:=λp a_ Q=>oL (λes_=>cI (λc0=>cI (λc1=>cN (cO (λc ns fs=>cS (λt=>cN (c="Turnable"/\ns=kt/\∃ps:List (List Nat),fs=ku ps/\(SOk (c0,c1)/\ps.length<=6/\Pcs 60 ps)/\Lst (jc ps) t/\∀s:Int×Int,SOk s->Q (.dat (.bl true)) (stv s)))) a_))) es_) p
def DA:Nat:=9
abbrev DB:FN:=KH
noncomputable def uf(K:b_)(mg:Str->Option Value)(t:TxC K):=(have TC:=t;show LS K [] _ _ from (aC (G9 .list .tuple pE (aA 0))))
def Bd:PTS:=psO uf
def Be:PRl iJ Bd 1 1:=λ_ Q h=>AT h λd _ h=>cC h λh=>r_ rfl <| by
 walk_at "z";obtain⟨hd,q⟩:=h;cases d <;> first|(cases hd;done)|(walk_at "r";exact q)
noncomputable def lR(K:b_)(mg:Str->Option Value)(t:TxC K):=(have TC:=t;show LS K [] _ _ from (aC (hG (sW .int (aA 0)) (zO (sW .bool (aA 0))))))
def ug:PTS:=psO lR
def uh:PRl dY ug 1 1:=λ_ Q h=>AT h λd _ h=>cC h λh=>r_ rfl <| by
 walk_at "z";obtain⟨hd,q⟩:=h;cases d <;> first|(cases hd;done)|(walk_at "r";exact q)
noncomputable def jh(K:b_)(mg:Str->Option Value)(t:TxC K):=(have TC:=t;show LS K [] _ _ from (aC (hG (ap (c:=iJ) (aa (aU 0) ac)) (hG (aq dU (ai (aR aZ (aa (aA 0) ac))) (aA 1)) (aR qc (aa (ai (aP (ix:=[none]) rfl (ba (cJ 0)) (λfs hc=>(aQ 0 (dh hc (by decide)))) br (ap (c:=dY) (aa (aU 0) ac)))) ac))))))
def pK:PTS:=psO jh
def pL:PRl ca pK 2 2:=λ_ Q h=>AT h λd _ h=>fb h λm _ h=>cC h λh=>r_ rfl <| by
 walk_at "z";obtain⟨zs,hz,⟨hl,hm⟩,q⟩:=h;have e:(zs.map D.int).length=zs.length:=length_map _
 rcases hz with rfl|rfl <;> (
  walk_at "r"
  refine cm1 (xs:=zs) (e:=D.int) (λ_=>.bl true) (λz hz v K1 k1=>?_) (λv=>?_)
  .walk_at "r";exact k1 _
  .walk_at "r";refine⟨zs.map λ_=>true,by rw [map_map];rfl,?_⟩;rw [kz];exact q)
noncomputable def kF(K:b_)(mg:Str->Option Value)(t:TxC K):=(have TC:=t;show LS K [] _ _ from (aC (hG (ap (c:=ca) (aa (aU 0) (aa (aU 1) ac))) (aR qc (aa (ai (aP (ix:=[none]) rfl (ba (cJ 0)) (λfs hc=>(aQ 0 (dh hc (by decide)))) br (aq x5 (aA 0) (bq 0)))) ac)))))
def rR:PTS:=psO kF
def rS:PRl er rR 2 2:=λ_ Q h=>vn h λds _ h=>fb h λm _ h=>cC h λh=>r_ rfl <| by
 walk_at "z";obtain⟨zs,rfl,⟨hl,hm,h0⟩,q⟩:=h;walk_at "r"
 refine cm1 (xs:=zs) (e:=D.int) (λ_=>.bl true) (λz hz v K1 k1=>?_) (λv=>?_)
 .have:=h0 z hz;walk_at "r";rw [decide_eq_true this];exact k1 _
 .walk_at "r";refine⟨zs.map λ_=>true,by rw [map_map];rfl,?_⟩;rw [kz];exact q
noncomputable def gk(K:b_)(mg:Str->Option Value)(t:TxC K):=(have TC:=t;show LS K [] _ _ from (aC (hG (ap (c:=iJ) (aa (aU 0) ac)) (hG (aq dU (ai (aR aZ (aa (aA 0) ac))) (bq 2)) (aR qc (aa (ai (aP (ix:=[none,some 1]) rfl (ba (cJ 0)) (λfs hc=>(aQ 0 (dh hc (by decide)))) br (ap (c:=er) (aa (aU 0) (aa (aU 1) ac))))) ac))))))
def lG:PTS:=psO gk
def lH:PRl dI lG 2 2:=λ_ Q h=>vo h λds _ h=>fb h λm _ h=>cC h λh=>r_ rfl <| by
 walk_at "z";obtain⟨gs,ts,rfl,⟨hm,h0⟩,q⟩:=h;walk_at "r"
 refine CY (λτ=>∃v,τ=[v,some (.dat (.int m))]) (λk=>.bl true) ⟨_,rfl⟩ ?_ ?_
 .rintro k τ _ hk rfl ⟨v,rfl⟩ K1 k1
  obtain⟨zs,e,hz⟩:∃zs:List Int,itD ([gs,ts].map λzs=>D.lst (zs.map .int)) k=.lst (zs.map .int)/\zs∈[gs,ts]:=by
   match k,hk with
   | 0,_=>exact⟨gs,rfl,by simp⟩
   | 1,_=>exact⟨ts,rfl,by simp⟩
  have g:=h0 zs hz;have g2:(zs.length:Int)=m/\m<=1000/\∀z∈zs,0<=z:=⟨g.1,hm,g.2⟩
  rw [e];walk_at "r";exact k1 _ ⟨_,rfl⟩
 .rintro τ ⟨v,rfl⟩;walk_at "r";refine⟨(e_ 2).map λ_=>true,by rw [map_map];rfl,?_⟩;rw [kz];exact q
noncomputable def qu(K:b_)(mg:Str->Option Value)(t:TxC K):=(have TC:=t;show LS K [] _ _ from (aC (aP (ix:=[none,some 0]) rfl (qV (aa (ai (E6 (cJ 0))) ac)) (λfs hc=>(aQ 0 (dh hc (by decide)))) (J5 (aq EN (ai (aq HK (aA 1) (aA 0))) (bq 1))) (cJ 0))))
def yq:PTS:=psO qu
def yr:PRl gc yq 1 1:=λ_ Q h=>fb h λm _ h=>cC h λh=>r_ rfl <| by
 walk_at "z";obtain⟨k,rfl,hk,q⟩:=h;have hb:=yn hk;have hb8:=(t6 hk).2;walk_at "r"
 refine cfR (λj=>k.testBit j) (λj=>nD j) (λj hj v K1 K2 k1 k2=>?_) (λv=>?_)
 .have e:=Im k j;show (0:Int)<=(j:Int)/\io (MY ((k:Int) / 2^(j:Int).toNat) 1 != 0) _ _;refine⟨by omega,?_⟩;rw [e]
  cases h:k.testBit j with
  | true=>exact k1 _ h
  | false=>exact k2 _ h
 .rw [toNat_natCast,hb];exact q
noncomputable def og(K:b_)(mg:Str->Option Value)(t:TxC K):=(have TC:=t;show LS K [] _ _ from (au (cw (fe (aq eL (ai (aR aZ (aa (aA 0) ac))) (ai (aR aZ (aa (aA 1) ac))))) (aC (aq En (ai (aR aZ (aa (aA 0) ac))) (ai (aR aZ (aa (aA 1) ac))))) bd) (aC (aq En (aA 0) (aA 1)))))
def vD:PTS:=psO og
def vE:PRl jM vD 2 2:=λ_ Q h=>mR h λa _ h=>mR h λb _ h=>cC h λh=>r_ rfl <| by
 walk_at "z";have h:Q (.dat (.bl (ahB a b))):=h;unfold ahB at h;walk_at "r"
 refine nC (λc=>?_) (λc=>?_)
 .rw [if_pos (by omega)] at h;walk_at "r";rw [show decide ((a.length:Int)<(b.length:Int))=decide (a.length<b.length) from decide_eq_decide.mpr (by omega)];exact h
 .rw [if_neg (by omega)] at h;walk_at "r";exact h
noncomputable def oh(K:b_)(mg:Str->Option Value)(t:TxC K):=(have TC:=t;show LS K [] _ _ from (au (ay (aq bA (aA 0) (bq 0)) (cp 1 rfl)) (au (eI (ba (bp (aA 0) (bh (yP 1)) bv)) (aQ 2 rfl) (cw (qS (ap (c:=jM) (aa (aU 2) (aa (aU 1) ac)))) (ay (cJ 2) (cp 1 rfl)) bd)) (aC (cJ 1)))))
def vF:PTS:=psO oh
def vG:PRl eV vF 3 1:=λ_ Q h=>vn h λds _ h=>cC h λh=>r_ rfl <| by
 walk_at "z";obtain⟨ts,rfl,⟨hne,hl⟩,q⟩:=h;obtain⟨t0,r,rfl⟩:∃t0 r,ts=t0::r:=by cases ts with|nil=>exact absurd rfl hne|cons t0 r=>exact⟨t0,r,rfl⟩
 have hl:r.length+1<=100000:=hl;have c1:eA ((t0::r).map D.str) (some 1) none=r.map D.str:=KW _ _;have hat:atI ((t0::r).map D.str) 0=some (.str t0):=gZ (j:=0) rfl rfl;walk_at "r";refine⟨_,hat,?_⟩;walk_at "r";rw [c1];walk_at "r"
 refine IR (α:=List Nat) (e:=D.str) (xs:=r) (λ(pre:List (List Nat)) ρ=>∃(b:List Nat) (v:Option PV),Lst (·∈t0::pre) b/\ρ=[some (.dat (.lst ((t0::r).map .str))),some (.dat (.str b)),v]) ⟨_,_,vg t0,rfl⟩ ?_ ?_
 .rintro pre x suf ρ ej ⟨b,v,hb,rfl⟩;have hs:=xu (t:=x) hb;walk_at "r"
  refine IK (λc=>?_) (λc=>?_)
  .rw [if_pos c] at hs;walk_at "r";exact⟨x,_,hs,rfl⟩
  .rw [if_neg (by rw [c];decide)] at hs;exact⟨b,_,hs,rfl⟩
 rintro ρ ⟨b,v,hb,rfl⟩;walk_at "r";exact q b hb
noncomputable def oi(K:b_)(mg:Str->Option Value)(t:TxC K):=(have TC:=t;show LS K [] _ _ from (aC (tN (aP (ix:=[none,none]) rfl (sY (aa (aU 0) (aa (aU 1) ac))) (λfs hc=>(cB (n:=2) (aH (aQ 0 (dh hc (by decide))) (aH (aQ 1 (dh hc (by decide))) bW)))) br (aP (ix:=[none,some 0]) rfl (ba (cJ 1)) (λfs hc=>(aQ 0 (dh hc (by decide)))) br (bp (aA 1) bv (bh (aq kh (ai (aR aZ (aa (aA 1) ac))) (aA 0)))))))))
def vH:PTS:=psO oi
def vI:PRl jN vH 2 2:=λ_ Q h=>vo h λds _ h=>vo h λls _ h=>cC h λh=>r_ rfl <| by
 walk_at "z";obtain⟨ws,rfl,⟨hls,hn,hw⟩,q⟩:=h;unfold tI at hls;cases hls;have hm1:(ws.map D.str).length=ws.length:=length_map _;have hm2:(ws.map λw=>D.tup (ws.map λv=>.int (dB w v:Int))).length=ws.length:=length_map _;walk_at "r"
 refine CY (λτ=>∃v w:Option PV,τ=[v,w]) (λi=>.lst ((e_ ws.length).map λj=>.str (hdW ws i j))) ⟨_,_,rfl⟩ ?_ ?_
 .rintro i τ _ hi rfl ⟨v,w,rfl⟩ K1 k1;rw [hm1,hm2,min_self] at hi;have hwi:=hw _ (bC hi);rw [show itD (ws.map D.str) i=.str (pw ws i) from jf (by rw [h_,cj hi];rfl),show itD (ws.map λw=>D.tup (ws.map λv=>.int (dB w v:Int))) i=.tup (ws.map λv=>.int (dB (pw ws i) v:Int)) from jf (by rw [h_,cj hi];rfl)];walk_at "r"
  refine cm1 (e:=λu=>D.int (dB (pw ws i) u:Int)) (xs:=ws) (λu=>.str ((pw ws i).take ((pw ws i).length - dB (pw ws i) u))) (λu hu v K2 k2=>?_) (λv=>?_)
  .have hl:=(iA hwi.1 (hw u hu).1).1;walk_at "r";rw [show ((pw ws i).length:Int) - (dB (pw ws i) u:Int)=(((pw ws i).length - dB (pw ws i) u:Nat):Int) by omega,gq];exact k2 _
  .rw [Dr (α:=Nat) (λu=>D.str ((pw ws i).take ((pw ws i).length - dB (pw ws i) u))) ws];exact k1 _ ⟨_,_,rfl⟩
 .rintro τ ⟨v,w,rfl⟩;rw [hm1,hm2,min_self];exact q
noncomputable def lS(K:b_)(mg:Str->Option Value)(t:TxC K):=(have TC:=t;show LS K [] _ _ from (aC (tN (aP (ix:=[none]) rfl (qV (aa (ai (aq C5 (bq 1) (aA 0))) ac)) (λfs hc=>(aQ 0 (dh hc (by decide)))) br (aP (ix:=[none,some 0]) rfl (ba (ap (c:=gc) (aa (aU 0) ac))) (λfs hc=>(aQ 0 (dh hc (by decide)))) br (dC (aa (aU 0) (aa (ai (aq kh (aA 1) (ai (aq C5 (bq 1) (aA 0))))) ac))))))))
def ui:PTS:=psO lS
def uj:PRl fE ui 1 1:=λ_ Q h=>fb h λm _ h=>cC h λh=>r_ rfl <| by
 walk_at "z";obtain⟨k,rfl,hk,q⟩:=h;have hS:0<=(k:Int)/\(k:Int)<=1000000/\(1:Int).natAbs<2^64:=⟨by omega,by omega,by decide⟩
 have hp:2^k<=4096:=My (n:=2) (by decide) hk;have eS:=K3 k;have hr2:(-1000000:Int)<=1*2^(k:Int).toNat:=by rw [eS];exact Pj (show (-1000000:Int)<=0 by decide) (natCast_nonneg _)
 have hr3:(1:Int)*2^(k:Int).toNat<=1000000:=by rw [eS];exact Pj (ofNat_le.mpr hp) (by decide)
 walk_at "r";rw [eS]
 refine cmR (λm=>chD ((lf m).map λi=>(i,m - 2^i))) (λm hm v K1 k1=>?_) (λv=>?_)
 .rw [toNat_natCast] at hm;have h12:m<4096:=by omega
  have hl:=kA m;walk_at "r"
  refine cm1 (e:=nD) (xs:=lf m) (λi=>.tup [nD i,nD (m - 2^i)]) (λi hi v K2 k2=>?_) (λv=>?_)
  .have hb:=(iB h12).mp hi;have hi12:=rE (n:=12) h12 hb;have hle:=(rF h12 hb).1;have hS:0<=(i:Int)/\(i:Int)<=1000000/\(1:Int).natAbs<2^64:=⟨by omega,by omega,by decide⟩
   have eS:=K3 i;walk_at "r";rw [eS,show (m:Int) - ((2^i:Nat):Int)=((m - 2^i:Nat):Int) by omega];exact k2 _
  .walk_at "r";have e:(lf m).map (λi=>D.tup [nD i,nD (m - 2^i)])=((lf m).map λi=>(i,m - 2^i)).map λp=>.tup [nD p.1,nD p.2]:=by rw [map_map];rfl
   rw [e];exact k1 _
 .rw [toNat_natCast];walk_at "r";unfold K4 fO at q;rw [map_map] at q;exact q
noncomputable def oj(K:b_)(mg:Str->Option Value)(t:TxC K):=(have TC:=t;show LS K [] _ _ from (au (ay (fq ac) (cp 3 rfl)) (au (eI (ba (cJ 2)) (aQ 4 rfl) (au (ay (aP (ix:=[none,none,some 3]) rfl (ba (cJ 4)) (λfs hc=>(cB (n:=2) (aH (aQ 0 (dh hc (by decide))) (aH (aQ 1 (dh hc (by decide))) bW)))) br (dC (aa (aU 0) (aa (ai (aq bA (ai (aq bA (aA 2) (aA 1))) (aA 0))) ac)))) (cp 5 rfl)) (jw (sZ (i:=3) (El (J7 (cJ 5)) (aP (ix:=[none,some 5]) rfl (ba (cJ 0)) (λfs hc=>(aQ 0 (dh hc (by decide)))) br (ap (c:=eV) (aa (ai (aP (ix:=[none,none,some 0]) rfl (ba (cJ 1)) (λfs hc=>(cB (n:=2) (aH (aQ 0 (dh hc (by decide))) (aH (aQ 1 (dh hc (by decide))) bW)))) br (aq bL (ai (aq bA (aA 2) (aA 0))) (aA 1)))) ac))) (aR u0 (aa (aA 1) ac))))))) (aC (cJ 3)))))
def vJ:PTS:=psO oj
def vK:PRl jP vJ 6 3:=λ_ Q h=>vn h λhs _ h=>AT h λla _ h=>vn h λcs _ h=>cC h λh=>r_ rfl <| by
 walk_at "z";obtain⟨w,hd,rfl,L,rfl,ls,⟨hla,hL,h60,hl60,hw⟩,q⟩:=h;have hcm:(L.map chD).length=L.length:=length_map _;have hmany:=hL.many;have hhl:(hdD w hd).length=w:=by unfold hdD;rw [length_map,tj]
 walk_at "r"
 refine⟨λk ρ=>∃(es:List (List (List Nat))) (v3 v4 v5:Option PV),nZ L hd ls w k es/\ρ=[some (.dat (.lst (hdD w hd))),some (.dat la),some (.dat (.lst (L.map chD))),some (.own (esD es)),v4,v5],⟨[],none,_,_,⟨rfl,(λn h=>absurd h (Ny _)),λn h=>absurd h (Ny _)⟩,rfl⟩,?_,?_⟩
 .rintro k ρ d hk ed ⟨es,v3,v4,v5,hE,rfl⟩;rw [hcm] at hk;subst ed;rw [Ds hk];have hch:=hL.ch k;have hfew:=hL.few k;have hel:=hE.len;generalize hc:L.getD k []=c at hch hfew;have hcl:(c.map λp=>D.tup [nD p.1,nD p.2]).length=c.length:=length_map _;have hesl:(esD es).length=k:=by unfold esD;rw [length_map];exact hel
  have hE2:∀p∈c,p.2<k/\p.1<w/\(es.getD p.2 []).length=w/\((es.getD p.2 []).getD p.1 []).length<=300000:=λp hp=>by
   have:=hch p hp;exact⟨this.2,this.1,hE.wid _ this.2,hE.txt hL h60 hl60 this.2 (by omega) this.1⟩
  walk_at "r"
  refine cm2 (e:=λp:Nat×Nat=>D.tup [nD p.1,nD p.2]) (xs:=c) (λp=>.tup [nD p.1,.str ((es.getD p.2 []).getD p.1 [])]) (λp hp v w2 K1 k1=>?_) (λv w2=>?_)
  .obtain⟨p1,p2,p3,p4⟩:=hE2 p hp;show tH 2 _ (.dat (.tup [.int (p.1:Int),.int (p.2:Int)])) _ _;walk_at "r";refine⟨_,Dt (by omega),?_⟩;walk_at "r";refine⟨_,cr (k:=p.1) (by rw [p3];exact p2) rfl,?_⟩;walk_at "r";exact k1 _ _
  have hnl:(c.map λp=>D.tup [nD p.1,.str ((es.getD p.2 []).getD p.1 [])]).length=c.length:=length_map _;have hnil:(!(c.map λp=>D.tup [nD p.1,.str ((es.getD p.2 []).getD p.1 [])]).isEmpty)=!c.isEmpty:=by cases c <;> rfl
  walk_at "r";rw [hnil]
  cases hce:c.isEmpty with
  | true =>
   have hcn:c=[]:=isEmpty_iff.mp hce;walk_at "r";refine EQ hla ?_;walk_at "r";refine⟨es++[(e_ w).map ls],none,_,_,hE.snoc (by rw [length_map,tj]) (λi hi=>by rw [Du hi];exact Fe (by rw [hc];exact hcn)),by unfold esD;rw [map_append,map_cons,map_map];rfl⟩
  | false =>
   have hcn:c≠[]:=λz=>by rw [z] at hce;cases hce
   walk_at "r";unfold hdD
   refine cm1 (e:=λi=>D.lst ((e_ w).map λj=>D.str (hd i j))) (xs:=e_ w) (λi=>.str (Cp (c.map λp=>hd i p.1++(es.getD p.2 []).getD p.1 []))) (λi hi v K1 k1=>?_) (λv=>?_)
   .have hi:=mem_range.mp hi;have hrl:((e_ w).map λj=>D.str (hd i j)).length=w:=by rw [length_map,tj]
    walk_at "r"
    refine cm2 (e:=λp:Nat×Nat=>D.tup [nD p.1,.str ((es.getD p.2 []).getD p.1 [])]) (xs:=c) (λp=>.str (hd i p.1++(es.getD p.2 []).getD p.1 [])) (λp hp v w2 K1 k1=>?_) (λv w2=>?_)
    .obtain⟨p1,p2,p3,p4⟩:=hE2 p hp;have h6:=h60 i p.1;show tH 2 _ (.dat (.tup [.int (p.1:Int),.str ((es.getD p.2 []).getD p.1 [])])) _ _;walk_at "r";refine⟨_,Io p2,?_⟩;walk_at "r";exact k1 _ _
    have e1:c.map (λp=>D.str (hd i p.1++(es.getD p.2 []).getD p.1 []))=(c.map λp=>hd i p.1++(es.getD p.2 []).getD p.1 []).map .str:=by rw [map_map];rfl
    have hne:c.map (λp=>hd i p.1++(es.getD p.2 []).getD p.1 [])≠[]/\(c.map λp=>hd i p.1++(es.getD p.2 []).getD p.1 []).length<=100000:=⟨λz=>hcn (Nb.mp z),by rw [length_map];omega⟩
    rw [e1];walk_at "r";intro t ht;rw [ht.uniq (xw hne.1)];exact k1 _
   walk_at "r";refine⟨es++[(e_ w).map λi=>Cp (c.map λp=>hd i p.1++(es.getD p.2 []).getD p.1 [])],none,_,_,hE.snoc (by rw [length_map,tj]) (λi hi=>?_),by unfold esD;rw [map_append,map_cons,map_map];rfl⟩;rw [Du hi]
   refine Cj (E:=λn j=>(es.getD n []).getD j []) (by rw [hc];exact hcn) (λp hp=>?_) ?_
   .rw [hc] at hp;have:=hch p hp;exact hE.lst _ this.2 _ this.1
   .rw [hc];exact xw λz=>hcn (Nb.mp z)
 rintro ρ ⟨es,v3,v4,v5,hE,rfl⟩;rw [hcm] at hE;walk_at "r";exact q es hE
noncomputable def h7(K:b_)(mg:Str->Option Value)(t:TxC K):=(have TC:=t;show LS K [] _ _ from (au (ay (ap (c:=jP) (aa (ai (ap (c:=jN) (aa (aU 0) (aa (aU 1) ac)))) (aa (aU 0) (aa (aU 2) ac)))) (cp 3 rfl)) (aC (ap (c:=eV) (aa (ai (Ih (aP (ix:=[none,none,some 3]) rfl (ba (aq bA (aA 2) (ai (zN tu (bq 1))))) (λfs hc=>(cB (n:=2) (aH (aQ 0 (dh hc (by decide))) (aH (aQ 1 (dh hc (by decide))) bW)))) br (aq bA (ai (aq bA (aA 2) (aA 1))) (aA 0))) (fq (aa (ai (le_str (l:=[]))) ac)))) ac)))))
def mr:PTS:=psO h7
def mw:PRl ef mr 4 3:=λ_ Q h=>vo h λds _ h=>vo h λls _ h=>vn h λcs _ h=>cC h λh=>r_ rfl <| by
 walk_at "z";obtain⟨ws,rfl,L,rfl,⟨hls,hn,hw,hL,h0⟩,q⟩:=h;have g1:.tup ls=tI ws/\ws.length<=200/\∀w∈ws,0<w.length/\w.length<=60:=⟨hls,hn,hw⟩
 have hcm:(L.map chD).length=L.length:=length_map _;have hmany:=hL.many;have g2:uL (.tup (ws.map .str)) ((e_ ws.length).map λi=>.str (pw ws i))/\jO L ws.length/\(∀i j,(hdW ws i j).length<=60)/\(∀i,(pw ws i).length<=60)/\ws.length<=200:=⟨by rw [<- Dr (α:=Nat) D.str ws];exact .inr rfl,hL,Iq hw,Cg λw h=>(hw w h).2,hn⟩
 walk_at "r";refine⟨_,_,rfl,L,rfl,pw ws,g2,?_⟩;intro es hE;have hel:=hE.len
 have hlast:atI (L.map chD) (-1)=some (chD (L.getD (L.length - 1) [])):=by
  have:=Fo (ds:=L.map chD) (by omega);rw [this,hcm,Ds (by omega)]
 have hch:=hL.ch (L.length - 1);have hfew:=hL.few (L.length - 1);generalize hc:L.getD (L.length - 1) []=c at hch hfew hlast;have hcl:(c.map λp=>D.tup [nD p.1,nD p.2]).length=c.length:=length_map _;have hnil:(!(c.map λp=>D.str ((es.getD p.2 []).getD p.1 [])).isEmpty)=!c.isEmpty:=by cases c <;> rfl
 walk_at "r";refine⟨_,hlast,?_⟩;walk_at "r"
 refine cm2 (e:=λp:Nat×Nat=>D.tup [nD p.1,nD p.2]) (xs:=c) (λp=>.str ((es.getD p.2 []).getD p.1 [])) (λp hp v w2 K1 k1=>?_) (λv w2=>?_)
 .have p0:=hch p hp;have p3:=hE.wid p.2 (by omega);show tH 2 _ (.dat (.tup [.int (p.1:Int),.int (p.2:Int)])) _ _;walk_at "r";refine⟨_,Dt (by omega),?_⟩;walk_at "r";refine⟨_,cr (k:=p.1) (by rw [p3];exact p0.1) rfl,?_⟩;exact k1 _ _
 walk_at "r";rw [hnil]
 cases hce:c.isEmpty with
 | true =>
  have hcn:c=[]:=isEmpty_iff.mp hce;have e1:[D.str []]=[([]:List Nat)].map .str:=rfl;have g3:[([]:List Nat)]≠[]/\[([]:List Nat)].length<=100000:=⟨by decide,by decide⟩
  walk_at "r";refine⟨[[]],rfl,g3,?_⟩;intro t ht;rw [ht.uniq (vg [])];exact q _ (Fn (by rw [hc];exact hcn))
 | false =>
  have hcn:c≠[]:=λz=>by rw [z] at hce;cases hce
  have e1:c.map (λp=>D.str ((es.getD p.2 []).getD p.1 []))=(c.map λp=>(es.getD p.2 []).getD p.1 []).map .str:=by rw [map_map];rfl
  have g3:c.map (λp=>(es.getD p.2 []).getD p.1 [])≠[]/\(c.map λp=>(es.getD p.2 []).getD p.1 []).length<=100000:=⟨λz=>hcn (Nb.mp z),by rw [length_map];omega⟩
  walk_at "r";refine⟨_,e1,g3,?_⟩;intro t ht;refine q _ (Ir hw hL (by rw [hc];exact hcn) (Ff (E:=λn j=>(es.getD n []).getD j []) (by rw [hc];exact hcn) (λp hp=>?_) (by rw [hc];exact ht)));rw [hc] at hp;have p0:=hch p hp;exact hE.lst _ (by omega) _ p0.1
noncomputable def fF(K:b_)(mg:Str->Option Value)(t:TxC K):=(have TC:=t;show LS K [] _ _ from (au (ay (mP (c0:="Turnable") (m:="many") (ns0:=["pieces","kept","words","left","states","laps","total"]) (c:=bj) (by decide +kernel) (cJ 0) ac) (cp 1 rfl)) (au (cw (fe (aq nG (aA 1) (bq 6))) kj bd) (au (ay (aP (ix:=[none]) rfl (ba (ap (c:=fE) (aa (aU 1) ac))) (λfs hc=>(aQ 0 (dh hc (by decide)))) br (rg (ix:=[none,none,none]) rfl (ba (cJ 0)) (λfs hc=>(cB (n:=2) (aH (aQ 0 (dh hc (by decide))) (aH (aQ 1 (dh hc (by decide))) bW)))) br (ba (dC (aa (bq 0) (aa (bq 1) ac)))) (λfs hc=>(aQ 2 (dh hc (by decide)))) br (dC (aa (ai (aq bL (ai (aq fX (bq 2) (aA 0))) (aA 2))) (aa (aU 1) ac))))) (cp 2 rfl)) (aC (ap (c:=ef) (aa (ai (bR (ns0:=["pieces","kept","words","left","states","laps","total"]) TC.cl_Turnable TC.n_Turnable_states (i:=4) (by decide +kernel) (aA 0))) (aa (ai (bR (ns0:=["pieces","kept","words","left","states","laps","total"]) TC.cl_Turnable TC.n_Turnable_laps (i:=5) (by decide +kernel) (aA 0))) (aa (aU 2) ac)))))))))
def kG:PTS:=psO fF
def kH:PRl ck kG 3 1:=λ_ Q h=>Dp h λc ns fs _ h=>cC h λh=>r_ rfl <| by
 walk_at "z";obtain⟨rfl,rfl,ps,rfl,⟨hps,h6⟩,q⟩:=h;have hwp:=dn hps;have hsp:=cU hwp;have hsl:=bB (ag ps);have h12:(ag ps).length<=12:=by omega
 have h64:2^(ag ps).length<=64:=My (n:=2) (by decide) h6;have hSm:((fO (ag ps).length).map chD).length<=64:=by rw [length_map,iK];exact h64
 have hch:∀ch∈fO (ag ps).length,ch.length<=12:=λch h=>by
  unfold fO at h;obtain⟨m,_,rfl⟩:=LJ.mp h;rw [length_map];exact kA m
 walk_at "r"
 refine cm1 (e:=chD) (xs:=fO (ag ps).length) (λch=>chD (uM ch)) (λch hc v K1 k1=>?_) (λv=>?_)
 .have hcl:=hch ch hc;have hcm:(ch.map λp:Nat×Nat=>D.tup [nD p.1,nD p.2]).length=ch.length:=length_map _;walk_at "r"
  refine⟨⟨λk ys τ=>ys=(uM (ch.take k)).map (λp=>D.tup [nD p.1,nD p.2])/\∃v w x:Option PV,τ=[v,w,x],⟨rfl,_,_,_,rfl⟩,?_,?_⟩⟩
  .rintro k ys τ d hk ed ⟨rfl,v,w,x,rfl⟩;rw [hcm] at hk;have hk':ch[k]?=some ch[k]:=cx hk;rw [jf (show (ch.map λp:Nat×Nat=>D.tup [nD p.1,nD p.2])[k]?=some (D.tup [nD ch[k].1,nD ch[k].2]) by rw [h_,hk'];rfl)] at ed;subst ed;have et:ch.take (k+1)=ch.take k++[ch[k]]:=by rw [take_add_one,hk'];rfl
   have hl:(uM (ch.take k)).length<=24:=by rw [xz,length_take];omega
   generalize ch[k]=p at et;walk_at "r"
   refine⟨λj zs τ=>zs=(uM (ch.take k)).map (λp=>D.tup [nD p.1,nD p.2])++([(2*p.1,p.2),(2*p.1+1,p.2)].take j).map (λp:Nat×Nat=>D.tup [nD p.1,nD p.2])/\∃w,τ=[some (.dat (nD p.1)),some (.dat (nD p.2)),w],⟨(LA _).symm,x,rfl⟩,?_,?_⟩
   .rintro j zs τ _ hj rfl ⟨rfl,w,rfl⟩;have hj:j<2:=hj
    have hll:((uM (ch.take k)).map (λp:Nat×Nat=>D.tup [nD p.1,nD p.2])++([(2*p.1,p.2),(2*p.1+1,p.2)].take j).map (λp:Nat×Nat=>D.tup [nD p.1,nD p.2])).length<1000000:=by
     rw [length_append,length_map,length_map,length_take];omega
    rcases (show j=0\/j=1 by omega) with rfl|rfl
    .walk_at "r";refine⟨?_,_,rfl⟩;simp [nD]
    .walk_at "r";refine⟨?_,_,rfl⟩;simp [nD]
   .rintro zs τ ⟨rfl,w,rfl⟩;refine⟨?_,_,_,_,rfl⟩;rw [et,xy,map_append];rfl
  .rintro ys τ ⟨rfl,v,w,x,rfl⟩;rw [hcm,take_length];exact k1 _
 .walk_at "r";have e:(fO (ag ps).length).map (λch=>chD (uM ch))=(n5 (ag ps).length).map chD:=by unfold n5;rw [map_map];rfl
  rw [e];refine⟨n5 (ag ps).length,rfl,⟨rfl,by omega,λw hw=>⟨(hsp w hw).1,(hsp w hw).2.1⟩,by rw [hsl];exact Cr h12,by rw [n6];exact pow_pos (by decide)⟩,λt ht=>q t (ht.congr λu=>?_)⟩;exact⟨λ⟨js,w,e⟩=>⟨js,(qo h12).mp w,e⟩,λ⟨js,w,e⟩=>⟨js,(qo h12).mpr w,e⟩⟩
noncomputable def DC(K:b_)(mg:Str->Option Value)(t:TxC K):=(have TC:=t;show LS K [] _ _ from (au (eI (He (aa (ai (aq kh (ai (aR uZ (aa (ai (aR aZ (aa (aA 0) ac))) (aa (ai (aR aZ (aa (aA 1) ac))) ac)))) (bq 1))) (aa (bq 0) (aa (ai (zN tu (bq 1))) ac)))) (aQ 2 rfl) (cw (qS (ya ED (cJ 0) (aa (ai (bp (aA 1) bv (bh (cJ 2)))) ac))) (aC (cJ 2)) bd)) (aC (yP 0))))
def Iw:PTS:=psO DC
def Ix:PRl t9 Iw 3 2:=λ_ Q h=>mR h λa _ h=>mR h λb _ h=>cC h λh=>r_ rfl <| by
 walk_at "z";obtain⟨⟨a0,a1⟩,⟨b0,b1⟩,q⟩:=h;have hm:(if (b.length:Int)<(a.length:Int) then (b.length:Int) else (a.length:Int))=((min a.length b.length:Nat):Int):=by split <;> omega
 walk_at "r"
 refine⟨λi ρ=>(∃v2:Option PV,ρ=[some (.dat (.str a)),some (.dat (.str b)),v2])/\∀j,min a.length b.length - i<=j->j<min a.length b.length->¬ b.take j <:+ a,⟨⟨_,rfl⟩,λj h1 h2=>by omega⟩,?_,?_⟩
 .rintro i ρ d hi ed ⟨⟨v2,rfl⟩,ih⟩;have hi:i<(((if (b.length:Int)<(a.length:Int) then (b.length:Int) else (a.length:Int)) - 1) - 0).toNat:=hi;have ed:d=.int (((if (b.length:Int)<(a.length:Int) then (b.length:Int) else (a.length:Int)) - 1) - (i:Int)):=ed;rw [hm] at hi ed;obtain⟨k,hk,hk2⟩:∃k:Nat,(((min a.length b.length:Nat):Int) - 1) - (i:Int)=(k:Int)/\k=min a.length b.length - 1 - i:=⟨min a.length b.length - 1 - i,by omega,rfl⟩
  rw [hk] at ed;subst ed;walk_at "r";rw [gq]
  refine dE (λc=>?_) (λc=>?_)
  .walk_at "r"
   rw [show dB a b=k from rk ⟨by omega,c,λj h1 h2=>by
    rcases ML k j with h|h
    .exact absurd h2 (ih j (by omega) h1)
    .exact h⟩] at q
   exact q
  .refine⟨⟨_,rfl⟩,λj h1 h2=>?_⟩
   by_cases hj:j=k
   .rw [hj];exact c
   .exact ih j (by omega) h2
 .rintro ρ ⟨⟨v2,rfl⟩,ih⟩;rw [hm] at ih;walk_at "r"
  rw [show dB a b=0 from rk ⟨by omega,by rw [take_zero];exact nil_suffix,λj h1 h2=>by
   rcases eq_zero_or_pos j with h|h
   .omega
   .exact absurd h2 (ih j (by omega) h1)⟩] at q
  exact q
noncomputable def om(K:b_)(mg:Str->Option Value)(t:TxC K):=(have TC:=t;show LS K [] _ _ from (aC (aR dL (aa (ai (aP (ix:=[none,some 0]) rfl (ba (cJ 0)) (λfs hc=>(aQ 0 (dh hc (by decide)))) br (aR dL (aa (ai (aP (ix:=[none,some 0]) rfl (ba (cJ 1)) (λfs hc=>(aQ 0 (dh hc (by decide)))) br (ap (c:=t9) (aa (aU 1) (aa (aU 0) ac))))) ac)))) ac))))
def vL:PTS:=psO om
def vM:PRl gQ vL 1 1:=λ_ Q h=>vo h λds _ h=>cC h λh=>r_ rfl <| by
 walk_at "z";obtain⟨ws,rfl,⟨hn,hw⟩,q⟩:=h;have hlm:(ws.map D.str).length=ws.length:=length_map _
 have rr:∀f:List Nat->D,(e_ (ws.map D.str).length).map (λk=>f (pw ws k))=ws.map f:=λf=>by
  rw [hlm];apply NG;intro k;rw [h_,h_]
  by_cases hk:k<ws.length
  .rw [LQ hk,cj hk];rfl
  .rw [v_ (by rw [tj];omega),v_ (by omega)];rfl
 walk_at "r"
 refine CY (λτ=>∃v,τ=[v,some (.dat (.tup (ws.map .str)))]) (λk=>.tup (ws.map λv=>.int (dB (pw ws k) v:Int))) ?_ ?_ ?_
 .exact⟨_,rfl⟩
 .rintro k τ d hk ed ⟨v,rfl⟩ K1 k1;rw [k6 hk] at ed;subst ed;have w1:=hw _ (bC (show k<ws.length by omega));walk_at "r"
  refine CY (λτ=>∃v,τ=[v,some (.dat (.str (pw ws k)))]) (λj=>.int (dB (pw ws k) (pw ws j):Int)) ?_ ?_ ?_
  .exact⟨_,rfl⟩
  .rintro j τ d hj ed ⟨v,rfl⟩ K2 k2;rw [k6 hj] at ed;subst ed;have w2:=hw _ (bC (show j<ws.length by omega));walk_at "r";exact k2 _ ⟨_,rfl⟩
  .rintro τ ⟨v,rfl⟩;rw [rr (λw=>D.int (dB (pw ws k) w:Int))];walk_at "r";exact k1 _ ⟨_,rfl⟩
 .rintro τ ⟨v,rfl⟩;rw [rr (λw=>D.tup (ws.map λv=>.int (dB w v:Int)))];walk_at "r";exact q
noncomputable def qv:PTS:=(pD (KF (pOr (Ju (pB (KD .str (pSl 0)))) (Ju (pB (zP fLe fLe (pSl 1) (pFz (pCB FE (cg (pSl 0) gB))) (pSl 2))))) (BX (pC (.bl false))) CO) (BX (pCB JM (cg (pFz (x6 [none] (sX (x4 0)) (fu 0) yM (zP fLe fLe (pFz (pC (.str [97]))) (pSl 0) (pFz (pC (.str [122])))))) gB))))
def lI:PRl gf qv 3 3:=λ_ Q h=>AT h λd _ h=>fb h λa _ h=>fb h λb _ h=>cC h λh=>r_ rfl <| by
 walk_at "z";obtain⟨hd,hl,q⟩:=h
 cases d with
 | str l =>
  have hl:l.length<=1000000:=hl;walk_at "r"
  refine dE (λc1=>?_) (λc1=>?_)
  .walk_at "r"
   refine nC (λc2=>?_) (λc2=>?_)
   .walk_at "r";rw [show BZ (.str l) a b=false by rw [re,decide_eq_false c2,O0];rfl] at q;exact q
   .walk_at "r"
    refine CY (λτ=>∃v,τ=[v]) (λk=>.bl (ltB (l.getD k 0))) ?_ ?_ ?_
    .exact⟨_,rfl⟩
    .rintro k τ _ hk rfl ⟨v,rfl⟩ K1 k1;walk_at "r"
     refine nC (λc=>?_) (λc=>?_)
     .have hc:97<=l.getD k 0:=of_decide_eq_true (by rw [<- u6];rw [decide_eq_false c];rfl);walk_at "r";show K1 (.bl (!decide (([122]:List Nat)<[l.getD k 0]))) _;rw [u6];rw [show ltB (l.getD k 0)=decide (l.getD k 0<=122) by unfold ltB;rw [decide_eq_true hc];rfl] at k1;exact k1 _ ⟨_,rfl⟩
     .have hc:¬ 97<=l.getD k 0:=of_decide_eq_false (by rw [<- u6,decide_eq_true c];rfl);walk_at "r";rw [show ltB (l.getD k 0)=false by unfold ltB;rw [decide_eq_false hc];rfl] at k1;exact k1 _ ⟨_,rfl⟩
    .rintro τ ⟨v,rfl⟩;walk_at "r";refine⟨(e_ l.length).map λk=>ltB (l.getD k 0),by rw [map_map];rfl,?_⟩
     have e:BZ (.str l) a b=(((e_ l.length).map λk=>ltB (l.getD k 0)).all id):=by
      rw [re,decide_eq_true c1,decide_eq_true c2,Bool.and_self,Bool.true_and,u5];rw [all_map];rfl
     rw [e] at q;exact q
  .walk_at "r";rw [show BZ (.str l) a b=false by rw [re,decide_eq_false c1,Bool.false_and];rfl] at q;exact q
 | non=>walk_at "r";exact q
 | bl b=>walk_at "r";exact q
 | int i=>walk_at "r";exact q
 | ty n=>cases hd
 | lst ds=>walk_at "r";exact q
 | tup ds=>walk_at "r";exact q
 | scr ns=>cases hd
 | dic ks ds=>walk_at "r";exact q
 | obj c ns ds=>cases hd
 | exc c ns ds=>cases hd
 | fdc ks ds=>cases hd
noncomputable def oq(K:b_)(mg:Str->Option Value)(t:TxC K):=(have TC:=t;show LS K [] _ _ from (aC (hG (ap (c:=dY) (aa (aU 0) ac)) (qU sV sV (aA 1) (aA 0) (aA 2)))))
def vN:PTS:=psO oq
def vO:PRl gR vN 3 3:=λ_ Q h=>fb h λx _ h=>fb h λa _ h=>fb h λb _ h=>cC h λh=>r_ rfl <| by
 walk_at "z";obtain⟨⟨h1,h2⟩,q⟩:=h;walk_at "r";rw [decide_eq_true h2];exact q
noncomputable def ji(K:b_)(mg:Str->Option Value)(t:TxC K):=(have TC:=t;show LS K [] _ _ from (aC (ya qY (cJ 0) (aa (aA 1) ac))))
def pM:PTS:=psO ji
def pN:PRl cb pM 2 2:=λ_ Q h=>mR h λa _ h=>mR h λb _ h=>cC h λh=>r_ rfl <| by
 walk_at "z";walk_at "r";exact h
noncomputable def iT(K:b_)(mg:Str->Option Value)(t:TxC K):=(have TC:=t;show LS K [] _ _ from (au (cw (fe (aq nG (ai (aR aZ (aa (aA 0) ac))) (bq 40))) kj bd) (eI (zS (aa (aU 0) ac)) (cB (n:=2) (aH (aQ 1 rfl) (aH (aQ 2 rfl) bW))) (cw (fW (qS (BY (c:=gf) (vs0:=[]) (ds:=[]) (by repeat (first|exact .nil|exact .cons (.int _) .nil|refine .cons (.int _) ?_)) (aa (aU 2) (aa (bq 1) (aa (bq 60) ac)))))) kj bd))))
def ot:PTS:=psO iT
def ou:PRl dw ot 3 1:=λ_ Q h=>AT h λd _ h=>cC h λh=>r_ rfl <| by
 walk_at "z";obtain⟨ws,hd,⟨hn,hp⟩,q⟩:=h;have hlm:(ws.map D.str).length=ws.length:=length_map _
 rcases hd with rfl|rfl
 .walk_at "r"
  refine⟨λk ρ=>∃v1 v2:Option PV,ρ=[some (.dat (.lst (ws.map .str))),v1,v2],⟨_,_,rfl⟩,?_,?_⟩
  .rintro k ρ d hk ed ⟨v1,v2,rfl⟩;have ed:d=.tup [.int k,itD (ws.map D.str) k]:=ed;rw [k6 hk] at ed;subst ed;have hw:=hp _ (bC (show k<ws.length by omega));have ht:BZ (.str (pw ws k)) 1 60=true:=Ac.mpr hw;have h1:(pw ws k).length<=1000000:=by have:=hw.2.1;omega
   walk_at "r";refine Ej ht ?_;exact⟨_,_,rfl⟩
  .rintro ρ ⟨v1,v2,rfl⟩;exact q
 .walk_at "r"
  refine⟨λk ρ=>∃v1 v2:Option PV,ρ=[some (.dat (.tup (ws.map .str))),v1,v2],⟨_,_,rfl⟩,?_,?_⟩
  .rintro k ρ d hk ed ⟨v1,v2,rfl⟩;have ed:d=.tup [.int k,itD (ws.map D.str) k]:=ed;rw [k6 hk] at ed;subst ed;have hw:=hp _ (bC (show k<ws.length by omega));have ht:BZ (.str (pw ws k)) 1 60=true:=Ac.mpr hw;have h1:(pw ws k).length<=1000000:=by have:=hw.2.1;omega
   walk_at "r";refine Ej ht ?_;exact⟨_,_,rfl⟩
  .rintro ρ ⟨v1,v2,rfl⟩;exact q
noncomputable def ic(K:b_)(mg:Str->Option Value)(t:TxC K):=(have TC:=t;show LS K [] _ _ from (aC (aq x5 (ai (ap (c:=cb) (aa (aU 1) (aa (aU 0) ac)))) (bq 0))))
def mx:PTS:=psO ic
def my:PRl bY mx 2 2:=λ_ Q h=>mR h λa _ h=>mR h λb _ h=>cC h λh=>r_ rfl <| by
 walk_at "z";walk_at "r";exact h
noncomputable def oy(K:b_)(mg:Str->Option Value)(t:TxC K):=(have TC:=t;show LS K [] _ _ from (aC (hG (ap (c:=ca) (aa (aU 0) (aa (aU 1) ac))) (aq dU (ai (aR B7 (aa (aA 0) ac))) (ai (mO false (aa (aU 1) ac)))))))
def vP:PTS:=psO oy
def vQ:PRl jQ vP 2 2:=λ_ Q h=>vn h λds _ h=>fb h λm _ h=>cC h λh=>r_ rfl <| by
 walk_at "z";obtain⟨js,rfl,⟨h0,h1,hp⟩,q⟩:=h;obtain⟨n,rfl⟩:∃n:Nat,m=(n:Int):=⟨m.toNat,by omega⟩
 rw [toNat_natCast] at hp;rw [AZ];have hzp:(js.map λj=>((j:Nat):Int)).Perm (C9 n):=hp.map _;have hzl:(js.map λj=>((j:Nat):Int)).length=n:=by rw [length_map,hp.length_eq,tj]
 generalize (js.map λj=>((j:Nat):Int))=zs at hzp hzl;subst hzl;have h64:zs.length<64:=by omega
 walk_at "r";intro ns' h1 h2
 have e1:w4 (D.lst (ns'.map D.int)) (D.lst (tm 0 ((zs.length:Nat):Int).toNat)):=by
  rw [toNat_natCast,tJ];exact w4.of (Sh.lstI _) (Sh.lstI _)
 have e2:deq (D.lst (ns'.map D.int)) (D.lst (tm 0 ((zs.length:Nat):Int).toNat))=true:=by
  rw [toNat_natCast,tJ,xj,ET h1 h2];exact decide_eq_true hzp
 walk_at "r";rw [e2];exact q
noncomputable def oz(K:b_)(mg:Str->Option Value)(t:TxC K):=(have TC:=t;show LS K [] _ _ from (au (ay (ya xg (le_str (l:=[])) (aa (ai (aP (ix:=[none,some 0]) rfl (ba (bp (aA 2) bv (bh (yP 1)))) (λfs hc=>(aQ 0 (dh hc (by decide)))) br (aq bA (aA 1) (aA 0)))) ac)) (cp 3 rfl)) (au (eI (sY (aa (aU 2) (aa (ai (bp (aA 2) (bh (yP 1)) bv)) ac))) (cB (n:=2) (aH (aQ 4 rfl) (aH (aQ 5 rfl) bW))) (HH (i:=3) (cp 3 rfl) (bp (ai (aq bA (aA 0) (aA 5))) (bh (aq bA (ai (aq bA (aA 1) (aA 4))) (aA 5))) bv))) (aC (cJ 3)))))
def vR:PTS:=psO oz
def vS:PRl jR vR 6 3:=λ_ Q h=>vo h λds _ h=>AT h λd2 _ h=>AT h λd _ h=>cC h λh=>r_ rfl <| by
 walk_at "z";obtain⟨ws,rfl,rfl,⟨hn,hw⟩,js,hd,⟨hjl,hj⟩,q⟩:=h;have hjm:(js.map nD).length=js.length:=length_map _;have ht1:((js.take 1).map nD).length<=1:=by rw [length_map,length_take];omega
 have hpw:=Cg hw;have hgl:=Is hpw
 have hg1:((js.take 1).map (pw ws)).flatten.length<=1000000:=by
  rw [A1];have:=hgl (js.take 1);rw [length_take] at this;omega
 rcases hd with rfl|rfl <;> (
  walk_at "r";rw [JZ]
  refine⟨by omega,cm1 (λj=>.str (pw ws j)) (λj hjm v K1 k1=>?_) (λv=>?_)⟩
  .have hj2:=hj j (mem_of_mem_take hjm);walk_at "r";refine⟨_,cr hj2 rfl,?_⟩;walk_at "r";exact k1 _
  .rw [va (pw ws) (js.take 1)];walk_at "r";rw [KW,A1]
   refine Lr (α:=Nat) (λ(pre:List Nat) ρ=>∃x v4 v5:Option PV,ρ=[some (.dat (.tup (ws.map .str))),some (.dat (tI ws)),x,some (.dat (.str (glN ws pre))),v4,v5]) ⟨_,_,_,rfl⟩ ?_ ?_
   .rintro pre a b suf ρ ej ⟨x,v4,v5,rfl⟩;have ha:a<ws.length:=hj a (by rw [ej];simp);have hb:b<ws.length:=hj b (by rw [ej];simp);have hpl:(pre++[a]).length<=60:=by have:=congrArg List.length ej;simp at this ⊢;omega
    have g1:=hgl (pre++[a]);have c1:=bu (pw ws b) (some (dB (pw ws a) (pw ws b):Int)) none;have c2:=hpw b;have e1:nD a=.int (a:Int):=rfl;have e2:nD b=.int (b:Int):=rfl;rw [e1,e2];walk_at "r";refine⟨_,cr hb rfl,?_⟩;walk_at "r";refine⟨_,xA ha rfl,?_⟩;walk_at "r";refine⟨_,A0 hb rfl,?_⟩;walk_at "r";exact⟨_,_,_,by rw [rC,ip]⟩
   .rintro ρ ⟨x,v4,v5,rfl⟩;walk_at "r";exact q)
noncomputable def jj(K:b_)(mg:Str->Option Value)(t:TxC K):=(have TC:=t;show LS K [] _ _ from (au (ay (mO false (aa (aU 0) ac)) (cp 1 rfl)) (aC (rg (ix:=[none,none,some 1]) rfl (ba (cJ 1)) (λfs hc=>(aQ 0 (dh hc (by decide)))) br (ba (cJ 2)) (λfs hc=>(aQ 1 (dh hc (by decide)))) (fe (aq eL (aA 0) (aA 1))) (dC (aa (aU 0) (aa (aU 1) ac)))))))
def pO:PTS:=psO jj
def pP:PRl dN pO 2 1:=λ_ Q h=>fb h λm _ h=>cC h λh=>r_ rfl <| by
 walk_at "z";obtain⟨⟨h0,h1⟩,q⟩:=h;obtain⟨n,rfl⟩:∃n:Nat,m=(n:Int):=⟨m.toNat,by omega⟩
 rw [toNat_natCast] at q;have hrl:(tm 0 n).length=n:=Ak n;walk_at "r";rw [toNat_natCast,hrl]
 refine⟨⟨λk ys τ=>ys=((e_ k).flatMap λi=>((e_ n).filter λj=>decide (i≠j)).map λj=>(i,j)).map prT/\∃v w,τ=[v,w,some (.dat (.lst (tm 0 n)))],⟨rfl,_,_,rfl⟩,?_,?_⟩⟩
 .rintro k ys τ _ hk rfl ⟨rfl,v,w,rfl⟩;rw [Al (by rw [hrl];exact hk)];walk_at "r";rw [hrl]
  refine⟨λj zs τ=>zs=((e_ k).flatMap λi=>((e_ n).filter λj=>decide (i≠j)).map λj=>(i,j)).map prT++(((e_ j).filter λj=>decide (k≠j)).map λj=>(k,j)).map prT/\∃w,τ=[some (.dat (.int (k:Int))),w,some (.dat (.lst (tm 0 n)))],⟨(LA _).symm,w,rfl⟩,?_,?_⟩
  .rintro j zs τ _ hj rfl ⟨rfl,w,rfl⟩;rw [Al (by rw [hrl];exact hj)];have hlen:=rN n (e_ k);have hkn:k*n<=40*40:=Pg (by omega) (by omega);walk_at "r"
   refine nC (λc=>?_) (λc=>?_)
   .walk_at "r"
    refine⟨?_,?_,_,rfl⟩
    .rw [length_append,length_map,length_map,length_map];have h2:((e_ j).filter λj=>decide (k≠j)).length<=j:=s_ (Nf ..) (by rw [tj];exact gV _);rw [tj] at hlen;omega
    .rw [range_succ,filter_append,map_append,map_append,<- append_assoc,filter_cons,if_pos (decide_eq_true (show k≠j by omega))];rfl
   .refine⟨?_,_,rfl⟩;rw [range_succ,filter_append,filter_cons,if_neg (by rw [decide_eq_true_eq];omega)];simp
  .rintro zs τ ⟨rfl,w,rfl⟩;refine⟨?_,_,_,rfl⟩;rw [range_succ,flatMap_append,map_append,flatMap_cons,flatMap_nil,LA]
 .rintro ys τ ⟨rfl,v,w,rfl⟩;walk_at "r";exact q
noncomputable def lT(K:b_)(mg:Str->Option Value)(t:TxC K):=(have TC:=t;show LS K [] _ _ from (au (cw (fW (qS (ap (c:=dI) (aa (aU 0) (aa (ai (aR aZ (aa (aA 1) ac))) ac))))) (aC (mh (i:=false))) bd) (au (ay (cJ 0) (Ag (n:=2) (aH (aQ 3 rfl) (aH (aQ 4 rfl) bW)))) (aC (aR qc (aa (ai (aP (ix:=[none,none,some 3,some 4,some 1]) rfl (ba (cJ 2)) (λfs hc=>(cB (n:=2) (aH (aQ 0 (dh hc (by decide))) (aH (aQ 1 (dh hc (by decide))) bW)))) br (aq x5 (ai (aq bL (ai (aq bA (aA 2) (aA 0))) (ai (aq bA (aA 3) (aA 1))))) (ai (aq bA (ai (aq bA (aA 4) (aA 0))) (aA 1)))))) ac))))))
def uk:PTS:=psO lT
def ul:PRl iM uk 5 3:=λ_ Q h=>vo h λds _ h=>vo h λls _ h=>vn h λps _ h=>cC h λh=>r_ rfl <| by
 walk_at "z";obtain⟨gs,ts,rfl,ws,rfl,prs,rfl,⟨hn,hpl,hzs,hpm⟩,q⟩:=h;have hlm:(ws.map (IT ws)).length=ws.length:=length_map _;have hpl:(prs.map prT).length<=1600:=by rw [length_map];exact hpl
 have hg:=(hzs gs (by simp)).1;have ht:=(hzs ts (by simp)).1;have gp:(((ws.map (IT ws)).length:Nat):Int)<=1000/\∀zs∈[gs,ts],(zs.length:Int)=((ws.map (IT ws)).length:Nat)/\∀z∈zs,0<=z:=⟨by omega,λzs h=>⟨by have:=(hzs zs h).1;omega,(hzs zs h).2⟩⟩
 walk_at "r";refine⟨gs,ts,rfl,gp,?_⟩;walk_at "r"
 refine cm2 (e:=prT) (xs:=prs) (λp=>.bl true) (λp hp v w K1 k1=>?_) (λv w=>?_)
 .obtain⟨h1,h2,h3⟩:=hpm p hp;walk_at "r";refine⟨_,xB (by omega),?_⟩;walk_at "r";refine⟨_,xB (by omega),?_⟩;walk_at "r";refine⟨_,xA h1 rfl,?_⟩;walk_at "r";refine⟨_,A0 h2 rfl,?_⟩;walk_at "r";rw [decide_eq_true h3];exact k1 _ _
 .walk_at "r";refine⟨prs.map λ_=>true,by rw [map_map];rfl,?_⟩;rw [kz];exact q
noncomputable def um(K:b_)(mg:Str->Option Value)(t:TxC K):=(have TC:=t;show LS K [] _ _ from (aC (E9 (aA 0) (zN tu (bq 1)))))
def Bf:PTS:=psO um
def Bg:PRl eW Bf 1 1:=λ_ Q h=>mR h λl _ h=>cC h λh=>r_ rfl <| by
 walk_at "z";obtain⟨hl,q⟩:=h;walk_at "r";exact q
noncomputable def qw(K:b_)(mg:Str->Option Value)(t:TxC K):=(have TC:=t;show LS K [] _ _ from (aC (El (fe (aq dU (aA 1) (bq 1))) (ap (c:=eW) (aa (aU 0) ac)) (cJ 0))))
def yt:PTS:=psO qw
def yu:PRl c8 yt 2 2:=λ_ Q h=>mR h λl _ h=>fb h λw _ h=>cC h λh=>r_ rfl <| by
 walk_at "z";obtain⟨hl,q⟩:=h;walk_at "r"
 refine dE (λc=>?_) (λc=>?_)
 .rw [if_pos c] at q;walk_at "r";exact q
 .rw [if_neg c] at q;walk_at "r";exact q
noncomputable def fG(K:b_)(mg:Str->Option Value)(t:TxC K):=(have TC:=t;show LS K [] _ _ from (aC (G1 (ap (c:=bY) (aa (aU 0) (aa (aU 1) ac))) (ap (c:=bY) (aa (ai (ap (c:=eW) (aa (aU 0) ac))) (aa (aU 1) ac))))))
def kI:PTS:=psO fG
def kJ:PRl bx kI 2 2:=λ_ Q h=>mR h λa _ h=>mR h λb _ h=>cC h λh=>r_ rfl <| by
 walk_at "z";obtain⟨hl,q⟩:=h;unfold fZ at q;walk_at "r"
 cases hc:qf a b with
 | true=>rw [hc] at q;walk_at "r";exact q
 | false=>rw [hc,NS] at q;walk_at "r";exact q
noncomputable def eY(K:b_)(mg:Str->Option Value)(t:TxC K):=(have TC:=t;show LS K [] _ _ from (au (ay (aq bA (aA 0) (aA 1)) (cp 2 rfl)) (au (cw (nE (fe (aq (tU (neg:=false)) (aA 2) (ai (bp (aA 0) bv (bh (cJ 1)))))) (fe (aq (tU (neg:=false)) (ai (ap (c:=eW) (aa (aU 2) ac))) (ai (bp (aA 0) bv (bh (cJ 1))))))) (aC (mh (i:=false))) bd) (aC (zO (aR Hs (aa (ai (aP (ix:=[none,some 2]) rfl (ba (cJ 0)) (λfs hc=>(aQ 0 (dh hc (by decide)))) (fe (aq nG (ai (aR aZ (aa (aA 0) ac))) (ai (aR aZ (aa (aA 1) ac))))) (ap (c:=bx) (aa (aU 1) (aa (aU 0) ac))))) ac)))))))
def jZ:PTS:=psO eY
def j1:PRl bI jZ 3 2:=λ_ Q h=>vo h λds _ h=>fb h λi _ h=>cC h λh=>r_ rfl <| by
 walk_at "z";obtain⟨ws,rfl,⟨hn,hw⟩,hi,q⟩:=h;obtain⟨k,rfl⟩:∃k:Nat,i=(k:Int):=⟨i.toNat,by omega⟩
 have hk:k<ws.length:=by omega
 rw [toNat_natCast] at q;have w1:=hw _ (bC hk);have c1:eA (ws.map D.str) none (some (k:Int))=(ws.take k).map D.str:=by rw [gq,map_take]
 have hfl:(eA (ws.map D.str) none (some (k:Int))).all D.fl=true:=by rw [c1];exact Ah _
 have hin:∀u,inD (.str u) (eA (ws.map D.str) none (some (k:Int)))=decide (u∈ws.take k):=λu=>by rw [c1];exact rm _ _
 unfold f8 jb at q;walk_at "r";refine⟨_,cr hk rfl,?_⟩;walk_at "r";rw [hin]
 cases e1:decide (pw ws k∈ws.take k) with
 | true =>
  rw [e1] at q;walk_at "r";exact q
 | false =>
  rw [e1,NS] at q;walk_at "r";rw [hin]
  cases e2:decide ((pw ws k).reverse∈ws.take k) with
  | true =>
   rw [e2] at q;walk_at "r";exact q
  | false =>
   rw [e2,Bool.not_false,Bool.true_and] at q;walk_at "r"
   refine cf1 (λo:List Nat=>decide ((pw ws k).length<o.length)) (λo=>.bl (fZ (pw ws k) o)) ?_ ?_
   .intro o ho v K1 K2 k1 k2;have w2:=hw o ho;walk_at "r"
    refine dE (λc=>?_) (λc=>?_)
    .walk_at "r";exact k1 _ (decide_eq_true (by omega))
    .exact k2 _ (decide_eq_false (by omega))
   .intro v;walk_at "r";rw [yh];refine⟨_,rfl,?_⟩;rw [EV];walk_at "r";exact q
noncomputable def ie(K:b_)(mg:Str->Option Value)(t:TxC K):=(have TC:=t;show LS K [] _ _ from (au (ay (aq bA (aA 0) (aA 2)) (cp 3 rfl)) (au (ay (aR Ez (aa (ai (aP (ix:=[none,some 3,some 0]) rfl (ba (cJ 1)) (λfs hc=>(aQ 0 (dh hc (by decide)))) (qS (ap (c:=bx) (aa (aU 1) (aa (ai (aq bA (aA 2) (aA 0))) ac)))) (cJ 0))) ac)) (cp 4 rfl)) (au (ay (El (qS (ap (c:=bY) (aa (aU 3) (aa (ai (aq bA (aA 0) (aA 4))) ac)))) (yP 0) (yP 1)) (cp 5 rfl)) (aC (dC (aa (aU 2) (aa (aU 4) (aa (ai (ap (c:=cb) (aa (ai (aq bA (aA 0) (aA 4))) (aa (ai (ap (c:=c8) (aa (aU 3) (aa (aU 5) ac)))) ac)))) (aa (aU 5) ac))))))))))
def mB:PTS:=psO ie
def mC:PRl bZ mB 6 3:=λ_ Q h=>vo h λds _ h=>vo h λks _ h=>fb h λi _ h=>cC h λh=>r_ rfl <| by
 walk_at "z";obtain⟨ws,rfl,rfl,⟨hn,hw⟩,hi,q⟩:=h;obtain⟨k,rfl⟩:∃k:Nat,i=(k:Int):=⟨i.toNat,by omega⟩
 have hk:k<ws.length:=by omega
 rw [toNat_natCast] at q;have hkl:=jB ws;have w1:(pw ws k).length<=10000:=s_ (hw _ (bC hk)) (by decide);walk_at "r";refine⟨_,cr hk rfl,?_⟩;walk_at "r"
 refine cf1 (λj:Nat=>fZ (pw ws k) (pw ws j)) nD ?_ ?_
 .intro j hj v K1 K2 k1 k2;have hj2:=c6 hj;walk_at "r";refine⟨_,cr hj2 rfl,?_⟩;walk_at "r"
  cases hc:fZ (pw ws k) (pw ws j) with
  | true=>walk_at "r";exact k1 _ hc
  | false=>walk_at "r";exact k2 _ hc
 .intro v;have e1:((aE ws).filter λj=>fZ (pw ws k) (pw ws j)).map nD=((kr ws k).map λj=>((j:Nat):Int)).map D.int:=by rw [map_map];rfl
  rw [e1];obtain⟨h0,hh0⟩:=vk hw hk;walk_at "r";refine⟨by rw [length_map];exact length_pos_of_mem hh0,λm hm hle=>?_⟩;obtain⟨z,hz,rfl⟩:=LJ.mp hm;have hz2:z<ws.length:=c6 (mem_filter.mp hz).1;have hho:nO ws k=z:=yi hz λa ha=>by have:=hle _ (Ma ha);omega
  unfold i5 J8 trn at q;rw [hho] at q;have w2:(pw ws z).length<=10000:=s_ (hw _ (bC hz2)) (by decide);walk_at "r";refine⟨_,cr hz2 rfl,?_⟩;walk_at "r"
  cases hc:qf (pw ws k) (pw ws z) with
  | true =>
   rw [if_pos hc,if_neg (by decide)] at q;walk_at "r";refine⟨_,cr hz2 rfl,?_⟩;walk_at "r";exact q
  | false =>
   have hw1:(if qf (pw ws k) (pw ws z)=true then (0:Nat) else 1)=1:=by rw [hc];rfl
   rw [hw1,if_pos rfl] at q;walk_at "r";refine⟨_,cr hz2 rfl,?_⟩;walk_at "r";exact q
noncomputable def ig:PTS:=(pD (CP (qb dw (cg (pFz (x4 1)) gB))) (pD (lO "Turnable" [] "pieces" 0 (pCB lN (cg (pSl 1) gB))) (pD (Hc (Ht false (cg (pFz (pCB FE (cg (pFz (yN "Turnable" ["pieces"] 0 (pSl 0))) gB))) gB)) (fu 2)) (pD (lO "Turnable" ["pieces"] "kept" 0 (pCB lN (cg (pFz (x6 [none,some 0] (sX (x4 2)) (fu 0) (pB (qb bI (cg (pFz (yN "Turnable" ["pieces"] 0 (pSl 1))) (cg (pFz (x4 0)) gB)))) (x4 0))) gB))) (pD (lO "Turnable" ["pieces","kept"] "words" 0 (pCB lN (cg (pFz (x6 [none,some 0] (sX (yN "Turnable" ["pieces","kept"] 1 (pSl 0))) (fu 0) yM (pOp fIx (pFz (yN "Turnable" ["pieces","kept"] 0 (pSl 1))) (pSl 0)))) gB))) (pD (lO "Turnable" ["pieces","kept","words"] "left" 0 (pCB lN (cg (pFz (x6 [none,some 0] (sX (x4 2)) (fu 0) (pB (pOp (J1 true) (pSl 0) (pFz (yN "Turnable" ["pieces","kept","words"] 1 (pSl 1))))) (qb bZ (cg (pFz (yN "Turnable" ["pieces","kept","words"] 0 (pSl 1))) (cg (pFz (yN "Turnable" ["pieces","kept","words"] 1 (pSl 1))) (cg (pFz (x4 0)) gB)))))) gB))) (pD (lO "Turnable" ["pieces","kept","words","left"] "states" 0 (pCB lN (cg (pFz (C3 [none,none] (sX (yN "Turnable" ["pieces","kept","words","left"] 2 (pSl 0))) (fu 0) yM (sX (KA (cg (pFz (pC (.int 0))) (cg (pFz (pC (.int 1))) gB)))) (fu 1) yM (qb c8 (cg (pFz (x4 0)) (cg (pFz (x4 1)) gB))))) gB))) (pD (lO "Turnable" ["pieces","kept","words","left","states"] "laps" 0 (qb gQ (cg (pFz (yN "Turnable" ["pieces","kept","words","left","states"] 4 (pSl 0))) gB))) (lO "Turnable" ["pieces","kept","words","left","states","laps"] "total" 0 (pCB Ey (cg (pFz (x6 [none] (sX (yN "Turnable" ["pieces","kept","words","left","states","laps"] 2 (pSl 0))) (fu 0) yM (pCB FE (cg (pSl 0) gB)))) gB)))))))))))
def eh:RRl bM ig 3 2:=λ_ _ Q h=>Lv h λh=>AT h λd _ h=>cC h λh=>r_ rfl <| by
 walk_at "z";obtain⟨ws,hd,⟨hn,hp⟩,q⟩:=h;have hlm:(ws.map D.str).length=ws.length:=length_map _;have hkl:=jB ws;have hk1:ws.length<=1000/\∀w∈ws,w.length<=10000:=⟨by omega,λw hw=>by have:=(hp w hw).2.1;omega⟩
 have hk2:ws.length<=1000/\∀w∈ws,w.length<=60:=⟨by omega,λw hw=>(hp w hw).2.1⟩
 have hr:tm 0 (((ws.map D.str).length:Nat):Int).toNat=(e_ ws.length).map nD:=by rw [hlm,toNat_natCast,Aj]
 walk_at "r";refine⟨ws,hd,⟨hn,hp⟩,?_⟩;walk_at "r";refine B8 hd ?_;walk_at "r";rw [hr];have hrl:((e_ ws.length).map nD).length<=1000000:=by rw [length_map,tj];omega
 walk_at "r"
 refine cf1 (f8 ws) nD ?_ ?_
 .intro j hj v K1 K2 k1 k2;have hj2:j<ws.length:=mem_range.mp hj;walk_at "r";rw [toNat_natCast]
  cases hc:f8 ws j with
  | true=>walk_at "r";exact k1 _ hc
  | false=>walk_at "r";exact k2 _ hc
 intro v;have e1:((e_ ws.length).filter (f8 ws)).map nD=(aE ws).map nD:=rfl;rw [e1];walk_at "r"
 refine cm1 (λj=>.str (pw ws j)) ?_ ?_
 .intro j hj v K1 k1;walk_at "r";refine⟨_,cr (c6 hj) rfl,?_⟩;walk_at "r";exact k1 _
 intro v;have e2:(aE ws).map (λj=>D.str (pw ws j))=(ag ws).map D.str:=by unfold ag;rw [map_map];rfl
 rw [e2];have hwl:=f9 ws;have hwp:=dn hp;have hsp:=cU hwp;have hsl:=bB (ag ws);have hwq:(am (ag ws)).length<=1000/\∀w∈am (ag ws),0<w.length/\w.length<=10000:=⟨by omega,λw hw=>⟨(hsp w hw).1,by have:=(hsp w hw).2.1;omega⟩⟩
 have hfl:((aE ws).map nD).all D.fl=true:=JX _;walk_at "r"
 refine cf1 (λj=>!decide (j∈aE ws)) (i5 ws) ?_ ?_
 .intro j hj v K1 K2 k1 k2;have hj2:j<ws.length:=mem_range.mp hj;have hin:=C8 j (aE ws);walk_at "r"
  refine zM (IK (λc=>?_) (λc=>?_))
  .have c:inD (.int (j:Int)) ((aE ws).map nD)=true:=c;rw [hin] at c;exact k2 _ (by rw [c];rfl)
  .have c:inD (.int (j:Int)) ((aE ws).map nD)=false:=c;rw [hin] at c;walk_at "r";rw [toNat_natCast];exact k1 _ (by rw [c];rfl)
 intro v;have e3:((e_ ws.length).filter (λj=>!decide (j∈aE ws))).map (i5 ws)=(AS ws).map (i5 ws):=rfl;rw [e3];walk_at "r";have hwm:((ag ws).map D.str).length=(ag ws).length:=length_map _
 refine⟨⟨λk ys τ=>ys=(am ((ag ws).take k)).map D.str/\∃v w,τ=[v,w],⟨rfl,_,_,rfl⟩,?_,?_⟩⟩
 .rintro k ys τ _ hk rfl ⟨rfl,v,w,rfl⟩;rw [hwm] at hk;rw [k6 (by rw [hwm];exact hk)];have w1:=(hwp _ (bC hk)).2.1;have hsk:=bB ((ag ws).take k);rw [length_take] at hsk;walk_at "r"
  refine⟨λj zs τ=>zs=(am ((ag ws).take k)).map D.str++([pw (ag ws) k,(pw (ag ws) k).reverse].take j).map D.str/\∃w,τ=[some (.dat (.str (pw (ag ws) k))),w],⟨(LA _).symm,w,rfl⟩,?_,?_⟩
  .rintro j zs τ _ hj rfl ⟨rfl,w,rfl⟩;have hj:j<2:=hj
   have hll:((am ((ag ws).take k)).map D.str++([pw (ag ws) k,(pw (ag ws) k).reverse].take j).map D.str).length<1000000:=by
    rw [length_append,length_map,length_map,length_take];omega
   rcases (show j=0\/j=1 by omega) with rfl|rfl
   .walk_at "r";exact⟨by rw [if_neg (by decide),take_zero];simp,_,rfl⟩
   .walk_at "r";exact⟨by rw [if_pos rfl];simp,_,rfl⟩
  .rintro zs τ ⟨rfl,w,rfl⟩;refine⟨?_,_,_,rfl⟩;rw [EF hk,nP,map_append];rfl
 rintro ys τ ⟨rfl,v,w,rfl⟩;rw [hwm,take_length];walk_at "r"
 refine cm1 (λw:List Nat=>.int (w.length:Int)) ?_ ?_
 .intro w hw v K1 k1;have:=(hwp w hw).2.1;walk_at "r";exact k1 _
 intro v;rw [u9];walk_at "r";exact q
noncomputable def ik:PTS:=(BX (pCB FE (cg (pFz (yN "Turnable" ["pieces","kept","words","left","states","laps","total"] 2 (pSl 0))) gB)))
def en:PRl bj ik 1 1:=λ_ Q h=>Dp h λc ns fs _ h=>cC h λh=>r_ rfl <| by
 walk_at "z";obtain⟨rfl,rfl,ws,rfl,q⟩:=h;walk_at "r";rw [length_map];exact q
noncomputable def qx(K:b_)(mg:Str->Option Value)(t:TxC K):=(have TC:=t;show LS K [] _ _ from (au (cw (nE (fW (qS (ap (c:=iJ) (aa (aU 0) ac)))) (fW (qS (aR qc (aa (ai (aP (ix:=[none]) rfl (ba (cJ 0)) (λfs hc=>(aQ 0 (dh hc (by decide)))) br (hG (ap (c:=ca) (aa (aU 0) (aa (bq 2) ac))) (ap (c:=gR) (aa (ai (aq bA (aA 0) (bq 1))) (aa (bq 0) (aa (bq 1) ac))))))) ac))))) (aC (mh (i:=false))) bd) (aC (ap (c:=jQ) (aa (ai (aP (ix:=[none]) rfl (ba (cJ 0)) (λfs hc=>(aQ 0 (dh hc (by decide)))) br (aq bA (aA 0) (bq 0)))) (aa (aU 1) ac))))))
def yv:PTS:=psO qx
def yw:PRl lF yv 2 2:=λ_ Q h=>vo h λrs _ h=>fb h λm _ h=>cC h λh=>r_ rfl <| by
 walk_at "z";obtain⟨zs,rfl,⟨h0,h1,hp,hz⟩,q⟩:=h;have hzl:zs.length=m.toNat:=by have:=hp.length_eq;rw [length_map,tj] at this;exact this
 have hzm:(zs.map prT).length=zs.length:=length_map _;walk_at "r"
 refine cm1 (xs:=zs) (e:=prT) (λ_=>.bl true) (λz hm v K1 k1=>?_) (λv=>?_)
 .have b:=hz z hm;walk_at "r";refine⟨[(z.1:Int),(z.2:Int)],.inr rfl,⟨rfl,by decide⟩,?_⟩;walk_at "r";exact k1 _
 .walk_at "r";refine⟨zs.map λ_=>true,by rw [map_map];rfl,?_⟩;rw [kz];walk_at "r"
  refine cm1 (xs:=zs) (e:=prT) (λz=>nD z.1) (λz hm v K1 k1=>?_) (λv=>?_)
  .walk_at "r";exact k1 _
  .walk_at "r";refine⟨zs.map B_,by rw [map_map];rfl,⟨h0,h1,hp⟩,?_⟩;exact q
noncomputable def lU(K:b_)(mg:Str->Option Value)(t:TxC K):=(have TC:=t;show LS K [] _ _ from (au (cw (fW (qS (ap (c:=lF) (aa (aU 1) (aa (ai (mP (c0:="Turnable") (m:="many") (ns0:=["pieces","kept","words","left","states","laps","total"]) (c:=bj) (by decide +kernel) (cJ 0) ac)) ac))))) kj bd) (aC (ap (c:=jR) (aa (ai (bR (ns0:=["pieces","kept","words","left","states","laps","total"]) TC.cl_Turnable TC.n_Turnable_states (i:=4) (by decide +kernel) (aA 0))) (aa (ai (bR (ns0:=["pieces","kept","words","left","states","laps","total"]) TC.cl_Turnable TC.n_Turnable_laps (i:=5) (by decide +kernel) (aA 0))) (aa (ai (aP (ix:=[none,none]) rfl (ba (cJ 1)) (λfs hc=>(cB (n:=2) (aH (aQ 0 (dh hc (by decide))) (aH (aQ 1 (dh hc (by decide))) bW)))) br (aq bL (ai (aq fX (bq 2) (aA 0))) (aA 1)))) ac)))))))
def uo:PTS:=psO lU
def uq:PRl dZ uo 2 2:=λ_ Q h=>Dp h λc ns fs _ h=>vo h λrs _ h=>cC h λh=>r_ rfl <| by
 walk_at "z";obtain⟨rfl,rfl,ps,rfl,zs,rfl,⟨⟨hn,hp⟩,hz,hw⟩,q⟩:=h;have hwl:=f9 ps;have hzl:zs.length=(ag ps).length:=by have:=hz.length_eq;rw [length_map,tj] at this;exact this
 have hzm:(zs.map prT).length=zs.length:=length_map _;have g0:0<=((ag ps).length:Int)/\((ag ps).length:Int)<=60/\(zs.map B_).Perm (e_ ((ag ps).length:Int).toNat)/\∀z∈zs,z.2<2:=⟨by omega,by omega,by rw [toNat_natCast];exact hz,hw⟩
 have hst:=bB (ag ps);have hsp:=cU (dn hp);have g1:(am (ag ps)).length<=60/\∀w∈am (ag ps),w.length<=60:=⟨by omega,λw hw=>(hsp w hw).2.1⟩
 have g2:(zs.map λz=>2*z.1+z.2).length<=60/\∀j∈zs.map λz=>2*z.1+z.2,j<(am (ag ps)).length:=⟨by rw [length_map];omega,λj hj=>by
  obtain⟨z,hz2,rfl⟩:=LJ.mp hj;have a:=mem_range.mp (hz.mem_iff.mp (Ma (f:=B_) hz2));have b:=hw z hz2;omega⟩
 walk_at "r"
 refine cm2 (xs:=zs) (e:=prT) (λz=>nD (2*z.1+z.2)) (λz hm v w K1 k1=>?_) (λv w=>?_)
 .have e2:nD (2*z.1+z.2)=.int (2*(z.1:Int)+(z.2:Int)):=by show D.int _=_;congr 1
  rw [e2] at k1;walk_at "r";exact k1 _ _
 .rw [show zs.map (λz=>nD (2*z.1+z.2))=(zs.map λz=>2*z.1+z.2).map nD by rw [map_map];rfl];walk_at "r";exact q
noncomputable def lV(K:b_)(mg:Str->Option Value)(t:TxC K):=(have TC:=t;show LS K [] _ _ from (au (ay (aP (ix:=[none,some 0,some 1]) rfl (ba (dC (aa (bq 0) (aa (bq 1) ac)))) (λfs hc=>(aQ 0 (dh hc (by decide)))) br (dC (aa (ai (ap (c:=cb) (aa (aU 1) (aa (ai (ap (c:=c8) (aa (aU 2) (aa (aU 0) ac)))) ac)))) (aa (aU 0) ac)))) (cp 2 rfl)) (aC (Fl (ai (aP (ix:=[none,none]) rfl (ba (cJ 2)) (λfs hc=>(cB (n:=2) (aH (aQ 0 (dh hc (by decide))) (aH (aQ 1 (dh hc (by decide))) bW)))) (fe (aq x5 (aA 0) (bq 0))) (dC (aa (aU 0) (aa (aU 1) ac))))) (dC (aa (ai (zN tu (bq 1))) (aa (bq 0) ac)))))))
def ur:PTS:=psO lV
def ut:PRl iN ur 3 2:=λ_ Q h=>mR h λt _ h=>mR h λw _ h=>cC h λh=>r_ rfl <| by
 walk_at "z";obtain⟨hw,q⟩:=h;walk_at "r"
 refine cm1 (e:=nD) (xs:=[0,1]) (λk=>tQ [fnd t (trn w k) 0,(k:Int)]) (λk hk v K1 k1=>?_) (λv=>?_)
 .have hk:k=0\/k=1:=by simpa using hk
  rcases hk with rfl|rfl <;> (walk_at "r";exact k1 _)
 walk_at "r";have e0:([0,1]:List Nat).map (λk=>tQ [fnd t (trn w k) 0,(k:Int)])=[[fnd t w 0,0],[fnd t w.reverse 0,1]].map tQ:=rfl;rw [e0]
 refine cfX (e:=tQ) (xs:=[[fnd t w 0,0],[fnd t w.reverse 0,1]]) (λτ=>∃v w:Option PV,τ=[v,w]) (λr=>decide (0<=r.getD 0 0)) (λr=>tQ r) ⟨_,_,rfl⟩ ?_ ?_
 .rintro r hr τ ⟨v,v2,rfl⟩ K1 K2 k1 k2
  obtain⟨a,b,rfl⟩:∃a b:Int,r=[a,b]:=by
   rcases A_.mp hr with rfl|hr
   .exact⟨_,_,rfl⟩
   .rw [G_.mp hr];exact⟨_,_,rfl⟩
  walk_at "r"
  refine dE (λc=>?_) (λc=>?_)
  .walk_at "r";exact k1 _ (decide_eq_true c) ⟨_,_,rfl⟩
  .exact k2 _ (decide_eq_false c) ⟨_,_,rfl⟩
 rintro τ ⟨v,v2,rfl⟩;walk_at "r"
 refine⟨λh=>?_,λr hr hm=>?_⟩
 .have:=Fq h;rw [show cE t w=(-1,0) from this] at q;exact q
 .rw [Iu hr hm];exact q
noncomputable def qy(K:b_)(mg:Str->Option Value)(t:TxC K):=(have TC:=t;show LS K [] _ _ from (au (ay (fq ac) (cp 2 rfl)) (au (eI (zS (aa (ai (bR (ns0:=["pieces","kept","words","left","states","laps","total"]) TC.cl_Turnable TC.n_Turnable_words (i:=2) (by decide +kernel) (aA 0))) ac)) (cB (n:=2) (aH (aQ 3 rfl) (aH (aQ 4 rfl) bW))) (au (ay (ap (c:=iN) (aa (aU 1) (aa (aU 4) ac))) (Ag (n:=2) (aH (aQ 5 rfl) (aH (aQ 6 rfl) bW)))) (au (cw (fe (aq En (aA 5) (bq 0))) kj bd) (jw (sZ (i:=2) (dC (aa (aU 5) (aa (aU 3) (aa (aU 6) ac))))))))) (aC (aR dL (aa (ai (aP (ix:=[none,none,none]) rfl (ba (aR Cd (aa (aA 2) ac))) (λfs hc=>(cB (n:=3) (aH (aQ 0 (dh hc (by decide))) (aH (aQ 1 (dh hc (by decide))) (aH (aQ 2 (dh hc (by decide))) bW))))) br (dC (aa (aU 1) (aa (aU 2) ac))))) ac))))))
def yx:PTS:=psO qy
def yz:PRl dJ yx 7 2:=λ_ Q h=>Dp h λc ns fs _ h=>mR h λt _ h=>cC h λh=>r_ rfl <| by
 walk_at "z";obtain⟨rfl,rfl,ps,rfl,⟨hn,hp⟩,hA,q⟩:=h;have hwl:=f9 ps;have hwp:=dn hp;have hwm:((ag ps).map D.str).length=(ag ps).length:=length_map _;have hkl:(aE ps).length=(ag ps).length:=by unfold ag;rw [length_map]
 walk_at "r"
 refine⟨λk ρ=>(∃v3 v4 v5 v6:Option PV,ρ=[some (.dat (.obj "Turnable" kt (ku ps))),some (.dat (.str t)),some (.own (((e_ k).map (fh t (ag ps))).map tQ)),v3,v4,v5,v6])/\∀j,j<k->0<=(cE t (pw (ag ps) j)).1,⟨⟨_,_,_,_,rfl⟩,nofun⟩,?_,?_⟩
 .rintro k ρ d hk ed ⟨⟨v3,v4,v5,v6,rfl⟩,hf⟩;rw [k6 hk] at ed;rw [hwm] at hk;subst ed;have hwk:=hwp _ (bC hk);have g1:(pw (ag ps) k).length<=10000:=by have:=hwk.2.1;omega
  have hrl:(((e_ k).map (fh t (ag ps))).map tQ).length<=40:=by rw [length_map,length_map,tj];omega
  walk_at "r";have hkk:k<(aE ps).length:=by omega
  have hat:atI ((aE ps).map nD) (k:Int)=some (nD ((aE ps).getD k 0)):=gZ (j:=k) (by rw [h_,cx hkk,cy,cx hkk];rfl) rfl
  refine dE (λc=>?_) (λc=>?_)
  .have:=hA k hk;omega
  .walk_at "r";refine⟨⟨_,_,_,_,by rw [range_succ,map_append,map_append];rfl⟩,λj hj=>?_⟩
   by_cases e:j=k
   .rw [e];omega
   .exact hf j (by omega)
 .rintro ρ ⟨⟨v3,v4,v5,v6,rfl⟩,hf⟩;rw [hwm] at hf ⊢
  have hso:((e_ (ag ps).length).map (fh t (ag ps))).length<64/\∀r∈(e_ (ag ps).length).map (fh t (ag ps)),r≠[]:=⟨by rw [length_map,tj];omega,λr hr=>by
   obtain⟨k,_,e⟩:=LJ.mp hr;rw [<- e];exact nofun⟩
  walk_at "r";rintro rs h1 h2;obtain⟨js,rfl,hj,hjs⟩:=Fs h1 h2;have hjl:js.length=(ag ps).length:=by rw [hj.length_eq,tj]
  have hrm:((js.map (fh t (ag ps))).map tQ).length=js.length:=by rw [length_map,length_map]
  have hto:(js.map (wyT t (ag ps))).length=js.length:=length_map _;walk_at "r";rw [show (js.map (fh t (ag ps))).map tQ=js.map (tQ ∘ fh t (ag ps)) from map_map ..]
  refine EU (e:=tQ ∘ fh t (ag ps)) (xs:=js) (λτ=>∃v w x:Option PV,τ=[v,w,x]) (wyT t (ag ps)) ?_ ?_ ?_
  .exact⟨_,_,_,rfl⟩
  .rintro i hi τ ⟨v,w,x,rfl⟩ K1 k1;show tH 3 _ (.dat (.tup [.int (cE t (pw (ag ps) i)).1,.int (i:Int),.int (cE t (pw (ag ps) i)).2])) _ _;walk_at "r";exact k1 _ ⟨_,_,_,rfl⟩
  .rintro τ ⟨v,w,x,rfl⟩;walk_at "r";rw [Kf λi hi=>hA i (mem_range.mp (hj.mem_iff.mp hi))];exact q js hj (A3 hA hj hjs)
noncomputable def eZ(K:b_)(mg:Str->Option Value)(t:TxC K):=(have TC:=t;show LS K [] _ _ from (au (ay (mP (c0:="Turnable") (m:="many") (ns0:=["pieces","kept","words","left","states","laps","total"]) (c:=bj) (by decide +kernel) (cJ 0) ac) (cp 2 rfl)) (au (ay (aP (ix:=[none,none]) rfl (ba (ap (c:=dN) (aa (ai (aq fX (bq 2) (aA 2))) ac))) (λfs hc=>(cB (n:=2) (aH (aQ 0 (dh hc (by decide))) (aH (aQ 1 (dh hc (by decide))) bW)))) (fe (aq eL (ai (aq gC (aA 0) (bq 2))) (ai (aq gC (aA 1) (bq 2))))) (dC (aa (aU 0) (aa (aU 1) ac)))) (cp 3 rfl)) (au (cw (fW (qS (ap (c:=iM) (aa (aU 1) (aa (ai (bR (ns0:=["pieces","kept","words","left","states","laps","total"]) TC.cl_Turnable TC.n_Turnable_laps (i:=5) (by decide +kernel) (aA 0))) (aa (aU 3) ac)))))) (aC G0) bd) (au (ay (aP (ix:=[none,none]) rfl (sY (aa (ai (aq bA (aA 1) (bq 0))) (aa (ai (aq bA (aA 1) (bq 1))) ac))) (λfs hc=>(cB (n:=2) (aH (aQ 0 (dh hc (by decide))) (aH (aQ 1 (dh hc (by decide))) bW)))) br (aq bL (aA 0) (aA 1))) (cp 4 rfl)) (aC (aq kh (ai (bR (ns0:=["pieces","kept","words","left","states","laps","total"]) TC.cl_Turnable TC.n_Turnable_total (i:=6) (by decide +kernel) (aA 0))) (ai (aR zX (aa (ai (aP (ix:=[none,some 4]) rfl (qV (aa (aU 2) ac)) (λfs hc=>(aQ 0 (dh hc (by decide)))) br (aR zW (aa (ai (aq bA (aA 1) (ai (aq fX (bq 2) (aA 0))))) (aa (ai (aq bA (aA 1) (ai (aq bL (ai (aq fX (bq 2) (aA 0))) (bq 1))))) ac))))) ac))))))))))
def j2:PTS:=psO eZ
def j3:PRl cW j2 5 2:=λ_ Q h=>Dp h λc ns fs _ h=>vo h λds _ h=>cC h λh=>r_ rfl <| by
 walk_at "z";obtain⟨rfl,rfl,ps,rfl,gs,rfl,⟨hn,gl,g0,hL⟩,q⟩:=h;have hM:0<=2*((ag ps).length:Int)/\2*((ag ps).length:Int)<=40:=⟨by omega,by omega⟩
 have eN:(2*((ag ps).length:Int)).toNat=2*(ag ps).length:=by omega
 have hsl:=bB (ag ps)
 have hol:(Cs (2*(ag ps).length)).length<=1600:=by
  have:=rN (2*(ag ps).length) (e_ (2*(ag ps).length));rw [tj] at this;have:2*(ag ps).length*(2*(ag ps).length)<=40*40:=Pg (by omega) (by omega);unfold Cs;omega
 have hom:((Cs (2*(ag ps).length)).map prT).length<=1000000:=by rw [length_map];omega
 walk_at "r";rw [eN]
 refine cfX (xs:=Cs (2*(ag ps).length)) (e:=prT) (λτ=>∃v w:Option PV,τ=[v,w]) (λp=>decide (p.1 / 2≠p.2 / 2)) prT ⟨_,_,rfl⟩ ?_ ?_
 .rintro p hp τ ⟨v,w,rfl⟩ K1 K2 k1 k2;walk_at "r"
  refine nC (λc=>?_) (λc=>?_)
  .walk_at "r";exact k1 _ (decide_eq_true (by omega)) ⟨_,_,rfl⟩
  .exact k2 _ (decide_eq_false (by omega)) ⟨_,_,rfl⟩
 rintro τ ⟨v,w,rfl⟩;have ht:(Cs (2*(ag ps).length)).filter (λp=>decide (p.1 / 2≠p.2 / 2))=FI (ag ps).length:=rfl;have htl:(FI (ag ps).length).length<=1600:=s_ (Nf _ _) hol;generalize hts:u1 (2*(ag ps).length) (0:Int)=ts;have ts0:∀z∈ts,z=0:=λz hz=>by rw [<- hts] at hz;exact Fu hz
 have tl:ts.length=2*(ag ps).length:=by rw [<- hts,length_replicate]
 have gpay:(am (ag ps)).length<=40/\(FI (ag ps).length).length<=1600/\(∀zs∈[gs,ts],zs.length=(am (ag ps)).length/\∀z∈zs,0<=z)/\∀p∈FI (ag ps).length,p.1<(am (ag ps)).length/\p.2<(am (ag ps)).length/\(dB (pw (am (ag ps)) p.1) (pw (am (ag ps)) p.2):Int)<=gs.getD p.1 0+ts.getD p.2 0:=⟨by omega,htl,λzs hz=>by
  simp only [A_,not_mem_nil,or_false] at hz
  rcases hz with rfl|rfl
  .exact⟨by omega,g0⟩
  .exact⟨by omega,λz h=>by rw [ts0 z h];exact Oq _⟩,λp hp=>by
  obtain⟨a,b,e⟩:=Cv hp;have l:=hL _ _ a b e;have:ts.getD p.2 0=0:=by rw [cy,cx (by omega)];exact ts0 _ (Ml _)
  exact⟨by omega,by omega,by omega⟩⟩
 rw [ht];walk_at "r";refine⟨gs,ts,rfl,_,rfl,_,rfl,gpay,?_⟩;walk_at "r"
 refine cmZ (xs:=gs) (ys:=ts) (e:=D.int) (e':=D.int) (λa b=>.int a) ?_ ?_
 .intro a b hab v w K1 k1;walk_at "r";rw [ts0 b (NN hab).2,add_zero];exact k1 _ _
 intro v w
 have ez:(gs.zip ts).map (λp=>D.int p.1)=gs.map D.int:=by
  conv=>rhs;rw [<- map_fst_zip (l₁:=gs) (l₂:=ts) (by omega)]
  rw [map_map];rfl
 rw [ez];walk_at "r"
 refine cmR (λi=>.int (mxG gs i)) (λi hi v K1 k1=>?_) (λv=>?_)
 .rw [toNat_natCast] at hi;have a1:=xB (zs:=gs) (i:=2*i) (by omega);have a2:=xB (zs:=gs) (i:=2*i+1) (by omega);rw [show ((2*i:Nat):Int)=2*(i:Int) by omega] at a1;rw [show ((2*i+1:Nat):Int)=2*(i:Int)+1 by omega] at a2;walk_at "r";refine⟨_,a1,?_⟩;walk_at "r";refine⟨_,a2,?_⟩;exact k1 _
 rw [toNat_natCast];walk_at "r";refine⟨mxS gs (ag ps).length,by unfold mxS;rw [map_map];rfl,?_⟩;exact q
noncomputable def kK(K:b_)(mg:Str->Option Value)(t:TxC K):=(have TC:=t;show LS K [] _ _ from (au (ay (aq bL (ai (aq fX (bq 5) (aA 1))) (bq 3)) (cp 2 rfl)) (au (iw (cw (fe (aq nG (ai (aR aZ (aa (aA 0) ac))) (bq 0))) (ay (aR Hl (aa (ai (aq bA (aA 0) (ai (aq qa (aA 1) (ai (aR aZ (aa (aA 0) ac))))))) ac)) (cp 2 rfl)) bd)) (aC (fq (aa (aU 2) (aa (ai (aq bL (ai (aq bL (ai (aq qa (aA 2) (bq 2147483629))) (ai (aq fX (bq 7919) (aA 1))))) (bq 11))) ac)))))))
def rT:PTS:=psO kK
def rV:PRl gS rT 3 2:=λ_ Q h=>Lu h λns _ h=>fb h λk _ h=>cC h λh=>r_ rfl <| by
 walk_at "z";obtain⟨⟨hk0,hk1,hn⟩,q⟩:=h;walk_at "r"
 refine⟨λρ=>∃c:Int,ρ=[some (.dat (.scr ns)),some (.dat (.int k)),some (.dat (.int c))]/\0<=c,?_,?_⟩
 .walk_at "r";refine dE (λc=>?_) (λc=>⟨_,rfl,by omega⟩);obtain⟨n,hn1,hn2⟩:∃n:Nat,k % (ns.length:Int)=(n:Int)/\n<ns.length:=⟨(k % (ns.length:Int)).toNat,by have:=O8 k (show (ns.length:Int)≠0 by omega);omega,by have:=O9 k (show 0<(ns.length:Int) by omega);have:=O8 k (show (ns.length:Int)≠0 by omega);omega⟩
  walk_at "r";rw [hn1];refine⟨ns[n],gZ (cx hn2) rfl,?_⟩;exact⟨_,rfl,by split <;> omega⟩
 .rintro ρ ⟨c,rfl,hc⟩;walk_at "r";exact q (c,c % 2147483629+7919*k+11) ⟨hc,by omega,by omega⟩
noncomputable def oA(K:b_)(mg:Str->Option Value)(t:TxC K):=(have TC:=t;show LS K [0] _ _ from (au (cw (fe (aq nG (ai (aq bA (aA 0) (bq 0))) (bq 0))) (au (ay (aq qa (ai (aq bA (aA 0) (bq 0))) (aA 1)) (cp 2 rfl)) (au (zU (i:=0) (aq gC (ai (aq bA (aA 0) (bq 0))) (aA 1)) (yP 0)) (aC (cJ 2)))) bd) (au (zU (i:=0) (aq qa (ai (aq bL (ai (aq fX (ai (aq bA (aA 0) (bq 1))) (bq 48271))) (bq 12345))) (bq 2147483647)) (yP 1)) (aC (aq qa (ai (aq gC (ai (aq qa (ai (aq fX (ai (aq bA (aA 0) (bq 1))) (ai (aq bA (aA 0) (bq 1))))) (bq 2147483629))) (bq 7))) (aA 1))))))
def vT:PTS:=psO oA
def vU:RRl aD vT 3 2:=λ_ _ Q h=>Bl h λ_ h=>fb h λc0 _ h=>fb h λc1 _ h=>cC h λh=>fb h λm _ h=>cC h λh=>r_ rfl <| by
 walk_at "z";obtain⟨⟨g0,g1,g2⟩,hm,hm2,q⟩:=h;have mod:∀z:Int,0<=z % m/\z % m<m:=λz=>⟨O8 z (by omega),O9 z hm⟩
 walk_at "r"
 refine dE (λc=>?_) (λc=>?_)
 .walk_at "r";exact q _ (_,_) ⟨ediv_nonneg g0 (by omega),g1,g2⟩ (mod c0).1 (mod c0).2
 .have n0:0<=(c1*48271+12345) % 2147483647:=O8 _ (by decide);have n1:(c1*48271+12345) % 2147483647<2147483647:=O9 _ (by decide);walk_at "r";exact q _ (_,_) ⟨g0,n0,by omega⟩ (mod _).1 (mod _).2
noncomputable def oB(K:b_)(mg:Str->Option Value)(t:TxC K):=(have TC:=t;show LS K [0] _ _ from (aC (ya xg (le_str (l:=[])) (aa (ai (aP (ix:=[none,some 1,some 0]) rfl (qV (aa (ai (aq bL (bq 1) (ai (aM (c:=aD) (i:=0) (aa (aU 2) ac))))) ac)) (λfs hc=>(aQ 0 (dh hc (by decide)))) br (aq bA (aA 1) (ai (aM (c:=aD) (i:=2) (aa (ai (aR aZ (aa (aA 1) ac))) ac)))))) ac))))
def vV:PTS:=psO oB
def vW:RRl eX vV 3 3:=λ_ _ Q h=>Bl h λ_ h=>fb h λc0 _ h=>fb h λc1 _ h=>cC h λh=>mR h λls _ h=>fb h λm _ h=>cC h λh=>r_ rfl <| by
 walk_at "z";obtain⟨g,⟨h0,h26,hls⟩,⟨hm,hm2⟩,q⟩:=h;walk_at "r";intro x s hs hx0 hx1;walk_at "r"
 refine⟨λk ys τ=>∃(v:Option PV) (s:Int×Int) (ws:List Nat),τ=[v,some (.dat (.str ls)),some (stv s)]/\SOk s/\ys=ws.map (λc=>.str [c])/\ws.length=k/\Lts ws,⟨none,s,[],rfl,hs,rfl,rfl,Lts.nil⟩,?_,?_⟩
 .rintro k ys τ _ hk rfl ⟨v,⟨a,b⟩,ws,rfl,hs,rfl,hl,hL⟩;walk_at "r";intro z s2 hs2 hz0 hz1;obtain⟨j,rfl⟩:∃j:Nat,z=(j:Int):=⟨z.toNat,by omega⟩
  have hj:j<ls.length:=by omega
  walk_at "r";refine⟨_,gZ (cx hj) rfl,?_⟩;exact⟨_,s2,ws++[ls[j]],rfl,hs2,by rw [map_append];rfl,by rw [length_append,hl];rfl,hL.app (Lts.one (hls _ (Ml hj)))⟩
 .rintro ys τ ⟨v,s2,ws,rfl,hs2,rfl,hl,hL⟩;walk_at "r"
  refine⟨ws.map λc=>[c],B0 ws,?_,?_⟩
  .rw [lP];omega
  .rw [lP];walk_at "r";exact q ws s2 hs2 (by omega) (by omega) hL
noncomputable def oE(K:b_)(mg:Str->Option Value)(t:TxC K):=(have TC:=t;show LS K [] _ _ from (au (ay (le_str (l:=[])) (cp 1 rfl)) (au (eI (ba (cJ 0)) (aQ 2 rfl) (ay (aq bL (aA 2) (aA 1)) (cp 1 rfl))) (aC (cJ 1)))))
def vX:PTS:=psO oE
def vY:PRl cX vX 3 1:=λ_ Q h=>mR h λl _ h=>cC h λh=>r_ rfl <| by
 walk_at "z";obtain⟨hl,q⟩:=h;walk_at "r"
 refine⟨λk ρ=>∃v2:Option PV,ρ=[some (.dat (.str l)),some (.dat (.str (l.take k).reverse)),v2],⟨_,rfl⟩,?_,?_⟩
 .rintro k ρ d hk ed ⟨v2,rfl⟩;subst ed;have hk:k<l.length:=hk;have htl:(l.take k).reverse.length<=10000:=by rw [LD,length_take];omega
  have e:[l.getD k 0]++(l.take k).reverse=(l.take (k+1)).reverse:=by
   rw [take_add_one,cx hk,cy,cx hk,reverse_append];rfl
  walk_at "r";exact⟨_,by rw [e]⟩
 .rintro ρ ⟨v2,rfl⟩;walk_at "r";rw [take_length];exact q
noncomputable def qz(K:b_)(mg:Str->Option Value)(t:TxC K):=(have TC:=t;show LS K [0] _ _ from (au (ay (aM (c:=aD) (i:=0) (aa (ai (aR aZ (aa (aA 1) ac))) ac)) (cp 3 rfl)) (aC (bp (aA 1) (bh (cJ 3)) (bh (aq bL (ai (aq bL (aA 3) (bq 1))) (ai (aM (c:=aD) (i:=0) (aa (aU 2) ac)))))))))
def yA:PTS:=psO qz
def yB:RRl i9 yA 4 3:=λ_ _ Q h=>Bl h λ_ h=>fb h λc0 _ h=>fb h λc1 _ h=>cC h λh=>mR h λt _ h=>fb h λm _ h=>cC h λh=>r_ rfl <| by
 walk_at "z";obtain⟨g,⟨h0,h1,ht⟩,⟨hm,hm2⟩,q⟩:=h;walk_at "r";rintro x ⟨a,b⟩ hs hx0 hx1;walk_at "r";intro y s2 hs2 hy0 hy1;walk_at "r";obtain⟨i,rfl⟩:∃i:Nat,x=(i:Int):=⟨x.toNat,by omega⟩
 obtain⟨j,rfl⟩:∃j:Nat,y=(j:Int):=⟨y.toNat,by omega⟩
 show Q (.dat (.str (eA t (some (i:Int)) (some ((i:Int)+1+(j:Int)))))) _;rw [show (i:Int)+1+(j:Int)=((i+1+j:Nat):Int) by omega,zp];exact q _ s2 hs2 (by rw [length_take,length_drop];omega) (by rw [length_take,length_drop];omega) ((ht.drop _).take _)
noncomputable def oF(K:b_)(mg:Str->Option Value)(t:TxC K):=(have TC:=t;show LS K [0] _ _ from (au (ay (aq bA (ai (fq (aa (ai (le_str (l:=[97,98]))) (aa (ai (le_str (l:=[97,98,99]))) (aa (ai (le_str (l:=[97,98,99,100,101,102,103,104,105,106,107,108,109,110,111,112,113,114,115,116,117,118,119,120,121,122]))) ac))))) (ai (aM (c:=aD) (i:=0) (aa (bq 3) ac)))) (cp 2 rfl)) (au (ay (aM (c:=eX) (i:=0) (aa (aU 2) (aa (ai (aq fX (bq 3) (aA 1))) ac))) (cp 3 rfl)) (au (iw (cw (fe (aq dU (ai (aM (c:=aD) (i:=0) (aa (bq 3) ac))) (bq 0))) (ay (aq fX (ai (bp (aA 3) bv (bh (aq bL (bq 1) (ai (aM (c:=aD) (i:=0) (aa (bq 3) ac))))))) (aA 1)) (cp 3 rfl)) bd)) (aC (dC (aa (aU 2) (aa (aU 3) ac))))))))
def vZ:PTS:=psO oF
def wb:RRl jU vZ 4 2:=λ_ _ Q h=>Bl h λ_ h=>fb h λc0 _ h=>fb h λc1 _ h=>cC h λh=>fb h λm _ h=>cC h λh=>r_ rfl <| by
 walk_at "z";obtain⟨g,⟨hm,hm2⟩,q⟩:=h;walk_at "r";rintro x ⟨a,b⟩ hs hx0 hx1
 obtain⟨ls,hls,hl1,hl2,hL⟩:∃ls:List Nat,atI [D.str [97,98],D.str [97,98,99],D.str [97,98,99,100,101,102,103,104,105,106,107,108,109,110,111,112,113,114,115,116,117,118,119,120,121,122]] x=some (.str ls)/\0<ls.length/\ls.length<=26/\Lts ls:=by
  have lt:∀l:List Nat,(l.all λc=>decide (97<=c) && decide (c<=122))=true->Lts l:=λl h c hc=>by
   have:=Na.mp h c hc;rw [and_eq_true,decide_eq_true_eq,decide_eq_true_eq] at this;exact this
  rcases (show x=0\/x=1\/x=2 by omega) with h|h|h <;> rw [h]
  all_goals exact⟨_,rfl,by decide,by decide,lt _ (by decide)⟩
 have gl:0<ls.length/\ls.length<=26/\Lts ls:=⟨hl1,hl2,hL⟩
 have g3:0<3*m/\3*m<=10000:=⟨by omega,by omega⟩
 walk_at "r";refine⟨_,hls,?_⟩;walk_at "r";rintro w ⟨a2,b2⟩ hs2 hw0 hw1 hwL;walk_at "r"
 refine⟨λρ=>∃(u:List Nat) (s:Int×Int),SOk s/\0<u.length/\u.length<=100000/\Lts u/\ρ=[some (stv s),some (.dat (.int m)),some (.dat (.str ls)),some (.dat (.str u))],?_,?_⟩
 .walk_at "r";rintro y ⟨a3,b3⟩ hs3 hy0 hy1;walk_at "r"
  refine dE (λc=>?_) (λc=>?_)
  .walk_at "r";rintro z ⟨a4,b4⟩ hs4 hz0 hz1
   have ct:eA w none (some (1+z))=w.take (1+z).toNat:=by
    obtain⟨n,hn⟩:∃n:Nat,1+z=(n:Int):=⟨(1+z).toNat,by omega⟩
    rw [hn,gq,toNat_natCast]
   have cl1:(w.take (1+z).toNat).length<=3:=by rw [length_take];omega
   have cl0:0<(w.take (1+z).toNat).length:=by rw [length_take];omega
   have w2:(-1000000:Int)<=m/\m<=1000000/\m.toNat*(eA w none (some (1+z))).length<=1000000:=by
    refine⟨by omega,by omega,?_⟩;rw [ct];exact s_ (Pg (show m.toNat<=100 by omega) cl1) (by decide)
   walk_at "r";rw [ct]
   refine⟨_,(a4,b4),hs4,?_,?_,(hwL.take _).rep _,rfl⟩
   .rw [jt];exact mul_pos (by omega) cl0
   .rw [jt];exact s_ (Pg (show m.toNat<=100 by omega) cl1) (by decide)
  .exact⟨w,(a3,b3),hs3,hw0,by omega,hwL,rfl⟩
 .rintro ρ ⟨u,s,hs5,hu0,hu1,huL,rfl⟩;walk_at "r";exact q ls u s hs5 gl ⟨hu0,hu1,huL⟩
noncomputable def kL(K:b_)(mg:Str->Option Value)(t:TxC K):=(have TC:=t;show LS K [0] _ _ from (au (ay (aM (c:=jU) (i:=0) (aa (aU 2) ac)) (Ag (n:=2) (aH (aQ 3 rfl) (aH (aQ 4 rfl) bW)))) (au (ay (fq ac) (cp 5 rfl)) (au (eI (qV (aa (aU 1) ac)) (aQ 6 rfl) (au (ay (aM (c:=aD) (i:=0) (aa (bq 7) ac)) (cp 7 rfl)) (au (iw (cw (sU (fe (aq nG (aA 7) (bq 4))) (fe (aq eL (aA 5) (ai (fq ac))))) (au (ay (aq bA (aA 5) (ai (aM (c:=aD) (i:=0) (aa (ai (aR aZ (aa (aA 5) ac))) ac)))) (cp 8 rfl)) (cw (fe (aq dU (aA 7) (bq 6))) (ay (aM (c:=i9) (i:=0) (aa (aU 8) (aa (aU 2) ac))) (cp 8 rfl)) bd)) (cw (fe (aq dU (aA 7) (bq 0))) (ay (aM (c:=eX) (i:=0) (aa (aU 3) (aa (aU 2) ac))) (cp 8 rfl)) (cw (fe (aq dU (aA 7) (bq 1))) (au (ay (aM (c:=eX) (i:=0) (aa (aU 3) (aa (ai (aq gC (ai (aq bL (aA 2) (bq 1))) (bq 2))) ac))) (cp 8 rfl)) (ay (aq bL (aA 8) (ai (bp (ai (ap (c:=cX) (aa (aU 8) ac))) (bh (aM (c:=aD) (i:=0) (aa (bq 2) ac))) bv))) (cp 8 rfl))) (ay (aM (c:=i9) (i:=0) (aa (aU 4) (aa (aU 2) ac))) (cp 8 rfl)))))) (au (iw (cw (fe (aq dU (ai (aM (c:=aD) (i:=0) (aa (bq 2) ac))) (bq 1))) (ay (ap (c:=cX) (aa (aU 8) ac)) (cp 8 rfl)) bd)) (jw (sZ (i:=5) (bp (aA 8) bv (bh (cJ 2))))))))) (aC (cJ 5))))))
def rW:PTS:=psO kL
def rX:RRl gT rW 9 3:=λ_ _ Q h=>Bl h λ_ h=>fb h λc0 _ h=>fb h λc1 _ h=>cC h λh=>fb h λn _ h=>fb h λm _ h=>cC h λh=>r_ rfl <| by
 walk_at "z";obtain⟨g,⟨hn0,hn1,hm0,hm1⟩,q⟩:=h;obtain⟨N,rfl⟩:∃N:Nat,n=(N:Int):=⟨n.toNat,by omega⟩
 have gm:0<m/\m<=100:=⟨hm0,by omega⟩
 have gm2:0<m/\m<=10000:=⟨hm0,by omega⟩
 walk_at "r";rintro ls b ⟨a1,b1⟩ hs1 hls hb;walk_at "r";rw [toNat_natCast]
 refine⟨λk ρ=>∃(ps:List (List Nat)) (s:Int×Int) (v6 v7 v8:Option PV),SOk s/\ps.length=k/\Pcs m.toNat ps/\ρ=[some (stv s),some (.dat (.int (N:Int))),some (.dat (.int m)),some (.dat (.str ls)),some (.dat (.str b)),some (.own (ps.map .str)),v6,v7,v8],⟨[],(a1,b1),_,_,_,hs1,rfl,(λw hw=>nomatch hw),rfl⟩,?_,?_⟩
 .rintro k ρ _ hk rfl ⟨ps,⟨a2,b2⟩,v6,v7,v8,hs2,hpl,hps,rfl⟩;have hpm:(ps.map D.str).length=ps.length:=length_map _;have e1:w4 (.lst (ps.map .str)) (.lst []):=vC λw hw=>(hps w hw).2.2;have e2:=ue ps;walk_at "r";rintro y ⟨a3,b3⟩ hs3 hy0 hy1;walk_at "r"
  refine⟨λρ=>∃(p:List Nat) (s:Int×Int),SOk s/\0<p.length/\p.length<=1000/\Lts p/\ρ=[some (stv s),some (.dat (.int (N:Int))),some (.dat (.int m)),some (.dat (.str ls)),some (.dat (.str b)),some (.own (ps.map .str)),some (.dat (.int (k:Int))),some (.dat (.int y)),some (.dat (.str p))],?_,?_⟩
  .have hbb:=hb.1;walk_at "r"
   refine dE (λc=>?_) (λc=>?_)
   .walk_at "r";rw [e2]
    refine nC (λc2=>?_) (λc2=>?_)
    .have hp0:0<ps.length:=O_.mpr c2;walk_at "r";rintro x ⟨a4,b4⟩ hs4 hx0 hx1;obtain⟨i,rfl⟩:∃i:Nat,x=(i:Int):=⟨x.toNat,by omega⟩
     have hi:i<ps.length:=by omega
     have hpi:=hps _ (bC hi);have hpl1:=hpi.2.1;walk_at "r";refine⟨_,cr hi rfl,?_⟩;have gt:0<(pw ps i).length/\(pw ps i).length<=100000/\Lts (pw ps i):=⟨hpi.1,by omega,hpi.2.2⟩
     walk_at "r"
     refine dE (λc3=>?_) (λc3=>?_)
     .walk_at "r";rintro w s5 hs5 hw0 hw1 hwL;walk_at "r";exact⟨w,s5,hs5,hw0,by omega,hwL,rfl⟩
     .exact⟨_,(a4,b4),hs4,hpi.1,by omega,hpi.2.2,rfl⟩
    .walk_at "r";rintro w s5 hs5 hw0 hw1 hwL;walk_at "r";exact⟨w,s5,hs5,hw0,by omega,hwL,rfl⟩
   .walk_at "r"
    refine dE (λc3=>?_) (λc3=>?_)
    .walk_at "r";rintro w s5 hs5 hw0 hw1 hwL;walk_at "r";exact⟨w,s5,hs5,hw0,by omega,hwL,rfl⟩
    .walk_at "r"
     refine dE (λc4=>?_) (λc4=>?_)
     .have gh:0<(m+1) / 2/\(m+1) / 2<=10000:=⟨by omega,by omega⟩
      walk_at "r";rintro w ⟨a5,b5⟩ hs5 hw0 hw1 hwL;have hwl:w.length<=10000:=by omega
      walk_at "r";rintro z ⟨a6,b6⟩ hs6 hz0 hz1;have cz:=bu w.reverse (some z) none;rw [LD] at cz;walk_at "r";exact⟨_,(a6,b6),hs6,by rw [length_append];omega,by rw [length_append];omega,hwL.app ((Ba hwL).cut _ _),rfl⟩
     .walk_at "r";rintro w s5 hs5 hw0 hw1 hwL;walk_at "r";exact⟨w,s5,hs5,hw0,by omega,hwL,rfl⟩
  rintro ρ ⟨p,⟨a5,b5⟩,hs5,hp0,hp1,hpL,rfl⟩;have hp2:p.length<=10000:=by omega
  walk_at "r"
  refine⟨λρ=>∃(p:List Nat) (s:Int×Int),SOk s/\0<p.length/\p.length<=1000/\Lts p/\ρ=[some (stv s),some (.dat (.int (N:Int))),some (.dat (.int m)),some (.dat (.str ls)),some (.dat (.str b)),some (.own (ps.map .str)),some (.dat (.int (k:Int))),some (.dat (.int y)),some (.dat (.str p))],?_,?_⟩
  .walk_at "r";rintro z ⟨a6,b6⟩ hs6 hz0 hz1;walk_at "r"
   refine dE (λc=>?_) (λc=>?_)
   .walk_at "r";exact⟨_,(a6,b6),hs6,by rw [LD];exact hp0,by rw [LD];exact hp1,Ba hpL,rfl⟩
   .exact⟨p,(a6,b6),hs6,hp0,hp1,hpL,rfl⟩
  clear hp0 hp1 hpL hp2 p;rintro ρ ⟨p,⟨a6,b6⟩,hs6,hp0,hp1,hpL,rfl⟩;have ct:eA p none (some m)=p.take m.toNat:=BJ p (by omega);walk_at "r";rw [ct];refine⟨ps++[_],(a6,b6),_,_,_,hs6,by rw [length_append,hpl];rfl,λw hw=>?_,by rw [map_append];rfl⟩
  rcases MA.mp hw with h|h
  .exact hps w h
  .rw [G_.mp h];exact⟨by rw [length_take];omega,by rw [length_take];omega,hpL.take _⟩
 .rintro ρ ⟨ps,s,v6,v7,v8,hs2,hpl,hps,rfl⟩;walk_at "r";exact q ps s hs2 (by omega) hps
noncomputable def qA(K:b_)(mg:Str->Option Value)(t:TxC K):=(have TC:=t;show LS K [] _ _ from (au (eI (He (aa (ai (aq kh (ai (aR uZ (aa (ai (aR aZ (aa (aA 0) ac))) (aa (ai (aR aZ (aa (aA 1) ac))) ac)))) (bq 1))) (aa (bq 0) (aa (ai (zN tu (bq 1))) ac)))) (aQ 2 rfl) (cw (fe (aq dU (ai (bp (aA 0) (bh (aq kh (ai (aR aZ (aa (aA 0) ac))) (aA 2))) bv)) (ai (bp (aA 1) bv (bh (cJ 2)))))) (aC (cJ 2)) bd)) (aC (yP 0))))
def yC:PTS:=psO qA
def yD:PRl gg yC 3 2:=λ_ Q h=>mR h λa _ h=>mR h λb _ h=>cC h λh=>r_ rfl <| by
 walk_at "z";obtain⟨a1,⟨b0,b1⟩,q⟩:=h;have hm:(if (b.length:Int)<(a.length:Int) then (b.length:Int) else (a.length:Int))=((min a.length b.length:Nat):Int):=by split <;> omega
 walk_at "r";rw [hm]
 refine⟨λi ρ=>(∃v2:Option PV,ρ=[some (.dat (.str a)),some (.dat (.str b)),v2])/\∀j,min a.length b.length - i<=j->j<min a.length b.length->¬ b.take j <:+ a,⟨⟨_,rfl⟩,λj h1 h2=>by omega⟩,?_,?_⟩
 .rintro i ρ d hi ed ⟨⟨v2,rfl⟩,ih⟩;obtain⟨k,hk,hk2⟩:∃k:Nat,(((min a.length b.length:Nat):Int) - 1) - (i:Int)=(k:Int)/\k=min a.length b.length - 1 - i:=⟨min a.length b.length - 1 - i,by omega,rfl⟩
  have hk0:0<k:=by omega
  rw [hk] at ed;subst ed;have cd:eA a (some ((a.length:Int) - (k:Int))) none=a.drop (a.length - k):=by rw [show (a.length:Int) - (k:Int)=((a.length - k:Nat):Int) by omega,ip]
  have ct:=gq b k;walk_at "r";rw [cd,ct]
  refine dE (λc=>?_) (λc=>?_)
  .walk_at "r"
   rw [show dB a b=k from rk ⟨by omega,by rw [<- c];exact drop_suffix ..,λj h1 h2=>by
    rcases ML k j with h|h
    .exact absurd h2 (ih j (by omega) h1)
    .exact h⟩] at q
   exact q
  .refine⟨⟨_,rfl⟩,λj h1 h2=>?_⟩
   by_cases hj:j=k
   .subst hj;intro z;refine c ?_;obtain⟨t,ht⟩:=z;have hjb:j<=b.length:=by omega
    rw [<- ht,show (t++b.take j).length - j=t.length by rw [length_append,length_take,Om hjb,add_sub_cancel],drop_left]
   .exact ih j (by omega) h2
 .rintro ρ ⟨⟨v2,rfl⟩,ih⟩;walk_at "r"
  by_cases a0:0<a.length
  .rw [show dB a b=0 from rk ⟨by omega,by rw [take_zero];exact nil_suffix,λj h1 h2=>by
    rcases ML 0 j with h|h
    .exact absurd h2 (ih j (by omega) h1)
    .exact h⟩] at q
   exact q
  .rw [show dB a b=0 by
    unfold dB;rw [dif_neg];rintro⟨k,hk⟩;have:=hk.1;omega] at q
   exact q
noncomputable def jk(K:b_)(mg:Str->Option Value)(t:TxC K):=(have TC:=t;show LS K [] _ _ from (au (ay (aq bA (aA 0) (aA 1)) (cp 2 rfl)) (au (ay (ap (c:=cX) (aa (aU 2) ac)) (cp 3 rfl)) (au (eI (ba (cJ 0)) (aQ 4 rfl) (cw (sU (fe (aq nG (ai (aR aZ (aa (aA 4) ac))) (ai (aR aZ (aa (aA 2) ac))))) (nE (fe (aq x5 (ai (ya qY (cJ 4) (aa (aA 2) ac))) (bq 0))) (fe (aq x5 (ai (ya qY (cJ 4) (aa (aA 3) ac))) (bq 0))))) (aC (mh (i:=true))) bd)) (aC (G1 (aq (tU (neg:=false)) (aA 2) (ai (bp (aA 0) bv (bh (cJ 1))))) (aq (tU (neg:=false)) (aA 3) (ai (bp (aA 0) bv (bh (cJ 1)))))))))))
def pQ:PTS:=psO jk
def pR:PRl dO pQ 5 2:=λ_ Q h=>vn h λds _ h=>fb h λi _ h=>cC h λh=>r_ rfl <| by
 walk_at "z";obtain⟨ws,rfl,⟨hn,hw⟩,hi,q⟩:=h;obtain⟨k,rfl⟩:∃k:Nat,i=(k:Int):=⟨i.toNat,by omega⟩
 have hk:k<ws.length:=by omega
 rw [toNat_natCast] at q;have w1:=hw _ (bC hk);have c1:eA (ws.map D.str) none (some (k:Int))=(ws.take k).map D.str:=by rw [gq,map_take]
 have hfl:(eA (ws.map D.str) none (some (k:Int))).all D.fl=true:=by rw [c1];exact Ah _
 have hin:∀u,inD (.str u) (eA (ws.map D.str) none (some (k:Int)))=decide (u∈ws.take k):=λu=>by rw [c1];exact rm _ _
 walk_at "r";refine⟨_,cr hk rfl,?_⟩;walk_at "r"
 refine IR (λpre ρ=>(∃v4:Option PV,ρ=[some (.dat (.lst (ws.map .str))),some (.dat (.int (k:Int))),some (.dat (.str (pw ws k))),some (.dat (.str (pw ws k).reverse)),v4])/\∀o∈pre,(pw ws k).length<o.length->fZ (pw ws k) o=false) ⟨⟨_,rfl⟩,λo ho=>nomatch ho⟩ ?_ ?_
 .rintro pre o suf ρ ew ⟨⟨v4,rfl⟩,ih⟩;have ho:o∈ws:=by rw [ew];simp
  have w2:=hw o ho
  have keep:((pw ws k).length<o.length->fZ (pw ws k) o=false)->∀o'∈pre++[o],(pw ws k).length<o'.length->fZ (pw ws k) o'=false:=λh o' ho'=>by
   rcases MA.mp ho' with z|z
   .exact ih o' z
   .rw [G_.mp z];exact h
  have found:(pw ws k).length<o.length->fZ (pw ws k) o=true->f8 ws k=false:=λh1 h2=>by
   cases e:f8 ws k with
   | false=>rfl
   | true =>
    have:=(dW.mp e).2 o ho h1;rw [h2] at this;cases this
  walk_at "r"
  refine dE (λc=>?_) (λc=>?_)
  .walk_at "r"
   refine dE (λc2=>?_) (λc2=>?_)
   .walk_at "r";rw [found (by omega) (by unfold fZ;rw [rn.mpr (by omega),OP])] at q;exact q
   .walk_at "r"
    refine dE (λc3=>?_) (λc3=>?_)
    .walk_at "r";rw [found (by omega) (by unfold fZ;rw [(rn (a:=(pw ws k).reverse)).mpr (by omega),OQ])] at q;exact q
    .exact⟨⟨_,rfl⟩,keep λ_=>by unfold fZ;rw [xo.mpr (by omega),(xo (a:=(pw ws k).reverse)).mpr (by omega)];rfl⟩
  .exact⟨⟨_,rfl⟩,keep λz=>by omega⟩
 .rintro ρ ⟨⟨v4,rfl⟩,ih⟩
  have hq:f8 ws k=!jb ws k:=by
   cases e:jb ws k with
   | true =>
    cases e2:f8 ws k with
    | false=>rfl
    | true=>have:=(dW.mp e2).1;rw [e] at this;cases this
   | false=>exact dW.mpr ⟨e,ih⟩
  rw [hq,not_not] at q;unfold jb at q;walk_at "r";rw [hin]
  cases e1:decide (pw ws k∈ws.take k) with
  | true =>
   rw [e1] at q;walk_at "r";exact q
  | false =>
   rw [e1,NS] at q;walk_at "r";rw [hin];exact q
noncomputable def oG(K:b_)(mg:Str->Option Value)(t:TxC K):=(have TC:=t;show LS K [] _ _ from (aC (aP (ix:=[none,some 0]) rfl (qV (aa (ai (aR aZ (aa (aA 0) ac))) ac)) (λfs hc=>(aQ 0 (dh hc (by decide)))) (fW (qS (ap (c:=dO) (aa (aU 1) (aa (aU 0) ac))))) (cJ 0))))
def wc:PTS:=psO oG
def wd:PRl jV wc 1 1:=λ_ Q h=>vn h λds _ h=>cC h λh=>r_ rfl <| by
 walk_at "z";obtain⟨ws,rfl,hw,q⟩:=h;have hlm:(ws.map D.str).length=ws.length:=length_map _;walk_at "r"
 refine cfR (f8 ws) nD ?_ ?_
 .intro j hj v K1 K2 k1 k2;have hj2:j<ws.length:=by omega
  walk_at "r";rw [toNat_natCast]
  cases hc:f8 ws j with
  | true=>walk_at "r";exact k1 _ hc
  | false=>walk_at "r";exact k2 _ hc
 .intro v;walk_at "r";rw [hlm,toNat_natCast];exact q
noncomputable def lW(K:b_)(mg:Str->Option Value)(t:TxC K):=(have TC:=t;show LS K [] _ _ from (aC (hG (sW .int (aA 0)) (zO (sW .bool (aA 0))))))
def uu:PTS:=psO lW
def uv:PRl iP uu 1 1:=λ_ Q h=>AT h λd _ h=>cC h λh=>r_ rfl <| by
 walk_at "z";obtain⟨hd,q⟩:=h;cases d <;> first|(cases hd;done)|(walk_at "r";exact q)
noncomputable def iU(K:b_)(mg:Str->Option Value)(t:TxC K):=(have TC:=t;show LS K [0] _ _ from (au (ay (aR u0 (aa (aA 1) ac)) (cp 2 rfl)) (au (ay (fq ac) (cp 3 rfl)) (au (w6 (fe (aq eL (aA 2) (ai (fq ac)))) (jw (sZ (i:=3) (B4 (i:=2) (aM (c:=aD) (i:=0) (aa (ai (aR aZ (aa (aA 2) ac))) ac)))))) (aC (tN (cJ 3)))))))
def oH:PTS:=psO iU
def oJ:RRl dy oH 4 2:=λ_ _ Q h=>Bl h λ_ h=>fb h λc0 _ h=>fb h λc1 _ h=>cC h λh=>vn h λds _ h=>cC h λh=>r_ rfl <| by
 walk_at "z";obtain⟨xs,rfl,⟨g,hn⟩,q⟩:=h;have hxm:(xs.map nD).length=xs.length:=length_map _;walk_at "r";refine⟨λk ρ=>∃(rs js:List Nat) (s:Int×Int) (v1:Option PV),(js++rs).Perm xs/\SOk s/\k=rs.length/\ρ=[some (stv s),v1,some (.own (rs.map nD)),some (.own (js.map nD))],⟨xs.length,xs,[],(c0,c1),_,O5 _,g,rfl,rfl⟩,?_⟩;rintro k ρ ⟨rs,js,⟨a,b⟩,v1,hp,hs,rfl,rfl⟩;have hpl:=hp.length_eq;rw [length_append] at hpl
 have e1:=Bc rs;have e2:=Fv rs;walk_at "r";rw [e2]
 refine nC (λc=>?_) (λc=>?_)
 .have hrl:0<rs.length:=O_.mpr c;have hrm:(rs.map nD).length=rs.length:=length_map _;have hjm:(js.map nD).length=js.length:=length_map _;walk_at "r";rintro z s2 hs2 hz0 hz1;obtain⟨i,rfl⟩:∃i:Nat,z=(i:Int):=⟨z.toNat,by omega⟩
  have hir:i<rs.length:=by omega
  walk_at "r";refine⟨i,nD rs[i],⟨by rw [hrm];exact Lq hir,by omega⟩,by rw [h_,cx hir];rfl,by show (js.map nD).length<_;omega,rs.length - 1,by omega,rs.eraseIdx i,js++[rs[i]],s2,v1,?_,hs2,by rw [length_eraseIdx,if_pos hir],by rw [map_append,As];rfl⟩;rw [append_assoc];exact ((perm_append_comm.trans (At hir)).append_left js).trans hp
 .have c:rs=[]:=c;subst c;rw [LA] at hp;walk_at "r";exact q js (a,b) hp hs
noncomputable def kM(K:b_)(mg:Str->Option Value)(t:TxC K):=(have TC:=t;show LS K [0] _ _ from (au (w6 (fe (aq nG (aA 3) (bq 0))) (au (cw (sU (fe (aq dU (ai (bp (aA 1) (bh (aq kh (ai (aR aZ (aa (aA 1) ac))) (aA 3))) bv)) (ai (bp (aA 2) bv (bh (cJ 3)))))) (fe (aq dU (ai (aM (c:=aD) (i:=0) (aa (bq 2) ac))) (bq 0)))) (aC (cJ 3)) bd) (ay (aq kh (aA 3) (bq 1)) (cp 3 rfl)))) (aC (yP 0))))
def rY:PTS:=psO kM
def rZ:RRl gU rY 4 4:=λ_ _ Q h=>Bl h λ_ h=>fb h λc0 _ h=>fb h λc1 _ h=>cC h λh=>mR h λa _ h=>mR h λb _ h=>fb h λm _ h=>cC h λh=>r_ rfl <| by
 walk_at "z";obtain⟨g,⟨h0,hm,ha,hb⟩,q⟩:=h;walk_at "r";refine⟨λk ρ=>∃s:Int×Int,SOk s/\(k:Int)<=m/\ρ=[some (stv s),some (.dat (.str a)),some (.dat (.str b)),some (.dat (.int (k:Int)))],⟨m.toNat,(c0,c1),g,by omega,by rw [toNat_of_nonneg h0];rfl⟩,?_⟩;rintro k ρ ⟨⟨u,v⟩,hs,hk,rfl⟩;have cl1:=bu a (some ((a.length:Int) - (k:Int))) none;have cl2:=bu b none (some (k:Int));have ea:eA a (some ((a.length:Int) - (k:Int))) none=a.drop (a.length - k):=by rw [show (a.length:Int) - (k:Int)=((a.length - k:Nat):Int) by omega,ip]
 have eb:eA b none (some (k:Int))=b.take k:=gq b k;walk_at "r"
 refine dE (λc=>?_) (λc=>?_)
 .walk_at "r"
  refine dE (λc2=>?_) (λc2=>?_)
  .walk_at "r";rintro z s2 hs2 hz0 hz1;walk_at "r"
   refine dE (λc3=>?_) (λc3=>?_)
   .rw [ea,eb] at c2;walk_at "r";exact q k s2 hs2 hk (by rw [<- c2];exact drop_suffix _ _)
   .walk_at "r";refine⟨k - 1,by omega,s2,hs2,by omega,?_⟩;rw [show (k:Int) - 1=((k - 1:Nat):Int) by omega]
  .walk_at "r";refine⟨k - 1,by omega,(u,v),hs,by omega,?_⟩;rw [show (k:Int) - 1=((k - 1:Nat):Int) by omega]
 .walk_at "r";exact q 0 (u,v) hs (by omega) (by rw [take_zero];exact nil_suffix)
noncomputable def oK(K:b_)(mg:Str->Option Value)(t:TxC K):=(have TC:=t;show LS K [0] _ _ from (au (ay (bp (ai (le_str (l:=[112,113]))) bv (bh (aq gC (ai (aM (c:=aD) (i:=0) (aa (bq 3) ac))) (bq 2)))) (cp 2 rfl)) (au (ay (le_str (l:=[])) (cp 3 rfl)) (au (eI (ba (cJ 1)) (aQ 4 rfl) (au (ay (aM (c:=aD) (i:=0) (aa (bq 4) ac)) (cp 5 rfl)) (au (ay (yP 0) (cp 6 rfl)) (au (iw (cw (sU (fe (aq eL (aA 3) (ai (le_str (l:=[]))))) (fe (aq nG (aA 5) (bq 0)))) (ay (ap (c:=gg) (aa (aU 3) (aa (aU 4) ac))) (cp 6 rfl)) bd)) (au (iw (cw (fe (aq dU (aA 5) (bq 1))) (ay (aM (c:=gU) (i:=0) (aa (aU 3) (aa (aU 4) (aa (aU 6) ac)))) (cp 6 rfl)) bd)) (au (iw (cw (fe (aq dU (aA 5) (bq 0))) (ay (aq bL (aA 2) (ai (bp (ai (le_str (l:=[98,97]))) bv (bh (aM (c:=aD) (i:=0) (aa (bq 3) ac)))))) (cp 2 rfl)) bd)) (au (ay (aq bL (aA 2) (ai (bp (aA 4) (bh (cJ 6)) bv))) (cp 2 rfl)) (ay (cJ 4) (cp 3 rfl))))))))) (aC (aq bL (aA 2) (ai (bp (ai (le_str (l:=[113,112]))) bv (bh (aq gC (ai (aM (c:=aD) (i:=0) (aa (bq 3) ac))) (bq 2)))))))))))
def wf:PTS:=psO oK
def wg:RRl jW wf 7 2:=λ_ _ Q h=>Bl h λ_ h=>fb h λc0 _ h=>fb h λc1 _ h=>cC h λh=>vn h λds _ h=>cC h λh=>r_ rfl <| by
 walk_at "z";obtain⟨ws,rfl,⟨g,hn,hp⟩,q⟩:=h;have hwm:(ws.map D.str).length=ws.length:=length_map _;walk_at "r";rintro z s1 hs1 hz0 hz1;have c2:(eA [112,113] none (some (z / 2))).length<=2:=bu [112,113] none (some (z / 2));walk_at "r"
 refine IR (xs:=ws) (e:=D.str) (λpre ρ=>∃(s:Int×Int) (T one:List Nat) (v4 v5 v6:Option PV),SOk s/\(T.length<=2+62*pre.length/\(∀w∈pre,w <:+: T)/\one <:+ T/\one.length<=60)/\ρ=[some (stv s),some (.dat (.lst (ws.map .str))),some (.dat (.str T)),some (.dat (.str one)),v4,v5,v6]) ⟨s1,_,[],_,_,_,hs1,⟨by omega,λ_ h=>(nomatch h),nil_suffix,LY _⟩,rfl⟩ ?_ ?_
 .rintro pre x suf ρ ew ⟨⟨u,v⟩,T,one,v4,v5,v6,hs,⟨hT,hin,hsuf,hone⟩,rfl⟩;have hx:=hp x (by rw [ew];simp);have hx2:=hx.2.1
  have hpl:pre.length<40:=by
   have:=congrArg List.length ew;rw [length_append,length_cons] at this;omega
  have gx:one.length<=10000/\(0<x.length/\x.length<=10000):=⟨by omega,hx.1,by omega⟩
  walk_at "r";rintro w ⟨u2,v2⟩ hs2 hw0 hw1;walk_at "r"
  refine⟨λρ=>∃k:Nat,((w=0->k=0)/\k<=one.length/\k<=x.length/\x.take k <:+ one)/\ρ=[some (stv (u2,v2)),some (.dat (.lst (ws.map .str))),some (.dat (.str T)),some (.dat (.str one)),some (.dat (.str x)),some (.dat (.int w)),some (.dat (.int (k:Int)))],?_,?_⟩
  .have k0:(w=0->0=0)/\0<=one.length/\0<=x.length/\x.take 0 <:+ one:=⟨λ_=>rfl,LY _,LY _,by rw [take_zero];exact nil_suffix⟩
   walk_at "r"
   refine nC (λc=>?_) (λc=>?_)
   .walk_at "r"
    refine dE (λc2=>?_) (λc2=>?_)
    .walk_at "r";have:=iA (O_.mpr c) hx.1;exact⟨dB one x,⟨λz=>by omega,by have:=this.1;omega,by have:=this.1;omega,this.2.1⟩,rfl⟩
    .exact⟨0,k0,rfl⟩
   .exact⟨0,k0,rfl⟩
  rintro ρ ⟨k,⟨hkw,k1,k2,k3⟩,rfl⟩;walk_at "r"
  refine⟨λρ=>∃(k:Nat) (s:Int×Int),SOk s/\((w=0->k=0)/\k<=one.length/\k<=x.length/\x.take k <:+ one)/\ρ=[some (stv s),some (.dat (.lst (ws.map .str))),some (.dat (.str T)),some (.dat (.str one)),some (.dat (.str x)),some (.dat (.int w)),some (.dat (.int (k:Int)))],?_,?_⟩
  .have g2:0<=(k:Int)/\(k:Int)<=(one.length:Int)/\one.length<=10000/\x.length<=10000:=⟨by omega,by omega,by omega,by omega⟩
   walk_at "r"
   refine dE (λc=>?_) (λc=>?_)
   .walk_at "r";rintro r s3 hs3 hr hsuf3;exact⟨r,s3,hs3,⟨λz=>by omega,by omega,by omega,hsuf3⟩,rfl⟩
   .exact⟨k,(u2,v2),hs2,⟨hkw,k1,k2,k3⟩,rfl⟩
  rintro ρ ⟨k,⟨u3,v3⟩,hs3,⟨hkw,k1,k2,k3⟩,rfl⟩;walk_at "r"
  refine⟨λρ=>∃(F:List Nat) (s:Int×Int),SOk s/\(T <+: F/\(F=T\/k=0)/\F.length<=T.length+2)/\ρ=[some (stv s),some (.dat (.lst (ws.map .str))),some (.dat (.str F)),some (.dat (.str one)),some (.dat (.str x)),some (.dat (.int w)),some (.dat (.int (k:Int)))],?_,?_⟩
  .walk_at "r"
   refine dE (λc=>?_) (λc=>?_)
   .walk_at "r";rintro y s4 hs4 hy0 hy1;have cl4:(eA [98,97] none (some y)).length<=2:=bu [98,97] none (some y);walk_at "r";exact⟨_,s4,hs4,⟨Ow _ _,.inr (hkw c),by rw [length_append];omega⟩,rfl⟩
   .exact⟨T,(u3,v3),hs3,⟨prefix_refl _,.inl rfl,by omega⟩,rfl⟩
  rintro ρ ⟨F,⟨u4,v4⟩,hs4,⟨hF1,hF3,hF2⟩,rfl⟩;have ec:eA x (some (k:Int)) none=x.drop k:=ip x k;have el:=bu x (some (k:Int)) none;have hFT:=hF1.length_le
  obtain⟨F0,e0⟩:x.take k <:+ F:=by
   rcases hF3 with rfl|e
   .exact k3.trans hsuf
   .rw [e,take_zero];exact nil_suffix
  have e2:F++x.drop k=F0++x:=by
   conv=>lhs;rw [<- e0]
   rw [append_assoc,L4]
  walk_at "r";rw [ec]
  refine⟨(u4,v4),F++x.drop k,x,_,_,_,hs4,⟨?_,λw hw=>?_,⟨F0,e2.symm⟩,by omega⟩,rfl⟩
  .rw [length_append,length_append,length_drop];show _<=2+62*(pre.length+1);omega
  .rcases MA.mp hw with h|h
   .exact (hin w h).trans (hF1.isInfix.trans (Ow _ _).isInfix)
   .rw [G_.mp h,e2];exact (suffix_append _ _).isInfix
 .rintro ρ ⟨⟨u,v⟩,T,one,v4,v5,v6,hs,⟨hT,hin,_,_⟩,rfl⟩;walk_at "r";rintro y s2 hs2 hy0 hy1;have cl3:(eA [113,112] none (some (y / 2))).length<=2:=bu [113,112] none (some (y / 2));walk_at "r";exact q _ s2 hs2 (by rw [length_append];omega) λw hw=>(hin w hw).trans (Ow _ _).isInfix
noncomputable def kN(K:b_)(mg:Str->Option Value)(t:TxC K):=(have TC:=t;show LS K [] _ _ from (au (ay (fq ac) (cp 1 rfl)) (au (eI (ba (cJ 0)) (aQ 2 rfl) (jw (Ib (i:=1) (fq (aa (aU 2) (aa (ai (ap (c:=cX) (aa (aU 2) ac))) ac)))))) (aC (cJ 1)))))
def r0:PTS:=psO kN
def r8:PRl dz r0 3 1:=λ_ Q h=>AT h λd _ h=>cC h λh=>r_ rfl <| by
 walk_at "z";obtain⟨ws,hd,⟨hn,hw⟩,q⟩:=h;walk_at "r";refine HM hd ?_
 refine IR (λpre ρ=>∃v2:Option PV,ρ=[some (.dat d),some (.own ((am pre).map .str)),v2]) ⟨_,rfl⟩ ?_ ?_
 .rintro pre w suf ρ ew ⟨v2,rfl⟩;have w1:=hw w (by rw [ew];simp);have hl:=bB pre;have hl2:pre.length<=ws.length:=by rw [ew,length_append];omega
  walk_at "r";exact⟨_,by rw [nP,map_append];rfl⟩
 .rintro ρ ⟨v2,rfl⟩;walk_at "r";exact q
noncomputable def oM(K:b_)(mg:Str->Option Value)(t:TxC K):=(have TC:=t;show LS K [0] _ _ from (aC (tN (aP (ix:=[none,some 0]) rfl (ba (aM (c:=dy) (i:=0) (aa (ai (mO false (aa (aU 1) ac))) ac))) (λfs hc=>(aQ 0 (dh hc (by decide)))) br (dC (aa (aU 0) (aa (ai (aM (c:=aD) (i:=1) (aa (bq 2) ac))) ac)))))))
def wl:PTS:=psO oM
def wm:RRl jX wl 2 2:=λ_ _ Q h=>Bl h λ_ h=>fb h λc0 _ h=>fb h λc1 _ h=>cC h λh=>fb h λm _ h=>cC h λh=>r_ rfl <| by
 walk_at "z";obtain⟨g,⟨h0,h1⟩,q⟩:=h;obtain⟨n,rfl⟩:∃n:Nat,m=(n:Int):=⟨m.toNat,by omega⟩
 rw [toNat_natCast] at q;walk_at "r";refine⟨e_ n,by rw [toNat_natCast];exact Aj n,⟨g,by rw [tj];omega⟩,λjs s1 hj hs1=>?_⟩;have hjl:js.length=n:=by rw [hj.length_eq,tj]
 have hjm:(js.map nD).length=js.length:=length_map _;walk_at "r"
 refine⟨λk ys τ=>∃(v:Option PV) (s:Int×Int) (bs:List Nat),τ=[v,some (stv s)]/\SOk s/\bs.length=k/\(∀b∈bs,b<2)/\ys=((js.take k).zip bs).map prT,⟨none,s1,[],rfl,hs1,rfl,(λ_ h=>nomatch h),by rw [zip_nil_right];rfl⟩,?_,?_⟩
 .rintro k ys τ d hk ed ⟨v,⟨u,w⟩,bs,rfl,hs,hb,hb2,rfl⟩;have hk:k<js.length:=by rw [hjm] at hk;exact hk
  have ed:d=nD js[k]:=by rw [ed];unfold itD;rw [cy,h_,cx hk];rfl
  subst ed;walk_at "r";rintro z s2 hs2 hz0 hz1;obtain⟨b,rfl⟩:∃b:Nat,z=(b:Int):=⟨z.toNat,by omega⟩
  walk_at "r";refine⟨_,s2,bs++[b],rfl,hs2,by rw [length_append,hb];rfl,λx hx=>(MA.mp hx).elim (hb2 x) λh=>by rw [G_.mp h];omega,?_⟩;rw [take_add_one,cx hk,zip_append (by rw [length_take,hb];omega),map_append];rfl
 .rintro ys τ ⟨v,s2,bs,rfl,hs2,hb,hb2,rfl⟩;rw [hjm] at hb;rw [hjm,take_length];walk_at "r";refine q _ s2 hs2 ?_ λp hp=>hb2 _ (NN hp).2;rw [map_fst_zip (by omega)];exact hj
noncomputable def lX(K:b_)(mg:Str->Option Value)(t:TxC K):=(have TC:=t;show LS K [] _ _ from (aC (tN (aP (ix:=[none,some 0]) rfl (ba (cJ 1)) (λfs hc=>(aQ 0 (dh hc (by decide)))) br (aq bA (ai (ap (c:=dz) (aa (aU 1) ac))) (ai (aq bL (ai (aq fX (bq 2) (ai (aq bA (aA 0) (bq 0))))) (ai (aq bA (aA 0) (bq 1))))))))))
def uw:PTS:=psO lX
def uz:PRl iQ uw 2 2:=λ_ Q h=>vn h λds _ h=>vn h λes _ h=>cC h λh=>r_ rfl <| by
 walk_at "z";obtain⟨ws,rfl,ks,rfl,⟨hn,hp,hk,hks⟩,q⟩:=h;have hst:ws.length<=1000/\∀w∈ws,w.length<=10000:=⟨by omega,λw hw=>s_ (hp w hw).2.1 (by decide)⟩
 have hkm:(ks.map prT).length=ks.length:=length_map _;have hsl:=bB ws;walk_at "r"
 refine cm1 (xs:=ks) (e:=prT) (λp=>.str (pw (am ws) (2*p.1+p.2))) (λp hp' v K1 k1=>?_) (λv=>?_)
 .obtain⟨p1,p2⟩:=hks p hp'
  have hix:atI ((am ws).map D.str) (2*(p.1:Int)+(p.2:Int))=some (.str (pw (am ws) (2*p.1+p.2))):=by
   rw [show 2*(p.1:Int)+(p.2:Int)=((2*p.1+p.2:Nat):Int) by omega];exact cr (by omega) rfl
  walk_at "r";refine⟨_,hix,?_⟩;exact k1 _
 .rw [map_map] at q;walk_at "r";exact q
noncomputable def lY(K:b_)(mg:Str->Option Value)(t:TxC K):=(have TC:=t;show LS K [] _ _ from (au (ay (ap (c:=dz) (aa (aU 0) ac)) (cp 1 rfl)) (au (ay (fq ac) (cp 2 rfl)) (au (eI (qV (aa (ai (aR aZ (aa (aA 1) ac))) ac)) (aQ 3 rfl) (au (ay (aP (ix:=[none,some 1,some 3]) rfl (qV (aa (ai (aR aZ (aa (aA 1) ac))) ac)) (λfs hc=>(aQ 0 (dh hc (by decide)))) (fe (aq eL (ai (aq gC (aA 2) (bq 2))) (ai (aq gC (aA 0) (bq 2))))) (ap (c:=gg) (aa (ai (aq bA (aA 1) (aA 2))) (aa (ai (aq bA (aA 1) (aA 0))) ac)))) (cp 4 rfl)) (jw (sZ (i:=2) (Fc (aA 4) (yP 0)))))) (aC (dC (aa (aU 2) (aa (ai (aq fX (ai (fq (aa (bq 0) ac))) (ai (aR aZ (aa (aA 1) ac))))) ac))))))))
def uA:PTS:=psO lY
def uB:PRl iR uA 5 1:=λ_ Q h=>vn h λds _ h=>cC h λh=>r_ rfl <| by
 walk_at "z";obtain⟨ws,rfl,⟨hn,hp⟩,q⟩:=h;have hst:ws.length<=1000/\∀w∈ws,w.length<=10000:=⟨by omega,λw hw=>s_ (hp w hw).2.1 (by decide)⟩
 have hsl:=bB ws;have hsp:=cU hp;have hsm:((am ws).map D.str).length=(am ws).length:=length_map _;walk_at "r"
 refine⟨λk ρ=>∃(gs:List Int) (v3 v4:Option PV),(gs.length=k/\(∀a b,a<k->b<2*ws.length->a / 2≠b / 2->(dB (pw (am ws) a) (pw (am ws) b):Int)<=gs.getD a 0)/\∀g∈gs,0<=g/\g<=60)/\ρ=[some (.dat (.lst (ws.map .str))),some (.dat (.lst ((am ws).map .str))),some (.own (gs.map .int)),v3,v4],⟨[],_,_,⟨rfl,λa b h=>absurd h (Ny _),λ_ h=>nomatch h⟩,rfl⟩,?_,?_⟩
 .rintro k ρ _ hk rfl ⟨gs,v3,v4,⟨h1,h2,h3⟩,rfl⟩;have hk:k<(am ws).length:=by rw [hsm] at hk;simpa using hk
  have hgm:(gs.map D.int).length=gs.length:=length_map _;have hgl:gs.length<=20:=by omega
  have nx:∀m:Int,(∀b,b<2*ws.length->k / 2≠b / 2->(dB (pw (am ws) k) (pw (am ws) b):Int)<=m)->0<=m->m<=60->((gs++[m]).length=k+1/\(∀a b,a<k+1->b<2*ws.length->a / 2≠b / 2->(dB (pw (am ws) a) (pw (am ws) b):Int)<=(gs++[m]).getD a 0)/\∀g∈gs++[m],0<=g/\g<=60):=λm m1 m2 m3=>by
   refine⟨by rw [length_append,h1];rfl,λa b ha hb hab=>?_,λg hg=>?_⟩
   .by_cases e:a=k
    .subst e;rw [cy,Mf (by omega),h1,sub_self];exact m1 b hb hab
    .have ha2:a<k:=by omega
     have:=h2 a b ha2 hb hab;rw [cy,MJ (by omega),<- cy];exact this
   .rcases MA.mp hg with h|h
    .exact h3 g h
    .rw [G_.mp h];exact⟨m2,m3⟩
  walk_at "r";rw [hsm,toNat_natCast]
  refine cfR (λi=>decide (k / 2≠i / 2)) (λi=>.int (dB (pw (am ws) k) (pw (am ws) i):Int)) (λi hi v K1 K2 k1 k2=>?_) (λv=>?_)
  .have wi:=hsp _ (bC hi);have wk:=hsp _ (bC hk);have g1:(pw (am ws) k).length<=10000:=by have:=wk.2.1;omega
   have g2:0<(pw (am ws) i).length/\(pw (am ws) i).length<=10000:=⟨wi.1,by have:=wi.2.1;omega⟩
   walk_at "r"
   refine zM (dE (λc=>?_) (λc=>?_))
   .exact k2 _ (decide_eq_false λz=>z (by omega))
   .walk_at "r";refine⟨_,cr hk rfl,?_⟩;walk_at "r";refine⟨_,cr hi rfl,?_⟩;walk_at "r";exact k1 _ (decide_eq_true λz=>c (by omega))
  .generalize hF:(e_ (am ws).length).filter (λi=>decide (k / 2≠i / 2))=F;have fm:∀i,i∈F ↔ i<2*ws.length/\k / 2≠i / 2:=λi=>by rw [<- hF,mem_filter,mem_range,hsl,decide_eq_true_eq]
   have lb:∀i,i<2*ws.length->(dB (pw (am ws) k) (pw (am ws) i):Int)<=60:=λi hi=>by
    have wi:=hsp _ (bC (show i<(am ws).length by omega));have wk:=hsp _ (bC hk);have:=(iA wk.1 wi.1).1;have:=wk.2.1;omega
   walk_at "r"
   refine⟨F.map λi=>(dB (pw (am ws) k) (pw (am ws) i):Int),by rw [map_map];rfl,λh=>?_,λh m m1 m2=>?_⟩
   .have F0:F=[]:=Nb.mp h;refine⟨by omega,gs++[0],_,_,nx 0 (λb hb hab=>?_) (Oq _) (by decide),by rw [map_append];rfl⟩;have:=(fm b).mpr ⟨hb,hab⟩;rw [F0] at this;cases this
   .obtain⟨i,hi,e⟩:=LJ.mp m1;have hb:=lb i ((fm i).mp hi).1;refine⟨by omega,gs++[m],_,_,nx m (λb hb hab=>m2 _ (Ma ((fm b).mpr ⟨hb,hab⟩))) (by omega) (by omega),by rw [map_append];rfl⟩
 .rintro ρ ⟨gs,v3,v4,⟨h1,h2,h3⟩,rfl⟩;have e:wS [D.int 0] (((am ws).map D.str).length:Nat)=(u1 (2*ws.length) (0:Int)).map .int:=by rw [hsm,hsl,B1,map_replicate]
  walk_at "r";rw [e];have h1:gs.length=2*ws.length:=by rw [h1,hsm,hsl];rfl
  have h2:∀a b,a<2*ws.length->b<2*ws.length->a / 2≠b / 2->(dB (pw (am ws) a) (pw (am ws) b):Int)<=gs.getD a 0:=λa b ha=>h2 a b (by rw [hsm,hsl];exact ha);exact q gs h1 h2 h3
noncomputable def oN(K:b_)(mg:Str->Option Value)(t:TxC K):=(have TC:=t;show LS K [] _ _ from (au (cw (nE (fe (aq eL (ai (ap (c:=dZ) (aa (aU 0) (aa (ai (ap (c:=dJ) (aa (aU 0) (aa (aU 2) ac)))) ac)))) (aA 2))) (fe (aq eL (ai (ap (c:=dZ) (aa (aU 1) (aa (ai (ap (c:=dJ) (aa (aU 1) (aa (aU 2) ac)))) ac)))) (aA 2)))) (aC (mh (i:=false))) bd) (au (ay (ap (c:=dJ) (aa (aU 0) (aa (aU 2) ac))) (cp 4 rfl)) (au (ay (ap (c:=dJ) (aa (aU 1) (aa (aU 2) ac))) (cp 5 rfl)) (au (eI (sY (aa (aU 4) (aa (aU 5) ac))) (cB (n:=2) (aH (aQ 6 rfl) (aH (aQ 7 rfl) bW))) (au (ay (aq bA (ai (bR (ns0:=["pieces","kept","words","left","states","laps","total"]) TC.cl_Turnable TC.n_Turnable_words (i:=2) (by decide +kernel) (aA 0))) (ai (aq bA (aA 6) (bq 0)))) (cp 8 rfl)) (au (ay (aq bA (aA 6) (bq 1)) (cp 9 rfl)) (au (iw (cw (sU (qS (aq bA (aA 3) (ai (aq bA (ai (bR (ns0:=["pieces","kept","words","left","states","laps","total"]) TC.cl_Turnable TC.n_Turnable_kept (i:=1) (by decide +kernel) (aA 0))) (ai (aq bA (aA 6) (bq 0))))))) (fe (aq eL (aA 8) (ai (ap (c:=cX) (aa (aU 8) ac)))))) (ay (aq kh (bq 1) (aA 9)) (cp 9 rfl)) bd)) (cw (fe (aq eL (aA 7) (ai (dC (aa (ai (aq bA (aA 6) (bq 0))) (aa (aU 9) ac)))))) (aC (mh (i:=false))) bd))))) (aC (hG (aq dU (ai (aR aZ (aa (aA 4) ac))) (ai (aR aZ (aa (aA 5) ac)))) (aq dU (ai (aR aZ (aa (aA 4) ac))) (ai (mP (c0:="Turnable") (m:="many") (ns0:=["pieces","kept","words","left","states","laps","total"]) (c:=bj) (by decide +kernel) (cJ 0) ac))))))))))
def wn:PTS:=psO oN
def wo:PRl jY wn 10 4:=λ_ Q h=>Dp h λc ns fs _ h=>Dp h λc2 ns2 fs2 _ h=>mR h λt _ h=>vn h λbs _ h=>cC h λh=>r_ rfl <| by
 walk_at "z";obtain⟨rfl,rfl,rfl,rfl,ps,qs,fl,rfl,rfl,rfl,⟨hn,hp,hq,hF⟩,ht,q⟩:=h;have hwl:=f9 ps;obtain⟨hwq,hst⟩:=kE hF;have hkq:=n9 hF;have htq:Lst (jc qs) t:=ht.congr λu=>uc hF u;have hf:=i8 ht.1;have hg:=i8 htq.1;have g1:ps.length<=20/\Pcs 60 ps:=⟨by omega,hp⟩
 have g2:qs.length<=20/\Pcs 60 qs:=⟨by have:=hF.1;omega,hq⟩
 have gz:∀{rs:List (List Nat)}{js:List Nat},rs.length<=20/\Pcs 60 rs->(∀j,j<(ag rs).length->0<=(cE t (pw (ag rs) j)).1)->js.Perm (e_ (ag rs).length)->(rs.length<=20/\Pcs 60 rs)/\((wyZ t (ag rs) js).map B_).Perm (e_ (ag rs).length)/\∀z∈wyZ t (ag rs) js,z.2<2:=λa b hj=>⟨a,by rw [A8];exact hj,λz hz=>by
  obtain⟨i,hi,rfl⟩:=LJ.mp hz;exact n8 (b i (mem_range.mp (hj.mem_iff.mp hi)))⟩
 walk_at "r";intro js1 hj1 hr1;have z1:=gz g1 hf hj1;walk_at "r";rw [A9,xC hp ht hj1 hr1,decide_eq_true rfl];walk_at "r";intro js2 hj2 hr2;have z2:=gz g2 hg hj2;walk_at "r";rw [A9,xC hq htq hj2 hr2,decide_eq_true rfl];clear z1 z2 hj1 hr1 hj2 hr2;walk_at "r";intro js hj hr;walk_at "r";intro js4 hj4 hr4;have hlt:∀i∈js,i<(ag ps).length:=λi h=>mem_range.mp (hj.mem_iff.mp h);have fp:∀i,i<(ag ps).length->_:=λi hi=>yp hF hi (hf i hi)
 obtain rfl:js=js4:=by
  rw [hwq] at hj4;refine ud (hj.trans hj4.symm) hr (hr4.imp_of_mem λ{a b} ha hb h=>?_);rw [(fp a (mem_range.mp (hj4.mem_iff.mp ha))).1,(fp b (mem_range.mp (hj4.mem_iff.mp hb))).1] at h;exact h
 have hjl:js.length=(ag ps).length:=by rw [hj.length_eq,tj]
 have zl1:((wyZ t (ag ps) js).map prT).length=js.length:=by rw [length_map,length_map]
 have zl2:((wyZ t (ag qs) js).map prT).length=js.length:=by rw [length_map,length_map]
 walk_at "r"
 refine⟨λk ρ=>∃v6 v7 v8 v9:Option PV,ρ=[some (.dat (.obj "Turnable" kt (ku ps))),some (.dat (.obj "Turnable" kt (ku qs))),some (.dat (.str t)),some (.dat (.lst (fl.map .bl))),some (.dat (.tup ((wyZ t (ag ps) js).map prT))),some (.dat (.tup ((wyZ t (ag qs) js).map prT))),v6,v7,v8,v9],⟨_,_,_,_,rfl⟩,?_,?_⟩
 .rintro k ρ _ hk rfl ⟨v6,v7,v8,v9,rfl⟩;rw [zl1,zl2,min_self] at hk;have hi:js[k]<(ag ps).length:=hlt _ (Ml hk);have r:∀ws:List (List Nat),itD ((wyZ t ws js).map prT) k=.tup [.int (js[k]:Int),.int (mS t (pw ws js[k]):Int)]:=λws=>jf (by rw [h_,h_,cx hk];rfl);rw [r,r];generalize js[k]=i at hi ⊢;have f2:=(fp i hi).2;rw [<- xE (hf i hi),<- xE (hg i (by omega))] at f2
  have hki:i<(aE ps).length:=by unfold ag at hi;rwa [length_map] at hi
  have kat:atI ((aE ps).map nD) (i:Int)=some (nD ((aE ps).getD i 0)):=gZ (j:=i) (by rw [h_,cx hki,cy,cx hki];rfl) rfl
  have hkp:(aE ps).getD i 0<fl.length:=by
   rw [hF.2.1,cy,cx hki];exact c6 (Ml hki)
  have fat:atI (fl.map D.bl) ((aE ps).getD i 0:Int)=some (.bl (fl.getD ((aE ps).getD i 0) false)):=gZ (j:=(aE ps).getD i 0) (by rw [h_,cx hkp,cy (l:=fl),cx hkp];rfl) rfl;have hw:=(dn hp _ (bC hi)).2.1;have hw:(pw (ag ps) i).length<=10000:=by omega
  generalize (aE ps).getD i 0=m at kat fat f2;generalize fl.getD m false=b at fat f2;generalize mS t (pw (ag qs) i)=w2 at f2 ⊢;generalize mS t (pw (ag ps) i)=w1 at f2 ⊢;walk_at "r";refine⟨_,cr hi rfl,?_⟩;walk_at "r"
  refine⟨λρ=>∃v8:Option PV,ρ=[some (.dat (.obj "Turnable" kt (ku ps))),some (.dat (.obj "Turnable" kt (ku qs))),some (.dat (.str t)),some (.dat (.lst (fl.map .bl))),some (.dat (.tup ((wyZ t (ag ps) js).map prT))),some (.dat (.tup ((wyZ t (ag qs) js).map prT))),some (.dat (.tup [.int (i:Int),.int (w1:Int)])),some (.dat (.tup [.int (i:Int),.int (w2:Int)])),v8,some (.dat (.int (w2:Int)))],?_,?_⟩
  .walk_at "r";refine⟨_,kat,?_⟩;walk_at "r";refine⟨_,fat,?_⟩;walk_at "r"
   cases b with
   | false =>
    rw [if_neg (λz=>nomatch z.1)] at f2;walk_at "r";exact⟨_,by rw [f2]⟩
   | true =>
    walk_at "r"
    refine nC (λc=>?_) (λc=>?_)
    .walk_at "r";exact⟨_,by rw [f2,if_pos ⟨rfl,c⟩]⟩
    .exact⟨_,by rw [f2,if_neg λz=>z.2 c]⟩
  .rintro ρ ⟨v8,rfl⟩;have dq:=xc (Sh.tupI [(i:Int),(w2:Int)]);have dq:deq (.tup [.int (i:Int),.int (w2:Int)]) (.tup [.int (i:Int),.int (w2:Int)])=true:=dq;walk_at "r";rw [dq];walk_at "r";exact⟨_,_,_,_,rfl⟩
 .rintro ρ ⟨v6,v7,v8,v9,rfl⟩;walk_at "r";rw [zl1,hjl,decide_eq_true rfl];exact q
noncomputable def jl(K:b_)(mg:Str->Option Value)(t:TxC K):=(have TC:=t;show LS K [0] _ _ from (au (ay (aR u0 (aa (ai (bR (ns0:=["pieces","kept","words","left","states","laps","total"]) TC.cl_Turnable TC.n_Turnable_words (i:=2) (by decide +kernel) (aA 1))) ac)) (cp 3 rfl)) (au (ay (ap (c:=iR) (aa (aU 3) ac)) (cp 4 rfl)) (au (ay (ap (c:=cW) (aa (aU 1) (aa (aU 4) ac))) (cp 5 rfl)) (au (ay (aM (c:=jW) (i:=0) (aa (ai (ap (c:=iQ) (aa (aU 3) (aa (ai (aM (c:=jX) (i:=0) (aa (ai (aR aZ (aa (aA 3) ac))) ac))) ac)))) ac)) (cp 6 rfl)) (au (ay (ap (c:=dZ) (aa (aU 1) (aa (ai (ap (c:=dJ) (aa (aU 1) (aa (aU 6) ac)))) ac))) (cp 7 rfl)) (au (cw (nE (fW (qS (ap (c:=iP) (aa (aU 5) ac)))) (nE (fe (aq nG (aA 5) (ai (aR aZ (aa (aA 2) ac))))) (fe (aq nG (aA 5) (ai (aR aZ (aa (aA 6) ac))))))) (aC (mh (i:=false))) bd) (aC (hG (aq sV (ai (aR aZ (aa (aA 2) ac))) (ai (aR aZ (aa (aA 7) ac)))) (aq sV (ai (aR aZ (aa (aA 7) ac))) (ai (aR aZ (aa (aA 6) ac)))))))))))))
def pS:PTS:=psO jl
def pT:RRl dP pS 8 3:=λ_ _ Q h=>Bl h λ_ h=>fb h λc0 _ h=>fb h λc1 _ h=>cC h λh=>Dp h λc ns fs _ h=>mR h λt _ h=>cC h λh=>r_ rfl <| by
 walk_at "z";obtain⟨rfl,rfl,ps,rfl,⟨g,hn,hp⟩,ht,q⟩:=h;have hwl:=f9 ps;have wp:=dn hp;have sp:=cU wp;have sl:=bB (ag ps);have hwm:((ag ps).map D.str).length=(ag ps).length:=length_map _;have g6:(ag ps).length<=6/\Pcs 60 (ag ps):=⟨by omega,wp⟩
 have gw:0<=(((ag ps).map D.str).length:Int)/\(((ag ps).map D.str).length:Int)<=20:=⟨by omega,by omega⟩
 have gp:ps.length<=20/\Pcs 60 ps:=⟨by omega,hp⟩
 walk_at "r";rintro gs gl hL hg;have g0:∀g∈gs,0<=g:=λg h=>(hg g h).1;have gt:(ag ps).length<=20/\gs.length=2*(ag ps).length/\(∀g∈gs,0<=g)/\∀a b,a<2*(ag ps).length->b<2*(ag ps).length->a / 2≠b / 2->(dB (pw (am (ag ps)) a) (pw (am (ag ps)) b):Int)<=gs.getD a 0:=⟨by omega,gl,g0,hL⟩
 walk_at "r";rintro ks ⟨u,v⟩ hs hkp hk2;rw [hwm,toNat_natCast] at hkp;have hkl:ks.length=(ag ps).length:=by have:=hkp.length_eq;rw [length_map,tj] at this;exact this
 have hk1:∀p∈ks,p.1<(ag ps).length/\p.2<2:=λp h=>⟨mem_range.mp (hkp.mem_iff.mp (Ma h)),hk2 p h⟩
 have gx:(ag ps).length<=20/\Pcs 60 (ag ps)/\ks.length<=100/\∀p∈ks,p.1<(ag ps).length/\p.2<2:=⟨by omega,wp,by omega,hk1⟩
 have gl2:SOk (u,v)/\(ks.map λp=>pw (am (ag ps)) (2*p.1+p.2)).length<=40/\Pcs 60 (ks.map λp=>pw (am (ag ps)) (2*p.1+p.2)):=⟨hs,by rw [length_map];omega,λw hw=>by
  obtain⟨p,hp',rfl⟩:=LJ.mp hw;have:=hk1 p hp';exact sp _ (bC (by omega))⟩
 walk_at "r";rintro T ⟨u2,v2⟩ hs2 hTl hT
 have hH:jc ps T:=ub (λw hw=>(hp w hw).2.1) λw hw=>by
  obtain⟨i,hi,rfl⟩:=Mm hw;obtain⟨p,hpm,e⟩:=LJ.mp (hkp.mem_iff.mpr (mem_range.mpr hi));have h1:=hT _ (Ma hpm);have hk:=hk1 p hpm;rw [i7 hk.1 hk.2,show pw (ag ps) p.1=(ag ps)[i] by rw [e];exact q_ ((cj hi).symm.trans (cx hi))] at h1;exact rO (b:=0) h1
 have hf:=i8 hH;walk_at "r";intro js hj hr;have hlt:∀i∈js,i<(ag ps).length:=λi h=>mem_range.mp (hj.mem_iff.mp h);have w2:∀i∈js,mS T (pw (ag ps) i)<2:=λi hi=>n8 (hf i (hlt i hi))
 have gz:(ps.length<=20/\Pcs 60 ps)/\((wyZ T (ag ps) js).map B_).Perm (e_ (ag ps).length)/\∀z∈wyZ T (ag ps) js,z.2<2:=⟨gp,by rw [A8];exact hj,λz hz=>by
  obtain⟨i,hi,rfl⟩:=LJ.mp hz;exact w2 i hi⟩
 walk_at "r";rw [A9];have b1:=qt hp g0 hL ht.1;have b2:=qt hp g0 hL hH;have b3:=(kB hp hf hj hr).1;have b4:=Dl (ht.2 _ (rQ hp (by rw [kC w2];exact hj)));generalize ((ag ps).map λw=>(w.length:Int)).sum - (mxS gs (ag ps).length).sum=z at b1 b2 ⊢;generalize glN (am (ag ps)) (uN T (ag ps) js)=A at b3 b4 ⊢;walk_at "r";rw [decide_eq_true (show (A.length:Int)<=(T.length:Int) by omega)];exact q (u2,v2) hs2
noncomputable def DD(K:b_)(mg:Str->Option Value)(t:TxC K):=(have TC:=t;show LS K [] _ _ from (au (eI (qV (aa (ai (aR zW (aa (bq 2) (aa (ai (aR uZ (aa (bq 3) (aa (ai (aR aZ (aa (aA 0) ac))) ac)))) ac)))) ac)) (aQ 1 rfl) (au (ay (ap (c:=gS) (aa (aU 0) (aa (aU 1) ac))) (cp 2 rfl)) (au (ay (aM (c:=gT) (i:=2) (aa (ai (aq bL (bq 1) (ai (aM (c:=aD) (i:=2) (aa (bq 6) ac))))) (aa (bq 7) ac))) (cp 3 rfl)) (au (ay (aP (ix:=[none,some 2]) rfl (ba (cJ 3)) (λfs hc=>(aQ 0 (dh hc (by decide)))) br (aq dU (ai (aM (c:=aD) (i:=1) (aa (bq 2) ac))) (bq 1))) (cp 4 rfl)) (au (ay (aP (ix:=[none,none]) rfl (sY (aa (aU 3) (aa (aU 4) ac))) (λfs hc=>(cB (n:=2) (aH (aQ 0 (dh hc (by decide))) (aH (aQ 1 (dh hc (by decide))) bW)))) br (aq bA (ai (fq (aa (aU 0) (aa (ai (ap (c:=eW) (aa (aU 0) ac))) ac)))) (ai (aR HD (aa (aA 1) ac))))) (cp 5 rfl)) (au (ay (zZ (c0:="Turnable") (c:=bM) (aa (aU 3) ac)) (cp 6 rfl)) (au (ay (zZ (c0:="Turnable") (c:=bM) (aa (ai (aR dL (aa (aA 5) ac))) ac)) (cp 7 rfl)) (au (cw (nE (fe (aq eL (ai (bR (ns0:=["pieces","kept","words","left","states","laps","total"]) TC.cl_Turnable TC.n_Turnable_kept (i:=1) (by decide +kernel) (aA 6))) (ai (aR dL (aa (ai (ap (c:=jV) (aa (aU 3) ac))) ac))))) (nE (fe (aq eL (ai (bR (ns0:=["pieces","kept","words","left","states","laps","total"]) TC.cl_Turnable TC.n_Turnable_kept (i:=1) (by decide +kernel) (aA 7))) (ai (bR (ns0:=["pieces","kept","words","left","states","laps","total"]) TC.cl_Turnable TC.n_Turnable_kept (i:=1) (by decide +kernel) (aA 6))))) (fe (aq eL (ai (bR (ns0:=["pieces","kept","words","left","states","laps","total"]) TC.cl_Turnable TC.n_Turnable_total (i:=6) (by decide +kernel) (aA 7))) (ai (bR (ns0:=["pieces","kept","words","left","states","laps","total"]) TC.cl_Turnable TC.n_Turnable_total (i:=6) (by decide +kernel) (aA 6))))))) (aC (mh (i:=false))) bd) (au (ay (ap (c:=ck) (aa (aU 6) ac)) (cp 8 rfl)) (au (cw (nE (fe (aq eL (ai (ap (c:=ck) (aa (aU 7) ac))) (aA 8))) (fW (qS (ap (c:=jY) (aa (aU 6) (aa (aU 7) (aa (aU 8) (aa (aU 4) ac)))))))) (aC (mh (i:=false))) bd) (cw (nE (fW (qS (aM (c:=dP) (i:=2) (aa (aU 6) (aa (aU 8) ac))))) (fW (qS (aM (c:=dP) (i:=2) (aa (aU 7) (aa (aU 8) ac)))))) (aC (mh (i:=false))) bd))))))))))) (aC (mh (i:=true)))))
def Bh:PTS:=psO DD
def Fx(ns:List Int)(h63:ns.length<=63)(Q:PV->Prop)(q:Q (.dat (.bl true))):IQ Bh DA [.scr ns] Q:=by
 show Bh _ [some (.dat (.scr ns)),none,none,none,none,none,none,none,none]
 have hmax:(if (if (ns.length:Int)<3 then (ns.length:Int) else 3) > 2 then if (ns.length:Int)<3 then (ns.length:Int) else 3 else 2).toNat<=3:=by
  split
  .split <;> omega
  .omega
 walk_at "r"
 refine⟨λk ρ=>∃v1 v2 v3 v4 v5 v6 v7 v8:Option PV,ρ=[some (.dat (.scr ns)),v1,v2,v3,v4,v5,v6,v7,v8],⟨_,_,_,_,_,_,_,_,rfl⟩,?_,?_⟩
 .rintro k ρ _ hk rfl ⟨v1,v2,v3,v4,v5,v6,v7,v8,rfl⟩;have hk3:k<3:=w_ hk hmax;clear hk hmax;walk_at "r";rintro⟨a,b⟩ g;walk_at "r";rintro y ⟨a,b⟩ g hy0 hy1;have hy2:0<=1+y/\1+y<=100/\(0:Int)<7/\(7:Int)<=60:=⟨by omega,by omega,by decide,by decide⟩
  walk_at "r";rintro ps ⟨a,b⟩ g hpl hpp;have hpl:ps.length=(1+y).toNat:=hpl;have hp:Pcs 60 ps:=λw hw=>⟨(hpp w hw).1,by have h:=(hpp w hw).2.1;have h:w.length<=7:=h;omega,(hpp w hw).2.2⟩
  have hn:ps.length<=6:=by omega
  have hpm:(ps.map D.str).length=ps.length:=length_map _;clear hpl hpp hy2 hy0 hy1;walk_at "r"
  refine⟨λk ys τ=>∃(v:Option PV) (s:Int×Int) (fl:List Bool),τ=[v,some (stv s)]/\SOk s/\fl.length=k/\ys=fl.map .bl,⟨none,(a,b),[],rfl,g,rfl,rfl⟩,?_,?_⟩
  .rintro k ys τ d hk ed ⟨v,⟨u,w⟩,fl,rfl,hs,hb,rfl⟩;walk_at "r";rintro z s2 hs2 hz0 hz1;walk_at "r";exact⟨_,s2,fl++[decide (z=1)],rfl,hs2,by rw [length_append,hb];rfl,by rw [map_append];rfl⟩
  rintro ys τ ⟨v,⟨a,b⟩,fl,rfl,g,hfl,rfl⟩;rw [hpm] at hfl;walk_at "r"
  refine cmZ (xs:=ps) (ys:=fl) (e:=D.str) (e':=D.bl) (λp b=>.str (trn p (if b then 1 else 0))) ?_ ?_
  .intro p b hpb v w K1 k1;have hpl:p.length<=10000:=s_ (hp p (NN hpb).1).2.1 (by decide);walk_at "r"
   cases b with
   | false=>walk_at "r";exact k1 _ _
   | true=>walk_at "r";exact k1 _ _
  intro v w;have hF:=Cw hfl;have hq:Pcs 60 (flW ps fl):=Fw hp;rw [show (ps.zip fl).map (λp=>D.str (trn p.1 (if p.2=true then 1 else 0)))=(flW ps fl).map .str by unfold flW;rw [map_map];rfl];have hkq:=n9 hF;have htt:=Cy hF;have hwq:=(kE hF).1;have hwl:=f9 ps;generalize flW ps fl=qs at hF hq hkq htt hwq ⊢;have hp40:ps.length<=40/\Pcs 60 ps:=⟨by omega,hp⟩
  have hq40:qs.length<=40/\Pcs 60 qs:=⟨by have:=hF.1;omega,hq⟩
  have hkk:ps.length<=1000/\∀w∈ps,w.length<=10000:=⟨by omega,λw hw=>s_ (hp w hw).2.1 (by decide)⟩
  have gs:Pcs 60 ps/\(ag ps).length<=6:=⟨hp,by omega⟩
  have gs2:Pcs 60 qs/\(ag qs).length<=6:=⟨hq,by omega⟩
  have ek:w4 (D.tup ((aE ps).map nD)) (D.tup ((aE ps).map nD)):=by rw [AZ];exact w4.of (Sh.tupI _) (Sh.tupI _)
  have dk:deq (D.tup ((aE ps).map nD)) (D.tup ((aE ps).map nD))=true:=by rw [AZ];exact xc (Sh.tupI _)
  have ek2:w4 (D.tup ((aE qs).map nD)) (D.tup ((aE ps).map nD)):=by rw [hkq];exact ek
  have dk2:deq (D.tup ((aE qs).map nD)) (D.tup ((aE ps).map nD))=true:=by rw [hkq];exact dk
  have ht2:xv qs=xv ps:=by unfold xv;rw [htt]
  walk_at "r";rw [dk];walk_at "r";rw [dk2];walk_at "r";intro t ht;walk_at "r";intro t2 ht';have hL:=Iv hp ht;have hLq:=Iv hq ht';obtain rfl:=Lst.uniq hL (hLq.congr λu=>(uc hF u).symm);have gsm:ps.length<=6/\Pcs 60 ps/\Pcs 60 qs/\Dw ps qs fl:=⟨hn,hp,hq,hF⟩
  have g1:SOk (a,b)/\ps.length<=6/\Pcs 60 ps:=⟨g,hn,hp⟩
  walk_at "r";refine⟨ps,qs,fl,rfl,rfl,rfl,gsm,hL,?_⟩;walk_at "r";rintro⟨a,b⟩ g;have g1:SOk (a,b)/\qs.length<=6/\Pcs 60 qs:=⟨g,by have:=hF.1;omega,hq⟩
  walk_at "r";rintro⟨a,b⟩ g;walk_at "r";exact⟨_,_,_,_,_,_,_,_,rfl⟩
 .rintro ρ ⟨v1,v2,v3,v4,v5,v6,v7,v8,rfl⟩;walk_at "r";exact q
def Iy:PRl DB Bh DA 1:=λ_ Q h=>match h with|⟨ns,e,h63,q⟩=>e ▸ ⟨rfl,Fx ns h63 Q q⟩
local macro_rules | `(tactic| walk_at "l")=>`(tactic| (intros;rename_i h;split at h <;> first | rfl | exact h.elim))
local macro_rules | `(tactic| walk_at "b0")=>`(tactic| exact fun _ _ _ _ _ _ us hl=>match us,hl with | [],_=>rfl)
local macro_rules | `(tactic| walk_at "b1")=>`(tactic| exact fun _ _ _ _ _ _ us hl=>match us,hl with | [_],_=>rfl)
local macro_rules | `(tactic| walk_at "b2")=>`(tactic| exact fun _ _ _ _ _ _ us hl=>match us,hl with | [_,_],_=>rfl)
local macro_rules | `(tactic| walk_at "b3")=>`(tactic| exact fun _ _ _ _ _ _ us hl=>match us,hl with | [_,_,_],_=>rfl)
local macro_rules | `(tactic| walk_at "b4")=>`(tactic| exact fun _ _ _ _ _ _ us hl=>match us,hl with | [_,_,_,_],_=>rfl)
local macro_rules | `(tactic| walk_at "b5")=>`(tactic| exact fun _ _ _ _ _ _ us hl=>match us,hl with | [_,_,_,_,_],_=>rfl)
local macro_rules | `(tactic| walk_at "b6")=>`(tactic| exact fun _ _ _ _ _ _ us hl=>match us,hl with | [_,_,_,_,_,_],_=>rfl)
local macro_rules | `(tactic| walk_at "b7")=>`(tactic| exact fun _ _ _ _ _ _ us hl=>match us,hl with | [_,_,_,_,_,_,_],_=>rfl)
section
variable (P:t_) (w:World) (K:b_) (mg:Str->Option Value) (base:Heap)
abbrev kO:=Cal P w K mg base 1 "is_row" ["thing"] (spP K iJ)
abbrev iV:=Cal P w K mg base 1 "is_number" ["thing"] (spP K dY)
abbrev dQ:=Cal P w K mg base 2 "are_numbers" ["thing","many"] (spP K ca)
abbrev kP:=Cal P w K mg base 3 "are_prices" ["thing","many"] (spP K er)
abbrev gn:=Cal P w K mg base 4 "is_price_paper" ["thing","many"] (spP K dI)
abbrev qB:=Cal P w K mg base 1 "members" ["mark"] (spP K gc)
abbrev oO:=Cal P w K mg base 1 "is_ahead" ["one","other"] (spP K jM)
abbrev j4:=Cal P w K mg base 2 "foremost" ["texts"] (spP K eV)
abbrev oQ:=Cal P w K mg base 1 "heads_of" ["words","laps"] (spP K jN)
abbrev lZ:=Cal P w K mg base 2 "sets_left" ["many"] (spP K fE)
abbrev oS:=Cal P w K mg base 3 "all_ends" ["heads","lasts","lefts"] (spP K jP)
abbrev il:=Cal P w K mg base 4 "foremost_text" ["words","laps","lefts"] (spP K ef)
abbrev cM:=IJ P w K mg base 1 (bQ K "Turnable") "many" ["self"] (spP K bj)
abbrev fH:=Cal P w K mg base 5 "shortest_turned" ["turnable"] (spP K ck)
abbrev DE:=Cal P w K mg base 1 "lap" ["one","other"] (spP K t9)
abbrev oU:=Cal P w K mg base 2 "all_laps" ["words"] (spP K gQ)
abbrev oV:=Cal P w K mg base 2 "is_whole" ["thing","least","most"] (spP K gR)
abbrev dR:=Cal P w K mg base 1 "first_place" ["text","piece"] (spP K cb)
abbrev yE:=GV P w K mg base 1 "is_text" ["thing","least","most"] [.int 0,.int 4000] (spP K gf)
abbrev iW:=Cal P w K mg base 2 "check_pieces" ["things"] (spP K dw)
abbrev eo:=Cal P w K mg base 2 "stands_within" ["piece","other"] (spP K bY)
abbrev oW:=Cal P w K mg base 3 "is_order" ["thing","many"] (spP K jQ)
abbrev oX:=Cal P w K mg base 1 "glue_all" ["words","laps","row"] (spP K jR)
abbrev jm:=Cal P w K mg base 1 "other_pairs" ["many"] (spP K dN)
abbrev l4:=Cal P w K mg base 5 "pays_laps" ["paper","laps","pairs"] (spP K iM)
abbrev iX:=Cal P w K mg base 1 "turned" ["text"] (spP K eW)
abbrev ja:=Cal P w K mg base 2 "one_way" ["text","way"] (spP K c8)
abbrev dA:=Cal P w K mg base 3 "stands_some_way" ["piece","other"] (spP K bx)
abbrev e6:=Cal P w K mg base 4 "is_kept_some_way" ["pieces","at"] (spP K bI)
abbrev im:=Cal P w K mg base 4 "left_some_way" ["pieces","kept","at"] (spP K bZ)
abbrev qC:=Cal P w K mg base 4 "is_ways" ["thing","many"] (spP K lF)
abbrev iY:=Cal P w K mg base 5 "ways_text" ["turnable","ways"] (spP K dZ)
abbrev l5:=Cal P w K mg base 3 "first_way" ["text","word"] (spP K iN)
abbrev lJ:=Cal P w K mg base 4 "ways_in" ["turnable","text"] (spP K dJ)
abbrev e7:=Cal P w K mg base 6 "turn_price_bound" ["turnable","paper"] (spP K cW)
abbrev kQ:=Cal P w K mg base 1 "_law_stream" ["_law_script","_law_k"] (spP K gS)
abbrev bP:=Cal P w K mg base 1 "_law_next" ["_law_stream_here","_law_many"] (spR K aD)
abbrev j5:=Cal P w K mg base 2 "_law_word" ["_law_stream_here","_law_letters","_law_most"] (spR K eX)
abbrev e8:=Cal P w K mg base 1 "_law_back" ["_law_text"] (spP K cX)
abbrev qD:=Cal P w K mg base 2 "_law_cut" ["_law_stream_here","_law_text","_law_most"] (spR K i9)
abbrev oY:=Cal P w K mg base 3 "_law_base" ["_law_stream_here","_law_most"] (spR K jU)
abbrev kR:=Cal P w K mg base 4 "_law_pieces" ["_law_stream_here","_law_many","_law_most"] (spR K gT)
abbrev lK:=Cal P w K mg base 1 "_law_lap" ["_law_one","_law_other"] (spP K gg)
abbrev jn:=Cal P w K mg base 2 "_law_is_left" ["_law_pieces_here","_law_k"] (spP K dO)
abbrev oZ:=Cal P w K mg base 3 "_law_kept" ["_law_pieces_here"] (spP K jV)
abbrev l6:=Cal P w K mg base 1 "_law_whole" ["_law_found"] (spP K iP)
abbrev iZ:=Cal P w K mg base 2 "_law_shuffled" ["_law_stream_here","_law_row"] (spR K dy)
abbrev kS:=Cal P w K mg base 2 "_law_lesser" ["_law_stream_here","_law_one","_law_other","_law_many"] (spR K gU)
abbrev o0:=Cal P w K mg base 3 "_law_laid" ["_law_stream_here","_law_texts_here"] (spR K jW)
abbrev gW:=Cal P w K mg base 2 "_law_states" ["_law_words"] (spP K dz)
abbrev o5:=Cal P w K mg base 3 "_law_ways" ["_law_stream_here","_law_many"] (spR K jX)
abbrev l8:=Cal P w K mg base 3 "_law_texts" ["_law_words","_law_ways_here"] (spP K iQ)
abbrev l9:=Cal P w K mg base 3 "_law_bound" ["_law_words"] (spP K iR)
abbrev o7:=Cal P w K mg base 6 "_law_same" ["_law_turnable","_law_other","_law_text","_law_flipped"] (spP K jY)
abbrev jo:=Cal P w K mg base 7 "_law_laid_is" ["_law_stream_here","_law_turnable","_law_text"] (spR K dP)
abbrev mD:=GX P w K mg base 5 (bQ K "Turnable") "Turnable" ["self","pieces"] (spR K bM)
abbrev Iz:=Cal P w K mg base 8 "law" ["_law_script"] (spP K DB)
end
section
variable (P:t_) (w:World) {K:b_}{mg:Str->Option Value} (base:Heap)
def Bi(D:aX K mg "is_row" rJ)(T:Txt mg)(TC:TxC K):kO P w K mg base:=D.oP2 AX (by walk_at "b1") Be rfl rfl λ_ _ _ _ _ _ _ hr hu=>⟨_,(aj (aB (al (JE K rfl) rfl T.b_isinstance M4 (paC (pv 0) (paC (df (paC (jq (v:=.ty "list") rfl T.b_list NP rfl) (paC (jq (v:=.ty "tuple") rfl T.b_tuple MV rfl) ae))) ae))))),(uf K mg TC)⟩
def uC(D:aX K mg "is_number" jC)(T:Txt mg)(TC:TxC K):iV P w K mg base:=D.oP2 tW (by walk_at "b1") uh rfl rfl λ_ _ _ _ _ _ _ hr hu=>⟨_,(aj (aB (gX (al (zQ K rfl) rfl T.b_isinstance M4 (paC (pv 0) (paC (jq (v:=.ty "int") rfl T.b_int boot_int rfl) ae))) (fT (yS (al (zQ K rfl) rfl T.b_isinstance M4 (paC (pv 0) (paC (jq (v:=.ty "bool") rfl T.b_bool boot_bool rfl) ae)))))))),(lR K mg TC)⟩
def pU(D:aX K mg "are_numbers" gF)(T:Txt mg)(TC:TxC K)(C'1:iV P w K mg base)(C'0:kO P w K mg base):dQ P w K mg base:=D.oP2 pI (by walk_at "b2") pL rfl rfl λ_ _ _ _ _ _ _ hr hu=>⟨_,(aj (aB (gX (ak C'0 (hr.m rfl) (paC (pv 0) ae)) (gX (cQ (iy K rfl hu) (al (bN K rfl) rfl T.b_len j_ (paC (pv 0) ae)) (pv 1) (aN _)) (fT (al (x8 K rfl rfl) rfl T.b_all boot_all (paC (aV (wi:=(e9 K (aJ 0))) (g:=(aS 0)) (tts:=fk) (te:=(cq (spP K dY) [] E0 (ax (aJ 0) bU))) ["item"] [none] rfl (a9 K rfl (pv 0)) (λ_ _ _ _=>⟨(ar (i:=0) (by show o_ (["item"]:List Str);decide +kernel) rfl (by walk_at "o")),aT,(ak C'1 (hr.m rfl) (paC (pv 0) ae))⟩) (by kernel_rfl)) ae))))))),(jh K mg TC)⟩
def sd(D:aX K mg "are_prices" iC)(T:Txt mg)(TC:TxC K)(C'2:dQ P w K mg base):kP P w K mg base:=D.oP2 rL (by walk_at "b2") rS rfl rfl λ_ _ _ _ _ _ _ hr hu=>⟨_,(aj (aB (gX (ak C'2 (hr.m rfl) (paC (pv 0) (paC (pv 1) ae))) (fT (al (x8 K rfl rfl) rfl T.b_all boot_all (paC (aV (wi:=(e9 K (aJ 0))) (g:=(aS 0)) (tts:=fk) (te:=(tOp IP (aJ 0) (tC (V.int 0)))) ["price"] [none] rfl (a9 K rfl (pv 0)) (λ_ _ _ _=>⟨(ar (i:=0) (by show o_ (["price"]:List Str);decide +kernel) rfl (by walk_at "o")),aT,(cQ FG (pv 0) ao (aN _))⟩) (by kernel_rfl)) ae)))))),(kF K mg TC)⟩
def lL(D:aX K mg "is_price_paper" ee)(T:Txt mg)(TC:TxC K)(C'3:kP P w K mg base)(C'0:kO P w K mg base):gn P w K mg base:=D.oP2 lE (by walk_at "b2") lH rfl rfl λ_ _ _ _ _ _ _ hr hu=>⟨_,(aj (aB (gX (ak C'0 (hr.m rfl) (paC (pv 0) ae)) (gX (cQ (iy K rfl hu) (al (bN K rfl) rfl T.b_len j_ (paC (pv 0) ae)) ao (aN _)) (fT (al (x8 K rfl rfl) rfl T.b_all boot_all (paC (aV (wi:=(e9 K (aJ 0))) (g:=(aS 0)) (tts:=fk) (te:=(cq (spP K er) [] E0 (ax (aJ 0) (ax (aJ 1) bU)))) ["row","many"] [none,some 1] rfl (a9 K rfl (pv 0)) (λ_ _ _ _=>⟨(ar (i:=0) (by show o_ (["row","many"]:List Str);decide +kernel) rfl (by walk_at "o")),aT,(ak C'3 (hr.m rfl) (paC (pv 0) (paC (pv 1) ae)))⟩) (by kernel_rfl)) ae))))))),(gk K mg TC)⟩
def yF(D:aX K mg "members" nR)(T:Txt mg)(TC:TxC K):qB P w K mg base:=D.oP2 yj (by walk_at "b1") yr rfl rfl λ_ _ _ _ _ _ _ hr hu=>⟨_,(aj (aB (aV (wi:=(su (ax (IH K "int" E4 (aJ 0)) bU))) (g:=(aS 0)) (tts:=(tBI (tOp EM (tOp JU (aJ 1) (aJ 0)) (tC (V.int 1))))) (te:=(aJ 0)) ["i","mark"] [none,some 0] rfl (de rfl T.b_range (paC (E7 K rfl PySem.F.plainAttrs_int PySem.F.slot_int_bit_length PySem.F.type_int_bit_length E5 (pv 0)) ae)) (λ_ _ _ _=>⟨(ar (i:=0) (by show o_ (["i","mark"]:List Str);decide +kernel) rfl (by walk_at "o")),(fK (Ic (bc HL (bc JV (pv 1) (pv 0)) ao))),(pv 0)⟩) (by kernel_rfl)))),(qu K mg TC)⟩
def wq(D:aX K mg "is_ahead" lh)(T:Txt mg)(TC:TxC K):oO P w K mg base:=D.oP2 vq (by walk_at "b2") vE rfl rfl λ_ _ _ _ _ _ _ hr hu=>⟨_,(af (cv (aK (jy K rfl hu) (al (bN K rfl) rfl T.b_len j_ (paC (pv 0) ae)) (al (bN K rfl) rfl T.b_len j_ (paC (pv 1) ae)) (aN _)) (aj (aB (cQ JB (al (bN K rfl) rfl T.b_len j_ (paC (pv 0) ae)) (al (bN K rfl) rfl T.b_len j_ (paC (pv 1) ae)) (aN _)))) bb) (aj (aB (cQ JB (pv 0) (pv 1) (aN _))))),(og K mg TC)⟩
def wt(D:aX K mg "foremost" ll)(T:Txt mg)(TC:TxC K)(C'6:oO P w K mg base):j4 P w K mg base:=D.oP2 gK (by walk_at "b1") vG rfl rfl λ_ _ _ _ _ _ _ hr hu=>⟨_,(af (aF (i:=1) gK.nd rfl (by walk_at "o") (bz (d7 K rfl) (pv 0) ao (λ_ _=>rfl))) (af (eC E_ rfl (a9 K rfl (bo (pd K rfl) (pv 0) (bE ao) bO)) (ar (i:=2) gK.nd rfl (by walk_at "o")) (aj (cv (cf (ak C'6 (hr.m rfl) (paC (pv 2) (paC (pv 1) ae)))) (aj (aF (i:=1) gK.nd rfl (by walk_at "o") (pv 2))) bb))) (aj (aB (pv 1))))),(oh K mg TC)⟩
def wu(D:aX K mg "heads_of" lm)(T:Txt mg)(TC:TxC K):oQ P w K mg base:=D.oP2 vt (by walk_at "b2") vI rfl rfl λ_ _ _ _ _ _ _ hr hu=>⟨_,(aj (aB (aV (wi:=(x3 K (ax (aJ 0) (ax (aJ 1) bU)))) (g:=(tG K 2 (cP (aS 0) (cP (aS 1) uK)))) (tts:=fk) (te:=(sL [none,some 0] (e9 K (aJ 1)) (aS 0) fk (tSl (FD K) (aJ 1) ng (ze (tOp z0 (tCB (pA K) (ax (aJ 1) bU)) (aJ 0)))))) ["word","row"] [none,none] rfl (nJ K rfl rfl T.b_zip (paC (pv 0) (paC (pv 1) ae))) (λ_ _ _ _=>⟨(di K rfl (n:=2) rfl (aG (ar (i:=0) (by show o_ (["word","row"]:List Str);decide +kernel) rfl (by walk_at "o")) (aG (ar (i:=1) (by show o_ (["word","row"]:List Str);decide +kernel) rfl (by walk_at "o")) bT))),aT,(aV (wi:=(e9 K (aJ 1))) (g:=(aS 0)) (tts:=fk) (te:=(tSl (FD K) (aJ 1) ng (ze (tOp z0 (tCB (pA K) (ax (aJ 1) bU)) (aJ 0))))) ["k","word"] [none,some 0] rfl (a9 K rfl (pv 1)) (λ_ _ _ _=>⟨(ar (i:=0) (by show o_ (["k","word"]:List Str);decide +kernel) rfl (by walk_at "o")),aT,(bo (pd K rfl) (pv 1) bO (bE (bc rc (al (bN K rfl) rfl T.b_len j_ (paC (pv 1) ae)) (pv 0))))⟩) (by kernel_rfl))⟩) (by kernel_rfl)))),(oi K mg TC)⟩
def uD(D:aX K mg "sets_left" jD)(T:Txt mg)(TC:TxC K)(C'5:qB P w K mg base):lZ P w K mg base:=D.oP2 tX (by walk_at "b1") uj rfl rfl λ_ _ _ _ _ _ _ hr hu=>⟨_,(aj (aB (aV (wi:=(su (ax (tOp HI (tC (V.int 1)) (aJ 0)) bU))) (g:=(aS 0)) (tts:=fk) (te:=(sL [none,some 0] (e9 K (cq (spP K gc) [] E0 (ax (aJ 0) bU))) (aS 0) fk (sk (ax (aJ 0) (ax (tOp z0 (aJ 1) (tOp HI (tC (V.int 1)) (aJ 0))) bU))))) ["mark"] [none] rfl (de rfl T.b_range (paC (bc HJ ao (pv 0)) ae)) (λ_ _ _ _=>⟨(ar (i:=0) (by show o_ (["mark"]:List Str);decide +kernel) rfl (by walk_at "o")),aT,(aV (wi:=(e9 K (cq (spP K gc) [] E0 (ax (aJ 0) bU)))) (g:=(aS 0)) (tts:=fk) (te:=(sk (ax (aJ 0) (ax (tOp z0 (aJ 1) (tOp HI (tC (V.int 1)) (aJ 0))) bU)))) ["i","mark"] [none,some 0] rfl (a9 K rfl (ak C'5 (hr.m rfl) (paC (pv 0) ae))) (λ_ _ _ _=>⟨(ar (i:=0) (by show o_ (["i","mark"]:List Str);decide +kernel) rfl (by walk_at "o")),aT,(df (paC (pv 0) (paC (bc rc (pv 1) (bc HJ ao (pv 0))) ae)))⟩) (by kernel_rfl))⟩) (by kernel_rfl)))),(lS K mg TC)⟩
def wv(D:aX K mg "all_ends" lp)(T:Txt mg)(TC:TxC K)(C'7:j4 P w K mg base):oS P w K mg base:=D.oP2 gL (by walk_at "b3") vK rfl rfl λ_ _ _ _ _ _ _ hr hu=>⟨_,(af (aF (i:=3) gL.nd rfl (by walk_at "o") (fj ae)) (af (eC E_ rfl (a9 K rfl (pv 2)) (ar (i:=4) gL.nd rfl (by walk_at "o")) (af (aF (i:=5) gL.nd rfl (by walk_at "o") (aV (wi:=(e9 K (aJ 4))) (g:=(tG K 2 (cP (aS 0) (cP (aS 1) uK)))) (tts:=fk) (te:=(sk (ax (aJ 0) (ax (tOp (ki K) (tOp (ki K) (aJ 2) (aJ 1)) (aJ 0)) bU)))) ["j","rest","ends"] [none,none,some 3] rfl (a9 K rfl (pv 4)) (λ_ _ _ _=>⟨(di K rfl (n:=2) rfl (aG (ar (i:=0) (by show o_ (["j","rest","ends"]:List Str);decide +kernel) rfl (by walk_at "o")) (aG (ar (i:=1) (by show o_ (["j","rest","ends"]:List Str);decide +kernel) rfl (by walk_at "o")) bT))),aT,(df (paC (pv 0) (paC (bz (d7 K rfl) (bz (d7 K rfl) (pv 2) (pv 1) (λ_ _=>rfl)) (pv 0) (λ_ _=>rfl)) ae)))⟩) (by kernel_rfl))) (aj (jr (fV K rfl LL Mi Mj eF (pv 3) (paC (qF (Fi K rfl (pv 5)) (aV (wi:=(e9 K (aJ 0))) (g:=(aS 0)) (tts:=fk) (te:=(cq (spP K eV) [] E0 (ax (sL [none,none,some 0] (e9 K (aJ 1)) (tG K 2 (cP (aS 0) (cP (aS 1) uK))) fk (tOp (mn K) (tOp (ki K) (aJ 2) (aJ 0)) (aJ 1))) bU))) ["row","nexts"] [none,some 5] rfl (a9 K rfl (pv 0)) (λ_ _ _ _=>⟨(ar (i:=0) (by show o_ (["row","nexts"]:List Str);decide +kernel) rfl (by walk_at "o")),aT,(ak C'7 (hr.m rfl) (paC (aV (wi:=(e9 K (aJ 1))) (g:=(tG K 2 (cP (aS 0) (cP (aS 1) uK)))) (tts:=fk) (te:=(tOp (mn K) (tOp (ki K) (aJ 2) (aJ 0)) (aJ 1))) ["j","end","row"] [none,none,some 0] rfl (a9 K rfl (pv 1)) (λ_ _ _ _=>⟨(di K rfl (n:=2) rfl (aG (ar (i:=0) (by show o_ (["j","end","row"]:List Str);decide +kernel) rfl (by walk_at "o")) (aG (ar (i:=1) (by show o_ (["j","end","row"]:List Str);decide +kernel) rfl (by walk_at "o")) bT))),aT,(bc (cA K rfl) (bz (d7 K rfl) (pv 2) (pv 0) (λ_ _=>rfl)) (pv 1))⟩) (by kernel_rfl)) ae))⟩) (by kernel_rfl)) (a8 (zY K rfl) rfl T.b_list NP (paC (pv 1) ae))) ae)))))) (aj (aB (pv 3))))),(oj K mg TC)⟩
def mE(D:aX K mg "foremost_text" eM)(T:Txt mg)(TC:TxC K)(C'10:oS P w K mg base)(C'7:j4 P w K mg base)(C'8:oQ P w K mg base):il P w K mg base:=D.oP2 hX (by walk_at "b3") mw rfl rfl λ_ _ _ _ _ _ _ hr hu=>⟨_,(af (aF (i:=3) hX.nd rfl (by walk_at "o") (ak C'10 (hr.m rfl) (paC (ak C'8 (hr.m rfl) (paC (pv 0) (paC (pv 1) ae))) (paC (pv 0) (paC (pv 2) ae))))) (aj (aB (ak C'7 (hr.m rfl) (paC (Ig K rfl (aV (wi:=(e9 K (tOp (ki K) (aJ 2) (tUn Hz (tC (V.int 1)))))) (g:=(tG K 2 (cP (aS 0) (cP (aS 1) uK)))) (tts:=fk) (te:=(tOp (ki K) (tOp (ki K) (aJ 2) (aJ 1)) (aJ 0))) ["j","rest","ends"] [none,none,some 3] rfl (a9 K rfl (bz (d7 K rfl) (pv 2) (yV sv ao) (λ_ _=>rfl))) (λ_ _ _ _=>⟨(di K rfl (n:=2) rfl (aG (ar (i:=0) (by show o_ (["j","rest","ends"]:List Str);decide +kernel) rfl (by walk_at "o")) (aG (ar (i:=1) (by show o_ (["j","rest","ends"]:List Str);decide +kernel) rfl (by walk_at "o")) bT))),aT,(bz (d7 K rfl) (bz (d7 K rfl) (pv 2) (pv 1) (λ_ _=>rfl)) (pv 0) (λ_ _=>rfl))⟩) (by kernel_rfl)) (fT (fj (paC (dg (l:=[]) (by decide +kernel)) ae)))) ae))))),(h7 K mg TC)⟩
def kT(D:aX K mg "shortest_turned" dG)(T:Txt mg)(TC:TxC K)(C'30:cM P w K mg base)(C'11:il P w K mg base)(C'9:lZ P w K mg base):fH P w K mg base:=D.oP2 du (by walk_at "b1") kH rfl rfl λ_ _ _ _ _ _ _ hr hu=>⟨_,(af (aF (i:=1) du.nd rfl (by walk_at "o") (mL (pv 0) TC.cl_Turnable C'30 (hr.m rfl))) (af (cv (aK Ab (pv 1) (qP rfl T.g_MOST_TURNED_WORDS) (aN _)) (aj j9) bb) (af (kX (wi:=(e9 K (cq (spP K fE) [] E0 (ax (aJ 1) bU)))) (g:=(aS 0)) (tts:=fk) (te:=(xh [none,none,none] (e9 K (aJ 0)) (tG K 2 (cP (aS 0) (cP (aS 1) uK))) fk λD=>B6 (e9 K (sk (ax (tC (V.int 0)) (ax (tC (V.int 1)) bU)))) (aS 2) fk (B5 (sk (ax (tOp (mn K) (tOp qT (tC (V.int 2)) (aJ 0)) (aJ 2)) (ax (aJ 1) bU))) D))) (i:=2) ["choices"] [none] du.nd rfl (Pf rfl) rfl (a9 K rfl (ak C'9 (hr.m rfl) (paC (pv 1) ae))) (λ_ _ _ _=>⟨(ar (i:=0) (by show o_ (["choices"]:List Str);decide +kernel) rfl (by walk_at "o")),aT,(rf (wi:=(e9 K (aJ 0))) (g:=(tG K 2 (cP (aS 0) (cP (aS 1) uK)))) (tts:=fk) (wi2:=(e9 K (sk (ax (tC (V.int 0)) (ax (tC (V.int 1)) bU))))) (g2:=(aS 2)) (tts2:=fk) (te:=(sk (ax (tOp (mn K) (tOp qT (tC (V.int 2)) (aJ 0)) (aJ 2)) (ax (aJ 1) bU)))) ["i","rest","way"] [none,none,none] rfl (a9 K rfl (pv 0)) (λ_ _ _ _=>⟨(di K rfl (n:=2) rfl (aG (ar (i:=0) (by show o_ (["i","rest","way"]:List Str);decide +kernel) rfl (by walk_at "o")) (aG (ar (i:=1) (by show o_ (["i","rest","way"]:List Str);decide +kernel) rfl (by walk_at "o")) bT))),aT,(a9 K rfl (df (paC ao (paC ao ae)))),(ar (i:=2) (by show o_ (["i","rest","way"]:List Str);decide +kernel) rfl (by walk_at "o")),aT,(df (paC (bc (cA K rfl) (bc kY ao (pv 0)) (pv 2)) (paC (pv 1) ae)))⟩) (by kernel_rfl))⟩) (by kernel_rfl)) (aj (aB (ak C'11 (hr.m rfl) (paC (bw K rfl (pv 0) rfl) (paC (bw K rfl (pv 0) rfl) (paC (pv 2) ae))))))))),(fF K mg TC)⟩
def IA(D:aX K mg "lap" Fm)(T:Txt mg)(TC:TxC K):DE P w K mg base:=D.oP2 Dq (by walk_at "b2") Ix rfl rfl λ_ _ _ _ _ _ _ hr hu=>⟨_,(af (eC E_ rfl (sH rfl T.b_range (paC (bc rc (al (zV rfl) rfl T.b_min boot_min (paC (al (bN K rfl) rfl T.b_len j_ (paC (pv 0) ae)) (paC (al (bN K rfl) rfl T.b_len j_ (paC (pv 1) ae)) ae))) ao) (paC ao (paC (yV sv ao) ae)))) (ar (i:=2) Dq.nd rfl (by walk_at "o")) (aj (cv (cf (fV K rfl Mc PySem.F.slot_str_endswith PySem.F.type_str_endswith EC (pv 0) (paC (bo (pd K rfl) (pv 1) bO (bE (pv 2))) ae))) (aj (aB (pv 2))) bb))) (aj (aB ao))),(DC K mg TC)⟩
def ww(D:aX K mg "all_laps" lq)(T:Txt mg)(TC:TxC K)(C'13:DE P w K mg base):oU P w K mg base:=D.oP2 vv (by walk_at "b1") vM rfl rfl λ_ _ _ _ _ _ _ hr hu=>⟨_,(aj (aB (a8 (fN K rfl) rfl T.b_tuple MV (paC (aV (wi:=(e9 K (aJ 0))) (g:=(aS 0)) (tts:=fk) (te:=(tCB (EA K) (ax (sL [none,some 0] (e9 K (aJ 1)) (aS 0) fk (cq (spP K t9) [] E0 (ax (aJ 1) (ax (aJ 0) bU)))) bU))) ["one","words"] [none,some 0] rfl (a9 K rfl (pv 0)) (λ_ _ _ _=>⟨(ar (i:=0) (by show o_ (["one","words"]:List Str);decide +kernel) rfl (by walk_at "o")),aT,(a8 (fN K rfl) rfl T.b_tuple MV (paC (aV (wi:=(e9 K (aJ 1))) (g:=(aS 0)) (tts:=fk) (te:=(cq (spP K t9) [] E0 (ax (aJ 1) (ax (aJ 0) bU)))) ["other","one"] [none,some 0] rfl (a9 K rfl (pv 1)) (λ_ _ _ _=>⟨(ar (i:=0) (by show o_ (["other","one"]:List Str);decide +kernel) rfl (by walk_at "o")),aT,(ak C'13 (hr.m rfl) (paC (pv 1) (paC (pv 0) ae)))⟩) (by kernel_rfl)) ae))⟩) (by kernel_rfl)) ae)))),(om K mg TC)⟩
def yG(D:wW K mg "is_text" gb [.int 0,.int 4000])(T:Txt mg)(TC:TxC K):GV P w K mg base 1 "is_text" ["thing","least","most"] [.int 0,.int 4000] (spP K gf):=by
 refine D.ok yk (λdT kV doc pm an cdv ct items us n hi hn hl=>?_) (λvs H Q E h=>?_) (λf cdv A outer s H vs Q E hr h=>?_)
 .obtain⟨i0,i1,rfl⟩:=Ii hi;have hn':n=0\/n=1\/n=2:=by (have:n<=2:=hn);omega
  rcases hn' with rfl|rfl|rfl
  .have hl2:us.length=1:=by (simp at hl;omega)
   obtain⟨_,rfl⟩:=Kb hl2;exact⟨_,rfl,rfl⟩
  .have hl2:us.length=2:=by (simp at hl;omega)
   obtain⟨_,_,rfl⟩:=Ii hl2;exact⟨_,rfl,rfl⟩
  .have hl2:us.length=3:=by (simp at hl;omega)
   obtain⟨_,_,_,rfl⟩:=Kc hl2;exact⟨_,rfl,rfl⟩
 .exact JP (λds Q h=>(lI ds Q h).1) h
 .have hu:=hr.units;exact⟨_,(af (cv (PW.pt (mW (fS (cf (al (zQ K rfl) rfl T.b_isinstance M4 (paC (pv 0) (paC (jq (v:=.ty "str") rfl T.b_str boot_str rfl) ae))))) (j8 (fS (Bq CL CL (pv 1) (al (bN K rfl) rfl T.b_len j_ (paC (pv 0) ae)) (pv 2)))))) (aj (aB md)) bb) (aj (aB (al (x8 K rfl rfl) rfl T.b_all boot_all (paC (aV (wi:=(e9 K (aJ 0))) (g:=(aS 0)) (tts:=fk) (te:=(wM IN IN (tC (V.str (S [97]))) (aJ 0) (tC (V.str (S [122]))))) ["sign"] [none] rfl (a9 K rfl (pv 0)) (λ_ _ _ _=>⟨(ar (i:=0) (by show o_ (["sign"]:List Str);decide +kernel) rfl (by walk_at "o")),aT,(wN CL CL (dg (l:=[97]) (by decide +kernel)) (pv 0) (dg (l:=[122]) (by decide +kernel)))⟩) (by kernel_rfl)) ae))))),fnP (K:=K) (c:=gf) (ps:=qv) (N:=["thing","least","most"]) (au (cw (nE (fW (qS (sW .str (fM (i:=0))))) (fW (fe (qU sV sV (fM (i:=1)) (ai (aR aZ (aa (fM (i:=0)) ac))) (fM (i:=2)))))) (aC (mh (i:=false))) bd) (aC (aR qc (aa (ai (aP (ix:=[none]) rfl (ba (iu (i:=0))) (λfs hc=>(fA (i:=0) (dh hc (by decide)))) br (qU sV sV (ai (le_str (l:=[97]))) (fM (i:=0)) (ai (le_str (l:=[122])))))) ac)))) (λds Q h=>s_ (Oz (lI ds Q h).1) (by decide)) (λds Q h=>(lI ds Q h).2) h⟩
def wx(D:aX K mg "is_whole" lr)(T:Txt mg)(TC:TxC K)(C'1:iV P w K mg base):oV P w K mg base:=D.oP2 vw (by walk_at "b3") vO rfl rfl λ_ _ _ _ _ _ _ hr hu=>⟨_,(aj (aB (gX (ak C'1 (hr.m rfl) (paC (pv 0) ae)) (fT (wN CL CL (pv 1) (pv 0) (pv 2)))))),(oq K mg TC)⟩
def pV(D:aX K mg "first_place" gG)(T:Txt mg)(TC:TxC K):dR P w K mg base:=D.oP2 pJ (by walk_at "b2") pN rfl rfl λ_ _ _ _ _ _ _ hr hu=>⟨_,(aj (aB (fV K rfl Mc NJ NK qX (pv 0) (paC (pv 1) ae)))),(ji K mg TC)⟩
def o8(D:aX K mg "check_pieces" fP)(T:Txt mg)(TC:TxC K)(C'15:yE P w K mg base):iW P w K mg base:=D.oP2 eQ (by walk_at "b1") ou rfl rfl λ_ _ _ _ _ _ _ hr hu=>⟨_,(af (cv (aK Ab (al (bN K rfl) rfl T.b_len j_ (paC (pv 0) ae)) (qP rfl T.g_MOST_PIECES) (aN _)) (aj j9) bb) (aj (eC E_ rfl (xb K rfl rfl T.b_enumerate (paC (pv 0) ae)) (di K rfl (n:=2) rfl (aG (ar (i:=1) eQ.nd rfl (by walk_at "o")) (aG (ar (i:=2) eQ.nd rfl (by walk_at "o")) bT))) (aj (cv (fS (cf (B9 2 C'15 (hr.m rfl) (by decide) (paC (pv 2) (paC ao (paC (qP rfl T.g_MOST_SIGNS) ae)))))) (aj j9) bb))))),(iT K mg TC)⟩
def mF(D:aX K mg "stands_within" eO)(T:Txt mg)(TC:TxC K)(C'17:dR P w K mg base):eo P w K mg base:=D.oP2 mo (by walk_at "b2") my rfl rfl λ_ _ _ _ _ _ _ hr hu=>⟨_,(aj (aB (cQ FG (ak C'17 (hr.m rfl) (paC (pv 1) (paC (pv 0) ae))) ao (aN _)))),(ic K mg TC)⟩
def wy(D:aX K mg "is_order" lu)(T:Txt mg)(TC:TxC K)(C'2:dQ P w K mg base):oW P w K mg base:=D.oP2 vx (by walk_at "b2") vQ rfl rfl λ_ _ _ _ _ _ _ hr hu=>⟨_,(aj (aB (gX (ak C'2 (hr.m rfl) (paC (pv 0) (paC (pv 1) ae))) (fT (cQ (iy K rfl hu) (al (EO K rfl) rfl T.b_sorted boot_sorted (paC (pv 0) ae)) (a8 (xa K rfl rfl) rfl T.b_list NP (paC (kf rfl T.b_range (paC (pv 1) ae)) ae)) (aN _)))))),(oy K mg TC)⟩
def wz(D:aX K mg "glue_all" lv)(T:Txt mg)(TC:TxC K):oX P w K mg base:=D.oP2 eR (by walk_at "b3") vS rfl rfl λ_ _ _ _ _ _ _ hr hu=>⟨_,(af (aF (i:=3) eR.nd rfl (by walk_at "o") (fV K rfl Mc OW OX (xf K rfl) (dg (l:=[]) (by decide +kernel)) (paC (aV (wi:=(e9 K (tSl (FD K) (aJ 2) ng (ze (tC (V.int 1)))))) (g:=(aS 0)) (tts:=fk) (te:=(tOp (ki K) (aJ 1) (aJ 0))) ["number","words"] [none,some 0] rfl (a9 K rfl (bo (pd K rfl) (pv 2) bO (bE ao))) (λ_ _ _ _=>⟨(ar (i:=0) (by show o_ (["number","words"]:List Str);decide +kernel) rfl (by walk_at "o")),aT,(bz (d7 K rfl) (pv 1) (pv 0) (λ_ _=>rfl))⟩) (by kernel_rfl)) ae))) (af (eC E_ rfl (nJ K rfl rfl T.b_zip (paC (pv 2) (paC (bo (pd K rfl) (pv 2) (bE ao) bO) ae))) (di K rfl (n:=2) rfl (aG (ar (i:=4) eR.nd rfl (by walk_at "o")) (aG (ar (i:=5) eR.nd rfl (by walk_at "o")) bT))) (aj (Gh (i:=3) eR.nd rfl (by walk_at "o") (bo (pd K rfl) (bz (d7 K rfl) (pv 0) (pv 5) (λ_ _=>rfl)) (bE (bz (d7 K rfl) (bz (d7 K rfl) (pv 1) (pv 4) (λ_ _=>rfl)) (pv 5) (λ_ _=>rfl))) bO) EL))) (aj (aB (pv 3))))),(oz K mg TC)⟩
def pW(D:aX K mg "other_pairs" gH)(T:Txt mg)(TC:TxC K):jm P w K mg base:=D.oP2 jg (by walk_at "b1") pP rfl rfl λ_ _ _ _ _ _ _ hr hu=>⟨_,(af (aF (i:=1) jg.nd rfl (by walk_at "o") (a8 (xa K rfl rfl) rfl T.b_list NP (paC (kf rfl T.b_range (paC (pv 0) ae)) ae))) (aj (aB (rf (wi:=(e9 K (aJ 1))) (g:=(aS 0)) (tts:=fk) (wi2:=(e9 K (aJ 2))) (g2:=(aS 1)) (tts2:=(qG (tOp (tD K true) (aJ 0) (aJ 1)))) (te:=(sk (ax (aJ 0) (ax (aJ 1) bU)))) ["i","j","numbers"] [none,none,some 1] rfl (a9 K rfl (pv 1)) (λ_ _ _ _=>⟨(ar (i:=0) (by show o_ (["i","j","numbers"]:List Str);decide +kernel) rfl (by walk_at "o")),aT,(a9 K rfl (pv 2)),(ar (i:=1) (by show o_ (["i","j","numbers"]:List Str);decide +kernel) rfl (by walk_at "o")),(fK (aK (jy K rfl hu) (pv 0) (pv 1) (aN _))),(df (paC (pv 0) (paC (pv 1) ae)))⟩) (by kernel_rfl))))),(jj K mg TC)⟩
def uE(D:aX K mg "pays_laps" jF)(T:Txt mg)(TC:TxC K)(C'4:gn P w K mg base):l4 P w K mg base:=D.oP2 iI (by walk_at "b3") ul rfl rfl λ_ _ _ _ _ _ _ hr hu=>⟨_,(af (cv (fS (cf (ak C'4 (hr.m rfl) (paC (pv 0) (paC (al (bN K rfl) rfl T.b_len j_ (paC (pv 1) ae)) ae))))) (aj (aB md)) bb) (af (wK (pv 0) (di K rfl (n:=2) rfl (aG (ar (i:=3) iI.nd rfl (by walk_at "o")) (aG (ar (i:=4) iI.nd rfl (by walk_at "o")) bT)))) (aj (aB (al (x8 K rfl rfl) rfl T.b_all boot_all (paC (aV (wi:=(e9 K (aJ 2))) (g:=(tG K 2 (cP (aS 0) (cP (aS 1) uK)))) (tts:=fk) (te:=(tOp IP (tOp (mn K) (tOp (ki K) (aJ 2) (aJ 0)) (tOp (ki K) (aJ 3) (aJ 1))) (tOp (ki K) (tOp (ki K) (aJ 4) (aJ 0)) (aJ 1)))) ["i","j","gives","takes","laps"] [none,none,some 3,some 4,some 1] rfl (a9 K rfl (pv 2)) (λ_ _ _ _=>⟨(di K rfl (n:=2) rfl (aG (ar (i:=0) (by show o_ (["i","j","gives","takes","laps"]:List Str);decide +kernel) rfl (by walk_at "o")) (aG (ar (i:=1) (by show o_ (["i","j","gives","takes","laps"]:List Str);decide +kernel) rfl (by walk_at "o")) bT))),aT,(cQ FG (bc (cA K rfl) (bz (d7 K rfl) (pv 2) (pv 0) (λ_ _=>rfl)) (bz (d7 K rfl) (pv 3) (pv 1) (λ_ _=>rfl))) (bz (d7 K rfl) (bz (d7 K rfl) (pv 4) (pv 0) (λ_ _=>rfl)) (pv 1) (λ_ _=>rfl)) (aN _))⟩) (by kernel_rfl)) ae)))))),(lT K mg TC)⟩
def Bj(D:aX K mg "turned" rK)(T:Txt mg)(TC:TxC K):iX P w K mg base:=D.oP2 AY (by walk_at "b1") Bg rfl rfl λ_ _ _ _ _ _ _ hr hu=>⟨_,(aj (aB (E8 K rfl (pv 0) (yV sv ao)))),(um K mg TC)⟩
def yH(D:aX K mg "one_way" nS)(T:Txt mg)(TC:TxC K)(C'24:iX P w K mg base):ja P w K mg base:=D.oP2 yl (by walk_at "b2") yu rfl rfl λ_ _ _ _ _ _ _ hr hu=>⟨_,(aj (aB (qF (aK (iy K rfl hu) (pv 1) ao (aN _)) (ak C'24 (hr.m rfl) (paC (pv 0) ae)) (pv 0)))),(qw K mg TC)⟩
def kU(D:aX K mg "stands_some_way" dH)(T:Txt mg)(TC:TxC K)(C'19:eo P w K mg base)(C'24:iX P w K mg base):dA P w K mg base:=D.oP2 kv (by walk_at "b2") kJ rfl rfl λ_ _ _ _ _ _ _ hr hu=>⟨_,(aj (aB (Gd (ak C'19 (hr.m rfl) (paC (pv 0) (paC (pv 1) ae))) (fT (ak C'19 (hr.m rfl) (paC (ak C'24 (hr.m rfl) (paC (pv 0) ae)) (paC (pv 1) ae))))))),(fG K mg TC)⟩
def j6(D:aX K mg "is_kept_some_way" dr)(T:Txt mg)(TC:TxC K)(C'26:dA P w K mg base)(C'24:iX P w K mg base):e6 P w K mg base:=D.oP2 eT (by walk_at "b2") j1 rfl rfl λ_ _ _ _ _ _ _ hr hu=>⟨_,(af (aF (i:=2) eT.nd rfl (by walk_at "o") (bz (d7 K rfl) (pv 0) (pv 1) (λ_ _=>rfl))) (af (cv (PW.pt (mW (aK (Ce K rfl) (pv 2) (bo (pd K rfl) (pv 0) bO (bE (pv 1))) (by with_unfolding_all rfl)) (j8 (aK (Ce K rfl) (ak C'24 (hr.m rfl) (paC (pv 2) ae)) (bo (pd K rfl) (pv 0) bO (bE (pv 1))) (by with_unfolding_all rfl))))) (aj (aB md)) bb) (aj (aB (yS (al (JL K rfl rfl) rfl T.b_any boot_any (paC (aV (wi:=(e9 K (aJ 0))) (g:=(aS 0)) (tts:=(qG (tOp KO (tCB (pA K) (ax (aJ 0) bU)) (tCB (pA K) (ax (aJ 1) bU))))) (te:=(cq (spP K bx) [] E0 (ax (aJ 1) (ax (aJ 0) bU)))) ["other","piece"] [none,some 2] rfl (a9 K rfl (pv 0)) (λ_ _ _ _=>⟨(ar (i:=0) (by show o_ (["other","piece"]:List Str);decide +kernel) rfl (by walk_at "o")),(fK (aK Ab (al (bN K rfl) rfl T.b_len j_ (paC (pv 0) ae)) (al (bN K rfl) rfl T.b_len j_ (paC (pv 1) ae)) (aN _))),(ak C'26 (hr.m rfl) (paC (pv 1) (paC (pv 0) ae)))⟩) (by kernel_rfl)) ae))))))),(eY K mg TC)⟩
def mG(D:aX K mg "left_some_way" eP)(T:Txt mg)(TC:TxC K)(C'17:dR P w K mg base)(C'25:ja P w K mg base)(C'26:dA P w K mg base)(C'19:eo P w K mg base):im P w K mg base:=D.oP2 cK (by walk_at "b3") mC rfl rfl λ_ _ _ _ _ _ _ hr hu=>⟨_,(af (aF (i:=3) cK.nd rfl (by walk_at "o") (bz (d7 K rfl) (pv 0) (pv 2) (λ_ _=>rfl))) (af (aF (i:=4) cK.nd rfl (by walk_at "o") (al (Ho K rfl rfl) rfl T.b_min boot_min (paC (aV (wi:=(e9 K (aJ 1))) (g:=(aS 0)) (tts:=(tB (cq (spP K bx) [] E0 (ax (aJ 1) (ax (tOp (ki K) (aJ 2) (aJ 0)) bU))))) (te:=(aJ 0)) ["one","piece","pieces"] [none,some 3,some 0] rfl (a9 K rfl (pv 1)) (λ_ _ _ _=>⟨(ar (i:=0) (by show o_ (["one","piece","pieces"]:List Str);decide +kernel) rfl (by walk_at "o")),(fK (cf (ak C'26 (hr.m rfl) (paC (pv 1) (paC (bz (d7 K rfl) (pv 2) (pv 0) (λ_ _=>rfl)) ae))))),(pv 0)⟩) (by kernel_rfl)) ae))) (af (aF (i:=5) cK.nd rfl (by walk_at "o") (qF (cf (ak C'19 (hr.m rfl) (paC (pv 3) (paC (bz (d7 K rfl) (pv 0) (pv 4) (λ_ _=>rfl)) ae)))) ao ao)) (aj (aB (df (paC (pv 2) (paC (pv 4) (paC (ak C'17 (hr.m rfl) (paC (bz (d7 K rfl) (pv 0) (pv 4) (λ_ _=>rfl)) (paC (ak C'25 (hr.m rfl) (paC (pv 3) (paC (pv 5) ae))) ae))) (paC (pv 5) ae)))))))))),(ie K mg TC)⟩
def mH(D:wZ K mg (bQ K "Turnable") "Turnable" "Turnable.__init__" bF)(T:Txt mg)(TC:TxC K)(C'14:oU P w K mg base)(C'18:iW P w K mg base)(C'27:e6 P w K mg base)(C'28:im P w K mg base)(C'25:ja P w K mg base):GX P w K mg base 5 (bQ K "Turnable") "Turnable" ["self","pieces"] (spR K bM):=by
 refine D.ok hZ (λ_ _ _ _ _ _ us hl=>match us,hl with|[_,_],_=>rfl) (λvs H Q E h=>?_) (λf cdv A outer s H vs Q E hr h=>?_)
 .exact KQ (λp ds Q h=>(eh p ds Q h).1) h
 .have hu:=hr.units;exact⟨_,(af (jr (ak C'18 (hr.mono (by decide)) (paC (pv 1) ae))) (af (m9 (pv 0) (a8 (fN K rfl) rfl T.b_tuple MV (paC (pv 1) ae)) rfl) (af (aF (i:=2) hZ.nd rfl (by walk_at "o") (a8 (xa K rfl rfl) rfl T.b_list NP (paC (kf rfl T.b_range (paC (al (bN K rfl) rfl T.b_len j_ (paC (bw K rfl (pv 0) rfl) ae)) ae)) ae))) (af (m9 (pv 0) (a8 (fN K rfl) rfl T.b_tuple MV (paC (aV (wi:=(e9 K (aJ 2))) (g:=(aS 0)) (tts:=(tB (cq (spP K bI) [] E0 (ax (y9 K (aJ 1) "pieces") (ax (aJ 0) bU))))) (te:=(aJ 0)) ["at","self"] [none,some 0] rfl (a9 K rfl (pv 2)) (λ_ _ _ _=>⟨(ar (i:=0) (by show o_ (["at","self"]:List Str);decide +kernel) rfl (by walk_at "o")),(fK (cf (ak C'27 (hr.mono (by decide)) (paC (bw K rfl (pv 1) rfl) (paC (pv 0) ae))))),(pv 0)⟩) (by kernel_rfl)) ae)) rfl) (af (m9 (pv 0) (a8 (fN K rfl) rfl T.b_tuple MV (paC (aV (wi:=(e9 K (y9 K (aJ 0) "kept"))) (g:=(aS 0)) (tts:=fk) (te:=(tOp (ki K) (y9 K (aJ 1) "pieces") (aJ 0))) ["at","self"] [none,some 0] rfl (a9 K rfl (bw K rfl (pv 0) rfl)) (λ_ _ _ _=>⟨(ar (i:=0) (by show o_ (["at","self"]:List Str);decide +kernel) rfl (by walk_at "o")),aT,(bz (d7 K rfl) (bw K rfl (pv 1) rfl) (pv 0) (λ_ _=>rfl))⟩) (by kernel_rfl)) ae)) rfl) (af (m9 (pv 0) (a8 (fN K rfl) rfl T.b_tuple MV (paC (aV (wi:=(e9 K (aJ 2))) (g:=(aS 0)) (tts:=(qG (tOp (IS K true) (aJ 0) (y9 K (aJ 1) "kept")))) (te:=(cq (spP K bZ) [] E0 (ax (y9 K (aJ 1) "pieces") (ax (y9 K (aJ 1) "kept") (ax (aJ 0) bU))))) ["at","self"] [none,some 0] rfl (a9 K rfl (pv 2)) (λ_ _ _ _=>⟨(ar (i:=0) (by show o_ (["at","self"]:List Str);decide +kernel) rfl (by walk_at "o")),(fK (aK (Cf K rfl) (pv 0) (bw K rfl (pv 1) rfl) (by with_unfolding_all rfl))),(ak C'28 (hr.mono (by decide)) (paC (bw K rfl (pv 1) rfl) (paC (bw K rfl (pv 1) rfl) (paC (pv 0) ae))))⟩) (by kernel_rfl)) ae)) rfl) (af (m9 (pv 0) (a8 (fN K rfl) rfl T.b_tuple MV (paC (rf (wi:=(e9 K (y9 K (aJ 0) "words"))) (g:=(aS 0)) (tts:=fk) (wi2:=(e9 K (sk (ax (tC (V.int 0)) (ax (tC (V.int 1)) bU))))) (g2:=(aS 1)) (tts2:=fk) (te:=(cq (spP K c8) [] E0 (ax (aJ 0) (ax (aJ 1) bU)))) ["word","way"] [none,none] rfl (a9 K rfl (bw K rfl (pv 0) rfl)) (λ_ _ _ _=>⟨(ar (i:=0) (by show o_ (["word","way"]:List Str);decide +kernel) rfl (by walk_at "o")),aT,(a9 K rfl (df (paC ao (paC ao ae)))),(ar (i:=1) (by show o_ (["word","way"]:List Str);decide +kernel) rfl (by walk_at "o")),aT,(ak C'25 (hr.mono (by decide)) (paC (pv 0) (paC (pv 1) ae)))⟩) (by kernel_rfl)) ae)) rfl) (af (m9 (pv 0) (ak C'14 (hr.mono (by decide)) (paC (bw K rfl (pv 0) rfl) ae)) rfl) (aj (m9 (pv 0) (al (CU K rfl rfl) rfl T.b_sum boot_sum (paC (aV (wi:=(e9 K (y9 K (aJ 0) "words"))) (g:=(aS 0)) (tts:=fk) (te:=(tCB (pA K) (ax (aJ 0) bU))) ["word"] [none] rfl (a9 K rfl (bw K rfl (pv 0) rfl)) (λ_ _ _ _=>⟨(ar (i:=0) (by show o_ (["word"]:List Str);decide +kernel) rfl (by walk_at "o")),aT,(al (bN K rfl) rfl T.b_len j_ (paC (pv 0) ae))⟩) (by kernel_rfl)) ae)) rfl)))))))))),fnR (K:=K) (c:=bM) (ps:=ig) (N:=["self","pieces","indexes"]) (au (jw (ap (c:=dw) (aa (ai (iu (i:=1))) ac))) (au (jx (c0:="Turnable") (ns0:=[]) (i:=0) TC.cl_Turnable TC.n_Turnable_pieces (by decide +kernel) (aR dL (aa (fM (i:=1)) ac))) (au (ay (mO false (aa (ai (aR aZ (aa (ai (bR (ns0:=["pieces"]) TC.cl_Turnable TC.n_Turnable_pieces (i:=0) (by decide +kernel) (fM (i:=0)))) ac))) ac)) (zR (i:=2) rfl)) (au (jx (c0:="Turnable") (ns0:=["pieces"]) (i:=0) TC.cl_Turnable TC.n_Turnable_kept (by decide +kernel) (aR dL (aa (ai (aP (ix:=[none,some 0]) rfl (ba (iu (i:=2))) (λfs hc=>(fA (i:=0) (dh hc (by decide)))) (qS (ap (c:=bI) (aa (ai (bR (ns0:=["pieces"]) TC.cl_Turnable TC.n_Turnable_pieces (i:=0) (by decide +kernel) (fM (i:=1)))) (aa (ai (iu (i:=0))) ac)))) (iu (i:=0)))) ac))) (au (jx (c0:="Turnable") (ns0:=["pieces","kept"]) (i:=0) TC.cl_Turnable TC.n_Turnable_words (by decide +kernel) (aR dL (aa (ai (aP (ix:=[none,some 0]) rfl (ba (bR (ns0:=["pieces","kept"]) TC.cl_Turnable TC.n_Turnable_kept (i:=1) (by decide +kernel) (fM (i:=0)))) (λfs hc=>(fA (i:=0) (dh hc (by decide)))) br (aq bA (ai (bR (ns0:=["pieces","kept"]) TC.cl_Turnable TC.n_Turnable_pieces (i:=0) (by decide +kernel) (fM (i:=1)))) (fM (i:=0))))) ac))) (au (jx (c0:="Turnable") (ns0:=["pieces","kept","words"]) (i:=0) TC.cl_Turnable TC.n_Turnable_left (by decide +kernel) (aR dL (aa (ai (aP (ix:=[none,some 0]) rfl (ba (iu (i:=2))) (λfs hc=>(fA (i:=0) (dh hc (by decide)))) (fe (aq (tU (neg:=true)) (fM (i:=0)) (ai (bR (ns0:=["pieces","kept","words"]) TC.cl_Turnable TC.n_Turnable_kept (i:=1) (by decide +kernel) (fM (i:=1)))))) (ap (c:=bZ) (aa (ai (bR (ns0:=["pieces","kept","words"]) TC.cl_Turnable TC.n_Turnable_pieces (i:=0) (by decide +kernel) (fM (i:=1)))) (aa (ai (bR (ns0:=["pieces","kept","words"]) TC.cl_Turnable TC.n_Turnable_kept (i:=1) (by decide +kernel) (fM (i:=1)))) (aa (ai (iu (i:=0))) ac)))))) ac))) (au (jx (c0:="Turnable") (ns0:=["pieces","kept","words","left"]) (i:=0) TC.cl_Turnable TC.n_Turnable_states (by decide +kernel) (aR dL (aa (ai (rg (ix:=[none,none]) rfl (ba (bR (ns0:=["pieces","kept","words","left"]) TC.cl_Turnable TC.n_Turnable_words (i:=2) (by decide +kernel) (fM (i:=0)))) (λfs hc=>(fA (i:=0) (dh hc (by decide)))) br (ba (dC (aa (ai (le_int (i:=0))) (aa (ai (le_int (i:=1))) ac)))) (λfs hc=>(fA (i:=1) (dh hc (by decide)))) br (ap (c:=c8) (aa (ai (iu (i:=0))) (aa (ai (iu (i:=1))) ac))))) ac))) (au (jx (c0:="Turnable") (ns0:=["pieces","kept","words","left","states"]) (i:=0) TC.cl_Turnable TC.n_Turnable_laps (by decide +kernel) (ap (c:=gQ) (aa (ai (bR (ns0:=["pieces","kept","words","left","states"]) TC.cl_Turnable TC.n_Turnable_states (i:=4) (by decide +kernel) (fM (i:=0)))) ac))) (jx (c0:="Turnable") (ns0:=["pieces","kept","words","left","states","laps"]) (i:=0) TC.cl_Turnable TC.n_Turnable_total (by decide +kernel) (aR zX (aa (ai (aP (ix:=[none]) rfl (ba (bR (ns0:=["pieces","kept","words","left","states","laps"]) TC.cl_Turnable TC.n_Turnable_words (i:=2) (by decide +kernel) (fM (i:=0)))) (λfs hc=>(fA (i:=0) (dh hc (by decide)))) br (aR aZ (aa (fM (i:=0)) ac)))) ac))))))))))) (λp ds Q h=>s_ (Oz (eh p ds Q h).1) (by decide)) (λp ds Q _ h=>(eh p ds Q h).2) h⟩
def mI(D:wY K (bQ K "Turnable") "many" "Turnable.many" bG)(T:Txt mg)(TC:TxC K):IJ P w K mg base 1 (bQ K "Turnable") "many" ["self"] (spP K bj):=by
 refine D.ok mq (λ_ _ _ _ _ _ us hl=>match us,hl with|[_],_=>rfl) (λvs H Q E h=>?_) (λf cdv A outer s H vs Q E hr h=>?_)
 .exact JP (λds Q h=>(en ds Q h).1) h
 .have hu:=hr.units;exact⟨_,(aj (aB (al (bN K rfl) rfl T.b_len j_ (paC (bw K rfl (pv 0) rfl) ae)))),fnP (K:=K) (c:=bj) (ps:=ik) (N:=["self"]) (aC (aR aZ (aa (ai (bR (ns0:=["pieces","kept","words","left","states","laps","total"]) TC.cl_Turnable TC.n_Turnable_words (i:=2) (by decide +kernel) (fM (i:=0)))) ac))) (λds Q h=>s_ (Oz (en ds Q h).1) (by decide)) (λds Q h=>(en ds Q h).2) h⟩
def yI(D:aX K mg "is_ways" nU)(T:Txt mg)(TC:TxC K)(C'2:dQ P w K mg base)(C'20:oW P w K mg base)(C'0:kO P w K mg base)(C'16:oV P w K mg base):qC P w K mg base:=D.oP2 ym (by walk_at "b2") yw rfl rfl λ_ _ _ _ _ _ _ hr hu=>⟨_,(af (cv (PW.pt (mW (fS (cf (ak C'0 (hr.m rfl) (paC (pv 0) ae)))) (j8 (fS (cf (al (x8 K rfl rfl) rfl T.b_all boot_all (paC (aV (wi:=(e9 K (aJ 0))) (g:=(aS 0)) (tts:=fk) (te:=(DJ (cq (spP K ca) [] E0 (ax (aJ 0) (ax (tC (V.int 2)) bU))) (cq (spP K gR) [] E0 (ax (tOp (ki K) (aJ 0) (tC (V.int 1))) (ax (tC (V.int 0)) (ax (tC (V.int 1)) bU)))))) ["row"] [none] rfl (a9 K rfl (pv 0)) (λ_ _ _ _=>⟨(ar (i:=0) (by show o_ (["row"]:List Str);decide +kernel) rfl (by walk_at "o")),aT,(gX (ak C'2 (hr.m rfl) (paC (pv 0) (paC ao ae))) (fT (ak C'16 (hr.m rfl) (paC (bz (d7 K rfl) (pv 0) ao (λ_ _=>rfl)) (paC ao (paC ao ae))))))⟩) (by kernel_rfl)) ae))))))) (aj (aB md)) bb) (aj (aB (ak C'20 (hr.m rfl) (paC (aV (wi:=(e9 K (aJ 0))) (g:=(aS 0)) (tts:=fk) (te:=(tOp (ki K) (aJ 0) (tC (V.int 0)))) ["row"] [none] rfl (a9 K rfl (pv 0)) (λ_ _ _ _=>⟨(ar (i:=0) (by show o_ (["row"]:List Str);decide +kernel) rfl (by walk_at "o")),aT,(bz (d7 K rfl) (pv 0) ao (λ_ _=>rfl))⟩) (by kernel_rfl)) (paC (pv 1) ae)))))),(qx K mg TC)⟩
def uF(D:aX K mg "ways_text" jG)(T:Txt mg)(TC:TxC K)(C'30:cM P w K mg base)(C'21:oX P w K mg base)(C'31:qC P w K mg base):iY P w K mg base:=D.oP2 tY (by walk_at "b2") uq rfl rfl λ_ _ _ _ _ _ _ hr hu=>⟨_,(af (cv (fS (cf (ak C'31 (hr.m rfl) (paC (pv 1) (paC (mL (pv 0) TC.cl_Turnable C'30 (hr.m rfl)) ae))))) (aj j9) bb) (aj (aB (ak C'21 (hr.m rfl) (paC (bw K rfl (pv 0) rfl) (paC (bw K rfl (pv 0) rfl) (paC (aV (wi:=(e9 K (aJ 1))) (g:=(tG K 2 (cP (aS 0) (cP (aS 1) uK)))) (tts:=fk) (te:=(tOp (mn K) (tOp qT (tC (V.int 2)) (aJ 0)) (aJ 1))) ["i","way"] [none,none] rfl (a9 K rfl (pv 1)) (λ_ _ _ _=>⟨(di K rfl (n:=2) rfl (aG (ar (i:=0) (by show o_ (["i","way"]:List Str);decide +kernel) rfl (by walk_at "o")) (aG (ar (i:=1) (by show o_ (["i","way"]:List Str);decide +kernel) rfl (by walk_at "o")) bT))),aT,(bc (cA K rfl) (bc kY ao (pv 0)) (pv 1))⟩) (by kernel_rfl)) ae))))))),(lU K mg TC)⟩
def uG(D:aX K mg "first_way" jH)(T:Txt mg)(TC:TxC K)(C'17:dR P w K mg base)(C'25:ja P w K mg base):l5 P w K mg base:=D.oP2 lQ (by walk_at "b2") ut rfl rfl λ_ _ _ _ _ _ _ hr hu=>⟨_,(af (kX (wi:=(e9 K (sk (ax (tC (V.int 0)) (ax (tC (V.int 1)) bU))))) (g:=(aS 0)) (tts:=fk) (te:=(sk (ax (cq (spP K cb) [] E0 (ax (aJ 1) (ax (cq (spP K c8) [] E0 (ax (aJ 2) (ax (aJ 0) bU))) bU))) (ax (aJ 0) bU)))) (i:=2) ["way","text","word"] [none,some 0,some 1] lQ.nd rfl (Pf rfl) rfl (a9 K rfl (df (paC ao (paC ao ae)))) (λ_ _ _ _=>⟨(ar (i:=0) (by show o_ (["way","text","word"]:List Str);decide +kernel) rfl (by walk_at "o")),aT,(df (paC (ak C'17 (hr.m rfl) (paC (pv 1) (paC (ak C'25 (hr.m rfl) (paC (pv 2) (paC (pv 0) ae))) ae))) (paC (pv 0) ae)))⟩) (by kernel_rfl)) (aj (aB (Fk K rfl rfl hu rfl T.b_min (paC (aV (wi:=(e9 K (aJ 2))) (g:=(tG K 2 (cP (aS 0) (cP (aS 1) uK)))) (tts:=(qG (tOp IP (aJ 0) (tC (V.int 0))))) (te:=(sk (ax (aJ 0) (ax (aJ 1) bU)))) ["place","way"] [none,none] rfl (a9 K rfl (pv 2)) (λ_ _ _ _=>⟨(di K rfl (n:=2) rfl (aG (ar (i:=0) (by show o_ (["place","way"]:List Str);decide +kernel) rfl (by walk_at "o")) (aG (ar (i:=1) (by show o_ (["place","way"]:List Str);decide +kernel) rfl (by walk_at "o")) bT))),(fK (aK FG (pv 0) ao (aN _))),(df (paC (pv 0) (paC (pv 1) ae)))⟩) (by kernel_rfl)) ae) (df (paC (yV sv ao) (paC ao ae))))))),(lV K mg TC)⟩
def yJ(D:aX K mg "ways_in" nV)(T:Txt mg)(TC:TxC K)(C'33:l5 P w K mg base):lJ P w K mg base:=D.oP2 eB (by walk_at "b2") yz rfl rfl λ_ _ _ _ _ _ _ hr hu=>⟨_,(af (aF (i:=2) eB.nd rfl (by walk_at "o") (fj ae)) (af (eC E_ rfl (xb K rfl rfl T.b_enumerate (paC (bw K rfl (pv 0) rfl) ae)) (di K rfl (n:=2) rfl (aG (ar (i:=3) eB.nd rfl (by walk_at "o")) (aG (ar (i:=4) eB.nd rfl (by walk_at "o")) bT))) (af (wK (ak C'33 (hr.m rfl) (paC (pv 1) (paC (pv 4) ae))) (di K rfl (n:=2) rfl (aG (ar (i:=5) eB.nd rfl (by walk_at "o")) (aG (ar (i:=6) eB.nd rfl (by walk_at "o")) bT)))) (af (cv (aK JB (pv 5) ao (aN _)) (aj j9) bb) (aj (jr (fV K rfl LL Mi Mj eF (pv 2) (paC (df (paC (pv 5) (paC (pv 3) (paC (pv 6) ae)))) ae))))))) (aj (aB (a8 (fN K rfl) rfl T.b_tuple MV (paC (aV (wi:=(e9 K (tCB (Ay K) (ax (aJ 2) bU)))) (g:=(tG K 3 (cP (aS 0) (cP (aS 1) (cP (aS 2) uK))))) (tts:=fk) (te:=(sk (ax (aJ 1) (ax (aJ 2) bU)))) ["place","i","way"] [none,none,none] rfl (a9 K rfl (al (EY K rfl) rfl T.b_sorted boot_sorted (paC (pv 2) ae))) (λ_ _ _ _=>⟨(di K rfl (n:=3) rfl (aG (ar (i:=0) (by show o_ (["place","i","way"]:List Str);decide +kernel) rfl (by walk_at "o")) (aG (ar (i:=1) (by show o_ (["place","i","way"]:List Str);decide +kernel) rfl (by walk_at "o")) (aG (ar (i:=2) (by show o_ (["place","i","way"]:List Str);decide +kernel) rfl (by walk_at "o")) bT)))),aT,(df (paC (pv 1) (paC (pv 2) ae)))⟩) (by kernel_rfl)) ae)))))),(qy K mg TC)⟩
def j7(D:aX K mg "turn_price_bound" dt)(T:Txt mg)(TC:TxC K)(C'30:cM P w K mg base)(C'22:jm P w K mg base)(C'23:l4 P w K mg base):e7 P w K mg base:=D.oP2 bX (by walk_at "b2") j3 rfl rfl λ_ _ _ _ _ _ _ hr hu=>⟨_,(af (aF (i:=2) bX.nd rfl (by walk_at "o") (mL (pv 0) TC.cl_Turnable C'30 (hr.m rfl))) (af (kX (wi:=(e9 K (cq (spP K dN) [] E0 (ax (tOp qT (tC (V.int 2)) (aJ 2)) bU)))) (g:=(tG K 2 (cP (aS 0) (cP (aS 1) uK)))) (tts:=(qG (tOp (tD K true) (tOp Aa (aJ 0) (tC (V.int 2))) (tOp Aa (aJ 1) (tC (V.int 2)))))) (te:=(sk (ax (aJ 0) (ax (aJ 1) bU)))) (i:=3) ["a","b"] [none,none] bX.nd rfl (Pf rfl) rfl (a9 K rfl (ak C'22 (hr.m rfl) (paC (bc kY ao (pv 2)) ae))) (λ_ _ _ _=>⟨(di K rfl (n:=2) rfl (aG (ar (i:=0) (by show o_ (["a","b"]:List Str);decide +kernel) rfl (by walk_at "o")) (aG (ar (i:=1) (by show o_ (["a","b"]:List Str);decide +kernel) rfl (by walk_at "o")) bT))),(fK (aK (jy K rfl hu) (bc kn (pv 0) ao) (bc kn (pv 1) ao) (aN _))),(df (paC (pv 0) (paC (pv 1) ae)))⟩) (by kernel_rfl)) (af (cv (fS (cf (ak C'23 (hr.m rfl) (paC (pv 1) (paC (bw K rfl (pv 0) rfl) (paC (pv 3) ae)))))) (aj (aB F8)) bb) (af (aF (i:=4) bX.nd rfl (by walk_at "o") (aV (wi:=(x3 K (ax (tOp (ki K) (aJ 1) (tC (V.int 0))) (ax (tOp (ki K) (aJ 1) (tC (V.int 1))) bU)))) (g:=(tG K 2 (cP (aS 0) (cP (aS 1) uK)))) (tts:=fk) (te:=(tOp (mn K) (aJ 0) (aJ 1))) ["give","take"] [none,none] rfl (nJ K rfl rfl T.b_zip (paC (bz (d7 K rfl) (pv 1) ao (λ_ _=>rfl)) (paC (bz (d7 K rfl) (pv 1) ao (λ_ _=>rfl)) ae))) (λ_ _ _ _=>⟨(di K rfl (n:=2) rfl (aG (ar (i:=0) (by show o_ (["give","take"]:List Str);decide +kernel) rfl (by walk_at "o")) (aG (ar (i:=1) (by show o_ (["give","take"]:List Str);decide +kernel) rfl (by walk_at "o")) bT))),aT,(bc (cA K rfl) (pv 0) (pv 1))⟩) (by kernel_rfl))) (aj (aB (bc rc (bw K rfl (pv 0) rfl) (al (CU K rfl rfl) rfl T.b_sum boot_sum (paC (aV (wi:=(su (ax (aJ 2) bU))) (g:=(aS 0)) (tts:=fk) (te:=(tCB Ex (ax (tOp (ki K) (aJ 1) (tOp qT (tC (V.int 2)) (aJ 0))) (ax (tOp (ki K) (aJ 1) (tOp (mn K) (tOp qT (tC (V.int 2)) (aJ 0)) (tC (V.int 1)))) bU)))) ["i","sums"] [none,some 4] rfl (de rfl T.b_range (paC (pv 2) ae)) (λ_ _ _ _=>⟨(ar (i:=0) (by show o_ (["i","sums"]:List Str);decide +kernel) rfl (by walk_at "o")),aT,(al (CT rfl) rfl T.b_max boot_max (paC (bz (d7 K rfl) (pv 1) (bc kY ao (pv 0)) (λ_ _=>rfl)) (paC (bz (d7 K rfl) (pv 1) (bc (cA K rfl) (bc kY ao (pv 0)) ao) (λ_ _=>rfl)) ae)))⟩) (by kernel_rfl)) ae))))))))),(eZ K mg TC)⟩
def se(D:aX K mg "_law_stream" iD)(T:Txt mg)(TC:TxC K):kQ P w K mg base:=D.oP2 gM (by walk_at "b2") rV rfl rfl λ_ _ _ _ _ _ _ hr hu=>⟨_,(af (aF (i:=2) gM.nd rfl (by walk_at "o") (bc (cA K rfl) (bc kY ao (pv 1)) ao)) (af (ir (cv (aK Ab (al (bN K rfl) rfl T.b_len j_ (paC (pv 0) ae)) ao (aN _)) (aj (aF (i:=2) gM.nd rfl (by walk_at "o") (al JK rfl T.b_abs boot_abs (paC (bz (d7 K rfl) (pv 0) (bc yb (pv 1) (al (bN K rfl) rfl T.b_len j_ (paC (pv 0) ae))) (λ_ _=>rfl)) ae)))) bb)) (aj (aB (fj (paC (pv 2) (paC (bc (cA K rfl) (bc (cA K rfl) (bc yb (pv 2) ao) (bc kY ao (pv 1))) ao) ae))))))),(kK K mg TC)⟩
def wA(D:aX K mg "_law_next" lw)(T:Txt mg)(TC:TxC K):bP P w K mg base:=D.oR2 nY (by walk_at "b2") vU rfl rfl λ_ _ _ _ _ _ _ hr hu=>⟨_,(af (cv (aK Ab (bz (d7 K rfl) (pv 0) ao (λ_ _=>rfl)) ao (aN _)) (af (aF (i:=2) nY.nd rfl (by walk_at "o") (bc yb (bz (d7 K rfl) (pv 0) ao (λ_ _=>rfl)) (pv 1))) (af (AH (bc kn (bz (d7 K rfl) (pv 0) ao (λ_ _=>rfl)) (pv 1)) (CA (pv 0) ao wQ)) (aj (aB (pv 2))))) bb) (af (AH (bc yb (bc (cA K rfl) (bc kY (bz (d7 K rfl) (pv 0) ao (λ_ _=>rfl)) ao) ao) ao) (CA (pv 0) ao wQ)) (aj (aB (bc yb (bc kn (bc yb (bc kY (bz (d7 K rfl) (pv 0) ao (λ_ _=>rfl)) (bz (d7 K rfl) (pv 0) ao (λ_ _=>rfl))) ao) ao) (pv 1)))))),(oA K mg TC)⟩
def wB(D:aX K mg "_law_word" lx)(T:Txt mg)(TC:TxC K)(C'37:bP P w K mg base):j5 P w K mg base:=D.oR2 vy (by walk_at "b3") vW rfl rfl λ_ _ _ _ _ _ _ hr hu=>⟨_,(aj (aB (fV K rfl Mc OW OX (xf K rfl) (dg (l:=[]) (by decide +kernel)) (paC (aV (wi:=(su (ax (tOp (mn K) (tC (V.int 1)) (cq (spR K aD) [] E0 (ax (aJ 0) (ax (aJ 2) bU)))) bU))) (g:=(aS 0)) (tts:=fk) (te:=(tOp (ki K) (aJ 1) (cq (spR K aD) [] E0 (ax (aJ 2) (ax (tCB (pA K) (ax (aJ 1) bU)) bU))))) ["_law_k","_law_letters","_law_stream_here"] [none,some 1,some 0] rfl (de rfl T.b_range (paC (bc (cA K rfl) ao (ak C'37 (hr.m rfl) (paC (pv 0) (paC (pv 2) ae)))) ae)) (λ_ _ _ _=>⟨(ar (i:=0) (by show o_ (["_law_k","_law_letters","_law_stream_here"]:List Str);decide +kernel) rfl (by walk_at "o")),aT,(bz (d7 K rfl) (pv 1) (ak C'37 (hr.m rfl) (paC (pv 2) (paC (al (bN K rfl) rfl T.b_len j_ (paC (pv 1) ae)) ae))) (λ_ _=>rfl))⟩) (by kernel_rfl)) ae)))),(oB K mg TC)⟩
def wC(D:aX K mg "_law_back" ly)(T:Txt mg)(TC:TxC K):e8 P w K mg base:=D.oP2 gN (by walk_at "b1") vY rfl rfl λ_ _ _ _ _ _ _ hr hu=>⟨_,(af (aF (i:=1) gN.nd rfl (by walk_at "o") (dg (l:=[]) (by decide +kernel))) (af (eC E_ rfl (a9 K rfl (pv 0)) (ar (i:=2) gN.nd rfl (by walk_at "o")) (aj (aF (i:=1) gN.nd rfl (by walk_at "o") (bc (cA K rfl) (pv 2) (pv 1))))) (aj (aB (pv 1))))),(oE K mg TC)⟩
def yK(D:aX K mg "_law_cut" nW)(T:Txt mg)(TC:TxC K)(C'37:bP P w K mg base):qD P w K mg base:=D.oR2 ql (by walk_at "b3") yB rfl rfl λ_ _ _ _ _ _ _ hr hu=>⟨_,(af (aF (i:=3) ql.nd rfl (by walk_at "o") (ak C'37 (hr.m rfl) (paC (pv 0) (paC (al (bN K rfl) rfl T.b_len j_ (paC (pv 1) ae)) ae)))) (aj (aB (bo (pd K rfl) (pv 1) (bE (pv 3)) (bE (bc (cA K rfl) (bc (cA K rfl) (pv 3) ao) (ak C'37 (hr.m rfl) (paC (pv 0) (paC (pv 2) ae))))))))),(qz K mg TC)⟩
def wD(D:aX K mg "_law_base" lz)(T:Txt mg)(TC:TxC K)(C'37:bP P w K mg base)(C'38:j5 P w K mg base):oY P w K mg base:=D.oR2 gO (by walk_at "b2") wb rfl rfl λ_ _ _ _ _ _ _ hr hu=>⟨_,(af (aF (i:=2) gO.nd rfl (by walk_at "o") (bz (d7 K rfl) (fj (paC (dg (l:=[97,98]) (by decide +kernel)) (paC (dg (l:=[97,98,99]) (by decide +kernel)) (paC (dg (l:=[97,98,99,100,101,102,103,104,105,106,107,108,109,110,111,112,113,114,115,116,117,118,119,120,121,122]) (by decide +kernel)) ae)))) (ak C'37 (hr.m rfl) (paC (pv 0) (paC ao ae))) (λ_ _=>rfl))) (af (aF (i:=3) gO.nd rfl (by walk_at "o") (ak C'38 (hr.m rfl) (paC (pv 0) (paC (pv 2) (paC (bc kY ao (pv 1)) ae))))) (af (ir (cv (aK (iy K rfl hu) (ak C'37 (hr.m rfl) (paC (pv 0) (paC ao ae))) ao (aN _)) (aj (aF (i:=3) gO.nd rfl (by walk_at "o") (bc kY (bo (pd K rfl) (pv 3) bO (bE (bc (cA K rfl) ao (ak C'37 (hr.m rfl) (paC (pv 0) (paC ao ae)))))) (pv 1)))) bb)) (aj (aB (df (paC (pv 2) (paC (pv 3) ae)))))))),(oF K mg TC)⟩
def sf(D:aX K mg "_law_pieces" iF)(T:Txt mg)(TC:TxC K)(C'39:e8 P w K mg base)(C'41:oY P w K mg base)(C'40:qD P w K mg base)(C'37:bP P w K mg base)(C'38:j5 P w K mg base):kR P w K mg base:=D.oR2 aW (by walk_at "b3") rX rfl rfl λ_ _ _ _ _ _ _ hr hu=>⟨_,(af (wK (ak C'41 (hr.m rfl) (paC (pv 0) (paC (pv 2) ae))) (di K rfl (n:=2) rfl (aG (ar (i:=3) aW.nd rfl (by walk_at "o")) (aG (ar (i:=4) aW.nd rfl (by walk_at "o")) bT)))) (af (aF (i:=5) aW.nd rfl (by walk_at "o") (fj ae)) (af (eC E_ rfl (de rfl T.b_range (paC (pv 1) ae)) (ar (i:=6) aW.nd rfl (by walk_at "o")) (af (aF (i:=7) aW.nd rfl (by walk_at "o") (ak C'37 (hr.m rfl) (paC (pv 0) (paC ao ae)))) (af (ir (cv (PW.pt (sr (aK Ab (pv 7) ao (aN _)) (mU (aK (jy K rfl hu) (pv 5) (fj ae) (aN _))))) (af (aF (i:=8) aW.nd rfl (by walk_at "o") (bz (d7 K rfl) (pv 5) (ak C'37 (hr.m rfl) (paC (pv 0) (paC (al (bN K rfl) rfl T.b_len j_ (paC (pv 5) ae)) ae))) (λ_ _=>rfl))) (aj (cv (aK (iy K rfl hu) (pv 7) ao (aN _)) (aj (aF (i:=8) aW.nd rfl (by walk_at "o") (ak C'40 (hr.m rfl) (paC (pv 0) (paC (pv 8) (paC (pv 2) ae)))))) bb))) (aj (cv (aK (iy K rfl hu) (pv 7) ao (aN _)) (aj (aF (i:=8) aW.nd rfl (by walk_at "o") (ak C'38 (hr.m rfl) (paC (pv 0) (paC (pv 3) (paC (pv 2) ae)))))) (aj (cv (aK (iy K rfl hu) (pv 7) ao (aN _)) (af (aF (i:=8) aW.nd rfl (by walk_at "o") (ak C'38 (hr.m rfl) (paC (pv 0) (paC (pv 3) (paC (bc kn (bc (cA K rfl) (pv 2) ao) ao) ae))))) (aj (aF (i:=8) aW.nd rfl (by walk_at "o") (bc (cA K rfl) (pv 8) (bo (pd K rfl) (ak C'39 (hr.m rfl) (paC (pv 8) ae)) (bE (ak C'37 (hr.m rfl) (paC (pv 0) (paC ao ae)))) bO))))) (aj (aF (i:=8) aW.nd rfl (by walk_at "o") (ak C'40 (hr.m rfl) (paC (pv 0) (paC (pv 4) (paC (pv 2) ae)))))))))))) (af (ir (cv (aK (iy K rfl hu) (ak C'37 (hr.m rfl) (paC (pv 0) (paC ao ae))) ao (aN _)) (aj (aF (i:=8) aW.nd rfl (by walk_at "o") (ak C'39 (hr.m rfl) (paC (pv 8) ae)))) bb)) (aj (jr (fV K rfl LL Mi Mj eF (pv 5) (paC (bo (pd K rfl) (pv 8) bO (bE (pv 2))) ae)))))))) (aj (aB (pv 5)))))),(kL K mg TC)⟩
def yL(D:aX K mg "_law_lap" nX)(T:Txt mg)(TC:TxC K):lK P w K mg base:=D.oP2 qm (by walk_at "b2") yD rfl rfl λ_ _ _ _ _ _ _ hr hu=>⟨_,(af (eC E_ rfl (sH rfl T.b_range (paC (bc rc (al (zV rfl) rfl T.b_min boot_min (paC (al (bN K rfl) rfl T.b_len j_ (paC (pv 0) ae)) (paC (al (bN K rfl) rfl T.b_len j_ (paC (pv 1) ae)) ae))) ao) (paC ao (paC (yV sv ao) ae)))) (ar (i:=2) qm.nd rfl (by walk_at "o")) (aj (cv (aK (iy K rfl hu) (bo (pd K rfl) (pv 0) (bE (bc rc (al (bN K rfl) rfl T.b_len j_ (paC (pv 0) ae)) (pv 2))) bO) (bo (pd K rfl) (pv 1) bO (bE (pv 2))) (aN _)) (aj (aB (pv 2))) bb))) (aj (aB ao))),(qA K mg TC)⟩
def pX(D:aX K mg "_law_is_left" gI)(T:Txt mg)(TC:TxC K)(C'39:e8 P w K mg base):jn P w K mg base:=D.oP2 dM (by walk_at "b2") pR rfl rfl λ_ _ _ _ _ _ _ hr hu=>⟨_,(af (aF (i:=2) dM.nd rfl (by walk_at "o") (bz (d7 K rfl) (pv 0) (pv 1) (λ_ _=>rfl))) (af (aF (i:=3) dM.nd rfl (by walk_at "o") (ak C'39 (hr.m rfl) (paC (pv 2) ae))) (af (eC E_ rfl (a9 K rfl (pv 0)) (ar (i:=4) dM.nd rfl (by walk_at "o")) (aj (cv (PW.pt (sr (aK Ab (al (bN K rfl) rfl T.b_len j_ (paC (pv 4) ae)) (al (bN K rfl) rfl T.b_len j_ (paC (pv 2) ae)) (aN _)) (mU (PW.pt (mW (aK FG (fV K rfl Mc NJ NK qX (pv 4) (paC (pv 2) ae)) ao (aN _)) (j8 (aK FG (fV K rfl Mc NJ NK qX (pv 4) (paC (pv 3) ae)) ao (aN _)))))))) (aj (aB md)) bb))) (aj (aB (Gd (cQ (Ce K rfl) (pv 2) (bo (pd K rfl) (pv 0) bO (bE (pv 1))) (by with_unfolding_all rfl)) (fT (cQ (Ce K rfl) (pv 3) (bo (pd K rfl) (pv 0) bO (bE (pv 1))) (by with_unfolding_all rfl))))))))),(jk K mg TC)⟩
def wE(D:aX K mg "_law_kept" lA)(T:Txt mg)(TC:TxC K)(C'44:jn P w K mg base):oZ P w K mg base:=D.oP2 vz (by walk_at "b1") wd rfl rfl λ_ _ _ _ _ _ _ hr hu=>⟨_,(aj (aB (aV (wi:=(su (ax (tCB (pA K) (ax (aJ 0) bU)) bU))) (g:=(aS 0)) (tts:=(IW (tB (cq (spP K dO) [] E0 (ax (aJ 1) (ax (aJ 0) bU)))))) (te:=(aJ 0)) ["_law_k","_law_pieces_here"] [none,some 0] rfl (de rfl T.b_range (paC (al (bN K rfl) rfl T.b_len j_ (paC (pv 0) ae)) ae)) (λ_ _ _ _=>⟨(ar (i:=0) (by show o_ (["_law_k","_law_pieces_here"]:List Str);decide +kernel) rfl (by walk_at "o")),(fK (fS (cf (ak C'44 (hr.m rfl) (paC (pv 1) (paC (pv 0) ae)))))),(pv 0)⟩) (by kernel_rfl)))),(oG K mg TC)⟩
def uH(D:aX K mg "_law_whole" jI)(T:Txt mg)(TC:TxC K):l6 P w K mg base:=D.oP2 tZ (by walk_at "b1") uv rfl rfl λ_ _ _ _ _ _ _ hr hu=>⟨_,(aj (aB (gX (al (zQ K rfl) rfl T.b_isinstance M4 (paC (pv 0) (paC (jq (v:=.ty "int") rfl T.b_int boot_int rfl) ae))) (fT (yS (al (zQ K rfl) rfl T.b_isinstance M4 (paC (pv 0) (paC (jq (v:=.ty "bool") rfl T.b_bool boot_bool rfl) ae)))))))),(lW K mg TC)⟩
def o9(D:aX K mg "_law_shuffled" fQ)(T:Txt mg)(TC:TxC K)(C'37:bP P w K mg base):iZ P w K mg base:=D.oR2 eU (by walk_at "b2") oJ rfl rfl λ_ _ _ _ _ _ _ hr hu=>⟨_,(af (aF (i:=2) eU.nd rfl (by walk_at "o") (a8 (zY K rfl) rfl T.b_list NP (paC (pv 1) ae))) (af (aF (i:=3) eU.nd rfl (by walk_at "o") (fj ae)) (af (wL E_ (aK (jy K rfl hu) (pv 2) (fj ae) (aN _)) (aj (jr (fV K rfl LL Mi Mj eF (pv 3) (paC (fV K rfl LL PySem.F.slot_list_pop PySem.F.type_list_pop BD (pv 2) (paC (ak C'37 (hr.m rfl) (paC (pv 0) (paC (al (bN K rfl) rfl T.b_len j_ (paC (pv 2) ae)) ae))) ae)) ae))))) (aj (aB (pv 3)))))),(iU K mg TC)⟩
def sh(D:aX K mg "_law_lesser" iG)(T:Txt mg)(TC:TxC K)(C'37:bP P w K mg base):kS P w K mg base:=D.oR2 kx (by walk_at "b4") rZ rfl rfl λ_ _ _ _ _ _ _ hr hu=>⟨_,(af (wL E_ (aK Ab (pv 3) ao (aN _)) (af (cv (PW.pt (sr (aK (iy K rfl hu) (bo (pd K rfl) (pv 1) (bE (bc rc (al (bN K rfl) rfl T.b_len j_ (paC (pv 1) ae)) (pv 3))) bO) (bo (pd K rfl) (pv 2) bO (bE (pv 3))) (aN _)) (mU (aK (iy K rfl hu) (ak C'37 (hr.m rfl) (paC (pv 0) (paC ao ae))) ao (aN _))))) (aj (aB (pv 3))) bb) (aj (aF (i:=3) kx.nd rfl (by walk_at "o") (bc rc (pv 3) ao))))) (aj (aB ao))),(kM K mg TC)⟩
def wF(D:aX K mg "_law_laid" lB)(T:Txt mg)(TC:TxC K)(C'43:lK P w K mg base)(C'48:kS P w K mg base)(C'37:bP P w K mg base):o0 P w K mg base:=D.oR2 bH (by walk_at "b2") wg rfl rfl λ_ _ _ _ _ _ _ hr hu=>⟨_,(af (aF (i:=2) bH.nd rfl (by walk_at "o") (bo (pd K rfl) (dg (l:=[112,113]) (by decide +kernel)) bO (bE (bc kn (ak C'37 (hr.m rfl) (paC (pv 0) (paC ao ae))) ao)))) (af (aF (i:=3) bH.nd rfl (by walk_at "o") (dg (l:=[]) (by decide +kernel))) (af (eC E_ rfl (a9 K rfl (pv 1)) (ar (i:=4) bH.nd rfl (by walk_at "o")) (af (aF (i:=5) bH.nd rfl (by walk_at "o") (ak C'37 (hr.m rfl) (paC (pv 0) (paC ao ae)))) (af (aF (i:=6) bH.nd rfl (by walk_at "o") ao) (af (ir (cv (PW.pt (sr (aK (jy K rfl hu) (pv 3) (dg (l:=[]) (by decide +kernel)) (aN _)) (mU (aK Ab (pv 5) ao (aN _))))) (aj (aF (i:=6) bH.nd rfl (by walk_at "o") (ak C'43 (hr.m rfl) (paC (pv 3) (paC (pv 4) ae))))) bb)) (af (ir (cv (aK (iy K rfl hu) (pv 5) ao (aN _)) (aj (aF (i:=6) bH.nd rfl (by walk_at "o") (ak C'48 (hr.m rfl) (paC (pv 0) (paC (pv 3) (paC (pv 4) (paC (pv 6) ae))))))) bb)) (af (ir (cv (aK (iy K rfl hu) (pv 5) ao (aN _)) (aj (aF (i:=2) bH.nd rfl (by walk_at "o") (bc (cA K rfl) (pv 2) (bo (pd K rfl) (dg (l:=[98,97]) (by decide +kernel)) bO (bE (ak C'37 (hr.m rfl) (paC (pv 0) (paC ao ae)))))))) bb)) (af (aF (i:=2) bH.nd rfl (by walk_at "o") (bc (cA K rfl) (pv 2) (bo (pd K rfl) (pv 4) (bE (pv 6)) bO))) (aj (aF (i:=3) bH.nd rfl (by walk_at "o") (pv 4)))))))))) (aj (aB (bc (cA K rfl) (pv 2) (bo (pd K rfl) (dg (l:=[113,112]) (by decide +kernel)) bO (bE (bc kn (ak C'37 (hr.m rfl) (paC (pv 0) (paC ao ae))) ao))))))))),(oK K mg TC)⟩
def si(D:aX K mg "_law_states" iH)(T:Txt mg)(TC:TxC K)(C'39:e8 P w K mg base):gW P w K mg base:=D.oP2 gP (by walk_at "b1") r8 rfl rfl λ_ _ _ _ _ _ _ hr hu=>⟨_,(af (aF (i:=1) gP.nd rfl (by walk_at "o") (fj ae)) (af (eC E_ rfl (a9 K rfl (pv 0)) (ar (i:=2) gP.nd rfl (by walk_at "o")) (aj (jr (fV K rfl LL PySem.F.slot_list_extend PySem.F.type_list_extend zi (pv 1) (paC (fj (paC (pv 2) (paC (ak C'39 (hr.m rfl) (paC (pv 2) ae)) ae))) ae))))) (aj (aB (pv 1))))),(kN K mg TC)⟩
def wG(D:aX K mg "_law_ways" lC)(T:Txt mg)(TC:TxC K)(C'37:bP P w K mg base)(C'47:iZ P w K mg base):o5 P w K mg base:=D.oR2 vA (by walk_at "b2") wm rfl rfl λ_ _ _ _ _ _ _ hr hu=>⟨_,(aj (aB (aV (wi:=(e9 K (cq (spR K dy) [] E0 (ax (aJ 0) (ax (tCB (II K (mkO false)) (ax (EE (ax (aJ 1) bU)) bU)) bU))))) (g:=(aS 0)) (tts:=fk) (te:=(sk (ax (aJ 0) (ax (cq (spR K aD) [] E0 (ax (aJ 1) (ax (tC (V.int 2)) bU))) bU)))) ["_law_k","_law_stream_here"] [none,some 0] rfl (a9 K rfl (ak C'47 (hr.m rfl) (paC (pv 0) (paC (a8 (xa K rfl rfl) rfl T.b_list NP (paC (kf rfl T.b_range (paC (pv 1) ae)) ae)) ae)))) (λ_ _ _ _=>⟨(ar (i:=0) (by show o_ (["_law_k","_law_stream_here"]:List Str);decide +kernel) rfl (by walk_at "o")),aT,(df (paC (pv 0) (paC (ak C'37 (hr.m rfl) (paC (pv 1) (paC ao ae))) ae)))⟩) (by kernel_rfl)))),(oM K mg TC)⟩
def uI(D:aX K mg "_law_texts" jJ)(T:Txt mg)(TC:TxC K)(C'50:gW P w K mg base):l8 P w K mg base:=D.oP2 t5 (by walk_at "b2") uz rfl rfl λ_ _ _ _ _ _ _ hr hu=>⟨_,(aj (aB (aV (wi:=(e9 K (aJ 1))) (g:=(aS 0)) (tts:=fk) (te:=(tOp (ki K) (cq (spP K dz) [] E0 (ax (aJ 1) bU)) (tOp (mn K) (tOp qT (tC (V.int 2)) (tOp (ki K) (aJ 0) (tC (V.int 0)))) (tOp (ki K) (aJ 0) (tC (V.int 1)))))) ["_law_row","_law_words"] [none,some 0] rfl (a9 K rfl (pv 1)) (λ_ _ _ _=>⟨(ar (i:=0) (by show o_ (["_law_row","_law_words"]:List Str);decide +kernel) rfl (by walk_at "o")),aT,(bz (d7 K rfl) (ak C'50 (hr.m rfl) (paC (pv 1) ae)) (bc (cA K rfl) (bc kY ao (bz (d7 K rfl) (pv 0) ao (λ_ _=>rfl))) (bz (d7 K rfl) (pv 0) ao (λ_ _=>rfl))) (λ_ _=>rfl))⟩) (by kernel_rfl)))),(lX K mg TC)⟩
def uJ(D:aX K mg "_law_bound" jK)(T:Txt mg)(TC:TxC K)(C'43:lK P w K mg base)(C'50:gW P w K mg base):l9 P w K mg base:=D.oP2 dX (by walk_at "b1") uB rfl rfl λ_ _ _ _ _ _ _ hr hu=>⟨_,(af (aF (i:=1) dX.nd rfl (by walk_at "o") (ak C'50 (hr.m rfl) (paC (pv 0) ae))) (af (aF (i:=2) dX.nd rfl (by walk_at "o") (fj ae)) (af (eC E_ rfl (de rfl T.b_range (paC (al (bN K rfl) rfl T.b_len j_ (paC (pv 1) ae)) ae)) (ar (i:=3) dX.nd rfl (by walk_at "o")) (af (kX (wi:=(su (ax (tCB (pA K) (ax (aJ 1) bU)) bU))) (g:=(aS 0)) (tts:=(qG (tOp (tD K true) (tOp Aa (aJ 2) (tC (V.int 2))) (tOp Aa (aJ 0) (tC (V.int 2)))))) (te:=(cq (spP K gg) [] E0 (ax (tOp (ki K) (aJ 1) (aJ 2)) (ax (tOp (ki K) (aJ 1) (aJ 0)) bU)))) (i:=4) ["_law_b","_law_states_here","_law_a"] [none,some 1,some 3] dX.nd rfl (Pf rfl) rfl (de rfl T.b_range (paC (al (bN K rfl) rfl T.b_len j_ (paC (pv 1) ae)) ae)) (λ_ _ _ _=>⟨(ar (i:=0) (by show o_ (["_law_b","_law_states_here","_law_a"]:List Str);decide +kernel) rfl (by walk_at "o")),(fK (aK (jy K rfl hu) (bc kn (pv 2) ao) (bc kn (pv 0) ao) (aN _))),(ak C'43 (hr.m rfl) (paC (bz (d7 K rfl) (pv 1) (pv 2) (λ_ _=>rfl)) (paC (bz (d7 K rfl) (pv 1) (pv 0) (λ_ _=>rfl)) ae)))⟩) (by kernel_rfl)) (aj (jr (fV K rfl LL Mi Mj eF (pv 2) (paC (Fb K rfl rfl rfl T.b_max (paC (pv 4) ae) ao) ae)))))) (aj (aB (df (paC (pv 2) (paC (bc kY (fj (paC ao ae)) (al (bN K rfl) rfl T.b_len j_ (paC (pv 1) ae))) ae)))))))),(lY K mg TC)⟩
def wH(D:aX K mg "_law_same" lD)(T:Txt mg)(TC:TxC K)(C'30:cM P w K mg base)(C'39:e8 P w K mg base)(C'34:lJ P w K mg base)(C'32:iY P w K mg base):o7 P w K mg base:=D.oP2 cu (by walk_at "b4") wo rfl rfl λ_ _ _ _ _ _ _ hr hu=>⟨_,(af (cv (PW.pt (mW (aK (jy K rfl hu) (ak C'32 (hr.m rfl) (paC (pv 0) (paC (ak C'34 (hr.m rfl) (paC (pv 0) (paC (pv 2) ae))) ae))) (pv 2) (aN _)) (j8 (aK (jy K rfl hu) (ak C'32 (hr.m rfl) (paC (pv 1) (paC (ak C'34 (hr.m rfl) (paC (pv 1) (paC (pv 2) ae))) ae))) (pv 2) (aN _))))) (aj (aB md)) bb) (af (aF (i:=4) cu.nd rfl (by walk_at "o") (ak C'34 (hr.m rfl) (paC (pv 0) (paC (pv 2) ae)))) (af (aF (i:=5) cu.nd rfl (by walk_at "o") (ak C'34 (hr.m rfl) (paC (pv 1) (paC (pv 2) ae)))) (af (eC E_ rfl (nJ K rfl rfl T.b_zip (paC (pv 4) (paC (pv 5) ae))) (di K rfl (n:=2) rfl (aG (ar (i:=6) cu.nd rfl (by walk_at "o")) (aG (ar (i:=7) cu.nd rfl (by walk_at "o")) bT))) (af (aF (i:=8) cu.nd rfl (by walk_at "o") (bz (d7 K rfl) (bw K rfl (pv 0) rfl) (bz (d7 K rfl) (pv 6) ao (λ_ _=>rfl)) (λ_ _=>rfl))) (af (aF (i:=9) cu.nd rfl (by walk_at "o") (bz (d7 K rfl) (pv 6) ao (λ_ _=>rfl))) (af (ir (cv (PW.pt (sr (cf (bz (d7 K rfl) (pv 3) (bz (d7 K rfl) (bw K rfl (pv 0) rfl) (bz (d7 K rfl) (pv 6) ao (λ_ _=>rfl)) (λ_ _=>rfl)) (λ_ _=>rfl))) (mU (aK (jy K rfl hu) (pv 8) (ak C'39 (hr.m rfl) (paC (pv 8) ae)) (aN _))))) (aj (aF (i:=9) cu.nd rfl (by walk_at "o") (bc rc ao (pv 9)))) bb)) (aj (cv (aK (jy K rfl hu) (pv 7) (df (paC (bz (d7 K rfl) (pv 6) ao (λ_ _=>rfl)) (paC (pv 9) ae))) (aN _)) (aj (aB md)) bb)))))) (aj (aB (gX (cQ (iy K rfl hu) (al (bN K rfl) rfl T.b_len j_ (paC (pv 4) ae)) (al (bN K rfl) rfl T.b_len j_ (paC (pv 5) ae)) (aN _)) (fT (cQ (iy K rfl hu) (al (bN K rfl) rfl T.b_len j_ (paC (pv 4) ae)) (mL (pv 0) TC.cl_Turnable C'30 (hr.m rfl)) (aN _)))))))))),(oN K mg TC)⟩
def pY(D:aX K mg "_law_laid_is" gJ)(T:Txt mg)(TC:TxC K)(C'53:l9 P w K mg base)(C'49:o0 P w K mg base)(C'52:l8 P w K mg base)(C'51:o5 P w K mg base)(C'46:l6 P w K mg base)(C'35:e7 P w K mg base)(C'34:lJ P w K mg base)(C'32:iY P w K mg base):jo P w K mg base:=D.oR2 b9 (by walk_at "b3") pT rfl rfl λ_ _ _ _ _ _ _ hr hu=>⟨_,(af (aF (i:=3) b9.nd rfl (by walk_at "o") (a8 (zY K rfl) rfl T.b_list NP (paC (bw K rfl (pv 1) rfl) ae))) (af (aF (i:=4) b9.nd rfl (by walk_at "o") (ak C'53 (hr.m rfl) (paC (pv 3) ae))) (af (aF (i:=5) b9.nd rfl (by walk_at "o") (ak C'35 (hr.m rfl) (paC (pv 1) (paC (pv 4) ae)))) (af (aF (i:=6) b9.nd rfl (by walk_at "o") (ak C'49 (hr.m rfl) (paC (pv 0) (paC (ak C'52 (hr.m rfl) (paC (pv 3) (paC (ak C'51 (hr.m rfl) (paC (pv 0) (paC (al (bN K rfl) rfl T.b_len j_ (paC (pv 3) ae)) ae))) ae))) ae)))) (af (aF (i:=7) b9.nd rfl (by walk_at "o") (ak C'32 (hr.m rfl) (paC (pv 1) (paC (ak C'34 (hr.m rfl) (paC (pv 1) (paC (pv 6) ae))) ae)))) (af (cv (PW.pt (mW (fS (cf (ak C'46 (hr.m rfl) (paC (pv 5) ae)))) (mW (aK Ab (pv 5) (al (bN K rfl) rfl T.b_len j_ (paC (pv 2) ae)) (aN _)) (j8 (aK Ab (pv 5) (al (bN K rfl) rfl T.b_len j_ (paC (pv 6) ae)) (aN _)))))) (aj (aB md)) bb) (aj (aB (gX (cQ CL (al (bN K rfl) rfl T.b_len j_ (paC (pv 2) ae)) (al (bN K rfl) rfl T.b_len j_ (paC (pv 7) ae)) (aN _)) (fT (cQ CL (al (bN K rfl) rfl T.b_len j_ (paC (pv 7) ae)) (al (bN K rfl) rfl T.b_len j_ (paC (pv 6) ae)) (aN _)))))))))))),(jl K mg TC)⟩
def IB(D:aX K mg "law" Co)(T:Txt mg)(TC:TxC K)(C'29:mD P w K mg base)(C'45:oZ P w K mg base)(C'55:jo P w K mg base)(C'37:bP P w K mg base)(C'42:kR P w K mg base)(C'54:o7 P w K mg base)(C'36:kQ P w K mg base)(C'12:fH P w K mg base)(C'24:iX P w K mg base):Iz P w K mg base:=D.oP2 ky (by walk_at "b1") Iy rfl rfl λ_ _ _ _ _ _ _ hr hu=>⟨_,(af (eC E_ rfl (de rfl T.b_range (paC (al (CT rfl) rfl T.b_max boot_max (paC ao (paC (al (zV rfl) rfl T.b_min boot_min (paC ao (paC (al (bN K rfl) rfl T.b_len j_ (paC (pv 0) ae)) ae))) ae))) ae)) (ar (i:=1) ky.nd rfl (by walk_at "o")) (af (aF (i:=2) ky.nd rfl (by walk_at "o") (ak C'36 (hr.m rfl) (paC (pv 0) (paC (pv 1) ae)))) (af (aF (i:=3) ky.nd rfl (by walk_at "o") (ak C'42 (hr.m rfl) (paC (pv 2) (paC (bc (cA K rfl) ao (ak C'37 (hr.m rfl) (paC (pv 2) (paC ao ae)))) (paC ao ae))))) (af (kX (wi:=(e9 K (aJ 3))) (g:=(aS 0)) (tts:=fk) (te:=(tOp (tD K false) (cq (spR K aD) [] E0 (ax (aJ 1) (ax (tC (V.int 2)) bU))) (tC (V.int 1)))) (i:=4) ["_law_piece","_law_stream_here"] [none,some 2] ky.nd rfl (Pf rfl) rfl (a9 K rfl (pv 3)) (λ_ _ _ _=>⟨(ar (i:=0) (by show o_ (["_law_piece","_law_stream_here"]:List Str);decide +kernel) rfl (by walk_at "o")),aT,(cQ (iy K rfl hu) (ak C'37 (hr.m rfl) (paC (pv 1) (paC ao ae))) ao (aN _))⟩) (by kernel_rfl)) (af (kX (wi:=(x3 K (ax (aJ 3) (ax (aJ 4) bU)))) (g:=(tG K 2 (cP (aS 0) (cP (aS 1) uK)))) (tts:=fk) (te:=(tOp (ki K) (Jf (ax (aJ 0) (ax (cq (spP K eW) [] E0 (ax (aJ 0) bU)) bU))) (tCB EH (ax (aJ 1) bU)))) (i:=5) ["_law_piece","_law_flip"] [none,none] ky.nd rfl (Pf rfl) rfl (nJ K rfl rfl T.b_zip (paC (pv 3) (paC (pv 4) ae))) (λ_ _ _ _=>⟨(di K rfl (n:=2) rfl (aG (ar (i:=0) (by show o_ (["_law_piece","_law_flip"]:List Str);decide +kernel) rfl (by walk_at "o")) (aG (ar (i:=1) (by show o_ (["_law_piece","_law_flip"]:List Str);decide +kernel) rfl (by walk_at "o")) bT))),aT,(bz (d7 K rfl) (fj (paC (pv 0) (paC (ak C'24 (hr.m rfl) (paC (pv 0) ae)) ae))) (a8 JT rfl T.b_int boot_int (paC (pv 1) ae)) (λ_ _=>rfl))⟩) (by kernel_rfl)) (af (aF (i:=6) ky.nd rfl (by walk_at "o") (xi C'29 (hr.m rfl) (paC (pv 3) ae))) (af (aF (i:=7) ky.nd rfl (by walk_at "o") (xi C'29 (hr.m rfl) (paC (a8 (fN K rfl) rfl T.b_tuple MV (paC (pv 5) ae)) ae))) (af (cv (PW.pt (mW (aK (jy K rfl hu) (bw K rfl (pv 6) rfl) (a8 (fN K rfl) rfl T.b_tuple MV (paC (ak C'45 (hr.m rfl) (paC (pv 3) ae)) ae)) (aN _)) (mW (aK (jy K rfl hu) (bw K rfl (pv 7) rfl) (bw K rfl (pv 6) rfl) (aN _)) (j8 (aK (jy K rfl hu) (bw K rfl (pv 7) rfl) (bw K rfl (pv 6) rfl) (aN _)))))) (aj (aB md)) bb) (af (aF (i:=8) ky.nd rfl (by walk_at "o") (ak C'12 (hr.m rfl) (paC (pv 6) ae))) (af (cv (PW.pt (mW (aK (jy K rfl hu) (ak C'12 (hr.m rfl) (paC (pv 7) ae)) (pv 8) (aN _)) (j8 (fS (cf (ak C'54 (hr.m rfl) (paC (pv 6) (paC (pv 7) (paC (pv 8) (paC (pv 4) ae)))))))))) (aj (aB md)) bb) (aj (cv (PW.pt (mW (fS (cf (ak C'55 (hr.m rfl) (paC (pv 2) (paC (pv 6) (paC (pv 8) ae)))))) (j8 (fS (cf (ak C'55 (hr.m rfl) (paC (pv 2) (paC (pv 7) (paC (pv 8) ae))))))))) (aj (aB md)) bb)))))))))))) (aj (aB md))),(DD K mg TC)⟩
end
variable {w:World}{K:b_}{h:Heap}{mg:Str->Option Value}
def IC{l:OT}{fa:Addr}(X:K.In h)(G:h.Ns mainGlobals mg)(hfa:mg "law"=some (.ref fa)){C_Turnable:Addr}(aC_Turnable:we K mainGlobals "Turnable"=some (some (.ref C_Turnable)))(pg_Turnable:Nc K C_Turnable Str.empty=true)(hd_Turnable:NB K C_Turnable=true)(po_Turnable:Oj K C_Turnable=true)(sa_Turnable:pf K (.ref C_Turnable) "__setattr__"=some (some (.builtin "object.__setattr__")))(mk_Turnable:OS K C_Turnable=true)(kc_Turnable:D_ K (.ref C_Turnable)=true)(n_Turnable_pieces:pf K (.ref C_Turnable) "pieces"=some none)(n_Turnable_kept:pf K (.ref C_Turnable) "kept"=some none)(n_Turnable_words:pf K (.ref C_Turnable) "words"=some none)(n_Turnable_left:pf K (.ref C_Turnable) "left"=some none)(n_Turnable_states:pf K (.ref C_Turnable) "states"=some none)(n_Turnable_laps:pf K (.ref C_Turnable) "laps"=some none)(n_Turnable_total:pf K (.ref C_Turnable) "total"=some none)(d1:dD K "is_row" rJ)(d2:dD K "is_number" jC)(d3:dD K "members" nR)(d4:dD K "is_ahead" lh)(d5:dD K "heads_of" lm)(d6:dD K "lap" Fm){f7:Addr}{oc7 kV7 dc7 pm7 cd7 ct7:Value}{od7 an7 dd7:Option Addr}{sl7 st7:Array (Option Value)}{dT7:Addr}{n7:Nat}{u7_0 u7_1:Tok}(a7:we K mainGlobals "is_text"=some (some (.ref f7)))(l7:K.lookup f7=some ⟨oc7,od7,.func (F_ "is_text" "is_text" (bV gb) (bn gb) (ah gb) (.ref dT7) kV7 dc7 pm7 an7 cd7 ct7),sl7⟩)(c7:LN K cd7 "is_text"=true)(k7:D_ K (.ref f7)=true)(t7:K.lookup dT7=some ⟨.type "tuple",dd7,.seq [.int 0 u7_0,.int 4000 u7_1].toArray n7,st7⟩)(d8:dD K "first_place" gG)(d9:dD K "glue_all" lv)(d10:dD K "other_pairs" gH)(d11:dD K "turned" rK){f12:Addr}{oc12 kV12 dc12 pm12 cd12 ct12:Value}{od12 an12:Option Addr}{sl12:Array (Option Value)}(a12:pf K (.ref C_Turnable) "many"=some (some (.ref f12)))(i12:N0 K (.ref f12)=true)(l12:K.lookup f12=some ⟨oc12,od12,.func (F_ "many" "Turnable.many" (bV bG) (bn bG) (ah bG) .none kV12 dc12 pm12 an12 cd12 ct12),sl12⟩)(c12:LN K cd12 "Turnable.many"=true)(k12:D_ K (.ref f12)=true)(d13:dD K "_law_stream" iD)(d14:dD K "_law_next" lw)(d15:dD K "_law_back" ly)(d16:dD K "_law_lap" nX)(d17:dD K "_law_whole" jI)(d18:dD K "are_numbers" gF)(d19:dD K "foremost" ll)(d20:dD K "sets_left" jD)(d21:dD K "all_laps" lq)(d22:dD K "is_whole" lr)(d23:dD K "check_pieces" fP)(d24:dD K "stands_within" eO)(d25:dD K "one_way" nS)(d26:dD K "_law_word" lx)(d27:dD K "_law_cut" nW)(d28:dD K "_law_is_left" gI)(d29:dD K "_law_shuffled" fQ)(d30:dD K "_law_lesser" iG)(d31:dD K "_law_states" iH)(d32:dD K "are_prices" iC)(d33:dD K "all_ends" lp)(d34:dD K "is_order" lu)(d35:dD K "stands_some_way" dH)(d36:dD K "first_way" jH)(d37:dD K "_law_base" lz)(d38:dD K "_law_kept" lA)(d39:dD K "_law_laid" lB)(d40:dD K "_law_ways" lC)(d41:dD K "_law_texts" jJ)(d42:dD K "_law_bound" jK)(d43:dD K "is_price_paper" ee)(d44:dD K "foremost_text" eM)(d45:dD K "is_kept_some_way" dr)(d46:dD K "left_some_way" eP)(d47:dD K "is_ways" nU)(d48:dD K "ways_in" nV)(d49:dD K "_law_pieces" iF)(d50:dD K "shortest_turned" dG)(d51:dD K "pays_laps" jF){f52:Addr}{oc52 kV52 dc52 pm52 cd52 ct52:Value}{od52 an52:Option Addr}{sl52:Array (Option Value)}(a52:pf K (.ref C_Turnable) "__init__"=some (some (.ref f52)))(i52:N0 K (.ref f52)=true)(l52:K.lookup f52=some ⟨oc52,od52,.func (F_ "__init__" "Turnable.__init__" (bV bF) (bn bF) (ah bF) .none kV52 dc52 pm52 an52 cd52 ct52),sl52⟩)(c52:LN K cd52 "Turnable.__init__"=true)(k52:D_ K (.ref f52)=true)(d53:dD K "ways_text" jG)(d54:dD K "turn_price_bound" dt)(d55:dD K "_law_same" lD)(d56:dD K "_law_laid_is" gJ)(d57:dD K "law" Co)(z1:we K mainGlobals "abs"=some none)(z2:we K mainGlobals "all"=some none)(z3:we K mainGlobals "any"=some none)(z4:we K mainGlobals "bool"=some none)(z5:we K mainGlobals "enumerate"=some none)(z6:we K mainGlobals "int"=some none)(z7:we K mainGlobals "isinstance"=some none)(z8:we K mainGlobals "len"=some none)(z9:we K mainGlobals "list"=some none)(z10:we K mainGlobals "max"=some none)(z11:we K mainGlobals "min"=some none)(z12:we K mainGlobals "range"=some none)(z13:we K mainGlobals "sorted"=some none)(z14:we K mainGlobals "str"=some none)(z15:we K mainGlobals "sum"=some none)(z16:we K mainGlobals "tuple"=some none)(z17:we K mainGlobals "zip"=some none){ty1:Tok}(y1:we K mainGlobals "MOST_PIECES"=some (some (.int 40 ty1))){ty2:Tok}(y2:we K mainGlobals "MOST_SIGNS"=some (some (.int 60 ty2))){ty3:Tok}(y3:we K mainGlobals "MOST_TURNED_WORDS"=some (some (.int 6 ty3))):
  ∃fd:L7,(∀(s:c_) (v:Value),OE s fd ⟨[v],[]⟩ [("_law_script",v)])/\∀base:Heap,K.In base->base.Ns mainGlobals mg->qH l.prog w K mg base CX0 8 fa fd ["_law_script"] (xX K):=by
 have eC_Turnable:=BS aC_Turnable;have TC:TxC K:=⟨by rw [eC_Turnable];exact⟨pg_Turnable,hd_Turnable,po_Turnable,sa_Turnable⟩,by show pf K (.ref (bQ K "Turnable")) "pieces"=some none;rw [eC_Turnable];exact n_Turnable_pieces,by show pf K (.ref (bQ K "Turnable")) "kept"=some none;rw [eC_Turnable];exact n_Turnable_kept,by show pf K (.ref (bQ K "Turnable")) "words"=some none;rw [eC_Turnable];exact n_Turnable_words,by show pf K (.ref (bQ K "Turnable")) "left"=some none;rw [eC_Turnable];exact n_Turnable_left,by show pf K (.ref (bQ K "Turnable")) "states"=some none;rw [eC_Turnable];exact n_Turnable_states,by show pf K (.ref (bQ K "Turnable")) "laps"=some none;rw [eC_Turnable];exact n_Turnable_laps,by show pf K (.ref (bQ K "Turnable")) "total"=some none;rw [eC_Turnable];exact n_Turnable_total⟩
 have D'0:=aO d1 X G;have D'1:=aO d2 X G;have D'5:=aO d3 X G;have D'6:=aO d4 X G;have D'8:=aO d5 X G;have D'13:=aO d6 X G;have D'15:wW K mg "is_text" gb [.int 0,.int 4000]:=⟨⟨f7,dT7,oc7,od7,an7,dd7,kV7,dc7,pm7,cd7,ct7,sl7,st7,[.int 0 u7_0,.int 4000 u7_1],n7,l7,c7,k7,Nl X G a7,t7,(.cons ⟨_,rfl⟩ (.cons ⟨_,rfl⟩ .nil))⟩⟩
 have D'17:=aO d8 X G;have D'21:=aO d9 X G;have D'22:=aO d10 X G;have D'24:=aO d11 X G;have D'30:wY K (bQ K "Turnable") "many" "Turnable.many" bG:=by rw [eC_Turnable];exact⟨⟨f12,_,zm (st:=bG) l12 c12 k12,⟨a12,i12,k12⟩⟩⟩
 have D'36:=aO d13 X G;have D'37:=aO d14 X G;have D'39:=aO d15 X G;have D'43:=aO d16 X G;have D'46:=aO d17 X G;have D'2:=aO d18 X G;have D'7:=aO d19 X G;have D'9:=aO d20 X G;have D'14:=aO d21 X G;have D'16:=aO d22 X G;have D'18:=aO d23 X G;have D'19:=aO d24 X G;have D'25:=aO d25 X G;have D'38:=aO d26 X G
 have D'40:=aO d27 X G;have D'44:=aO d28 X G;have D'47:=aO d29 X G;have D'48:=aO d30 X G;have D'50:=aO d31 X G;have D'3:=aO d32 X G;have D'10:=aO d33 X G;have D'20:=aO d34 X G;have D'26:=aO d35 X G;have D'33:=aO d36 X G;have D'41:=aO d37 X G;have D'45:=aO d38 X G;have D'49:=aO d39 X G;have D'51:=aO d40 X G
 have D'52:=aO d41 X G;have D'53:=aO d42 X G;have D'4:=aO d43 X G;have D'11:=aO d44 X G;have D'27:=aO d45 X G;have D'28:=aO d46 X G;have D'31:=aO d47 X G;have D'34:=aO d48 X G;have D'42:=aO d49 X G;have D'12:=aO d50 X G;have D'23:=aO d51 X G;have D'29:wZ K mg (bQ K "Turnable") "Turnable" "Turnable.__init__" bF:=by rw [eC_Turnable];exact⟨⟨f52,_,zm (st:=bF) l52 c52 k52,⟨mk_Turnable,a52,i52,kc_Turnable⟩,Nl X G aC_Turnable⟩⟩
 have D'32:=aO d53 X G;have D'35:=aO d54 X G;have D'54:=aO d55 X G;have D'55:=aO d56 X G;have D'56:=aO d57 X G;have T:Txt mg:=⟨x_ X G z1,x_ X G z2,x_ X G z3,x_ X G z4,x_ X G z5,x_ X G z6,x_ X G z7,x_ X G z8,x_ X G z9,x_ X G z10,x_ X G z11,x_ X G z12,x_ X G z13,x_ X G z14,x_ X G z15,x_ X G z16,x_ X G z17,⟨_,Nl X G y1⟩,⟨_,Nl X G y2⟩,⟨_,Nl X G y3⟩⟩
 refine GQ (st:=Co) hfa D'56 (λ_ _ _ _ _ _ s v=>.of_eq rfl) λbase=>?_;have C'0:=Bi l.prog w base D'0 T TC;have C'1:=uC l.prog w base D'1 T TC;have C'5:=yF l.prog w base D'5 T TC;have C'6:=wq l.prog w base D'6 T TC;have C'8:=wu l.prog w base D'8 T TC;have C'13:=IA l.prog w base D'13 T TC;have C'15:=yG l.prog w base D'15 T TC
 have C'17:=pV l.prog w base D'17 T TC;have C'21:=wz l.prog w base D'21 T TC;have C'22:=pW l.prog w base D'22 T TC;have C'24:=Bj l.prog w base D'24 T TC;have C'30:=mI l.prog w base D'30 T TC;have C'36:=se l.prog w base D'36 T TC;have C'37:=wA l.prog w base D'37 T TC;have C'39:=wC l.prog w base D'39 T TC
 have C'43:=yL l.prog w base D'43 T TC;have C'46:=uH l.prog w base D'46 T TC;have C'2:=pU l.prog w base D'2 T TC C'1 C'0;have C'7:=wt l.prog w base D'7 T TC C'6;have C'9:=uD l.prog w base D'9 T TC C'5;have C'14:=ww l.prog w base D'14 T TC C'13;have C'16:=wx l.prog w base D'16 T TC C'1
 have C'18:=o8 l.prog w base D'18 T TC C'15;have C'19:=mF l.prog w base D'19 T TC C'17;have C'25:=yH l.prog w base D'25 T TC C'24;have C'38:=wB l.prog w base D'38 T TC C'37;have C'40:=yK l.prog w base D'40 T TC C'37;have C'44:=pX l.prog w base D'44 T TC C'39;have C'47:=o9 l.prog w base D'47 T TC C'37
 have C'48:=sh l.prog w base D'48 T TC C'37;have C'50:=si l.prog w base D'50 T TC C'39;have C'3:=sd l.prog w base D'3 T TC C'2;have C'10:=wv l.prog w base D'10 T TC C'7;have C'20:=wy l.prog w base D'20 T TC C'2;have C'26:=kU l.prog w base D'26 T TC C'19 C'24
 have C'33:=uG l.prog w base D'33 T TC C'17 C'25;have C'41:=wD l.prog w base D'41 T TC C'37 C'38;have C'45:=wE l.prog w base D'45 T TC C'44;have C'49:=wF l.prog w base D'49 T TC C'43 C'48 C'37;have C'51:=wG l.prog w base D'51 T TC C'37 C'47;have C'52:=uI l.prog w base D'52 T TC C'50
 have C'53:=uJ l.prog w base D'53 T TC C'43 C'50;have C'4:=lL l.prog w base D'4 T TC C'3 C'0;have C'11:=mE l.prog w base D'11 T TC C'10 C'7 C'8;have C'27:=j6 l.prog w base D'27 T TC C'26 C'24;have C'28:=mG l.prog w base D'28 T TC C'17 C'25 C'26 C'19
 have C'31:=yI l.prog w base D'31 T TC C'2 C'20 C'0 C'16;have C'34:=yJ l.prog w base D'34 T TC C'33;have C'42:=sf l.prog w base D'42 T TC C'39 C'41 C'40 C'37 C'38;have C'12:=kT l.prog w base D'12 T TC C'30 C'11 C'9;have C'23:=uE l.prog w base D'23 T TC C'4
 have C'29:=mH l.prog w base D'29 T TC C'14 C'18 C'27 C'28 C'25;have C'32:=uF l.prog w base D'32 T TC C'30 C'21 C'31;have C'35:=j7 l.prog w base D'35 T TC C'30 C'22 C'23;have C'54:=wH l.prog w base D'54 T TC C'30 C'39 C'34 C'32
 have C'55:=pY l.prog w base D'55 T TC C'53 C'49 C'52 C'51 C'46 C'35 C'34 C'32;exact (IB l.prog w base D'56 T TC C'29 C'45 C'55 C'37 C'42 C'54 C'36 C'12 C'24).imp λ_ _ _ _ h=>Ew h
end K52

open PySem PySem.W PyProof.Rows
local macro_rules | `(tactic| walk_at "fn") => `(tactic| (refine' L2.HX ?a ?l ?c ?k; (case a => k_is); (case l => k_is); (case c => k_is); (case k => k_is)))
local macro_rules | `(tactic| walk_at "xi") => `(tactic| (refine' L2.J9 ?a ?l ?g ?h ?s ?c ?k; (case a => k_is); (case l => k_is); (case g => k_is); (case h => k_is); (case s => k_is); (case c => k_is); (case k => k_is)))
local macro_rules | `(tactic| walk_at "xj") => `(tactic| (refine' L2.Ka ?i ?t ?l ?c ?k ?n; (case i => k_is); (case t => k_is); (case l => k_is); (case c => k_is); (case k => k_is); (case n => k_is)))
set_option maxRecDepth 100000 in
set_option maxHeartbeats 0 in
theorem PySem.Challenge.cw_shortglue_k52_whole_turned_pieces_holds : PySem.Challenge.rw_shortglue_k52_whole_turned_pieces.Holds := by
  refine topHd ?_
  k_fill
  refine L2.GR (l := PySem.Challenge.rw_shortglue_k52_whole_turned_pieces) (k := 8) (x := "_law_script") rfl rfl ⟨rfl, by decide, by decide⟩ (fun w h Y => PySem.W.kIn_of Y) ?F
  case F =>
    intro w mg fa h KX G hmg
    refine' K52.IC KX G hmg ?aC_Turnable ?pg_Turnable ?hd_Turnable ?po_Turnable ?sa_Turnable ?mk_Turnable ?kc_Turnable ?n_Turnable_pieces ?n_Turnable_kept ?n_Turnable_words ?n_Turnable_left ?n_Turnable_states ?n_Turnable_laps ?n_Turnable_total ?d1 ?d2 ?d3 ?d4 ?d5 ?d6 ?a7 ?l7 ?c7 ?k7 ?t7 ?d8 ?d9 ?d10 ?d11 ?a12 ?i12 ?l12 ?c12 ?k12 ?d13 ?d14 ?d15 ?d16 ?d17 ?d18 ?d19 ?d20 ?d21 ?d22 ?d23 ?d24 ?d25 ?d26 ?d27 ?d28 ?d29 ?d30 ?d31 ?d32 ?d33 ?d34 ?d35 ?d36 ?d37 ?d38 ?d39 ?d40 ?d41 ?d42 ?d43 ?d44 ?d45 ?d46 ?d47 ?d48 ?d49 ?d50 ?d51 ?a52 ?i52 ?l52 ?c52 ?k52 ?d53 ?d54 ?d55 ?d56 ?d57 ?z1 ?z2 ?z3 ?z4 ?z5 ?z6 ?z7 ?z8 ?z9 ?z10 ?z11 ?z12 ?z13 ?z14 ?z15 ?z16 ?z17 ?y1 ?y2 ?y3
    (case aC_Turnable => k_is)
    (case pg_Turnable => k_is)
    (case hd_Turnable => k_is)
    (case po_Turnable => k_is)
    (case sa_Turnable => k_is)
    (case mk_Turnable => k_is)
    (case kc_Turnable => k_is)
    (case n_Turnable_pieces => k_is)
    (case n_Turnable_kept => k_is)
    (case n_Turnable_words => k_is)
    (case n_Turnable_left => k_is)
    (case n_Turnable_states => k_is)
    (case n_Turnable_laps => k_is)
    (case n_Turnable_total => k_is)
    (case d1 => walk_at "fn")
    (case d2 => walk_at "fn")
    (case d3 => walk_at "fn")
    (case d4 => walk_at "fn")
    (case d5 => walk_at "fn")
    (case d6 => walk_at "fn")
    (case a7 => k_is)
    (case l7 => k_is)
    (case c7 => k_is)
    (case k7 => k_is)
    (case t7 => k_is)
    (case d8 => walk_at "fn")
    (case d9 => walk_at "fn")
    (case d10 => walk_at "fn")
    (case d11 => walk_at "fn")
    (case a12 => k_is)
    (case i12 => k_is)
    (case l12 => k_is)
    (case c12 => k_is)
    (case k12 => k_is)
    (case d13 => walk_at "fn")
    (case d14 => walk_at "fn")
    (case d15 => walk_at "fn")
    (case d16 => walk_at "fn")
    (case d17 => walk_at "fn")
    (case d18 => walk_at "fn")
    (case d19 => walk_at "fn")
    (case d20 => walk_at "fn")
    (case d21 => walk_at "fn")
    (case d22 => walk_at "fn")
    (case d23 => walk_at "fn")
    (case d24 => walk_at "fn")
    (case d25 => walk_at "fn")
    (case d26 => walk_at "fn")
    (case d27 => walk_at "fn")
    (case d28 => walk_at "fn")
    (case d29 => walk_at "fn")
    (case d30 => walk_at "fn")
    (case d31 => walk_at "fn")
    (case d32 => walk_at "fn")
    (case d33 => walk_at "fn")
    (case d34 => walk_at "fn")
    (case d35 => walk_at "fn")
    (case d36 => walk_at "fn")
    (case d37 => walk_at "fn")
    (case d38 => walk_at "fn")
    (case d39 => walk_at "fn")
    (case d40 => walk_at "fn")
    (case d41 => walk_at "fn")
    (case d42 => walk_at "fn")
    (case d43 => walk_at "fn")
    (case d44 => walk_at "fn")
    (case d45 => walk_at "fn")
    (case d46 => walk_at "fn")
    (case d47 => walk_at "fn")
    (case d48 => walk_at "fn")
    (case d49 => walk_at "fn")
    (case d50 => walk_at "fn")
    (case d51 => walk_at "fn")
    (case a52 => k_is)
    (case i52 => k_is)
    (case l52 => k_is)
    (case c52 => k_is)
    (case k52 => k_is)
    (case d53 => walk_at "fn")
    (case d54 => walk_at "fn")
    (case d55 => walk_at "fn")
    (case d56 => walk_at "fn")
    (case d57 => walk_at "fn")
    (case z1 => k_is)
    (case z2 => k_is)
    (case z3 => k_is)
    (case z4 => k_is)
    (case z5 => k_is)
    (case z6 => k_is)
    (case z7 => k_is)
    (case z8 => k_is)
    (case z9 => k_is)
    (case z10 => k_is)
    (case z11 => k_is)
    (case z12 => k_is)
    (case z13 => k_is)
    (case z14 => k_is)
    (case z15 => k_is)
    (case z16 => k_is)
    (case z17 => k_is)
    (case y1 => k_is)
    (case y2 => k_is)
    (case y3 => k_is)
