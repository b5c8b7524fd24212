import PyProof.Rows.All
import Wide.All
import OpenK.AllK
import Wide.FinOn
import Lean
import PyProof.EqAt
import PyProof.EqKinds
import PyProof.TupleCall
import KE.KSortTup
import PyProof.FString
import PyProof.StrBlock
import KE.KRevSl
import PyProof.StrLawsReplace
import PyProof.StrCalls6
import PyProof.MinMaxWalk
import PyProof.WalkInts
import PyProof.NeKinds
import KE.KEqDict
import PyProof.Rows.SumAny
import KE.KMinKey
import PyProof.Rows.CallKwBuiltin
import KE.KIntText
import PySem.Challenge.RW_shortglue_k54_row_in
set_option Elab.async false
set_option linter.all false
set_option maxRecDepth 100000
open List (all_cons all_eq_true all_map any_cons any_eq_false any_map append_assoc append_eq_nil_iff append_nil append_toArray concat_eq_append cons_append cons_lt_cons_iff contains_cons contains_iff_mem countP_cons count_append count_eq_zero count_replicate drop_drop drop_eq_getElem_cons drop_eq_nil_of_le drop_left drop_one drop_suffix drop_take drop_zero eq_nil_or_concat eq_of_mem_replicate eraseIdxIfInBounds_toArray eraseIdx_eq_take_drop_succ ext_getElem ext_getElem? extract_eq_take_drop extract_toArray filterMap_append filterMap_cons filterMap_eq_map filterMap_eq_nil_iff filterMap_map filter_append filter_congr filter_cons filter_cons_of_neg filter_cons_of_pos filter_eq_nil_iff filter_eq_self find?_cons find?_eq_none find?_eq_some_iff_append flatMap_append flatMap_cons flatMap_nil flatten_cons flatten_nil foldl_cons forIn_cons forIn_nil getD_eq_getElem?_getD getElem?_append_left getElem?_append_right getElem?_cons_succ getElem?_eq_getElem getElem?_eq_none getElem?_inj getElem?_map getElem?_range getElem?_replicate getElem?_set_ne getElem?_set_self getElem?_take getElem?_take_of_lt getElem?_zip_eq_some getElem_cons_drop getElem_inj getElem_map getElem_mem getElem_of_mem getElem_range getElem_set getElem_tail getElem_toArray getElem_zip length_append length_cons length_drop length_eq_zero_iff length_eraseIdx length_erase_of_mem length_filter_le length_flatten length_map length_nil length_pos_iff length_pos_of_mem length_range length_replicate length_set length_singleton length_tail length_take length_zip lookup_append lookup_cons map_append map_congr_left map_cons map_drop map_id map_map map_nil map_replicate map_snd_zip map_take mem_append mem_append_left mem_append_right mem_cons mem_cons_of_mem mem_cons_self mem_erase_of_ne mem_filter mem_filterMap mem_flatMap mem_flatten mem_iff_getElem mem_iff_getElem? mem_map mem_map_of_mem mem_of_getElem? mem_of_mem_drop mem_of_mem_take mem_range mem_range'_1 mem_replicate mem_singleton nil_append nil_prefix nil_suffix nodup_cons not_mem_nil of_mem_zip pairwise_append pairwise_cons pairwise_iff_getElem pairwise_lt_range pairwise_map pairwise_replicate perm_append_comm perm_append_singleton prefix_append prefix_refl range_add range_succ range_succ_eq_map replicate_succ replicate_zero reverse_cons reverse_reverse set_cons_succ set_cons_zero set_getElem_self size_toArray suffix_iff_eq_drop sum_append sum_replicate_nat tail_cons take_add take_add_one take_append_drop take_left take_length take_nil take_of_length_le take_prefix take_range take_sublist take_succ take_succ_cons take_take take_zero zipIdx_cons zipIdx_nil zip_cons_cons)
open Nat (add_comm add_mul add_sub_cancel eq_zero_or_pos le_add_right le_antisymm le_of_ble_eq_true le_of_eq le_of_lt le_of_not_lt le_of_succ_le le_refl le_succ le_total le_trans lt_of_le_of_lt lt_of_lt_of_le lt_or_ge lt_succ_of_lt lt_succ_self lt_trans lt_trichotomy max_le min_eq_left min_eq_right min_le_right min_self mul_comm mul_le_mul mul_le_mul_right mul_pos mul_zero ne_of_gt ne_of_lt not_lt not_lt_zero not_succ_le_self one_mul sub_self succ_le_succ succ_mul succ_pos zero_le)
open Int (ediv_nonneg ediv_one emod_eq_of_lt emod_lt_of_pos emod_nonneg fdiv_eq_ediv_of_nonneg fmod_eq_emod_of_nonneg le_ediv_of_mul_le mul_le_mul_of_nonneg_left mul_nonneg mul_one natCast_zero neg_neg pow_succ toNat_natCast toNat_of_nonneg zero_mul)
open Bool (and_eq_false_imp and_eq_true and_eq_true_iff beq_eq_decide_eq eq_false_iff false_eq_true not_eq_true or_eq_true or_eq_true_iff)
local macro_rules | `(tactic| walk_at "o")=>`(tactic| first | exact Or.inl rfl | exact Or.inr rfl | exact Or.inr (Or.inl rfl) | exact Or.inr (Or.inr rfl))
set_option maxHeartbeats 4000000
noncomputable section
open And renaming intro→s_
open Array renaming getElem?_eq_some_iff→JR,length_toList→I_,mk→Ke,perm_iff_toList_perm→L5,toList→Mx
open Bool renaming and_false→J_,eq_iff_iff→Lz,false_and→LY,false_ne_true→l_,false_or→Mn,not_eq_true'→Md,or_false→M5,or_true→MG,true_and→Lo
open False renaming elim→IS
open ForInStep renaming yield→Jm
open Int renaming emod_lt_of_pos→MX,emod_nonneg→MW,mul_le_mul_of_nonneg_left→L8,toNat_natCast→B_,toNat→M3
open List renaming Nodup→H_,all_eq_true→Jw,append_nil→IL,contains_iff_mem→w_,countP_cons→MU,drop_eq_getElem_cons→Lr,drop_eq_nil_of_le→Kl,ext_getElem?→Kt,filterMap_cons→J9,filterMap_map→Mg,filter_cons_of_neg→L7,filter_cons_of_pos→KL,getD_eq_getElem?_getD→d_,getElem?_append_left→Kn,getElem?_append_right→JS,getElem?_cons_succ→KI,getElem?_eq_getElem→c_,getElem?_eq_none→we,getElem?_eq_some_iff→i_,getElem?_map→k_,getElem?_range→IU,getElem?_set_ne→n_,getElem?_set_self→p_,getElem?_take→Mm,getElem_mem→IY,length_eq_zero_iff→Jn,length_filter_le→Mw,length_pos_of_mem→Mf,length_range→IF,length_set→Jc,length→Lq,lookup_cons→JE,lookup→JD,map_congr_left→JN,map→MS,mem_append_left→Kf,mem_append_right→t_,mem_append→JG,mem_cons_of_mem→q_,mem_filterMap→JK,mem_filter→Jy,mem_flatMap→MV,mem_iff_getElem?→Le,mem_map_of_mem→MR,mem_map→Ju,mem_of_getElem?→IH,mem_of_mem_take→LF,mem_range'_1→LP,mem_range→IZ,mem_replicate→Lk,mem_singleton→JL,nodup_cons→MB,pairwise_append→LD,pairwise_cons→Mi,pairwise_iff_getElem→Kq,pairwise_lt_range→Me,pairwise_map→Ku,range'→KP,range→g_,replicate→so,take_append_drop→Jr,take_of_length_le→Jj,take_succ→M2
open List.Pairwise renaming nil→K3
open List.Perm renaming eq_of_pairwise→Mr,refl→L6
open Nat renaming add_sub_cancel→MT,ble→L9,le_add_right→LQ,le_of_ble_eq_true→K8,le_of_eq→Mu,le_of_lt→MO,le_of_succ_le→Li,le_refl→pf,le_succ→M1,le_trans→IG,lt_irrefl→IV,lt_of_lt_of_le→tj,lt_or_ge→Kg,lt_succ_of_lt→Ki,lt_succ_self→Mz,min_eq_left→KO,min_eq_right→ME,ne_of_gt→Lp,ne_of_lt→A_,not_lt_zero→Lw,sub_zero→LN,zero_add→K7,zero_le→IE
open Ne renaming symm→J7
open Option renaming isSome_iff_exists→JZ,map_eq_some_iff→Kb
open Option.some renaming inj→r_
open Or renaming inl→Mh,inr→M8
open Prod renaming fst→IX,snd→Lv
open Prod.mk renaming injEq→Lg
open PyProof renaming noPylong_small→My
open PyProof.Rows renaming AllBare→LK,IntsAre→KC,boot_isinstance→II,boot_tuple→J3,callWith_type1→Js,listUpdate_at→Ml,slot_tuple_getitem→IQ
open PySem renaming Around→v_,BindsTo→MA,Builtin→JW,DictEntry→MY,ExceptHandler→KB,FuncData→Jp,GenState→KR,IsPair→KH,IsPart→MD,NameKind→Jt,OsState→J6,Params→LW,Program→pj,PyData→KF,Shared→cy,Within→M7,boot_len→o_,call_meets→L1,codeAny_builtin→ML,codeAny_call_builtin→Lx,codeAny_mono→KZ,concat_meets→MC,mem_of_lookup→J8,noFill_tuple_add→Mv,plainObj_wpAny_Assign_Attribute→K9,pushCells_keeps→LA,sizeLine_eq→JB,wpAny_Call_Name_kw→Jz,wpAny_assign_Name→Mb,wpAny_attempt→Lj,wpAny_bind→b_,wpAny_callSpecial?_slot→Ja,wpAny_call_entry→Jq,wpAny_call→Lc,wpAny_execs_nil→Ly,wpAny_field→IM,wpAny_holding→G_,wpAny_isSubtype_exc→Jv,wpAny_loadPart_at→C_,wpAny_mono→D_,wpAny_newList→Mj,wpAny_newObj_type→Ji,wpAny_of_eq→Ls,wpAny_onRaise→KA,wpAny_passesOwn→JV,wpAny_pure→f_,wpAny_pyIter_list→Km,wpAny_rule→L3,wpAny_seqItems→JO,wpAny_setField_rec→JP,wpAny_setField→K5,wpAny_standAt→Jd,wpAny_truthy_bool→Jg,wpAny_typeOf_ref→Lf,wpAny_typeOf→LL,wpAny_updateSeq_pair→Lu
open PySem.AutoSeq1 renaming wpAny_loadPart'→J1
open PySem.Bind renaming checkArgs→Kp
open PySem.Builtin.List renaming listExtendWith→LR,listTooLong→JA
open PySem.Builtin.Range renaming rangeSize→KM
open PySem.Builtin.Slice renaming sliceAdjust→Kv,sliceApplied→LZ,slicePlaces→JU
open PySem.Builtin.SmallTypes renaming nextOf→y_,ownedTupleHandOut→Kw,ownedTupleIsFree→Jl
open PySem.Builtin.Str renaming occurrences→KQ,strSliceIndices→JI,subAt→K4
open PySem.Builtin.Tuple renaming tupleExact→J0,tupleItemsOf→L0
open PySem.Calls renaming Name_function_global→LX
open PySem.Code renaming quiet_builtin→KJ
open PySem.F renaming args_tuple_add_2→Ky,entry_tuple_add→KN,excBase_ValueError→L4,plainAttrs_list→Jb,plainAttrs_str→Je,slot_gs_get→LJ,slot_list_append→J4,slot_list_extend→Ms,slot_list_iadd→MH,slot_str_find→Kj,slot_str_join→MM,slot_tuple_add→K0,store_ValueError→Mo,typeOf_object_class→LV,type_list_append→J5,type_list_extend→Mt,type_str_find→Kk,type_str_join→MN
open PySem.Heap renaming ExtBut→MQ,SameBut→KS,get?_none_of_le→JX,get?_push_ne→JY,get?_push_of_some→e_,get?_push_size→j_,get?_update_ne→Jf,get?_update_self→JT,lt_size→m_,size_push→IT,size_update→Ka
open PySem.Manifest renaming signature?→Kx
open PySem.NameKind renaming cell→Kh,free→Kz
open PySem.Obj renaming data_mapFields→KG,isFreed_of_fields→K_,mapFields→Mq,mapSeq→IP
open PySem.PassesOwn renaming never→x_
open PySem.PyData renaming canLay0→Ko,depth→K6,eqvAll→Lh,eqv→Ld,int→MF
open PySem.SeqAt renaming shaped→JJ
open PySem.Str renaming ofString→Ks
open PySem.StrLaws renaming occBody→LB
open PySem.Value renaming bool→JM,builtin→Mp,float→L_,int→La,none→IJ,ref→gV,str→Kr,type→Jx
open PySem.Value.ref renaming inj→Ll
open PySem.W renaming Frag→a_,OpenLaw→MK,boot_heap→E_,callWith_K→KE,cellsFrom_some→Kc,clsIn→Ln,codeIn→Jk,emptyDict→Jh,excIn→Lm,findIn→h_,fnOf→F_,hasDictIn→KU,instObj→JF,keepIn→z_,kia_one→IR,kitAny→JQ,kitOne→IK,kitx_dict→KY,kitx_list→KW,lookIn→MP,looks_findIn→Jo,makesIn→MJ,methodObj→Ma,mg_none_of→u_,mg_of→IW,mroIn→M4,nsIn→tf,plainGet→Lb,plainOver→Mc,subIn→M6,takerIn→MI,typeIn→JC
open PySem.W.KasT renaming kasWp_bind→KD
open Sum renaming inl→MZ,inr→M0
open True renaming intro→JH
namespace L2
open PySem PySem.W
noncomputable def kJ(tb:String->Option JW)(p:pj)(w:World)(n₀:Nat)(ann:Option Value):Nat->SharedT->Thread->Option SharedT
 | 0,_,_=>none
 | n+1,s,t=>match through t with
  | true=>some s
  | false=>match stepOk n₀ ann t with
   | false=>none
   | true=>match stepT (denote tb) p w s t with
    | some (s',t')=>kJ tb p w n₀ ann n s' t'
    | none=>none
theorem kK{tb:String->Option JW}{p:pj}{w:World}{n₀:Nat}{ann:Option Value}:∀{n:Nat}{s s':SharedT}{t:Thread},kJ tb p w n₀ ann n s t=some s'->topRun tb p w n₀ ann n s.abs t=some s'.abs
 | 0,_,_,_,h=>by cases h
 | n+1,s,s',t,h=>by
  unfold kJ at h;unfold topRun
  cases he:through t with
  | true=>rw [he] at h;cases h;rfl
  | false =>
   rw [he] at h
   cases hk:stepOk n₀ ann t with
   | false=>rw [hk] at h;cases h
   | true =>
    rw [hk] at h
    cases hs:stepT (denote tb) p w s t with
    | none=>rw [hs] at h;cases h
    | some r=>obtain⟨s₂,t₂⟩:=r;rw [hs] at h;rw [stepT_spec hs];exact kK h
noncomputable def t5:List Obj->Nat->BT->BT
 | [],_,t=>t
 | o::r,i,t=>t5 r (i+1) (t.ins i o)
noncomputable def Be(P:LW):BT:=t5 (E_ P).objs.toList 0 .nil
theorem yH:∀P,absHeap (Be P) (E_ P).objs.size (E_ P).life=E_ P:=λP=>by kernel_rfl
theorem Ha{p q:pj}{loose:List Str}{Xt:cy->Bool}{α:Type}{Yf:cy->α}{Ya:World->α}{N:Nat}{g0:Bool}{m₀:Nat}{ann:Option Value}
  (e:opening p=plainProg p.main.scope.names) (hN:L9 600 N=true) (f:∀s,fenceModules? p s=some s)
  (size:∀w:World,((E_ w.params).isNs mainGlobals && (Ke []:Array KR).size == 0,(E_ w.params).objs.size,(E_ w.params).nsMap mainGlobals "__annotations__")=(true,m₀,ann))
  (run:∀(w:World) (os:J6),(kJ treeTable p w m₀ ann N ⟨Be w.params,m₀,(E_ w.params).life,Ke [],boot_drawn,boot_toks,os⟩ (topStub p)).map (λsT=>((staticsOk (importedModules p.main.body) (E_ w.params) sT.abs.heap && namesBound p sT.abs.heap && gensDone sT.abs && laidKept (E_ w.params) sT.abs.heap),openSeen q loose (importedModules p.main.body) Xt g0 sT.abs,Yf sT.abs))=some (true,openGood q loose,Ya w)):LeftO p q loose Xt Yf Ya N g0:=λw=>by
 obtain⟨⟨h,gs,d,k,os⟩,e,e'⟩:=Kb.mp (boot_open e hN f w);obtain⟨rfl,rfl,rfl,rfl⟩:h=E_ w.params/\gs=Ke []/\d=boot_drawn/\k=boot_toks:=by simpa using e'
 obtain⟨z1,z2,z3⟩:_/\_/\_:=by simpa only [Lg] using size w
 obtain⟨sT,r,l⟩:=Kb.mp (run w os);obtain⟨l1,l2,l3⟩:_/\_/\_:=by simpa only [Lg] using l
 have r:=kK r
 rw [show SharedT.abs ⟨Be w.params,m₀,(E_ w.params).life,Ke [],boot_drawn,boot_toks,os⟩=⟨E_ w.params,Ke [],boot_drawn,boot_toks,os⟩ by
  unfold SharedT.abs;dsimp only;rw [<- z2,yH]] at r
 have t:topFrom treeTable p w N ⟨E_ w.params,Ke [],boot_drawn,boot_toks,os⟩=some sT.abs:=by
  unfold topFrom;dsimp only;rw [z1,z2,z3,r];show (match staticsOk (importedModules p.main.body) (E_ w.params) sT.abs.heap && namesBound p sT.abs.heap && gensDone sT.abs && laidKept (E_ w.params) sT.abs.heap with|true=>_|false=>_)=_;rw [l1]
 unfold openEnds;rw [e];show (topFrom treeTable p w N _).map _=_;rw [t];exact congrArg some (Prod.ext l2 l3)
end L2
namespace L2
open PySem PySem.W
theorem Bf{p q:pj}{loose:List Str}{Xt:cy->Bool}{α:Type}{Yf:cy->α}{Ya:World->α}{N:Nat}{g0:Bool}{m₀:Nat}{ann:Option Value}{l rest:List Stmt}{env:Env}{c:Code}{qp pa pb p1:Pos}{n0 nb n1 n2:Nat}{SA S1:World->J6->SharedT}
  (e:opening p=plainProg p.main.scope.names) (hN:L9 600 N=true) (f:∀s,fenceModules? p s=some s)
  (size:∀w:World,((E_ w.params).isNs mainGlobals && (Ke []:Array KR).size == 0,(E_ w.params).objs.size,(E_ w.params).nsMap mainGlobals "__annotations__")=(true,m₀,ann))
  (pre:∀(w:World) (os:J6),topGo treeTable p w m₀ ann n0 ⟨E_ w.params,Ke [],boot_drawn,boot_toks,os⟩ (topStub p)=some ((SA w os).abs,⟨denote treeTable (.body (l++rest) env),c,pa,[topFrame qp]⟩))
  (blk:∀(w:World) (os:J6),segRun treeTable p w m₀ ann 1 nb (SA w os).abs (blockOf (l++rest) env c pa [topFrame qp])=some (.next,(SA w os).abs,c,pb))
  (one:∀(w:World) (os:J6),segRunT treeTable p w m₀ ann 1 n1 (SA w os) (piecesOf l env c pb [topFrame qp])=some (.next,S1 w os,c,p1))
  (hn:N=n0+(nb+(n1+n2)))
  (run:∀(w:World) (os:J6),(kJ treeTable p w m₀ ann n2 (S1 w os) (restOf rest env c p1 [topFrame qp])).map (λsT=>((staticsOk (importedModules p.main.body) (E_ w.params) sT.abs.heap && namesBound p sT.abs.heap && gensDone sT.abs && laidKept (E_ w.params) sT.abs.heap),openSeen q loose (importedModules p.main.body) Xt g0 sT.abs,Yf sT.abs))=some (true,openGood q loose,Ya w)):LeftO p q loose Xt Yf Ya N g0:=λw=>by
 obtain⟨⟨h,gs,d,k,os⟩,e,e'⟩:=Kb.mp (boot_open e hN f w);obtain⟨rfl,rfl,rfl,rfl⟩:h=E_ w.params/\gs=Ke []/\d=boot_drawn/\k=boot_toks:=by simpa using e'
 obtain⟨z1,z2,z3⟩:_/\_/\_:=by simpa only [Lg] using size w
 obtain⟨sT,r,l⟩:=Kb.mp (run w os);obtain⟨l1,l2,l3⟩:_/\_/\_:=by simpa only [Lg] using l
 have r:=go_top (pre w os) (piece_block (blk w os) (piece_app (segRun_of (one w os)) (kK r)));rw [<- hn] at r
 have t:topFrom treeTable p w N ⟨E_ w.params,Ke [],boot_drawn,boot_toks,os⟩=some sT.abs:=by
  unfold topFrom;dsimp only;rw [z1,z2,z3,r];show (match staticsOk (importedModules p.main.body) (E_ w.params) sT.abs.heap && namesBound p sT.abs.heap && gensDone sT.abs && laidKept (E_ w.params) sT.abs.heap with|true=>_|false=>_)=_;rw [l1]
 unfold openEnds;rw [e];show (topFrom treeTable p w N _).map _=_;rw [t];exact congrArg some (Prod.ext l2 l3)
noncomputable def zhE(P:LW)(x:Str)(t:Nat)(v:Value):MY:=⟨PyData.keyHash P x,.str x t,v⟩
noncomputable def zhT(xs:List Value):Obj:=⟨.type "tuple",none,.seq xs.toArray 0,#[]⟩
noncomputable def zhF(xs:List Value):Obj:=⟨.none,none,.fields xs.toArray,#[]⟩
noncomputable def zhD(es:List MY)(n:Nat):Obj:=⟨.type "dict",none,.dict es.toArray n,#[]⟩
noncomputable def zhG(c:Str)(xs:List Value):Obj:=⟨.type c.toString,none,.fields xs.toArray,#[]⟩
noncomputable def Di(xs:List Obj):List (Nat×Obj)->List Obj
 | []=>xs
 | p::r=>Di (xs.set p.1 p.2) r
noncomputable def zhM(p:pj)(i j:Nat):Stmt:=match p.main.body.getD i (.Pass ⟨0,0,0,0⟩) with
 | .ClassDef _ _ _ body _ _ _ _ _ _ _=>body.getD j (.Pass ⟨0,0,0,0⟩)
 | s=>s
noncomputable def zhN(k:Value)(s:Stmt)(x q:Str)(g:Addr)(m c:Value):Obj:=match s with
 | .FunctionDef _ a b _ _ _ sc _ _ _=>⟨k,none,.func { name:=x,qualname:=q,params:=a,body:=.stmts b,scope:=sc,globals:=g,closure:=[],defaults:=.none,kwdefaults:=.none,pyModule:=m,code:=c },#[]⟩
 | _=>default
noncomputable def zhK(x q:Str)(t l n f e:Nat)(b:Bool)(j k r:Value)(u:Nat):Obj:=⟨.type "code",none,.fields #[.str x t,.str q (t+1),.str "/claim/cut.py" (t+2),.int l 0,.int n 0,.int 0 0,.int 0 0,.int f 0,.ref e,.bool b,.int 181 0,.ref (e+1),.none,j,k,r,.int u 0,.int l 0,.str "/claim/cut.py" (u+1)],#[]⟩
noncomputable def zhQ:Value:=.str "shortglue.errors" 187
noncomputable def zhU(P:LW)(x:Str)(a t l n:Nat)(es:List MY)(f:List Value):List Obj:=[zhT [.ref 24],zhG "builtin_function_or_method" [.builtin "type.__prepare__",.type "type"],zhD (zhE P "__module__" (t+7) zhQ::zhE P "__qualname__" (t+9) (.str x (t+8))::zhE P "__firstlineno__" (t+11) (.int l (t+10))::es) n,zhT [],zhF f,zhK x x (t+2) l 0 0 (a+3) false .none .none .none (t+5),⟨.type "frame",none,.plain,#[some (.ref (a+5)),some (.ref 3),some (.ref (a+2)),none,some zhQ,none,some (.ref 0)]⟩,zhT []]
noncomputable def zhV(P:LW)(x:Str)(a t l c:Nat)(es:List MY):List Obj:=[zhD (zhE P "__module__" (t+7) zhQ::zhE P "__firstlineno__" (t+11) (.int l (t+10))::es) 2,⟨.type "type",none,.cls { name:=x,bases:=[.ref 24],mro:=[.ref c,.ref 24,.type "ValueError",.type "Exception",.type "BaseException",.type "object"],ns:=c - 1,qualname:=x,hasDict:=true,slotNames:=[],subclasses:=[],abstract:=false,collection:=none,hasDel:=false },#[some (.ref a),none,some (.str x t),some (.str x (t+8)),some (.builtin "ValueError.__new__"),some (.bool true)]⟩,zhG "super" [.ref c,.ref c,.ref c],zhG "builtin_function_or_method" [.builtin "object.__init_subclass__",.ref c]]
noncomputable def zhX(P:LW)(x:Str)(a t l:Nat):List Obj:=zhU P x a t l 4 [zhE P "__static_attributes__" (t+12) (.ref (a+7))] []++zhV P x a t l (a+9) [zhE P "__static_attributes__" (t+12) (.ref (a+7)),zhE P "__doc__" (t+13) .none]
noncomputable def zhY(P:LW)(p:pj)(x q f:Str)(i a t l:Nat):List Obj:=zhU P x a t l 5 [zhE P "__init__" (t+19) (.ref (a+13)),zhE P "__static_attributes__" (t+21) (.ref (a+14))] [.int (l+2:Nat) 0,.int 4 0,.ref (a+12)]++[zhF [],zhT [.str "self" (t+15),.str f (t+16)],zhT [],zhN .none (zhM p i 0) "__init__" q 0 .none .none,zhK "__init__" q (t+12) (l+2) 2 3 (a+7) true (.ref (a+9)) (.ref (a+10)) (.ref (a+11)) (t+17),zhN (.type "function") (zhM p i 0) "__init__" q 3 zhQ (.ref (a+12)),zhT [.str f (t+20)]]++zhV P x a t l (a+16) [zhE P "__init__" (t+19) (.ref (a+13)),zhE P "__static_attributes__" (t+21) (.ref (a+14)),zhE P "__doc__" (t+22) .none]
end L2
section
open PySem PySem.W PyProof.Rows L2
noncomputable def zzA(P:LW):BT:=t5 ((E_ P).objs.toList++[zhT [],
  zhF [],
  ⟨(.type "code"),none,(.fields #[(.str "<module>" 182),(.str "<module>" 183),(.str "/claim/cut.py" 184),(.int (1) 0),(.int (0) 0),(.int (0) 0),(.int (0) 0),(.int (0) 0),(.ref 11),(.bool false),(.int (181) 0),(.ref 12),.none,.none,.none,.none,(.int (185) 0),(.int (1) 0),(.str "/claim/cut.py" 186)]),#[]⟩,
  ⟨(.type "frame"),none,.plain,#[(some (.ref 13)),(some (.ref 3)),(some (.ref 3)),none,(some (.str "__main__" 164)),none,(some (.ref 0))]⟩]) 0 .nil
noncomputable def zz1(P:LW):BT:=t5 (Di (E_ P).objs.toList [(3,zhD [zhE P "__name__" 165 (.str "shortglue.errors" 187),zhE P "__doc__" 166 .none,zhE P "__package__" 167 .none,zhE P "__loader__" 168 (.builtin "__main__.__loader__#opaque"),zhE P "__spec__" 169 .none,zhE P "__annotations__" 170 (.ref 6),zhE P "__builtins__" 171 (.ref 4),zhE P "__file__" 173 (.str "/claim/cut.py" 172),zhE P "__cached__" 174 .none,zhE P "GlueError" 206 (.ref 24),zhE P "TooMany" 231 (.ref 44),zhE P "NoPiece" 256 (.ref 63),zhE P "NoOrder" 272 (.ref 75),zhE P "NotHeld" 297 (.ref 94),zhE P "TooGreat" 322 (.ref 113),zhE P "NotApart" 347 (.ref 132),zhE P "NoCounts" 372 (.ref 151)] 17)]++[zhT [],
  zhF [(.int (2) 0),(.int (0) 0),(.ref 20),(.int (4) 0),(.int (0) 0),(.ref 33),(.int (8) 0),(.int (0) 0),(.ref 52),(.int (12) 0),(.int (0) 0),(.ref 71),(.int (14) 0),(.int (0) 0),(.ref 83),(.int (18) 0),(.int (0) 0),(.ref 102),(.int (22) 0),(.int (0) 0),(.ref 121),(.int (26) 0),(.int (0) 0),(.ref 140)],
  ⟨(.type "code"),none,(.fields #[(.str "<module>" 182),(.str "<module>" 183),(.str "/claim/cut.py" 184),(.int (1) 0),(.int (0) 0),(.int (0) 0),(.int (0) 0),(.int (0) 0),(.ref 11),(.bool false),(.int (181) 0),(.ref 12),.none,.none,.none,.none,(.int (185) 0),(.int (1) 0),(.str "/claim/cut.py" 186)]),#[]⟩,
  ⟨(.type "frame"),none,.plain,#[(some (.ref 13)),(some (.ref 3)),(some (.ref 3)),none,(some (.str "__main__" 164)),none,(some (.ref 0))]⟩,
  zhT [(.type "ValueError")],
  zhG "builtin_function_or_method" [(.builtin "type.__prepare__"),(.type "type")],
  zhD [zhE P "__module__" 196 (.str "shortglue.errors" 187),zhE P "__qualname__" 198 (.str "GlueError" 197),zhE P "__firstlineno__" 200 (.int (2) 199),zhE P "__static_attributes__" 201 (.ref 22)] 4,
  zhT [],
  zhF [],
  ⟨(.type "code"),none,(.fields #[(.str "GlueError" 191),(.str "GlueError" 192),(.str "/claim/cut.py" 193),(.int (2) 0),(.int (0) 0),(.int (0) 0),(.int (0) 0),(.int (0) 0),(.ref 18),(.bool false),(.int (181) 0),(.ref 19),.none,.none,.none,.none,(.int (194) 0),(.int (2) 0),(.str "/claim/cut.py" 195)]),#[]⟩,
  ⟨(.type "frame"),none,.plain,#[(some (.ref 20)),(some (.ref 3)),(some (.ref 17)),none,(some (.str "shortglue.errors" 187)),none,(some (.ref 0))]⟩,
  zhT [],
  zhD [zhE P "__module__" 196 (.str "shortglue.errors" 187),zhE P "__firstlineno__" 200 (.int (2) 199),zhE P "__static_attributes__" 201 (.ref 22),zhE P "__weakref__" 203 (.ref 25),zhE P "__doc__" 204 .none] 3,
  ⟨(.type "type"),none,(.cls { name:="GlueError",bases:=[(.type "ValueError")],mro:=[(.ref 24),(.type "ValueError"),(.type "Exception"),(.type "BaseException"),(.type "object")],ns:=23,qualname:="GlueError",hasDict:=true,slotNames:=[],subclasses:=[(.ref 44),(.ref 63),(.ref 75),(.ref 94),(.ref 113),(.ref 132),(.ref 151)],abstract:=false,collection:=none,hasDel:=false }),#[(some (.ref 15)),none,(some (.str "GlueError" 189)),(some (.str "GlueError" 197)),(some (.builtin "ValueError.__new__")),(some (.bool true))]⟩,
  ⟨(.type "getset_descriptor"),none,(.fields #[(.str "__weakref__" 202),(.ref 24),(.builtin "ExceptionGroup.__weakref__"),.none]),#[]⟩,
  zhG "super" [(.ref 24),(.ref 24),(.ref 24)],
  zhG "builtin_function_or_method" [(.builtin "object.__init_subclass__"),(.ref 24)]]++zhY P PySem.Challenge.pw_shortglue_k54_row_in "TooMany" "TooMany.__init__" "most" 2 28 207 4++zhY P PySem.Challenge.pw_shortglue_k54_row_in "NoPiece" "NoPiece.__init__" "at" 3 47 232 8++zhX P "NoOrder" 66 257 12++zhY P PySem.Challenge.pw_shortglue_k54_row_in "NotHeld" "NotHeld.__init__" "at" 5 78 273 14++zhY P PySem.Challenge.pw_shortglue_k54_row_in "TooGreat" "TooGreat.__init__" "most" 6 97 298 18++zhY P PySem.Challenge.pw_shortglue_k54_row_in "NotApart" "NotApart.__init__" "at" 7 116 323 22++zhY P PySem.Challenge.pw_shortglue_k54_row_in "NoCounts" "NoCounts.__init__" "at" 8 135 348 26) 0 .nil
noncomputable def zzV:Env:={ scope:=(PySem.Challenge.pw_shortglue_k54_row_in).main.scope,locals:=mainNs,globals:=mainNs,cells:=[],code:=(.ref 13),frame:=some 14 }
abbrev zzC:Code:=.body ((behindTheImports PySem.Challenge.pw_shortglue_k54_row_in).take 9++(behindTheImports PySem.Challenge.pw_shortglue_k54_row_in).drop 9) zzV
abbrev Dj(w:World)(os:J6):SharedT:=⟨zzA w.params,15,(E_ w.params).life,Ke [],boot_drawn,187,os⟩
abbrev Hb(w:World)(os:J6):SharedT:=⟨zz1 w.params,154,(E_ w.params).life,Ke [],boot_drawn,373,os⟩
theorem Dk:∀(w:World) (os:J6),topGo treeTable PySem.Challenge.pw_shortglue_k54_row_in w 11 (some (.ref 6)) 12 ⟨E_ w.params,Ke [],boot_drawn,boot_toks,os⟩ (topStub PySem.Challenge.pw_shortglue_k54_row_in)=some ((Dj w os).abs,⟨denote treeTable zzC,zzC,⟨0,0,0,0⟩,[topFrame ⟨0,0,0,0⟩]⟩):=by intro w os;kernel_rfl
theorem Dl:∀(w:World) (os:J6),segRun treeTable PySem.Challenge.pw_shortglue_k54_row_in w 11 (some (.ref 6)) 1 1 (Dj w os).abs (blockOf ((behindTheImports PySem.Challenge.pw_shortglue_k54_row_in).take 9++(behindTheImports PySem.Challenge.pw_shortglue_k54_row_in).drop 9) zzV zzC ⟨0,0,0,0⟩ [topFrame ⟨0,0,0,0⟩])=some (.next,(Dj w os).abs,zzC,⟨0,0,0,0⟩):=by intro w os;kernel_rfl
theorem Dm:∀(w:World) (os:J6),segRunT treeTable PySem.Challenge.pw_shortglue_k54_row_in w 11 (some (.ref 6)) 1 1879 (Dj w os) (piecesOf ((behindTheImports PySem.Challenge.pw_shortglue_k54_row_in).take 9) zzV zzC ⟨0,0,0,0⟩ [topFrame ⟨0,0,0,0⟩])=some (.next,Hb w os,zzC,⟨26,0,29,20⟩):=by intro w os;kernel_rfl
end
section
open PySem PySem.W PyProof.Rows
noncomputable def Bg:pj:=PySem.W.view PySem.Challenge.pw_shortglue_k54_row_in [1,2,3,4,5,6,7,8,10,11,12,14,15,17,18,19,21,22,23,25,26,27,29,31,32,33,34,35,36,37,38,39,41,42,43,44,45,46,47,48,49,50,51,52,53,54,55,56,57,58,59,60,61,62,63,64,65,66]
local macro_rules | `(tactic| o_head $H)=>`(tactic| (refine holds_open (q:=Bg) (loose:=[PySem.Str.ofString "is_text"]) (Xt:=fun s=>xlAt Bg [] s && recOk (RowW.records (OpenRow.toRowW (OpenLaw.row PySem.Challenge.rw_shortglue_k54_row_in))) s) (XP:=XL Bg []) (Yf:=Hook.obs $H) (Ya:=Hook.val $H) (YP:=Hook.says $H) (N:=3608) ?hl (Hook.of $H) (Hook.keeps $H) (fun s e=>xl_of s (and_eq_true_iff.mp e).1) XL.keeps (by rfl) (by rfl) (by rfl) (fun s e=>recFacts_of (and_eq_true_iff.mp e).2) (by rfl) (by first | assumption | decide +kernel) (by decide +kernel) ⟨rfl,rfl,rfl,rfl,rfl,by decide +kernel⟩ ?hw ?hc;(case hl=>(refine L2.Bf (m₀:=11) (ann:=some (.ref 6)) (SA:=Dj) (S1:=Hb) (n2:=1716) (by kernel_rfl) (by rfl) (fun s=>by kernel_rfl) (fun w=>by kernel_rfl) Dk Dl Dm (by rfl) ?_;intro w os;kernel_rfl))))
set_option maxRecDepth 100000 in
set_option maxHeartbeats 0 in
open_top topHd for PySem.Challenge.rw_shortglue_k54_row_in
end
-- CHANGE: your row's module here,as the last of these rows
namespace L2
open PySem PySem.Spec PyProof.Rows
abbrev Key:=Sum Int Str
noncomputable def Do:Key->Value->Bool
 | .inl k,v=>Value.isInt k v
 | .inr x,v=>Value.isStrOf x v
noncomputable def HS(w:World):Key->Int
 | .inl k=>hashInt k
 | .inr x=>hashStr w x
theorem bJ:∀{k:Key}{v:Value},Do k v=true->(∃i t,k=MZ i/\v=La i t)\/(∃x t,k=M0 x/\v=Kr x t)
 | .inl i,v,h=>by
  obtain⟨t,e⟩:=Value.isInt_shape (k:=i) (v:=v) h;exact .inl ⟨i,t,rfl,e⟩
 | .inr x,v,h=>by
  obtain⟨t,e⟩:=Value.isStrOf_shape (x:=x) (v:=v) h;exact .inr ⟨x,t,rfl,e⟩
def Dp(a b:Int):decide ((MZ a:Key)=MZ b)=(a == b):=by
 by_cases e:a=b
 .subst e;simp
 .have h:¬ (MZ a:Key)=MZ b:=λq=>e (Sum.inl.inj q);rw [decide_eq_false h];exact (beq_eq_false_iff_ne.mpr e).symm
def Dq(a b:Str):decide ((M0 a:Key)=M0 b)=decide (a=b):=by
 by_cases e:a=b
 .subst e;simp
 .have h:¬ (M0 a:Key)=M0 b:=λq=>e (Sum.inr.inj q);rw [decide_eq_false h,decide_eq_false e]
def Dr(a:Int)(b:Str):decide ((MZ a:Key)=M0 b)=false:=decide_eq_false (λq=>nomatch q)
def Ds(a:Str)(b:Int):decide ((M0 a:Key)=MZ b)=false:=decide_eq_false (λq=>nomatch q)
noncomputable def rM(prog:pj)(w:World):PySem.KeyKind prog w Key where
 is:=Do
 hash:=HS w
 inj:=λv a b ha hb=>by
  rcases bJ ha with ⟨i,t,rfl,rfl⟩|⟨x,t,rfl,rfl⟩
  .rcases bJ hb with ⟨j,u,rfl,e⟩|⟨y,u,rfl,e⟩
   .injection e with e1 _;rw [e1]
   .exact nomatch e
  .rcases bJ hb with ⟨j,u,rfl,e⟩|⟨y,u,rfl,e⟩
   .exact nomatch e
   .injection e with e1 _;rw [e1]
 byValue:=λk v h=>by
  rcases bJ h with ⟨i,t,rfl,rfl⟩|⟨x,t,rfl,rfl⟩ <;> rfl
 pyHash:=λhv h=>by
  rcases bJ hv with ⟨i,t,rfl,rfl⟩|⟨x,t,rfl,rfl⟩
  .exact wpAny_pyHash_int h
  .exact wpAny_pyHash_str h
 eqBool:=λhu hv h=>by
  rcases bJ hu with ⟨i,t,rfl,rfl⟩|⟨x,t,rfl,rfl⟩
  .rcases bJ hv with ⟨j,u,rfl,rfl⟩|⟨y,u,rfl,rfl⟩
   .rw [Dp] at h;exact wpAny_eqBool_int h
   .rw [Dr] at h;exact SeqAt.EqAt.int_str i t y u _ _ _ _ h
  .rcases bJ hv with ⟨j,u,rfl,rfl⟩|⟨y,u,rfl,rfl⟩
   .rw [Ds] at h;exact SeqAt.EqAt.str_int x t j u _ _ _ _ h
   .rw [Dq] at h;exact wpAny_eqBool_str h
 «strs»:=λk x t v h=>by
  rcases bJ h with ⟨i,u,rfl,e⟩|⟨y,u,rfl,e⟩
  .exact nomatch e
  .injection e with e1 _;subst e1;cases v <;> rfl
inductive V where
 | non|bl (b:Bool)|int (i:Int)|str (x:Str)|byt (b:Array UInt8)|flt (b:UInt64)|ref (a:Addr)|ty (n:String)
 deriving DecidableEq
noncomputable def cv:V->Value->Prop
 | .non,u=>u=IJ
 | .bl b,u=>u=JM b
 | .int i,u=>∃t,u=La i t
 | .str x,u=>∃t,u=Kr x t
 | .byt b,u=>∃t,u=Value.bytes b t
 | .flt b,u=>∃t,u=L_ b t
 | .ref a,u=>u=gV a
 | .ty n,u=>u=Jx n
abbrev bD:List V->List Value->Prop:=Paired cv
def bD.length{xs:List V}{us:List Value}(r:bD xs us):xs.length=us.length:=Paired.length r
theorem bD.get:∀{xs:List V}{us:List Value}{i:Nat}{x:V},bD xs us->xs[i]?=some x->∃u,us[i]?=some u/\cv x u
 | _,_,_,_,.nil,e=>by simp at e
 | _,_,0,_,.cons r _,e=>by simp at e;subst e;exact⟨_,rfl,r⟩
 | _,_,i+1,x,.cons _ t,e=>by
  obtain⟨u,h1,h2⟩:=bD.get (i:=i) (x:=x) t (by simpa using e);exact⟨u,by simpa using h1,h2⟩
theorem bD.set{x:V}{u:Value}(r:cv x u):∀{xs:List V}{us:List Value} (i:Nat),bD xs us->bD (xs.set i x) (us.set i u)
 | _,_,_,.nil=>.nil
 | _,_,0,.cons _ t=>.cons r t
 | _,_,i+1,.cons q t=>.cons q (bD.set r i t)
theorem bD.append:∀{xs ys:List V}{us ws:List Value},bD xs us->bD ys ws->bD (xs++ys) (us++ws)
 | _,_,_,_,.nil,s=>s
 | _,_,_,_,.cons r t,s=>.cons r (bD.append t s)
theorem bD.take:∀{xs:List V}{us:List Value} (n:Nat),bD xs us->bD (xs.take n) (us.take n)
 | _,_,0,_=>.nil
 | _,_,_+1,.nil=>.nil
 | _,_,n+1,.cons r t=>.cons r (bD.take n t)
theorem bD.drop:∀{xs:List V}{us:List Value} (n:Nat),bD xs us->bD (xs.drop n) (us.drop n)
 | _,_,0,r=>r
 | _,_,_+1,.nil=>.nil
 | _,_,n+1,.cons _ t=>bD.drop n t
noncomputable def yD:Option V->Option Value->Prop
 | some v,some u=>cv v u
 | none,none=>True
 | _,_=>False
noncomputable def KV{κ:Type}:List (κ×V)->List (κ×Value)->Prop:=Paired λ(p:κ×V) (q:κ×Value)=>p.1=q.1/\cv p.2 q.2
noncomputable def kV:Key->V
 | .inl i=>.int i
 | .inr x=>.str x
inductive HO where
 | lst (xs:List V)
 | tup (xs:List V)
 | dK (kvs:List (Key×V))|dT (kvs:List (List Key×V))
 | set (S:Int->Bool) (n:Nat)
 | ins (C dx:Addr) (fs:List (Str×V))
 | own (x:Addr)
 | xd (fs:List (Str×V))
 | met (f x:Addr)
 | rng (lo hi:Int)
 | frz (o:Obj) (u:HO)
 | tbl (ps:Array Value)
 | ext (φ:Heap->Prop)
abbrev Hp:=Addr->Option HO
noncomputable def upd(H:Hp)(a:Addr)(o:HO):Hp:=λb=>if b=a then some o else H b
def aB{H:Hp}{a:Addr}{o:HO}:upd H a o a=some o:=by unfold upd;rw [if_pos rfl]
def au{H:Hp}{a b:Addr}{o:HO}(h:b≠a):upd H a o b=H b:=by unfold upd;rw [if_neg h]
def aM{H:Hp}{a b:Addr}{o:HO}(h:H a=some o)(h':H b=none):a≠b:=by
 intro e;subst e;rw [h] at h';cases h'
section
variable (P:pj) (w:World)
noncomputable def bn(H:Hp)(h:Heap)(a:Addr):HO->Prop
 | .lst xs=>xs.length<=sizeLine/\∃(its:List Value) (n:Nat),bD xs its/\h.get? a=some { cls:=.type "list",data:=.seq its.toArray n }
 | .tup xs=>xs.length<=sizeLine/\∃its:List Value,bD xs its/\IsTup h a its.toArray
 | .dK kvs=>kvs.length<=sizeLine/\(a == sysModules)=false/\∃vs,KV kvs vs/\h.DictOf (rM P w) a vs
 | .dT kvs=>kvs.length<=sizeLine/\(a == sysModules)=false/\∃xs:List (List Key×Addr×Value),
   Paired (λ(p:List Key×V) (q:List Key×Addr×Value)=>p.1=q.1/\H q.2.1=some (.tup (p.1.map kV))/\cv p.2 q.2.2) kvs xs /\
   ∃o es ep,h.get? a=some o/\o.ExactDict/\o.data=.dict es ep/\es.toList=xs.map (entryOfKey (tupleKind (rM P w)))/\(xs.map (·.1)).Nodup
 | .set S n=>h.SetOf (intKind P w) a S n
 | .ins C dx fs=>H dx=some (.own a)/\fs.length<=1000/\dx≠a/\h.get? a=some (JF C dx) /\
   ∃mA,h.Ns1 dx mA/\(∀f,yD (fs.lookup f) (mA f))/\M7 mA (fs.map (·.1))
 | .own _=>∃o,h.get? a=some o
 | .xd fs=>∃mA,h.Ns1 a mA/\∀f,yD (fs.lookup f) (mA f)
 | .rng lo hi=>∃t u v,h.get? a=some { cls:=.type "range",data:=.fields #[.int lo t,.int hi u,.int 1 v] }
 | .frz o u=>h.get? a=some o/\bn H h a u
 | .tbl ps=>h.get? a=some { cls:=.none,data:=.fields ps }
 | .met f x=>h.get? a=some (Ma (.ref f) (.ref x))
 | .ext φ=>φ h/\(∃o,h.get? a=some o)/\∀h1 h2:Heap,φ h1->(∀o,h1.get? a=some o->h2.get? a=some o)->φ h2
noncomputable def HOk(H:Hp)(h:Heap):Prop:=∀a o,H a=some o->bn P w H h a o
end
section
variable {P:pj}{w:World}{H H':Hp}{h h':Heap}{a:Addr}{o:HO}
def bn.lt(x:bn P w H h a o):a<h.objs.size:=by
 cases o with
 | lst xs=>obtain⟨_,_,_,_,e⟩:=x;exact m_ e
 | tup xs=>obtain⟨_,_,_,p⟩:=x;exact p.lt
 | dK kvs=>obtain⟨_,_,_,_,o,_,_,e,_⟩:=x;exact m_ e
 | dT kvs=>obtain⟨_,_,_,_,o,_,_,e,_⟩:=x;exact m_ e
 | set S n=>obtain⟨o,_,_,_,e,_⟩:=x;exact m_ e
 | ins C dx fs=>obtain⟨_,_,_,e,_⟩:=x;exact m_ e
 | own y=>obtain⟨_,e⟩:=x;exact m_ e
 | xd fs=>obtain⟨_,⟨_,_,_,e,_⟩,_⟩:=x;exact m_ e
 | rng lo hi=>obtain⟨_,_,_,e⟩:=x;exact m_ e
 | frz ob u=>obtain⟨e,_⟩:=x;exact m_ e
 | tbl ps=>exact m_ (show h.get? a=some _ from x)
 | met f y=>exact m_ (show h.get? a=some _ from x)
 | ext φ=>obtain⟨_,⟨_,e⟩,_⟩:=x;exact m_ e
theorem Paired.mapP{α β:Type}{F G:α->β->Prop}:∀{l₁:List α}{l₂:List β},Paired F l₁ l₂->(∀a b,F a b->G a b)->Paired G l₁ l₂
 | _,_,.nil,_=>.nil
 | _,_,.cons r t,f=>.cons (f _ _ r) (Paired.mapP t f)
def bn.stay(x:bn P w H h a o)(k:∀b u,(b=a\/H b=some (.own a))->h.get? b=some u->h'.get? b=some u)
  (ho:∀b,H b=some (.own a)->H' b=some (.own a)) (ht:∀b xs,H b=some (.tup xs)->H' b=some (.tup xs)):bn P w H' h' a o:=by
 induction o with
 | lst xs=>obtain⟨z,its,n,r,e⟩:=x;exact⟨z,its,n,r,k _ _ (.inl rfl) e⟩
 | tup xs=>obtain⟨z,its,r,ob,e,c⟩:=x;exact⟨z,its,r,ob,k _ _ (.inl rfl) e,c⟩
 | dK kvs=>obtain⟨z,y,vs,r,ob,es,ep,e,c⟩:=x;exact⟨z,y,vs,r,ob,es,ep,k _ _ (.inl rfl) e,c⟩
 | dT kvs =>
  obtain⟨z,y,xs,r,ob,es,ep,e,c⟩:=x;exact⟨z,y,xs,Paired.mapP r λp q z=>⟨z.1,ht _ _ z.2.1,z.2.2⟩,ob,es,ep,k _ _ (.inl rfl) e,c⟩
 | set S n=>obtain⟨ob,es,ep,t,e,c⟩:=x;exact⟨ob,es,ep,t,k _ _ (.inl rfl) e,c⟩
 | ins C dx fs =>
  obtain⟨d,z,ne,e,mA,⟨od,es,ep,e2,c⟩,r⟩:=x;exact⟨ho _ d,z,ne,k _ _ (.inl rfl) e,mA,⟨od,es,ep,k _ _ (.inr d) e2,c⟩,r⟩
 | own y=>obtain⟨ob,e⟩:=x;exact⟨ob,k _ _ (.inl rfl) e⟩
 | xd fs=>obtain⟨mA,⟨od,es,ep,e,c⟩,r⟩:=x;exact⟨mA,⟨od,es,ep,k _ _ (.inl rfl) e,c⟩,r⟩
 | rng lo hi=>obtain⟨t,u,v,e⟩:=x;exact⟨t,u,v,k _ _ (.inl rfl) e⟩
 | frz ob u ih=>obtain⟨e,q⟩:=x;exact⟨k _ _ (.inl rfl) e,ih q⟩
 | tbl ps =>
  have e:h.get? a=some { cls:=.none,data:=.fields ps }:=x;show h'.get? a=some { cls:=.none,data:=.fields ps };exact k a _ (.inl rfl) e
 | met f y =>
  have e:h.get? a=some (Ma (.ref f) (.ref y)):=x;show h'.get? a=some (Ma (.ref f) (.ref y));exact k a _ (.inl rfl) e
 | ext φ=>obtain⟨p,⟨o,e⟩,st⟩:=x;exact⟨st _ _ p λo q=>k _ _ (.inl rfl) q,⟨o,k _ _ (.inl rfl) e⟩,st⟩
def HOk.lt(x:HOk P w H h)(e:H a=some o):a<h.objs.size:=(x a o e).lt
def HOk.fresh(x:HOk P w H h)(e:h.objs.size<=a):H a=none:=by
 cases q:H a with
 | none=>rfl
 | some u=>exact absurd (tj (x.lt q) e) (IV _)
def HOk.kept(x:HOk P w H h)(k:∀b u,h.get? b=some u->h'.get? b=some u):HOk P w H h':=λa o e =>
 (x a o e).stay (λb u _ q=>k b u q) (λ_ q=>q) λ_ _ q=>q
def HOk.laid(x:HOk P w H h)(k:∀b u,h.get? b=some u->h'.get? b=some u)(hp:h.objs.size<=a)(new:bn P w (upd H a o) h' a o):HOk P w (upd H a o) h':=λb u e=>by
 have hn:=x.fresh hp
 by_cases hb:b=a
 .subst hb;rw [aB] at e;cases e;exact new
 .rw [au hb] at e;exact (x b u e).stay (λc v _ q=>k c v q) (λc q=>by rw [au (aM q hn)];exact q) λc xs q=>by rw [au (aM q hn)];exact q
end
noncomputable def Rd(H:Hp)(a:Addr)(u:HO):Prop:=H a=some u\/∃o,H a=some (.frz o u)
def Rd.ok{P:pj}{w:World}{H:Hp}{h:Heap}{a:Addr}{u:HO}(r:Rd H a u)(x:HOk P w H h):bn P w H h a u:=by
 rcases r with r|⟨o,r⟩
 .exact x a u r
 .obtain⟨_,q⟩:=x a _ r;exact q
noncomputable def Mut:Option HO->Prop
 | some (.lst _)=>True
 | some (.dK _)=>True
 | some (.dT _)=>True
 | some (.set _ _)=>True
 | some (.ins _ _ _)=>True
 | some (.ext _)=>True
 | _=>False
section
variable {P:pj}{w:World}{H:Hp}{h h':Heap}{x e:Addr}{o':HO}
def HOk.write(ok:HOk P w H h)(mu:Mut (H x))(he:e=x\/H e=some (.own x))(k:∀b u,b≠e->h.get? b=some u->h'.get? b=some u)(heo:∃u,h'.get? e=some u)
  (new:bn P w (upd H x o') h' x o'):HOk P w (upd H x o') h':=λb u q=>by
 have nown:∀c y,H c=some (.own y)->c≠x:=λc y r z=>by subst z;rw [r] at mu;exact mu
 have ntup:∀c xs,H c=some (.tup xs)->c≠x:=λc xs r z=>by subst z;rw [r] at mu;exact mu
 by_cases hb:b=x
 .subst hb;rw [aB] at q;cases q;exact new
 .rw [au hb] at q
  by_cases hbe:b=e
  .have q':H b=some (.own x):=by
    rcases he with z|z
    .exact absurd (hbe.trans z) hb
    .rw [hbe];exact z
   rw [q] at q';cases q';obtain⟨v,hv⟩:=heo;exact⟨v,by rw [hbe];exact hv⟩
  .refine (ok b u q).stay (λc v hc r=>k c v ?_ r) (λc r=>by rw [au (nown c b r)];exact r) λc xs r=>by rw [au (ntup c xs r)];exact r
   rcases hc with rfl|hc
   .exact hbe
   .rintro rfl
    rcases he with z|z
    .exact nown c b hc z
    .rw [hc] at z;cases z;exact hb rfl
end
structure Un (fs ex:List Addr) (H H':Hp) (h h':Heap):Prop where
 keep:∀b o,h.get? b=some o->H b=none->b∉fs->b∉ex->h'.get? b=some o
 slot:∀b o,h.get? b=some o->H b=none->b∈fs->b∉ex->∃sl,h'.get? b=some { o with slots:=sl }
 free:∀b o,h.get? b=some o->H b=none->b∉ex->H' b=none
 there:∀b o,h.get? b=some o->b∉ex->∃o',h'.get? b=some o'
 tups:∀b xs,H b=some (.tup xs)->H' b=some (.tup xs)
 frzs:∀b o u,H b=some (.frz o u)->H' b=some (.frz o u)
 tbls:∀b ps,H b=some (.tbl ps)->∃more,H' b=some (.tbl (ps++more))
section
variable {fs fs' ex ex':List Addr}{H H1 H2:Hp}{h h1 h2 h':Heap}{a x e:Addr}{o:HO}
def Un.any(u:Un fs ex H H1 h h1){b:Addr}{ob:Obj}(q:h.get? b=some ob)(n:H b=none)(hx:b∉ex):∃sl,h1.get? b=some { ob with slots:=sl }:=by
 by_cases hb:b∈fs
 .exact u.slot b ob q n hb hx
 .exact⟨ob.slots,u.keep b ob q n hb hx⟩
def Un.kept(k:∀b u,h.get? b=some u->h'.get? b=some u):Un fs ex H H h h' :=
 ⟨λb ob q _ _ _=>k b ob q,λb ob q _ _ _=>⟨ob.slots,k b ob q⟩,λ_ _ _ n _=>n,λb ob q _=>⟨ob,k b ob q⟩,λ_ _ q=>q,λ_ _ _ q=>q,λ_ ps q=>⟨#[],by rw [q];simp⟩⟩
def Un.refl:Un fs ex H H h h:=Un.kept λ_ _ q=>q
def Un.laid(k:∀b u,h.get? b=some u->h'.get? b=some u)(hp:h.objs.size<=a)(hn:H a=none):Un fs ex H (upd H a o) h h' where
 keep:=λb u q _ _ _=>k b u q
 slot:=λb u q _ _ _=>⟨u.slots,k b u q⟩
 free:=λb u q n _=>by rw [au (A_ (tj (m_ q) hp))];exact n
 there:=λb u q _=>⟨u,k b u q⟩
 tups:=λb xs q=>by rw [au (aM q hn)];exact q
 frzs:=λb u xs q=>by rw [au (aM q hn)];exact q
 tbls:=λb ps q=>⟨#[],by rw [au (aM q hn),q];simp⟩
def Un.write(mu:Mut (H x))(he:e=x\/H e=some (.own x))(k:∀b u,b≠e->h.get? b=some u->h'.get? b=some u)(heo:∃u,h'.get? e=some u):Un fs ex H (upd H x o) h h':=by
 have hx:∀b,H b=none->b≠x:=λb n z=>by subst z;rw [n] at mu;exact mu
 have hb:∀b,H b=none->b≠e:=λb n z=>by
  subst z
  rcases he with r|r
  .exact hx b n r
  .rw [n] at r;cases r
 have hm:∀b u,H b=some u->¬ Mut (some u)->b≠x:=λb u q nm z=>by subst z;rw [q] at mu;exact nm mu
 refine⟨λb u q n _ _=>k b u (hb b n) q,λb u q n _ _=>⟨u.slots,k b u (hb b n) q⟩,λb u q n _=>by rw [au (hx b n)];exact n,λb u q _=>?_,
  λb xs q=>by rw [au (hm b _ q λz=>z)];exact q,λb u xs q=>by rw [au (hm b _ q λz=>z)];exact q,λb ps q=>⟨#[],by rw [au (hm b _ q λz=>z),q];simp⟩⟩
 by_cases hbe:b=e
 .subst hbe;exact heo
 .exact⟨u,k b u hbe q⟩
end
noncomputable def trk(h:Heap)(H:Hp):List Addr:=(g_ h.objs.size).filter λa=>(H a).isSome
noncomputable def yI(h:Heap)(H:Hp):Heap:=PySem.W.hideAll h (trk h H)
def vT(h:Heap)(H:Hp):(yI h H).objs.size=h.objs.size:=PySem.W.hideAll_size _ _
def yJ{h:Heap}{H:Hp}{b:Addr}{o:Obj}(e:h.get? b=some o)(n:H b=none):(yI h H).get? b=some o :=
 PySem.W.hideAll_get _ e λhm=>by
  have q:(H b).isSome=true:=(Jy.mp hm).2;rw [n] at q;simp at q
def Bh{h:Heap}{H:Hp}{b:Addr}{o:Obj}(e:(yI h H).get? b=some o):h.get? b=some o/\H b=none:=by
 have e':h.get? b=some o:=PySem.W.of_hideAll (trk h H) e;refine⟨e',?_⟩
 cases q:H b with
 | none=>rfl
 | some x =>
  have hm:b∈trk h H:=Jy.mpr ⟨IZ.mpr (m_ e'),by simp [q]⟩;have z:(yI h H).get? b=none:=PySem.W.hideAll_none (trk h H) hm;rw [z] at e;cases e
structure Mod (K:a_) (mg:Str->Option Value) (base:Heap):Prop where
 kin:K.In base
 glob:base.Ns mainGlobals mg
 blt:∃mb,base.Ns builtinsNs mb/\∀x:Str,x≠"__name__"->mb x=bootBuiltins x
 nolimit:base.NoLimit
structure Cx where
 prog:pj
 w:World
 K:a_
 mg:Str->Option Value
 base:Heap
 A:v_
 N:List Str
 s₀:cy
 H₀:Hp
 env:Env
 outer:List Env
 stack:List Env
 ex:List Addr
 fn:Str->Bool
 calm:Bool
 pn:List (Addr×Obj)
 xe:Value->cy->Prop
noncomputable def frs(l:List Env):List Addr:=l.filterMap (·.frame)
abbrev Cx.fs(X:Cx):List Addr:=frs X.outer
noncomputable def Vis(sc:Scope)(x:Str):Prop:=sc.names.lookup x=some .local\/sc.names.lookup x=some .cell\/sc.names.lookup x=some .free
noncomputable def Loc(sc:Scope)(x:Str):Prop:=sc.names.lookup x=some .local\/sc.names.lookup x=some .cell
noncomputable def HU(env:Env)(h:Heap)(m:Str->Option Value)(x:Str)(u:Value):Prop :=
 (env.kindOf x=some .local/\m x=some u)\/((env.kindOf x=some .cell\/env.kindOf x=some .free)/\∃c,env.cells.lookup x=some c/\h.IsCell c (some u))
structure Cx.Ok (X:Cx):Prop where
 mod:Mod X.K X.mg X.base
 kind:X.env.scope.kind=.function
 glob:X.env.globals=mainGlobals
 blt:X.env.builtins=builtinsNs
 above:X.s₀.heap.objs.size<=X.env.locals
 inj:∀x y c,X.env.cells.lookup x=some c->X.env.cells.lookup y=some c->x=y
 has:∀x,(X.env.kindOf x=some .cell\/X.env.kindOf x=some .free)->∃c,X.env.cells.lookup x=some c
 cab:∀x c,X.fn x=true->X.env.cells.lookup x=some c->X.s₀.heap.objs.size<=c
 hd:X.calm=true->X.A.handled=none
 frames:X.A.frames=some X.stack
 stk:X.stack=X.outer\/(X.stack=X.env::X.outer/\X.env.frame=some X.env.locals)
 exf:∀b∈X.ex,b≠X.env.locals/\∀x c,X.env.cells.lookup x=some c->c≠b
 bs:∀b o,X.base.get? b=some o->X.s₀.heap.get? b=some o/\X.H₀ b=none
 bsz:X.base.objs.size<=X.s₀.heap.objs.size
 noex:∀b o,X.base.get? b=some o->b∉X.ex
 exfs:∀b∈X.ex,b∉X.fs
 funs:X.s₀.heap.FunFrames X.base X.outer
 frf:∀b∈X.fs,X.H₀ b=none
structure Inv (X:Cx) (pins:List (Addr×Obj)) (σ:List (Option V)) (H:Hp) (s:cy):Prop where
 ok:X.Ok
 os:s.os=X.s₀.os
 bare:LK s.gens
 base:Un X.fs X.ex X.H₀ H X.s₀.heap s.heap
 loc:∃m,s.heap.Ns X.env.locals m/\∀(i:Nat) (x:Str) (v:V),X.N[i]?=some x->σ[i]?=some (some v)->Vis X.env.scope x->∃u,cv v u/\HU X.env s.heap m x u
 cell:∀x c,X.env.cells.lookup x=some c->∃v,s.heap.IsCell c v
 free:H X.env.locals=none
 freeC:∀x c,X.env.cells.lookup x=some c->H c=none
 pin:∀p∈X.pn++pins,s.heap.get? p.1=some p.2/\H p.1=none/\p.1≠X.env.locals/\p.1∉X.fs/\∀v,p.2.data≠.cell v
 hok:HOk X.prog X.w H s.heap
 len:σ.length=X.N.length
section
variable {X:Cx}{pins:List (Addr×Obj)}{σ:List (Option V)}{H H':Hp}{s:cy}{h':Heap}
def Cx.Ok.nofr(ok:X.Ok){b:Addr}{o:Obj}(e:X.base.get? b=some o):b∉X.fs:=λhb=>by
 have:=(ok.funs.mem hb).1;rw [e] at this;cases this
def Inv.bs(I:Inv X pins σ H s):∀b o,X.base.get? b=some o->s.heap.get? b=some o/\H b=none:=λb o e =>
 ⟨I.base.keep b o (I.ok.bs b o e).1 (I.ok.bs b o e).2 (I.ok.nofr e) (I.ok.noex b o e),I.base.free b o (I.ok.bs b o e).1 (I.ok.bs b o e).2 (I.ok.noex b o e)⟩
def Inv.bk(I:Inv X pins σ H s):∀b o,X.base.get? b=some o->s.heap.get? b=some o:=λb o e=>(I.bs b o e).1
def Inv.mod(I:Inv X pins σ H s):Mod X.K X.mg X.base:=I.ok.mod
def Inv.kIn(I:Inv X pins σ H s):X.K.In s.heap:=I.ok.mod.kin.keeps I.bk
def Inv.lt(I:Inv X pins σ H s):X.env.locals<s.heap.objs.size:=let ⟨_,hn,_⟩:=I.loc;hn.lt
def Inv.sz(I:Inv X pins σ H s):X.s₀.heap.objs.size<=s.heap.objs.size:=IG I.ok.above (MO I.lt)
def Inv.nofs(I:Inv X pins σ H s){a:Addr}(h:s.heap.objs.size<=a):a∉X.fs:=λhb=>by
 obtain⟨_,o,ho,_⟩:=I.ok.funs.mem hb;exact absurd (tj (m_ ho) (IG I.sz h)) (IV _)
def Inv.cne(I:Inv X pins σ H s):∀x c,X.env.cells.lookup x=some c->c≠X.env.locals:=λx c e z=>by
 obtain⟨v,o,ho,hd⟩:=I.cell x c e;obtain⟨m,⟨o',es,ep,ho',hd',_⟩,_⟩:=I.loc;rw [z,ho'] at ho;cases ho;rw [hd'] at hd;cases hd
def Inv.funs(I:Inv X pins σ H s):s.heap.FunFrames X.base X.outer:=by
 have all:∀(l:List Env),(∀b∈frs l,b∈X.fs)->X.s₀.heap.FunFrames X.base l->s.heap.FunFrames X.base l:=by
  intro l
  induction l with
  | nil=>intro _ _;trivial
  | cons env r ih =>
   intro hs hl;obtain⟨hk,⟨L,o,hf,hn,ho,hd⟩,hr⟩:=hl;have hL:L∈X.fs:=hs L (by unfold frs;rw [J9,hf];exact mem_cons_self);obtain⟨sl,e⟩:=I.base.slot L o ho (I.ok.frf L hL) hL λz=>I.ok.exfs L z hL;exact⟨hk,⟨L,_,hf,hn,e,hd⟩,ih (λb hb=>hs b (by unfold frs;rw [J9,hf];exact q_ _ hb)) hr⟩
 exact all X.outer (λ_ hb=>hb) I.ok.funs
def Inv.stack(I:Inv X pins σ H s):s.heap.FunFrames X.base X.stack:=by
 rcases I.ok.stk with e|⟨e,hf⟩
 .rw [e];exact I.funs
 .rw [e];obtain⟨m,hn,_⟩:=I.loc;refine .cons (by rw [I.ok.kind];decide) hf hn ?_ I.funs;exact JX (IG I.ok.bsz I.ok.above)
def Inv.stkSub(I:Inv X pins σ H s):∀b∈frs X.stack,b∈X.env.locals::X.fs:=λb hb=>by
 rcases I.ok.stk with e|⟨e,hf⟩
 .rw [e] at hb;exact q_ _ hb
 .rw [e] at hb;unfold frs at hb;rw [J9,hf] at hb;exact hb
def Inv.stkFree(I:Inv X pins σ H s):∀b∈frs X.stack,H b=none:=λb hb=>by
 rcases mem_cons.mp (I.stkSub b hb) with e|hb
 .rw [e];exact I.free
 .obtain⟨_,o,ho,_⟩:=I.ok.funs.mem hb;exact I.base.free b o ho (I.ok.frf b hb) λz=>I.ok.exfs b z hb
def Inv.step{g':Array KR}{t':Nat}{d':Drawn}{ch:List Addr}(I:Inv X pins σ H s)
  (hch:∀b∈ch,(b∈X.ex\/X.s₀.heap.objs.size<=b)/\b≠X.env.locals/\(∀x c,X.env.cells.lookup x=some c->c≠b)/\∀p∈X.pn++pins,p.1≠b)
  (keep:∀b o,b≠X.env.locals->b∉X.fs->b∉ch->s.heap.get? b=some o->H b=none->h'.get? b=some o)
  (slot:∀b o,b≠X.env.locals->b∈X.fs->b∉ch->s.heap.get? b=some o->H b=none->∃sl,h'.get? b=some { o with slots:=sl }) (free:∀b o,b∉ch->s.heap.get? b=some o->H b=none->H' b=none)
  (there:∀b o,b∉ch->s.heap.get? b=some o->∃o',h'.get? b=some o')
  (tups:∀b xs,H b=some (.tup xs)->H' b=some (.tup xs)) (frzs:∀b o u,H b=some (.frz o u)->H' b=some (.frz o u)) (tbls:∀b ps,H b=some (.tbl ps)->∃more,H' b=some (.tbl (ps++more)))
  (ns:∀m,s.heap.Ns X.env.locals m->h'.Ns X.env.locals m) (hok:HOk X.prog X.w H' h') (hg:LK g') :
  Inv X pins σ H' { s with heap:=h',gens:=g',drawn:=d',toks:=t' }:=by
 have neL:∀b o,X.s₀.heap.get? b=some o->b≠X.env.locals:=λb o e=>A_ (tj (m_ e) I.ok.above)
 have neC:∀b o,X.s₀.heap.get? b=some o->b∉X.ex->b∉ch:=λb o e hx hb=>by
  rcases (hch b hb).1 with z|z
  .exact hx z
  .exact absurd (tj (m_ e) z) (IV _)
 have cellK:∀x c,X.env.cells.lookup x=some c->∀v,s.heap.IsCell c v->h'.IsCell c v:=λx c e v ⟨o,ho,hd⟩=>by
  have nch:c∉ch:=λz=>(hch c z).2.2.1 x c e rfl
  by_cases hc:c∈X.fs
  .obtain⟨sl,q⟩:=slot c o (I.cne x c e) hc nch ho (I.freeC x c e);exact⟨_,q,hd⟩
  .exact⟨o,keep c o (I.cne x c e) hc nch ho (I.freeC x c e),hd⟩
 refine⟨I.ok,I.os,hg,⟨λb o e n hb hx=>?_,λb o e n hb hx=>?_,λb o e n hx=>?_,λb o e hx=>?_,λb xs e=>tups b xs (I.base.tups b xs e),λb o xs e=>frzs b o xs (I.base.frzs b o xs e),λb ps e=>?_⟩,?_,λx c e=>?_,?_,λx c e=>?_,λp hp=>?_,hok,I.len⟩
 .exact keep b o (neL b o e) hb (neC b o e hx) (I.base.keep b o e n hb hx) (I.base.free b o e n hx)
 .obtain⟨sl,e1⟩:=I.base.slot b o e n hb hx;obtain⟨sl',e2⟩:=slot b _ (neL b o e) hb (neC b o e hx) e1 (I.base.free b o e n hx);exact⟨sl',e2⟩
 .obtain⟨o',e1⟩:=I.base.there b o e hx;exact free b o' (neC b o e hx) e1 (I.base.free b o e n hx)
 .obtain⟨o',e1⟩:=I.base.there b o e hx;exact there b o' (neC b o e hx) e1
 .obtain⟨m1,e1⟩:=I.base.tbls b ps e;obtain⟨m2,e2⟩:=tbls b _ e1;exact⟨m1++m2,by rw [e2,Array.append_assoc]⟩
 .obtain⟨m,hn,hl⟩:=I.loc;refine⟨m,ns m hn,λi x v e1 e2 e3=>?_⟩;obtain⟨u,r,l⟩:=hl i x v e1 e2 e3;refine⟨u,r,?_⟩
  rcases l with l|⟨k,c,e,z⟩
  .exact .inl l
  .exact .inr ⟨k,c,e,cellK x c e _ z⟩
 .obtain⟨v,z⟩:=I.cell x c e;exact⟨v,cellK x c e v z⟩
 .obtain⟨m,⟨o,_,_,ho,_⟩,_⟩:=I.loc;exact free _ o (λz=>(hch _ z).2.1 rfl) ho I.free
 .obtain⟨v,o,ho,hd⟩:=I.cell x c e;exact free c o (λz=>(hch c z).2.2.1 x c e rfl) ho (I.freeC x c e)
 .obtain⟨e,n,ne,nf,d⟩:=I.pin p hp;have nch:p.1∉ch:=λz=>(hch p.1 z).2.2.2 p hp rfl;exact⟨keep p.1 p.2 ne nf nch e n,free p.1 p.2 nch e n,ne,nf,d⟩
def Inv.un{t':Nat}(I:Inv X pins σ H s)(u:Un X.fs [] H H' s.heap h')(hok:HOk X.prog X.w H' h'):Inv X pins σ H' { s with heap:=h',toks:=t' }:=by
 obtain⟨m,⟨o,es,ep,ho,r⟩,_⟩:=id I.loc;obtain⟨sl,hL⟩:=u.any ho I.free (by simp)
 exact I.step (g':=s.gens) (d':=s.drawn) (ch:=[]) (λ_ z=>nomatch z) (λb o _ hb _ e n=>u.keep b o e n hb (by simp)) (λb o _ hb _ e n=>u.slot b o e n hb (by simp)) (λb o _ e n=>u.free b o e n (by simp)) (λb o _ e=>u.there b o e (by simp)) u.tups u.frzs u.tbls (λm' hm=>by
  obtain⟨o',es',ep',ho',r'⟩:=hm;rw [ho] at ho';cases ho';exact⟨_,es',ep',hL,r'⟩) hok I.bare
def Inv.call{g':Array KR}{t':Nat}{d':Drawn}{ch:List Addr}(I:Inv X pins σ H s)(u:Un (frs X.stack) ch H H' s.heap h')(hok:HOk X.prog X.w H' h')(hg:LK g')
  (hch:∀b∈ch,(b∈X.ex\/X.s₀.heap.objs.size<=b)/\b≠X.env.locals/\(∀x c,X.env.cells.lookup x=some c->c≠b)/\∀p∈X.pn++pins,p.1≠b) :
  Inv X pins σ H' { s with heap:=h',gens:=g',drawn:=d',toks:=t' }:=by
 obtain⟨m,⟨o,es,ep,ho,r⟩,_⟩:=id I.loc;obtain⟨sl,hL⟩:=u.any ho I.free λz=>(hch _ z).2.1 rfl
 exact I.step (ch:=ch) hch (λb o hL hb hc e n=>u.keep b o e n (λz=>(mem_cons.mp (I.stkSub b z)).elim hL hb) hc) (λb o _ _ hc e n=>u.any e n hc) (λb o hc e n=>u.free b o e n hc) (λb o hc e=>u.there b o e hc) u.tups u.frzs u.tbls (λm' hm=>by
  obtain⟨o',es',ep',ho',r'⟩:=hm;rw [ho] at ho';cases ho';exact⟨_,es',ep',hL,r'⟩) hok hg
def Inv.turned{t':Nat}{it:Addr}(I:Inv X pins σ H s)(k:∀b o,b≠it->s.heap.get? b=some o->h'.get? b=some o)(hn:H it=none)(hL:it≠X.env.locals)
  (h1:it∈X.ex\/X.s₀.heap.objs.size<=it) (h2:∀x c,X.env.cells.lookup x=some c->c≠it) (h3:∀p∈X.pn++pins,p.1≠it):Inv X pins σ H { s with heap:=h',toks:=t' }:=by
 have nit:∀b u,H b=some u->b≠it:=λb u e z=>by rw [z,hn] at e;cases e
 refine I.step (g':=s.gens) (d':=s.drawn) (ch:=[it]) (λb hb=>?_) (λb o _ _ hc e _=>k b o (λz=>hc (by simp [z])) e) (λb o _ _ hc e _=>⟨o.slots,k b o (λz=>hc (by simp [z])) e⟩) (λ_ _ _ _ n=>n)
  (λb o hc e=>⟨o,k b o (λz=>hc (by simp [z])) e⟩) (λ_ _ e=>e) (λ_ _ _ e=>e) (λb ps e=>⟨#[],by rw [e];simp⟩) (λm hm=>?_) (λb u e=>?_) I.bare
 .have e:b=it:=by simpa using hb
  subst e;exact⟨h1,hL,h2,h3⟩
 .obtain⟨o,es,ep,ho,r⟩:=hm;exact⟨o,es,ep,k _ o (J7 hL) ho,r⟩
 .refine (I.hok b u e).stay (λc v hc q=>k c v ?_ q) (λ_ q=>q) λ_ _ q=>q
  rcases hc with z|z
  .rw [z];exact nit b u e
  .exact nit c _ z
def Inv.tok(I:Inv X pins σ H s)(t:Nat):Inv X pins σ H { s with toks:=t }:=I.un (h':=s.heap) (t':=t) Un.refl I.hok
def Inv.kept{t':Nat}(I:Inv X pins σ H s)(k:∀b u,s.heap.get? b=some u->h'.get? b=some u):Inv X pins σ H { s with heap:=h',toks:=t' }:=I.un (Un.kept k) (I.hok.kept k)
def Inv.laid{a:Addr}{o:HO}{t':Nat}(I:Inv X pins σ H s)(k:∀b u,s.heap.get? b=some u->h'.get? b=some u)(hp:s.heap.objs.size<=a)(new:bn X.prog X.w (upd H a o) h' a o) :
  Inv X pins σ (upd H a o) { s with heap:=h',toks:=t' }:=I.un (Un.laid k hp (I.hok.fresh hp)) (I.hok.laid k hp new)
def Inv.write{x e:Addr}{o:HO}{t':Nat}(I:Inv X pins σ H s)(mu:Mut (H x))(he:e=x\/H e=some (.own x))(k:∀b u,b≠e->s.heap.get? b=some u->h'.get? b=some u)(heo:∃u,h'.get? e=some u)
  (new:bn X.prog X.w (upd H x o) h' x o):Inv X pins σ (upd H x o) { s with heap:=h',toks:=t' }:=I.un (Un.write mu he k heo) (I.hok.write mu he k heo new)
def Inv.pins_of{pins':List (Addr×Obj)}(I:Inv X pins σ H s)(h:∀p∈pins',s.heap.get? p.1=some p.2/\H p.1=none/\p.1≠X.env.locals/\p.1∉X.fs/\∀v,p.2.data≠.cell v):Inv X pins' σ H s :=
 ⟨I.ok,I.os,I.bare,I.base,I.loc,I.cell,I.free,I.freeC,λp hp=>(JG.mp hp).elim (λz=>I.pin p (Kf _ z)) (h p),I.hok,I.len⟩
def nL{N:List Str}(hN:N.Nodup){i j:Nat}{x:Str}(a:N[i]?=some x)(b:N[j]?=some x):i=j:=by
 obtain⟨h1,e1⟩:=i_.mp a;obtain⟨h2,e2⟩:=i_.mp b;exact (getElem_inj hN).mp (e1.trans e2.symm)
theorem vU{M:Model}{A:v_}{E:Value->cy->Prop}{i:Nat}{x:Str}{v:V}{u:Value}{Q:Unit->cy->Prop}(I:Inv X pins σ H s)(hN:X.N.Nodup)(hi:X.N[i]?=some x)(hx:Loc X.env.scope x)(r:cv v u)
  (h:∀s',Inv X pins (σ.set i (some v)) H s'->(∃a,KS a s.heap s'.heap/\(a=X.env.locals\/X.env.cells.lookup x=some a))->Q () s') (hf:X.fn x=true\/X.env.scope.names.lookup x=some .local:=by first|exact .inl rfl|exact .inr rfl|assumption):wpAny M A (storeName X.env x u) Q E s:=by
 obtain⟨m,hn,hl⟩:=id I.loc;have hcls:(X.env.scope.kind == .class || (X.env.scope.kind == .module && X.env.locals != X.env.globals))=false:=by rw [I.ok.kind];rfl
 have hiσ:i<σ.length:=by rw [I.len];exact (i_.mp hi).1
 have cne:=I.cne
 have tracked:∀{a:Addr}{h':Heap},(∃o,s.heap.get? a=some o/\H a=none)->KS a s.heap h'->HOk X.prog X.w H h':=λ{a h'} ha hs b ob e=>by
  obtain⟨_,_,hfree⟩:=ha;refine (I.hok b ob e).stay (λc w' hc q=>(hs.2 c ?_).trans q) (λ_ q=>q) λ_ _ q=>q;rintro rfl
  rcases hc with rfl|hc
  .rw [hfree] at e;cases e
  .rw [hfree] at hc;cases hc
 rcases hx with hk|hk
 .refine wpAny_storeName_local hk hn (λh' hn' hs=>?_) hcls;obtain⟨oL,_,_,hoL,_⟩:=id hn
  refine h _ ⟨I.ok,I.os,I.bare,⟨λb o e n hb hx=>?_,λb o e n hb hx=>?_,I.base.free,λb o e hx=>?_,I.base.tups,I.base.frzs,I.base.tbls⟩,⟨_,hn',λj y v' e1 e2 e3=>?_⟩,λy c e=>?_,I.free,I.freeC,λp hp=>?_,tracked ⟨oL,hoL,I.free⟩ hs,by simpa using I.len⟩ ⟨_,hs,.inl rfl⟩
  .exact (hs.2 b (A_ (tj (m_ e) I.ok.above))).trans (I.base.keep b o e n hb hx)
  .obtain⟨sl,e1⟩:=I.base.slot b o e n hb hx;exact⟨sl,(hs.2 b (A_ (tj (m_ e) I.ok.above))).trans e1⟩
  .obtain⟨o',e1⟩:=I.base.there b o e hx;exact⟨o',(hs.2 b (A_ (tj (m_ e) I.ok.above))).trans e1⟩
  .by_cases hj:j=i
   .subst hj;rw [hi] at e1;cases e1;rw [p_ hiσ] at e2;cases e2;exact⟨u,r,.inl ⟨hk,by simp⟩⟩
   .rw [n_ (J7 hj)] at e2;obtain⟨u',r',q⟩:=hl j y v' e1 e2 e3;refine⟨u',r',?_⟩
    rcases q with ⟨k,e⟩|⟨k,c,e,z⟩
    .refine .inl ⟨k,?_⟩;have:y≠x:=λe=>hj (nL hN e1 (e ▸ hi));simp [this,e]
    .exact .inr ⟨k,c,e,z.sameBut hs (cne y c e)⟩
  .obtain⟨w',z⟩:=I.cell y c e;exact⟨w',z.sameBut hs (cne y c e)⟩
  .obtain⟨e,n,ne,nf,d⟩:=I.pin p hp;exact⟨(hs.2 p.1 ne).trans e,n,ne,nf,d⟩
 .have hfn:X.fn x=true:=by
   rcases hf with z|z
   .exact z
   .rw [z] at hk;cases hk
  obtain⟨c,hc⟩:=I.ok.has x (.inl hk);obtain⟨w',z⟩:=I.cell x c hc;refine wpAny_storeName_cell I.ok.kind hk hc z (λh' hc' hs=>?_);obtain⟨oc,hoc,hocd⟩:=id z
  refine h { s with heap:=h' } ⟨I.ok,I.os,I.bare,⟨λb o e n hb hx=>?_,λb o e n hb hx=>?_,I.base.free,λb o e hx=>?_,I.base.tups,I.base.frzs,I.base.tbls⟩,⟨m,hn.sameBut hs (J7 (cne x c hc)),λj y v' e1 e2 e3=>?_⟩,λy c' e=>?_,I.free,I.freeC,λp hp=>?_,tracked ⟨oc,hoc,I.freeC x c hc⟩ hs,by simpa using I.len⟩ ⟨c,hs,.inr hc⟩
  .exact (hs.2 b (A_ (tj (m_ e) (I.ok.cab x c hfn hc)))).trans (I.base.keep b o e n hb hx)
  .obtain⟨sl,e1⟩:=I.base.slot b o e n hb hx;exact⟨sl,(hs.2 b (A_ (tj (m_ e) (I.ok.cab x c hfn hc)))).trans e1⟩
  .obtain⟨o',e1⟩:=I.base.there b o e hx;exact⟨o',(hs.2 b (A_ (tj (m_ e) (I.ok.cab x c hfn hc)))).trans e1⟩
  .by_cases hj:j=i
   .subst hj;rw [hi] at e1;cases e1;rw [p_ hiσ] at e2;cases e2;exact⟨u,r,.inr ⟨.inl hk,c,hc,hc'⟩⟩
   .rw [n_ (J7 hj)] at e2;obtain⟨u',r',q⟩:=hl j y v' e1 e2 e3;refine⟨u',r',?_⟩
    rcases q with q|⟨k,c',e,z'⟩
    .exact .inl q
    .refine .inr ⟨k,c',e,z'.sameBut hs ?_⟩;rintro rfl;exact hj (nL hN e1 (I.ok.inj _ _ _ e hc ▸ hi))
  .by_cases hcc:c'=c
   .subst hcc;exact⟨_,hc'⟩
   .obtain⟨w2,z2⟩:=I.cell y c' e;exact⟨w2,z2.sameBut hs hcc⟩
  .obtain⟨e,n,ne,nf,d⟩:=I.pin p hp;refine⟨(hs.2 p.1 ?_).trans e,n,ne,nf,d⟩;intro q;rw [q,hoc] at e;have q':oc=p.2:=r_ e;exact d w' (by rw [<- q'];exact hocd)
theorem eV{M:Model}{A:v_}{E:Value->cy->Prop}{i:Nat}{x:Str}{v:V}{u:Value}{Q:Unit->cy->Prop}(I:Inv X pins σ H s)(hN:X.N.Nodup)(hi:X.N[i]?=some x)(hx:Loc X.env.scope x)(r:cv v u)
  (h:∀s',Inv X pins (σ.set i (some v)) H s'->Q () s') (hf:X.fn x=true\/X.env.scope.names.lookup x=some .local:=by first|exact .inl rfl|exact .inr rfl|assumption):wpAny M A (storeName X.env x u) Q E s :=
 vU I hN hi hx r (λs' I' _=>h s' I') hf
def Inv.call'{s':cy}{ch:List Addr}(I:Inv X pins σ H s)(ho:s'.os=s.os)(u:Un (frs X.stack) ch H H' s.heap s'.heap)(hok:HOk X.prog X.w H' s'.heap)(hg:LK s'.gens)
  (hch:∀b∈ch,(b∈X.ex\/X.s₀.heap.objs.size<=b)/\b≠X.env.locals/\(∀x c,X.env.cells.lookup x=some c->c≠b)/\∀p∈X.pn++pins,p.1≠b):Inv X pins σ H' s':=by
 obtain⟨h',g',d',t',o'⟩:=s';have e:o'=s.os:=ho;subst e;exact I.call (g':=g') (t':=t') (d':=d') u hok hg hch
end
abbrev XK:=Value->Option Addr->Hp->Prop
abbrev St:=List (Option V)
abbrev VK:=V->Hp->Prop
abbrev TE:=St->Hp->VK->Prop
abbrev TT:=St->Hp->(Bool->Hp->Prop)->Prop
abbrev TA:=St->Hp->(List V->Hp->Prop)->Prop
structure yE where
 nx:St->Hp->Prop
 rt:VK
 bk:St->Hp->Prop:=λ_ _=>False
 ct:St->Hp->Prop:=λ_ _=>False
abbrev TS:=yE->St->Hp->Prop
noncomputable def EP(X:Cx)(pins:List (Addr×Obj))(σ:St)(Q:VK)(u:Value)(s':cy):Prop:=∃v H',Inv X pins σ H' s'/\cv v u/\Q v H'
noncomputable def TP(X:Cx)(pins:List (Addr×Obj))(σ:St)(Q:Bool->Hp->Prop)(b:Bool)(s':cy):Prop:=∃H',Inv X pins σ H' s'/\Q b H'
noncomputable def AP(X:Cx)(pins:List (Addr×Obj))(σ:St)(Q:List V->Hp->Prop)(us:List Value)(s':cy):Prop:=∃vs H',Inv X pins σ H' s'/\bD vs us/\Q vs H'
noncomputable def SP(X:Cx)(pins:List (Addr×Obj))(D:yE)(f:Flow)(s':cy):Prop :=
 match f with
 | .next=>∃σ' H',Inv X pins σ' H' s'/\D.nx σ' H'
 | .brk=>∃σ' H',Inv X pins σ' H' s'/\D.bk σ' H'
 | .cont=>∃σ' H',Inv X pins σ' H' s'/\D.ct σ' H'
 | .ret u=>∃v σ' H',Inv X pins σ' H' s'/\cv v u/\D.rt v H'
noncomputable def PE(X:Cx)(e:Expr)(t:TE):Prop :=
 ∀(pins:List (Addr×Obj)) (s:cy) (σ:St) (H:Hp) (Q:VK),Inv X pins σ H s->t σ H Q->wpAny (model X.prog X.w) X.A (eval e X.env) (EP X pins σ Q) X.xe s
noncomputable def PT(X:Cx)(e:Expr)(t:TT):Prop :=
 ∀(pins:List (Addr×Obj)) (s:cy) (σ:St) (H:Hp) (Q:Bool->Hp->Prop),Inv X pins σ H s->t σ H Q->wpAny (model X.prog X.w) X.A (isTrue e X.env (eval e X.env)) (TP X pins σ Q) X.xe s
noncomputable def PW(X:Cx)(e:Expr)(t:TT):Prop :=
 ∀(whole:Sem Value) (pins:List (Addr×Obj)) (s:cy) (σ:St) (H:Hp) (Q:Bool->Hp->Prop),Inv X pins σ H s->t σ H Q->wpAny (model X.prog X.w) X.A (isTrue e X.env whole) (TP X pins σ Q) X.xe s
def PW.pt{X:Cx}{e:Expr}{t:TT}(h:PW X e t):PT X e t:=h _
noncomputable def PA(X:Cx)(es:List Expr)(t:TA):Prop :=
 ∀(pos:Pos) (pins:List (Addr×Obj)) (s:cy) (σ:St) (H:Hp) (Q:List V->Hp->Prop),Inv X pins σ H s->t σ H Q->wpAny (model X.prog X.w) X.A (spliced (backTo pos (starEach es X.env))) (AP X pins σ Q) X.xe s
noncomputable def PS(X:Cx)(st:Stmt)(t:TS):Prop :=
 ∀(pins:List (Addr×Obj)) (s:cy) (σ:St) (H:Hp) (D:yE),Inv X pins σ H s->t D σ H->wpAny (model X.prog X.w) X.A (exec st X.env) (SP X pins D) X.xe s
noncomputable def PSs(X:Cx)(st:List Stmt)(t:TS):Prop :=
 ∀(pins:List (Addr×Obj)) (s:cy) (σ:St) (H:Hp) (D:yE),Inv X pins σ H s->t D σ H->wpAny (model X.prog X.w) X.A (execs st X.env) (SP X pins D) X.xe s
def thn{α:Type}{t:Sem α}{Q Q':α->cy->Prop}{M:Model}{A:v_}{E:Value->cy->Prop}{s:cy}(h:wpAny M A t Q E s)(hQ:∀a s,Q a s->Q' a s):wpAny M A t Q' E s:=D_ h hQ λ_ _ x=>x
section
variable {X:Cx}
noncomputable def bv(i:Nat):TE:=λσ H Q=>∃v,σ[i]?=some (some v)/\Q v H
def tC(v:V):TE:=λ_ H Q=>Q v H
def Dt{i:Nat}{x:Str}{pos:Pos}(hN:X.N[i]?=some x)(hv:Vis X.env.scope x)(hd:(x == ("__debug__":Str))=false:=by decide)(hcd:(x == ("__classdict__":Str))=false:=by decide):PE X (.Name x pos) (bv i):=by
 intro pins s σ H Q I h;obtain⟨v,e,h⟩:=h;obtain⟨m,hn,hl⟩:=I.loc;obtain⟨u,r,l⟩:=hl i x v hN e hv;have fin:EP X pins σ Q u s:=⟨v,H,I,r,h⟩
 rcases l with ⟨hk,hm⟩|⟨hk,c,hc,hcell⟩
 .exact wpAny_Name (wpAny_loadName_local I.ok.kind hk hn hm fin) hd
 .rcases hk with hk|hk
  .exact wpAny_Name (wpAny_loadName_cell I.ok.kind hk hc hcell fin) hd
  .exact wpAny_Name (wpAny_loadName_free I.ok.kind hk hc hcell fin hcd) hd
def ar{i j pos}:PE X (.Constant (.int i) j pos) (tC (.int i)):=λ_ _ _ H _ I h=>wpAny_Constant_int ⟨.int i,H,I.tok _,⟨_,rfl⟩,h⟩
def f8{b j pos}:PE X (.Constant (.bool b) j pos) (tC (.bl b)):=λ_ _ _ H _ I h=>Constant_bool ⟨.bl b,H,I,rfl,h⟩
def t6{j pos}:PE X (.Constant .none j pos) (tC .non):=λ_ _ _ H _ I h=>Constant_none ⟨.non,H,I,rfl,h⟩
def Du{x j pos}:PE X (.Constant (.str x) j pos) (tC (.str x)):=λ_ _ _ H _ I h=>Calls.Constant_str ⟨.str x,H,I.tok _,⟨_,rfl⟩,h⟩
noncomputable def Gl(X:Cx)(x:Str):Prop:=X.env.kindOf x=some .globalImplicit
def f9{E:Value->cy->Prop}{pins:List (Addr×Obj)}{s:cy}{σ:St}{H:Hp}{x:Str}{u:Value}{pos:Pos}{Q:Value->cy->Prop}(I:Inv X pins σ H s)(hg:Gl X x)(hm:X.mg x=some u)(h:Q u s)
  (hd:(x == ("__debug__":Str))=false:=by decide):wpAny (model X.prog X.w) X.A (eval (.Name x pos) X.env) Q E s :=
 LX I.ok.kind hg (Calls.loadGlobal_global (by rw [I.ok.glob];exact I.mod.glob.keeps I.bk) hm h) hd
def kL{E:Value->cy->Prop}{pins:List (Addr×Obj)}{s:cy}{σ:St}{H:Hp}{x:Str}{u:Value}{pos:Pos}{Q:Value->cy->Prop}(I:Inv X pins σ H s)(hg:Gl X x)(hm:X.mg x=none)(hv:bootBuiltins x=some u)(h:Q u s)
  (hn:x≠"__name__":=by decide) (hd:(x == ("__debug__":Str))=false:=by decide):wpAny (model X.prog X.w) X.A (eval (.Name x pos) X.env) Q E s:=by
 obtain⟨mb,h1,h2⟩:=I.mod.blt;exact LX I.ok.kind hg (Calls.loadGlobal_builtin (by rw [I.ok.glob];exact I.mod.glob.keeps I.bk) hm (by rw [I.ok.blt];exact h1.keeps I.bk) ((h2 x hn).trans hv) h) hd
def Bi{x:Str}{v:V}{u:Value}{pos:Pos}(hg:Gl X x)(hm:X.mg x=some u)(r:cv v u)(hd:(x == ("__debug__":Str))=false:=by decide):PE X (.Name x pos) (tC v) :=
 λ_ _ _ H _ I h=>f9 I hg hm ⟨v,H,I,r,h⟩ hd
def cP{x:Str}{v:V}{u:Value}{pos:Pos}(hg:Gl X x)(hm:X.mg x=none)(hv:bootBuiltins x=some u)(r:cv v u)(hn:x≠"__name__":=by decide)(hd:(x == ("__debug__":Str))=false:=by decide):PE X (.Name x pos) (tC v) :=
 λ_ _ _ H _ I h=>kL I hg hm hv ⟨v,H,I,r,h⟩ hn hd
variable {a b:Expr}{ta tb:TE}{pos:Pos}
noncomputable def tB(t:TE):TT:=λσ H Q=>t σ H λx H1=>∃c,x=.bl c/\Q c H1
def Dv{e:Expr}{t:TE}(h:PE X e t)(he:∀whole,isTrue e X.env whole=(do let v <- whole;standAt e.pos;holding [v] (truthy v)):=by intro _;rfl):PT X e (tB t):=by
 intro pins s σ H Q I hw;refine isTrue_plain (thn (h pins s σ H _ I hw) λv s1 ⟨x,H1,I1,r1,q1⟩=>?_) (he _);obtain⟨d,rfl,q⟩:=q1;cases r1;exact Jg ⟨H1,I1,q⟩
variable {tA tB':TT}{rest:List Expr}
noncomputable def Hc(t u:TT):TT:=λσ H Q=>t σ H λc H1=>if c=true then u σ H1 Q else Q false H1
noncomputable def tOr(t u:TT):TT:=λσ H Q=>t σ H λc H1=>if c=true then Q true H1 else u σ H1 Q
noncomputable def Fw(t:TT):TT:=λσ H Q=>t σ H λc H1=>Q (!c) H1
def nM(ha:PT X a tA):PW X (.BoolOp .And [a] pos) tA:=by
 intro wh pins s σ H Q I h;refine isTrue_and (thn (ha pins s σ H Q I h) λc s1 e=>?_)
 cases c with
 | true=>exact isTrue_and_nil e
 | false=>exact e
def iY(ha:PT X a tA):PW X (.BoolOp .Or [a] pos) tA:=by
 intro wh pins s σ H Q I h;refine isTrue_or (thn (ha pins s σ H Q I h) λc s1 e=>?_)
 cases c with
 | false=>exact isTrue_or_nil e
 | true=>exact e
def t7(ha:PT X a tA)(hb:PW X (.BoolOp .And (b::rest) pos) tB'):PW X (.BoolOp .And (a::b::rest) pos) (Hc tA tB'):=by
 intro wh pins s σ H Q I h;refine isTrue_and (thn (ha pins s σ H _ I h) λc s1 ⟨H1,I1,q1⟩=>?_)
 cases c with
 | true=>exact hb wh pins s1 σ H1 Q I1 q1
 | false=>exact⟨H1,I1,q1⟩
def mj(ha:PT X a tA)(hb:PW X (.BoolOp .Or (b::rest) pos) tB'):PW X (.BoolOp .Or (a::b::rest) pos) (tOr tA tB'):=by
 intro wh pins s σ H Q I h;refine isTrue_or (thn (ha pins s σ H _ I h) λc s1 ⟨H1,I1,q1⟩=>?_)
 cases c with
 | true=>exact⟨H1,I1,q1⟩
 | false=>exact hb wh pins s1 σ H1 Q I1 q1
def bN(ha:PT X a tA):PT X (.UnaryOp .Not a pos) (Fw tA):=by
 intro pins s σ H Q I h;exact isTrue_not (ha pins s σ H (λc H1=>Q (!c) H1) I h)
noncomputable def Dw(ta tb:TE):TE:=λσ H Q=>ta σ H λx H1=>∃c,x=.bl c/\if c=true then tb σ H1 Q else Q (.bl false) H1
noncomputable def Dx(ta:TE):TE:=λσ H Q=>ta σ H λx H1=>∃c,x=.bl c/\Q (.bl (!c)) H1
def hX{op}{t:TE}(h:PE X a t):PE X (.BoolOp op [a] pos) t:=λpins s σ H Q I hw=>BoolOp_one (h pins s σ H Q I hw)
def eL(ha:PE X a ta)(hb:PE X (.BoolOp .And (b::rest) pos) tb):PE X (.BoolOp .And (a::b::rest) pos) (Dw ta tb):=by
 intro pins s σ H Q I h;refine BoolOp_and (thn (ha pins s σ H _ I h) λv s1 ⟨x,H1,I1,r1,q1⟩=>?_);obtain⟨c,rfl,q1⟩:=q1;cases r1;refine Jg ?_
 cases c with
 | true=>exact hb pins s1 σ H1 Q I1 q1
 | false=>exact⟨.bl false,H1,I1,rfl,q1⟩
def qa(ha:PE X a ta):PE X (.UnaryOp .Not a pos) (Dx ta):=by
 intro pins s σ H Q I h;refine UnaryOp_ (thn (ha pins s σ H _ I h) λv s1 ⟨x,H1,I1,r1,q1⟩=>?_);obtain⟨c,rfl,q1⟩:=q1;cases r1;exact not_of (Jg ⟨.bl (!c),H1,I1,rfl,q1⟩)
end
noncomputable def SqL(K:a_)(H:Hp)(a:Addr)(xs:List V):Prop :=
 Rd H a (.lst xs) \/
  ∃(o:Obj) (its:Array Value) (n:Nat),K.lookup a=some o/\o.cls=.type "list"/\o.dict=none/\o.data=.seq its n/\its.size<=sizeLine/\bD xs its.toList
noncomputable def SqT(K:a_)(H:Hp)(a:Addr)(xs:List V):Prop :=
 Rd H a (.tup xs) \/
  ∃(o:Obj) (its:Array Value) (n:Nat),K.lookup a=some o/\o.cls=.type "tuple"/\o.data=.seq its n/\its.size<=sizeLine/\bD xs its.toList
noncomputable def HV:Value->Option V
 | .none=>some .non
 | .bool b=>some (.bl b)
 | .int i _=>some (.int i)
 | .str x _=>some (.str x)
 | .bytes b _=>some (.byt b)
 | .float b _=>some (.flt b)
 | .ref a=>some (.ref a)
 | .type n=>some (.ty n)
 | _=>none
def cv.abs{x:V}{u:Value}(r:cv x u):HV u=some x:=by
 cases x with
 | non=>cases r;rfl
 | bl _=>cases r;rfl
 | int _=>obtain⟨t,rfl⟩:=r;rfl
 | str _=>obtain⟨t,rfl⟩:=r;rfl
 | byt _=>obtain⟨t,rfl⟩:=r;rfl
 | flt _=>obtain⟨t,rfl⟩:=r;rfl
 | ref _=>cases r;rfl
 | ty _=>cases r;rfl
def cv.inj{x y:V}{u:Value}(r:cv x u)(q:cv y u):x=y:=r_ (r.abs.symm.trans q.abs)
theorem bD.inj:∀{xs ys:List V}{us:List Value},bD xs us->bD ys us->xs=ys
 | _,_,_,.nil,.nil=>rfl
 | _,_,_,.cons r t,.cons r' t'=>by rw [r.inj r',bD.inj t t']
section
variable {X:Cx}{pins:List (Addr×Obj)}{σ:St}{H:Hp}{s:cy}{a:Addr}{xs ys:List V}
def SqL.of{K:a_}(h:H a=some (.lst xs)):SqL K H a xs:=.inl (.inl h)
def SqT.of{K:a_}(h:H a=some (.tup xs)):SqT K H a xs:=.inl (.inl h)
def Inv.list(I:Inv X pins σ H s)(h:SqL X.K H a xs):∃its:List Value,bD xs its/\PlainL s.heap a its.toArray/\xs.length<=sizeLine:=by
 rcases h with h|⟨o,its,n,hk,hc,hd,hs,hz,r⟩
 .obtain⟨z,its,n,r,e⟩:=h.ok I.hok;exact⟨its,r,⟨_,n,e,rfl,rfl,rfl⟩,z⟩
 .refine⟨its.toList,r,⟨o,n,I.kIn a o hk,hc,hd,by simpa using hs⟩,?_⟩;have e:=r.length;simp only [I_] at e;omega
def Inv.tuple(I:Inv X pins σ H s)(h:SqT X.K H a xs):∃its:List Value,bD xs its/\IsTup s.heap a its.toArray/\xs.length<=sizeLine:=by
 rcases h with h|⟨o,its,n,hk,hc,hs,hz,r⟩
 .obtain⟨z,its,r,p⟩:=h.ok I.hok;exact⟨its,r,p,z⟩
 .refine⟨its.toList,r,⟨o,I.kIn a o hk,hc,n,by simpa using hs⟩,?_⟩;have e:=r.length;simp only [I_] at e;omega
def Inv.list_inj(I:Inv X pins σ H s)(h:SqL X.K H a xs)(h':SqL X.K H a ys):xs=ys:=by
 obtain⟨its,r,⟨o,n,e,_,_,d⟩,_⟩:=I.list h;obtain⟨its',r',⟨o',n',e',_,_,d'⟩,_⟩:=I.list h';rw [e] at e';cases e';rw [d] at d';injection d' with d1 _;have:its=its':=by simpa using congrArg Mx d1
 subst this;exact r.inj r'
def Inv.tuple_inj(I:Inv X pins σ H s)(h:SqT X.K H a xs)(h':SqT X.K H a ys):xs=ys:=by
 obtain⟨its,r,⟨o,e,_,n,d⟩,_⟩:=I.tuple h;obtain⟨its',r',⟨o',e',_,n',d'⟩,_⟩:=I.tuple h';rw [e] at e';cases e';rw [d] at d';injection d' with d1 _;have:its=its':=by simpa using congrArg Mx d1
 subst this;exact r.inj r'
end
abbrev Cx.wish(X:Cx)(E:Value->cy->Prop):Cx:={ X with xe:=E }
abbrev Cx.nox(X:Cx):Cx:=X.wish λ_ _=>False
def Cx.Ok.wish{X:Cx}(ok:X.Ok)(E:Value->cy->Prop):(X.wish E).Ok :=
 ⟨ok.mod,ok.kind,ok.glob,ok.blt,ok.above,ok.inj,ok.has,ok.cab,ok.hd,ok.frames,ok.stk,ok.exf,ok.bs,ok.bsz,ok.noex,ok.exfs,ok.funs,ok.frf⟩
def Cx.Ok.unwish{X:Cx}{E:Value->cy->Prop}(ok:(X.wish E).Ok):X.Ok :=
 ⟨ok.mod,ok.kind,ok.glob,ok.blt,ok.above,ok.inj,ok.has,ok.cab,ok.hd,ok.frames,ok.stk,ok.exf,ok.bs,ok.bsz,ok.noex,ok.exfs,ok.funs,ok.frf⟩
section
variable {X:Cx}{pins:List (Addr×Obj)}{σ:St}{H:Hp}{s:cy}{E:Value->cy->Prop}
def Inv.wish(I:Inv X pins σ H s)(E:Value->cy->Prop):Inv (X.wish E) pins σ H s:=⟨I.ok.wish E,I.os,I.bare,I.base,I.loc,I.cell,I.free,I.freeC,I.pin,I.hok,I.len⟩
def Inv.unwish(I:Inv (X.wish E) pins σ H s):Inv X pins σ H s:=⟨I.ok.unwish,I.os,I.bare,I.base,I.loc,I.cell,I.free,I.freeC,I.pin,I.hok,I.len⟩
def SP.unwish{D:yE}{f:Flow}{s':cy}(h:SP (X.wish E) pins D f s'):SP X pins D f s':=by
 cases f with
 | next=>obtain⟨σ',H',I,q⟩:=h;exact⟨σ',H',I.unwish,q⟩
 | brk=>obtain⟨σ',H',I,q⟩:=h;exact⟨σ',H',I.unwish,q⟩
 | cont=>obtain⟨σ',H',I,q⟩:=h;exact⟨σ',H',I.unwish,q⟩
 | ret u=>obtain⟨v,σ',H',I,r,q⟩:=h;exact⟨v,σ',H',I.unwish,r,q⟩
def PT.nox{e:Expr}{t:TT}(h:PT X.nox e t):PT X e t:=λpins s σ H Q I hw =>
 D_ (h pins s σ H Q (I.wish _) hw) (λ_ _ ⟨H',I',q⟩=>⟨H',I'.unwish,q⟩) λ_ _ z=>IS z
def PSs.nox{st:List Stmt}{t:TS}(h:PSs X.nox st t):PSs X st t:=λpins s σ H D I hw =>
 D_ (h pins s σ H D (I.wish _) hw) (λ_ _ q=>q.unwish) λ_ _ z=>IS z
end
section
variable {X:Cx}{st:Stmt}{rest:List Stmt}{t u:TS}{e:Expr}{te:TE}{pos:Pos}
def Bj:TS:=λD σ H=>D.nx σ H
noncomputable def Fx(t u:TS):TS:=λD σ H=>t { D with nx:=u D } σ H
def aN:PSs X [] Bj:=λ_ _ σ H _ I h=>Ly ⟨σ,H,I,h⟩
def ah(h1:PS X st t)(h2:PSs X rest u):PSs X (st::rest) (Fx t u):=by
 intro pins s σ H D I h;refine wpAny_execs_cons (thn (h1 pins s σ H { D with nx:=u D } I h) λf s1 q=>?_)
 cases f with
 | next =>
  obtain⟨σ',H',I',q⟩:=q;exact h2 pins s1 σ' H' D I' q
 | ret v=>exact q
 | brk=>exact q
 | cont=>exact q
def ak(h1:PS X st t):PSs X [st] t:=by
 intro pins s σ H D I h;refine wpAny_execs_cons (thn (h1 pins s σ H D I h) λf s1 q=>?_)
 cases f with
 | next=>exact Ly q
 | ret v=>exact q
 | brk=>exact q
 | cont=>exact q
def Inv.quiet{pins:List (Addr×Obj)}{σ:St}{H:Hp}{s:cy}(I:Inv X pins σ H s):interactive X.env=false:=by simp [interactive,I.ok.kind]
noncomputable def Bk(te:TE):TS:=λD σ H=>te σ H λ_ H1=>D.nx σ H1
def dk(he:PE X e te)(hs:swapsWith e none pos.line X.env=pure false:=by rfl):PS X (.Expr e pos) (Bk te):=by
 intro pins s σ H D I h;exact wpAny_Expr_any (thn (he pins s σ H _ I h) λv s1 ⟨x,H1,I1,r1,q1⟩=>⟨σ,H1,I1,q1⟩) I.quiet hs
def Hd(te:TE):TS:=λD σ H=>te σ H D.rt
def aI(he:PE X e te):PS X (.Return (some e) pos) (Hd te):=by
 intro pins s σ H D I h;exact wpAny_Return_some (thn (he pins s σ H _ I h) λv s1 ⟨x,H1,I1,r1,q1⟩=>⟨x,σ,H1,I1,r1,q1⟩)
noncomputable def FI(c:TT)(t u:TS):TS:=λD σ H=>c σ H λb H1=>if b=true then t D σ H1 else u D σ H1
def bR{c:Expr}{a b:List Stmt}{tc:TT}(hc:PT X c tc)(ha:PSs X a t)(hb:PSs X b u):PS X (.If c a b pos) (FI tc t u):=by
 intro pins s σ H D I h;refine wpAny_If (thn (hc pins s σ H _ I h) λd s1 ⟨H1,I1,q1⟩=>?_)
 cases d with
 | true=>exact ha pins s1 σ H1 D I1 q1
 | false=>exact hb pins s1 σ H1 D I1 q1
def zX:TS:=λ_ _ _=>False
def eW:PS X st zX:=λ_ _ _ _ _ _ h=>h.elim
end
abbrev TG:=V->St->Hp->(St->Hp->Prop)->Prop
abbrev TGs:=List V->St->Hp->(St->Hp->Prop)->Prop
noncomputable def PG(X:Cx)(target:Expr)(t:TG):Prop :=
 ∀(pins:List (Addr×Obj)) (s:cy) (σ:St) (H:Hp) (v:V) (u:Value) (Q:St->Hp->Prop),Inv X pins σ H s->cv v u->t v σ H Q ->
  wpAny (model X.prog X.w) X.A (assign target X.env u) (λ_ s'=>∃σ' H',Inv X pins σ' H' s'/\Q σ' H') X.xe s
noncomputable def PGs(X:Cx)(ts:List Expr)(t:TGs):Prop :=
 ∀(pins:List (Addr×Obj)) (s:cy) (σ:St) (H:Hp) (vs:List V) (us:List Value) (Q:St->Hp->Prop),Inv X pins σ H s->bD vs us->t vs σ H Q ->
  wpAny (model X.prog X.w) X.A (assignInOrder ((assignEach ts X.env).map (·.2)) us) (λ_ s'=>∃σ' H',Inv X pins σ' H' s'/\Q σ' H') X.xe s
abbrev FJ:=V->V->V->Hp->(Hp->Prop)->Prop
noncomputable def He(X:Cx)(t:FJ):Prop :=
 ∀(pins:List (Addr×Obj)) (s:cy) (σ:St) (H:Hp) (o i v:V) (ov iv u:Value) (Q:Hp->Prop),Inv X pins σ H s->cv o ov->cv i iv->cv v u->t o i v H Q ->
  wpAny (model X.prog X.w) X.A (setItem ov iv u) (λ_ s'=>∃H',Inv X pins σ H' s'/\Q H') X.xe s
abbrev TIp:=V->V->Hp->VK->Prop
noncomputable def PIp(X:Cx)(op:Operator)(t:TIp):Prop :=
 ∀(pins:List (Addr×Obj)) (s:cy) (σ:St) (H:Hp) (x y:V) (v u:Value) (Q:VK),Inv X pins σ H s->cv x v->cv y u->t x y H Q ->
  wpAny (model X.prog X.w) X.A (inplaceOp op v u) (EP X pins σ Q) X.xe s
section
variable {X:Cx}{pos:Pos}
noncomputable def bS(i:Nat):TG:=λv σ H Q=>Q (σ.set i (some v)) H
theorem aG{i:Nat}{x:Str}(hN:X.N.Nodup)(hi:X.N[i]?=some x)(hx:Loc X.env.scope x)(hf:X.fn x=true\/X.env.scope.names.lookup x=some .local:=by first|exact .inl rfl|exact .inr rfl|assumption):PG X (.Name x pos) (bS i):=by
 intro pins s σ H v u Q I r h;exact Mb (eV I hN hi hx r (λs' I'=>⟨_,H,I',h⟩) hf)
def Dy:TGs:=λvs σ H Q=>vs=[]/\Q σ H
noncomputable def qb(t:TG)(u:TGs):TGs:=λvs σ H Q=>∃v r,vs=v::r/\t v σ H λσ' H'=>u r σ' H' Q
def eX:PGs X [] Dy:=by
 intro pins s σ H vs us Q I r h;obtain⟨e,h⟩:=h;subst e;cases r;exact assignInOrder_nil ⟨σ,H,I,h⟩
def br{e:Expr}{es:List Expr}{t:TG}{u:TGs}(h1:PG X e t)(h2:PGs X es u)
  (hs:(assignEach (e::es) X.env).map (·.2)=assign e X.env::(assignEach es X.env).map (·.2):=by rfl):PGs X (e::es) (qb t u):=by
 intro pins s σ H vs us Q I r h;obtain⟨v,vr,e1,h⟩:=h;subst e1
 cases r with
 | cons r rr =>
  rw [hs];refine assignInOrder_cons (thn (h1 pins s σ H _ _ _ I r h) λ_ s1 ⟨σ1,H1,I1,q1⟩=>?_);exact h2 pins s1 σ1 H1 _ _ Q I1 rr q1
noncomputable def HW(K:a_)(n:Nat)(t:TGs):TG:=λv σ H Q=>∃a xs,v=.ref a/\SqT K H a xs/\xs.length=n/\t xs σ H Q
def Dz{es:List Expr}{k:Nat}{t:TGs}{n:Nat}(hc:X.calm=true)(h:PGs X es t)
  (hn:(assignEach es X.env).length=n:=by rfl) (hst:(assignEach es X.env).findIdx? (·.1)=none:=by rfl):PG X (.Tuple es k pos) (HW X.K n t):=by
 intro pins s σ H v u Q I r hw;obtain⟨a,xs,e1,hq,hl,hw⟩:=hw;subst e1;cases r;obtain⟨its,rv,ht,hz⟩:=I.tuple hq;refine assign_Tuple_tuple (I.ok.hd hc) ht (by simp [hn,<- hl,rv.length]) hst λh' hx=>?_;have I1:Inv X pins σ H { s with heap:=h' }:=I.kept (t':=s.toks) λb o e=>hx b o (A_ (m_ e)) e;exact h pins _ σ H xs _ Q I1 (by simpa using rv) hw
noncomputable def Hf(to ti:TE)(t:FJ):TG:=λv σ H Q=>to σ H λo H1=>ti σ H1 λi H2=>t o i v H2 λH3=>Q σ H3
def vV{o i:Expr}{to ti:TE}{t:FJ}(ho:PE X o to)(hi:PE X i ti)(hs:He X t)
  (ha:∀v,assign (.Subscript o i pos) X.env v=(do
   let ov <- holding [v] (eval o X.env)
   let iv <- holding [v,ov] (eval i X.env)
   standAt pos
   holding [v,ov,iv] (setItem ov iv v)
   release [v,ov,iv] []):=by intro _;rfl):PG X (.Subscript o i pos) (Hf to ti t):=by
 intro pins s σ H v u Q I r h;rw [ha];refine b_ (G_ (thn (ho pins s σ H _ I h) λov s1 ⟨x,H1,I1,r1,q1⟩=>?_));refine b_ (G_ (thn (hi pins s1 σ H1 _ I1 q1) λiv s2 ⟨y,H2,I2,r2,q2⟩=>?_));refine b_ (Jd (b_ (G_ (thn (hs pins s2 σ H2 x y v ov iv u _ I2 r1 r2 r q2) λ_ s3 ⟨H3,I3,q3⟩=>?_))));exact wpAny_release ⟨σ,H3,I3,q3⟩
noncomputable def Bl(te:TE)(g:TG):TS:=λD σ H=>te σ H λx H1=>g x σ H1 D.nx
def zY{tg e:Expr}{te:TE}{g:TG}(he:PE X e te)(hg:PG X tg g)(hs:swapsWithSole [tg] e pos.line X.env=pure false:=by rfl)(hw:swappedStores [tg] e X.env=pure none:=by rfl)
  (h1:(assignEach [tg] X.env).map (·.2)=[assign tg X.env]:=by rfl):PS X (.Assign [tg] e pos) (Bl te g):=by
 intro pins s σ H D I h;refine wpAny_Assign_stores (thn (he pins s σ H _ I h) λv s1 ⟨x,H1,I1,r1,q1⟩=>?_) hs hw;rw [h1];exact thn (hg pins s1 σ H1 x v _ I1 r1 q1) λ_ s2 q=>q
theorem aH{i:Nat}{x:Str}{e:Expr}{te:TE}{pos':Pos}(hN:X.N.Nodup)(hi:X.N[i]?=some x)(hx:Loc X.env.scope x)(he:PE X e te)(hs:swapsWith e (some (.Name x pos')) pos.line X.env=pure false:=by rfl)(hf:X.fn x=true\/X.env.scope.names.lookup x=some .local:=by first|exact .inl rfl|exact .inr rfl|assumption) :
  PS X (.Assign [.Name x pos'] e pos) (Bl te (bS i)):=by
 intro pins s σ H D I h;refine wpAny_Assign_Name (thn (he pins s σ H _ I h) λv s1 ⟨y,H1,I1,r1,q1⟩=>?_) hs;exact eV I1 hN hi hx r1 (λs2 I2=>⟨_,H1,I2,q1⟩) hf
noncomputable def Fy(i:Nat)(te:TE)(ti:TIp):TS:=λD σ H=>∃x,σ[i]?=some (some x)/\te σ H λy H1=>ti x y H1 λz H2=>D.nx (σ.set i (some z)) H2
theorem vW{i:Nat}{x:Str}{e:Expr}{te:TE}{op:Operator}{ti:TIp}{pos':Pos}(hN:X.N.Nodup)(hi:X.N[i]?=some x)(hx:Loc X.env.scope x)(he:PE X e te)(ho:PIp X op ti)(hf:X.fn x=true\/X.env.scope.names.lookup x=some .local:=by first|exact .inl rfl|exact .inr rfl|assumption) :
  PS X (.AugAssign (.Name x pos') op e pos) (Fy i te ti):=by
 intro pins s σ H D I h;obtain⟨v,e1,h⟩:=h;obtain⟨m,hn,hl⟩:=I.loc;have vis:Vis X.env.scope x:=by rcases hx with k|k;exact .inl k;exact .inr (.inl k)
 obtain⟨u,r,l⟩:=hl i x v hi e1 vis;refine wpAny_AugAssign_Name ?_
 have go:wpAny (model X.prog X.w) X.A (eval e X.env) (λw s₂=>wpAny (model X.prog X.w) X.A (inplaceOp op u w) (λr s₃=>wpAny (model X.prog X.w) X.A (storeName X.env x r) (λ_=>SP X pins D .next) X.xe s₃) X.xe s₂) X.xe s:=by
  refine thn (he pins s σ H _ I h) λw s1 ⟨y,H1,I1,r1,q1⟩=>?_;refine thn (ho pins s1 σ H1 v y u w _ I1 r r1 q1) λz s2 ⟨zv,H2,I2,r2,q2⟩=>?_;exact eV I2 hN hi hx r2 (λs3 I3=>⟨_,H2,I3,q2⟩) hf
 rcases l with ⟨hk,hm⟩|⟨hk,c,hc,hcell⟩
 .exact wpAny_loadName_local I.ok.kind hk hn hm go
 .rcases hk with hk|hk
  .exact wpAny_loadName_cell I.ok.kind hk hc hcell go
  .rcases hx with k|k
   .have:X.env.scope.names.lookup x=some .free:=hk;rw [k] at this;cases this
   .have:X.env.scope.names.lookup x=some .free:=hk;rw [k] at this;cases this
end
section
variable {X:Cx}{pos:Pos}
noncomputable def zZ(c:TT)(tb:TS):TS:=λD σ H=>∃W:Nat->St->Hp->Prop,(∃m,W m σ H)/\∀m σ H,W m σ H ->
 c σ H λb H1=>if b=true then ∃N:St->Hp->Prop,(∀σ' H',N σ' H'->∃m',m'<m/\W m' σ' H')/\tb { D with nx:=N,ct:=N,bk:=D.nx } σ H1 else D.nx σ H1
def nN{c:Expr}{body:List Stmt}{tc:TT}{tb:TS}(hp:PassesOwn (model X.prog X.w) X.A X.env X.xe)(hc:PT X c tc)(hb:PSs X body tb):PS X (.While c body [] pos) (zZ tc tb):=by
 intro pins s σ H D I h;obtain⟨W,⟨m0,w0⟩,turn⟩:=h;refine wpAny_While (codeAny_whileLoop (λn s'=>∃σ' H',Inv X pins σ' H' s'/\W n σ' H') ?_ m0 ⟨σ,H,I,w0⟩);rintro n s1 ⟨σ1,H1,I1,w1⟩;refine JV hp (thn (hc pins s1 σ1 H1 _ I1 (turn n σ1 H1 w1)) λb s2 ⟨H2,I2,q2⟩=>?_)
 cases b with
 | true =>
  obtain⟨N,hN,q2⟩:=q2;rw [if_pos rfl];refine JV hp (thn (hb pins s2 σ1 H2 _ I2 q2) λf s3 q3=>?_)
  cases f with
  | next =>
   obtain⟨σ3,H3,I3,n3⟩:=q3;obtain⟨m',hm,w3⟩:=hN σ3 H3 n3;exact⟨m',hm,σ3,H3,I3,w3⟩
  | cont =>
   obtain⟨σ3,H3,I3,n3⟩:=q3;obtain⟨m',hm,w3⟩:=hN σ3 H3 n3;exact⟨m',hm,σ3,H3,I3,w3⟩
  | brk=>exact q3
  | ret v=>exact q3
 | false =>
  rw [if_neg l_];exact Ly ⟨σ1,H2,I2,q2⟩
end
structure It where
 go:Nat->Hp->Prop
 yld:Nat->Hp->V->Hp->Prop
 stop:Nat->Hp->Prop
noncomputable def rN(X:Cx)(pins:List (Addr×Obj))(H:Hp)(b:Addr):Prop :=
 H b=none/\b≠X.env.locals/\b∉X.fs/\(b∈X.ex\/X.s₀.heap.objs.size<=b)/\(∀x c,X.env.cells.lookup x=some c->c≠b)/\∀p∈X.pn++pins,p.1≠b
def Inv.fpOk{X:Cx}{pins:List (Addr×Obj)}{σ:St}{H H':Hp}{s:cy}{b:Addr}(I:Inv X pins σ H s)(hb:s.heap.objs.size<=b)(hn:H' b=none):rN X pins H' b:=by
 refine⟨hn,Lp (tj I.lt hb),I.nofs hb,.inr (IG I.sz hb),λx c e z=>?_,λp hp z=>?_⟩
 .obtain⟨v,q⟩:=I.cell x c e;exact absurd (tj q.lt (by rw [z];exact hb)) (IV _)
 .exact absurd (tj (m_ (I.pin p hp).1) (by rw [z];exact hb)) (IV _)
structure Bm (P:pj) (w:World) (K:a_) (tg:Expr) (J:It) (fp:List Addr) (it:Addr) (tn:Nat->Heap->Prop):Prop where
 mem:it∈fp
 obj:∀i h,tn i h->∀b∈fp,∃o,h.get? b=some o/\∀v,o.data≠.cell v
 keep:∀i h h',tn i h->(∀b∈fp,∀o,h.get? b=some o->h'.get? b=some o)->tn i h'
 item:∀(X:Cx),X.prog=P->X.w=w->X.K=K->X.calm=true->∀(i:Nat) (pins:List (Addr×Obj)) (s:cy) (σ:St) (H:Hp) (E:Value->cy->Prop),Inv X pins σ H s->(∀b∈fp,rN X pins H b)->tn i s.heap->J.go i H ->
  wpAny (model P w) X.A (pyNext (.ref it)) (λr s1=>∃u,r=some u /\
   wpAny (model P w) X.A (letOwnedTupleGo tg (.ref it) u) (λ_ s2=>∃x H',Inv X pins σ H' s2/\cv x u/\J.yld i H x H'/\tn (i+1) s2.heap/\∀b∈fp,H' b=none) E s1) E s
 done:∀(X:Cx),X.prog=P->X.w=w->X.K=K->X.calm=true->∀(i:Nat) (pins:List (Addr×Obj)) (s:cy) (σ:St) (H:Hp) (E:Value->cy->Prop),Inv X pins σ H s->(∀b∈fp,rN X pins H b)->tn i s.heap->J.stop i H ->
  wpAny (model P w) X.A (pyNext (.ref it)) (λr s1=>r=none/\Inv X pins σ H s1) E s
 self:∀(A:v_) (i:Nat) (s:cy) (Q:Value->cy->Prop) (E:Value->cy->Prop),tn i s.heap->Q (.ref it) s->wpAny (model P w) A (pyIter (.ref it)) Q E s
abbrev TI:=St->Hp->(It->Hp->Prop)->Prop
noncomputable def PIE(X:Cx)(pins:List (Addr×Obj))(σ:St)(tg:Expr)(R:It->Hp->Prop)(itv:Value)(s2:cy):Prop :=
 ∃(it:Addr) (fp:List Addr) (tn:Nat->Heap->Prop) (J:It) (H':Hp),itv=.ref it/\Inv X pins σ H' s2/\Bm X.prog X.w X.K tg J fp it tn/\tn 0 s2.heap/\(∀b∈fp,rN X pins H' b)/\R J H'
noncomputable def PI(X:Cx)(tg iter:Expr)(wi:TI):Prop :=
 ∀(pins:List (Addr×Obj)) (s:cy) (σ:St) (H:Hp) (R:It->Hp->Prop),Inv X pins σ H s->wi σ H R ->
  wpAny (model X.prog X.w) X.A (eval iter X.env) (λv s1=>wpAny (model X.prog X.w) X.A (pyIter v) (PIE X pins σ tg R) X.xe s1) X.xe s
def Bn{M:Model}{A:v_}{E:Value->cy->Prop}{s:cy}{tg:Expr}{it:Addr}{u:Value}{o:Obj}{n:String}{vs:Array Value}{Q:Unit->cy->Prop}(ho:s.heap.get? it=some o)(hc:o.cls=.type n)(hd:o.data=.fields vs)
    (hn:["enumerate","zip","dict_itemiterator","dict_reverseitemiterator","odict_iterator","itertools.zip_longest","itertools.pairwise"].contains n=false) (hQ:Q () s):wpAny M A (letOwnedTupleGo tg (.ref it) u) Q E s:=by
  unfold letOwnedTupleGo
  cases tg <;> first
    | exact f_ hQ
    | (cases u <;> first
        | exact f_ hQ
        | (refine b_ (wpAny_load ho ?_)
           rw [hc,hd];show wpAny M A (if (["enumerate","zip","dict_itemiterator","dict_reverseitemiterator","odict_iterator","itertools.zip_longest","itertools.pairwise"].contains n && vs[0]? == some (rawInt _))=true then _ else _) Q E s;rw [if_neg (by intro h;rw [hn,LY] at h;cases h)];exact f_ hQ))
noncomputable def Itl(K:a_)(a:Addr):It :=
 ⟨λi H=>∃xs x,SqL K H a xs/\xs[i]?=some x,λi H x H'=>H'=H/\∀xs,SqL K H a xs->xs[i]?=some x,λi H=>∃xs,SqL K H a xs/\xs.length<=i⟩
noncomputable def Itt(K:a_)(a:Addr):It :=
 ⟨λi H=>∃xs x,SqT K H a xs/\xs[i]?=some x,λi H x H'=>H'=H/\∀xs,SqT K H a xs->xs[i]?=some x,λi H=>∃xs,SqT K H a xs/\xs.length<=i⟩
noncomputable def Itr(lo:Int)(n:Nat):It:=⟨λi _=>i<n,λi H x H'=>H'=H/\x=.int (lo+i),λi _=>n<=i⟩
def vX{P:pj}{w:World}{K:a_}{tg:Expr}(a it:Addr):Bm P w K tg (Itl K a) [it] it (λi h=>h.IsListIter it a i) where
 mem:=by simp
 obj:=λi h st b hb=>by
  have e:b=it:=by simpa using hb
  subst e;obtain⟨o,e,c,d⟩:=st;exact⟨o,e,λv z=>by rw [d] at z;cases z⟩
 keep:=λi h h' st k=>st.at λo e=>k it (by simp) o e
 item:=by
  intro X hP hw hK hc i pins s σ H E I hf st hg;subst hP hw hK;obtain⟨xs,x,hq,hx⟩:=hg;obtain⟨its,rv,p,hz⟩:=I.list hq;obtain⟨u,hu,ru⟩:=rv.get hx;obtain⟨f0,f1,f2,f3,f4,f5⟩:=hf it (by simp);refine wpAny_pyNext_list_item st p.isList (x:=u) (by simpa using hu) λh' st' sb=>?_;have I1:Inv X pins σ H { s with heap:=h' }:=I.turned (t':=s.toks) (λb o hb e=>(sb.2 b hb).trans e) f0 f1 f3 f4 f5;obtain⟨o,e,c,d⟩:=id st'
  exact⟨u,rfl,Bn (s:={ s with heap:=h' }) e c d (by decide) ⟨x,H,I1,ru,⟨rfl,λys hy=>by rw [I.list_inj hy hq];exact hx⟩,st',λb hb=>(hf b hb).1⟩⟩
 done:=by
  intro X hP hw hK hc i pins s σ H E I hf st hg;subst hP hw hK;obtain⟨xs,hq,hx⟩:=hg;obtain⟨its,rv,p,hz⟩:=I.list hq;obtain⟨f0,f1,f2,f3,f4,f5⟩:=hf it (by simp);have hl:=rv.length;exact wpAny_pyNext_list_end (I.ok.hd hc) st p.isList (by simp;omega) λh' eb=>⟨rfl,I.turned (t':=s.toks) (λb o hb e=>eb b o hb e) f0 f1 f3 f4 f5⟩
 self:=λ_ _ _ _ _ st h=>wpAny_pyIter_listiter st h
def uX{P:pj}{w:World}{K:a_}{tg:Expr}(a it:Addr):Bm P w K tg (Itt K a) [it] it (λi h=>h.IsTupleIter it a i) where
 mem:=by simp
 obj:=λi h st b hb=>by
  have e:b=it:=by simpa using hb
  subst e;obtain⟨o,e,c,d⟩:=st;exact⟨o,e,λv z=>by rw [d] at z;cases z⟩
 keep:=λi h h' st k=>st.at λo e=>k it (by simp) o e
 item:=by
  intro X hP hw hK hc i pins s σ H E I hf st hg;subst hP hw hK;obtain⟨xs,x,hq,hx⟩:=hg;obtain⟨its,rv,p,hz⟩:=I.tuple hq;obtain⟨u,hu,ru⟩:=rv.get hx;obtain⟨f0,f1,f2,f3,f4,f5⟩:=hf it (by simp);refine wpAny_pyNext_tuple_item st (show s.heap.IsTuple a its.toArray from p) (x:=u) (by simpa using hu) λh' st' sb=>?_;have I1:Inv X pins σ H { s with heap:=h' }:=I.turned (t':=s.toks) (λb o hb e=>(sb.2 b hb).trans e) f0 f1 f3 f4 f5
  obtain⟨o,e,c,d⟩:=id st';exact⟨u,rfl,Bn (s:={ s with heap:=h' }) e c d (by decide) ⟨x,H,I1,ru,⟨rfl,λys hy=>by rw [I.tuple_inj hy hq];exact hx⟩,st',λb hb=>(hf b hb).1⟩⟩
 done:=by
  intro X hP hw hK hc i pins s σ H E I hf st hg;subst hP hw hK;obtain⟨xs,hq,hx⟩:=hg;obtain⟨its,rv,p,hz⟩:=I.tuple hq;obtain⟨f0,f1,f2,f3,f4,f5⟩:=hf it (by simp);have hl:=rv.length;exact wpAny_pyNext_tuple_end (I.ok.hd hc) st (show s.heap.IsTuple a its.toArray from p) (by simp;omega) λh' eb=>⟨rfl,I.turned (t':=s.toks) (λb o hb e=>eb b o hb e) f0 f1 f3 f4 f5⟩
 self:=λ_ _ _ _ _ st h=>wpAny_pyIter_tupleiter st h
def uY{P:pj}{w:World}{K:a_}{tg:Expr}(it:Addr)(lo:Int)(n:Nat):Bm P w K tg (Itr lo n) [it] it (λi h=>IsRangeIter h it (lo+(i:Nat)*1) ((n:Int) - (i:Nat)) 1) where
 mem:=by simp
 obj:=λi h st b hb=>by
  have e:b=it:=by simpa using hb
  subst e
  exact⟨_,st,λv z=>by
   have z':Data.fields _=Data.cell v:=z;cases z'⟩
 keep:=λi h h' st k=>k it (by simp) _ st
 item:=by
  intro X hP hw hK hc i pins s σ H E I hf st hg;subst hP hw hK;obtain⟨f0,f1,f2,f3,f4,f5⟩:=hf it (by simp);have W:=Walks.range (prog:=X.prog) (w:=X.w) (I.ok.hd hc) it lo 1 n;refine W.item i s _ _ hg st λv h' tk hv st' kk=>?_;obtain⟨t,rfl⟩:=hv;have I1:Inv X pins σ H { s with heap:=h',toks:=tk }:=I.turned (λb o hb e=>kk b o (by simpa using hb) e) f0 f1 f3 f4 f5;refine⟨_,rfl,Bn (s:={ s with heap:=h',toks:=tk }) (n:="range_iterator") st' rfl rfl (by decide) ⟨.int (lo+i),H,I1,⟨t,?_⟩,⟨rfl,rfl⟩,st',λb hb=>(hf b hb).1⟩⟩
  rw [mul_one]
 done:=by
  intro X hP hw hK hc i pins s σ H E I hf st hg;subst hP hw hK;obtain⟨f0,f1,f2,f3,f4,f5⟩:=hf it (by simp);exact wpAny_pyNext_range_end (I.ok.hd hc) st (by have:n<=i:=hg;omega) λh' eb=>⟨rfl,I.turned (t':=s.toks) (λb o hb e=>eb b o hb e) f0 f1 f3 f4 f5⟩
 self:=λ_ _ _ _ _ st h=>wpAny_pyIter_rangeiter st h
section
variable {X:Cx}{tg:Expr}
def yK{pins:List (Addr×Obj)}{σ:St}{H:Hp}{s:cy}{R:It->Hp->Prop}{E:Value->cy->Prop}{lo hi:Int}{t u v:Tok}{tk:Nat}(I:Inv X pins σ H s)(h1:-(2^62)<=lo)(h2:lo<2^62)(h3:-(2^62)<=hi)(h4:hi<2^62)
  (q:R (Itr lo (hi - lo).toNat) H):wpAny (model X.prog X.w) X.A (pyIter (.ref s.heap.objs.size)) (PIE X pins σ tg R) E { s with heap:=s.heap.push { cls:=.type "range",data:=.fields #[.int lo t,.int hi u,.int 1 v] },toks:=tk }:=by
 refine wpAny_pyIter_range (IsRange.new ..) (small_one h1 h2 h3 h4) ?_;have I1:Inv X pins σ H { s with heap:=s.heap.push { cls:=.type "range",data:=.fields #[.int lo t,.int hi u,.int 1 v] },toks:=tk }:=I.kept λb o e=>e_ _ e
 refine⟨(s.heap.push { cls:=.type "range",data:=.fields #[.int lo t,.int hi u,.int 1 v] }).objs.size,[(s.heap.push { cls:=.type "range",data:=.fields #[.int lo t,.int hi u,.int 1 v] }).objs.size],_,_,H,rfl,
  I1.kept (t':=tk) λb o e=>e_ _ e,uY _ lo (hi - lo).toNat,?_,λb hb=>?_,q⟩
 .have e1:lo+((0:Nat):Int)*1=lo:=by simp
  have e2:(((hi - lo).toNat:Nat):Int) - ((0:Nat):Int)=KM lo hi 1:=by rw [rangeSize_one];split <;> omega
  show IsRangeIter _ _ (lo+((0:Nat):Int)*1) ((((hi - lo).toNat:Nat):Int) - ((0:Nat):Int)) 1;rw [e1,e2];exact j_ _ rfl
 .have e:b=(s.heap.push { cls:=.type "range",data:=.fields #[.int lo t,.int hi u,.int 1 v] }).objs.size:=by simpa using hb
  subst e;exact I1.fpOk (pf _) (I1.hok.fresh (pf _))
noncomputable def qc(ta:TA):TI:=λσ H R=>ta σ H λvs H1=>∃j:Int,vs=[.int j]/\-(2^62)<=j/\j<2^62/\R (Itr 0 j.toNat) H1
def bE{a:Expr}{ta:TA}{p pos:Pos}(hg:Gl X "range")(hm:X.mg "range"=none)(ha:PA X [a] ta)(hs:starEach [a] X.env=[(false,eval a X.env)]:=by rfl):PI X tg (.Call (.Name "range" p) [a] [] pos) (qc ta):=by
 intro pins s σ H R I h;refine Call_ (kL I hg hm boot_range (Js (thn (ha pos pins s σ H _ I h) λus s1 ⟨vs,H1,I1,r1,q1⟩=>?_) hs rfl));obtain⟨j,e,q1,q2,q⟩:=q1;subst e
 cases r1 with
 | cons r rr =>
  cases rr;obtain⟨t,rfl⟩:=r;exact call_range_1 (yK I1 (by omega) (by omega) q1 q2 (by simpa using q))
noncomputable def FK(wi:TI)(g:TG)(tb:TS):TS:=λD σ H=>wi σ H λJ H1=>∃W:Nat->Nat->St->Hp->Prop,(∃m,W 0 m σ H1)/\∀i m σ H,W i m σ H ->
 (J.stop i H/\D.nx σ H)\/(J.go i H/\∃N:St->Hp->Prop,(∀σ' H',N σ' H'->∃m',m'<m/\W (i+1) m' σ' H')/\∀x H',J.yld i H x H'->g x σ H' λσ2 H2=>tb { D with nx:=N,ct:=N,bk:=D.nx } σ2 H2)
noncomputable def kM(fp:List Addr)(h:Heap):List (Addr×Obj):=fp.filterMap λb=>(h.get? b).map λo=>(b,o)
def cr{fp:List Addr}{h:Heap}{b:Addr}{o:Obj}(hb:b∈fp)(e:h.get? b=some o):(b,o)∈kM fp h:=JK.mpr ⟨b,hb,by rw [e];rfl⟩
def vY{fp:List Addr}{h:Heap}{p:Addr×Obj}(hp:p∈kM fp h):p.1∈fp/\h.get? p.1=some p.2:=by
 obtain⟨b,hb,e⟩:=JK.mp hp
 cases q:h.get? b with
 | none=>rw [q] at e;cases e
 | some o =>
  rw [q] at e;have e':(b,o)=p:=r_ e;subst e';exact⟨hb,q⟩
def Inv.pinned{pins:List (Addr×Obj)}{σ:St}{H:Hp}{s:cy}{fp:List Addr}(I:Inv X pins σ H s)(hf:∀b∈fp,rN X pins H b)(ho:∀b∈fp,∃o,s.heap.get? b=some o/\∀v,o.data≠.cell v):Inv X (pins++kM fp s.heap) σ H s :=
 I.pins_of λp hp=>(JG.mp hp).elim (λz=>I.pin p (t_ _ z)) λz=>by
  obtain⟨hb,e⟩:=vY z;obtain⟨f0,f1,f2,_⟩:=hf p.1 hb;obtain⟨o,e',d⟩:=ho p.1 hb;rw [e] at e';cases e';exact⟨e,f0,f1,f2,d⟩
def Inv.unpinned{pins pl:List (Addr×Obj)}{σ:St}{H:Hp}{s:cy}(I:Inv X (pins++pl) σ H s):Inv X pins σ H s:=I.pins_of λp hp=>I.pin p (t_ _ (Kf _ hp))
def cK{iter:Expr}{body:List Stmt}{wi:TI}{g:TG}{tb:TS}{pos:Pos}(hp:PassesOwn (model X.prog X.w) X.A X.env X.xe)(hc:X.calm=true)(hi:PI X tg iter wi)(hg:PG X tg g)(hb:PSs X body tb)
  (hs:∀x,foldedSetIterable iter X.env x=pure x:=by intro _;rfl):PS X (.For tg iter body [] pos) (FK wi g tb):=by
 intro pins s σ H D I h;refine wpAny_For (thn (hi pins s σ H _ I h) λv s1 h1=>thn h1 λitv s2 h2=>?_) hs;obtain⟨it,fp,tn,J,H2,e,I2,T,st2,f2,W,⟨m0,w0⟩,turn⟩:=h2;subst e
 -- what stays true of the iterator's objects through the loop
 have stat:∀{H':Hp},(∀b∈fp,H' b=none)->∀b∈fp,rN X pins H' b:=λhn b hb=>⟨hn b hb,(f2 b hb).2⟩
 refine codeAny_forLoop_any (λn s'=>∃i σ' H',Inv X pins σ' H' s'/\tn i s'.heap/\(∀b∈fp,H' b=none)/\W i n σ' H') ?_ m0 ⟨0,σ,H2,I2,st2,λb hb=>(f2 b hb).1,w0⟩;rintro n s3 ⟨i,σ3,H3,I3,st3,fr3,w3⟩
 rcases turn i n σ3 H3 w3 with ⟨stop,qn⟩|⟨go,N,hN,step⟩
 .refine JV hp (thn (T.done X rfl rfl rfl hc i pins s3 σ3 H3 X.xe I3 (stat fr3) st3 stop) λr s4 ⟨hr,I4⟩=>?_);subst hr;exact Ly ⟨σ3,H3,I4,qn⟩
 .refine JV hp (thn (T.item X rfl rfl rfl hc i pins s3 σ3 H3 X.xe I3 (stat fr3) st3 go) λr s4 ⟨u,hr,h4⟩=>?_);subst hr;refine JV hp (thn h4 λ_ s5 ⟨x,H5,I5,r5,y5,st5,fr5⟩=>?_);have I5':=I5.pinned (stat fr5) (T.obj _ _ st5);refine JV hp (thn (hg _ s5 σ3 H5 x u _ I5' r5 (step x H5 y5)) λ_ s6 ⟨σ6,H6,I6,q6⟩=>?_);refine JV hp (thn (hb _ s6 σ6 H6 _ I6 q6) λf s7 q7=>?_)
  have again:∀{σ7:St}{H7:Hp},Inv X (pins++kM fp s5.heap) σ7 H7 s7->N σ7 H7->∃m,m<n/\∃i σ' H',Inv X pins σ' H' s7/\tn i s7.heap/\(∀b∈fp,H' b=none)/\W i m σ' H':=λ{σ7 H7} I7 n7=>by
   obtain⟨m',hm,w7⟩:=hN σ7 H7 n7;refine⟨m',hm,i+1,σ7,H7,I7.unpinned,T.keep _ _ _ st5 λb hb o e=>(I7.pin (b,o) (t_ _ (t_ _ (cr hb e)))).1,λb hb=>?_,w7⟩;obtain⟨o,e,d⟩:=T.obj _ _ st5 b hb;exact (I7.pin (b,o) (t_ _ (t_ _ (cr hb e)))).2.1
  cases f with
  | next=>obtain⟨σ7,H7,I7,n7⟩:=q7;exact again I7 n7
  | cont=>obtain⟨σ7,H7,I7,n7⟩:=q7;exact again I7 n7
  | brk=>obtain⟨σ7,H7,I7,q7⟩:=q7;exact⟨σ7,H7,I7.unpinned,q7⟩
  | ret v=>obtain⟨x7,σ7,H7,I7,r7,q7⟩:=q7;exact⟨x7,σ7,H7,I7.unpinned,r7,q7⟩
end
abbrev R2:=V->V->Hp->VK->Prop
noncomputable def OpR(X:Cx)(f:Value->Value->Sem Value)(r:R2):Prop :=
 ∀(pins:List (Addr×Obj)) (s:cy) (σ:St) (H:Hp) (x y:V) (v u:Value) (Q:VK),Inv X pins σ H s->cv x v->cv y u->r x y H Q ->
  wpAny (model X.prog X.w) X.A (f v u) (EP X pins σ Q) X.xe s
noncomputable def UnR(X:Cx)(f:Value->Sem Value)(r:V->Hp->VK->Prop):Prop :=
 ∀(pins:List (Addr×Obj)) (s:cy) (σ:St) (H:Hp) (x:V) (v:Value) (Q:VK),Inv X pins σ H s->cv x v->r x H Q ->
  wpAny (model X.prog X.w) X.A (f v) (EP X pins σ Q) X.xe s
noncomputable def bo(X:Cx)(f:Value)(r:List V->Hp->VK->Prop):Prop :=
 ∀(pins:List (Addr×Obj)) (s:cy) (σ:St) (H:Hp) (xs:List V) (us:List Value) (Q:VK),Inv X pins σ H s->bD xs us->r xs H Q ->
  wpAny (model X.prog X.w) X.A (call f us) (EP X pins σ Q) X.xe s
noncomputable def tOp(r:R2)(ta tb:TE):TE:=λσ H Q=>ta σ H λx H1=>tb σ H1 λy H2=>r x y H2 Q
noncomputable def tUn(r:V->Hp->VK->Prop)(ta:TE):TE:=λσ H Q=>ta σ H λx H1=>r x H1 Q
noncomputable def rI(C:Int->Int->Prop)(g:Int->Int->V):R2:=λx y H Q=>∃i j,x=.int i/\y=.int j/\C i j/\Q (g i j) H
noncomputable def rI0(g:Int->Int->V):R2:=λx y H Q=>∃i j,x=.int i/\y=.int j/\Q (g i j) H
noncomputable def rU(g:Int->V):V->Hp->VK->Prop:=λx H Q=>∃i,x=.int i/\Q (g i) H
section
variable {X:Cx}{a b c:Expr}{ta tb tc:TE}{pos:Pos}
def FL(ha:PE X a ta)(hb:PE X b tb){pins:List (Addr×Obj)}{s:cy}{σ:St}{H:Hp}{R:V->V->Hp->Prop}(I:Inv X pins σ H s)
  (h:ta σ H λx H1=>tb σ H1 λy H2=>R x y H2) {Q:Value->cy->Prop}{f:Value->Value->Sem Value}
  (hf:∀v u s2 x y H2,Inv X pins σ H2 s2->cv x v->cv y u->R x y H2->wpAny (model X.prog X.w) X.A (f v u) Q X.xe s2) :
  wpAny (model X.prog X.w) X.A (eval a X.env) (λv s₁=>wpAny (model X.prog X.w) X.A (eval b X.env) (λu s₂=>wpAny (model X.prog X.w) X.A (f v u) Q X.xe s₂) X.xe s₁) X.xe s:=by
 refine thn (ha pins s σ H _ I h) λv s1 ⟨x,H1,I1,r1,q1⟩=>?_;refine thn (hb pins s1 σ H1 _ I1 q1) λu s2 ⟨y,H2,I2,r2,q2⟩=>?_;exact hf v u s2 x y H2 I2 r1 r2 q2
def ba{op:Operator}{r:R2}(ho:OpR X (binaryOp op) r)(ha:PE X a ta)(hb:PE X b tb):PE X (.BinOp a op b pos) (tOp r ta tb):=by
 intro pins s σ H Q I h;exact wpAny_BinOp (FL ha hb I h λv u s2 x y H2 I2 rx ry q=>ho pins s2 σ H2 x y v u Q I2 rx ry q)
def yL{op:UnaryOp}{r:V->Hp->VK->Prop}(ho:UnR X (unaryOp op) r)(ha:PE X a ta):PE X (.UnaryOp op a pos) (tUn r ta):=by
 intro pins s σ H Q I h;exact UnaryOp_ (thn (ha pins s σ H _ I h) λv s1 ⟨x,H1,I1,r1,q1⟩=>ho pins s1 σ H1 x v Q I1 r1 q1)
def opI{f:Value->Value->Sem Value}{C:Int->Int->Prop}{g:Int->Int->Int}
  (rule:∀(i j:Int) (t u:Tok) (s:cy) (Q:Value->cy->Prop) (E:Value->cy->Prop),C i j->Q (.int (g i j) s.toks) { s with toks:=s.toks+1 }->wpAny (model X.prog X.w) X.A (f (.int i t) (.int j u)) Q E s) :
  OpR X f (rI C λi j=>.int (g i j)):=by
 intro pins s σ H x y v u Q I rx ry h;obtain⟨i,j,rfl,rfl,hc,q⟩:=h;obtain⟨t,rfl⟩:=rx;obtain⟨t',rfl⟩:=ry;exact rule i j t t' s _ _ hc ⟨.int (g i j),H,I.tok _,⟨_,rfl⟩,q⟩
def FO{f:Value->Value->Sem Value}{g:Int->Int->Int}
  (rule:∀(i j:Int) (t u:Tok) (s:cy) (Q:Value->cy->Prop) (E:Value->cy->Prop),Q (.int (g i j) s.toks) { s with toks:=s.toks+1 }->wpAny (model X.prog X.w) X.A (f (.int i t) (.int j u)) Q E s) :
  OpR X f (rI0 λi j=>.int (g i j)):=by
 intro pins s σ H x y v u Q I rx ry h;obtain⟨i,j,rfl,rfl,q⟩:=h;obtain⟨t,rfl⟩:=rx;obtain⟨t',rfl⟩:=ry;exact rule i j t t' s _ _ ⟨.int (g i j),H,I.tok _,⟨_,rfl⟩,q⟩
def C7{f:Value->Value->Sem Value}{g:Int->Int->Bool}
  (rule:∀(i j:Int) (t u:Tok) (s:cy) (Q:Value->cy->Prop) (E:Value->cy->Prop),Q (.bool (g i j)) s->wpAny (model X.prog X.w) X.A (f (.int i t) (.int j u)) Q E s) :
  OpR X f (rI0 λi j=>.bl (g i j)):=by
 intro pins s σ H x y v u Q I rx ry h;obtain⟨i,j,rfl,rfl,q⟩:=h;obtain⟨t,rfl⟩:=rx;obtain⟨t',rfl⟩:=ry;exact rule i j t t' s _ _ ⟨.bl (g i j),H,I,rfl,q⟩
noncomputable def FP(i j:Int):Prop:=0<j/\j<1073741824
noncomputable def FQ(i j:Int):Prop:=0<=j/\j<=1000000/\i.natAbs<2^64
noncomputable def z0(i j:Int):Prop:=(-(2^64)<i/\i<2^64)\/(-(2^64)<j/\j<2^64)
def z0.ok{i j:Int}(h:z0 i j):IntMulOk i j:=by
 rcases h with ⟨h1,h2⟩|⟨h1,h2⟩
 .exact .of_left (intBits_le_64 h1 h2)
 .exact .of_right (intBits_le_64 h1 h2)
def DA:OpR X (binaryOp .Add) (rI0 λi j=>.int (i+j)):=FO λ_ _ _ _ _ _ _ q=>add_int q
def DB:OpR X (binaryOp .Sub) (rI0 λi j=>.int (i - j)):=FO λ_ _ _ _ _ _ _ q=>sub_int q
def DC:OpR X (binaryOp .Mult) (rI z0 λi j=>.int (i*j)):=opI λ_ _ _ _ _ _ _ hc q=>mul_int q hc.ok
def Bo:OpR X (binaryOp .FloorDiv) (rI FP λi j=>.int (i / j)):=opI λi j _ _ _ _ _ hc q=>by
 have h1:(0:Int)<j:=hc.1;have h2:j<1073741824:=hc.2;exact floordiv_int (by omega) (by rw [fdiv_eq_ediv_of_nonneg i (by omega)];exact q) (.inl (My (by omega)))
def DD:OpR X (binaryOp .Mod) (rI (λ_ j=>0<j) λi j=>.int (i % j)):=opI λi j _ _ _ _ _ hc q=>by
 have h1:(0:Int)<j:=hc;exact mod_int' (by omega) (by rw [fmod_eq_emod_of_nonneg i (by omega)];exact q)
def DE:OpR X (binaryOp .Pow) (rI FQ λi j=>.int (i^j.toNat)):=opI λ_ _ _ _ _ _ _ hc q=>pow_int_small hc.1 hc.2.1 hc.2.2 q
def Bp:OpR X (inplaceOp .Add) (rI0 λi j=>.int (i+j)):=FO λ_ _ _ _ _ _ _ q=>iadd_int q
def unI{f:Value->Sem Value}{g:Int->Int}
  (rule:∀(i:Int) (t:Tok) (s:cy) (Q:Value->cy->Prop) (E:Value->cy->Prop),Q (.int (g i) s.toks) { s with toks:=s.toks+1 }->wpAny (model X.prog X.w) X.A (f (.int i t)) Q E s) :
  UnR X f (rU λi=>.int (g i)):=by
 intro pins s σ H x v Q I rx h;obtain⟨i,rfl,q⟩:=h;obtain⟨t,rfl⟩:=rx;exact rule i t s _ _ ⟨.int (g i),H,I.tok _,⟨_,rfl⟩,q⟩
def t9:UnR X (unaryOp .USub) (rU λi=>.int (-i)):=unI λ_ _ _ _ _ q=>neg_int q
end
noncomputable def Hg:V->V->Bool
 | .non,.non=>true|.non,.int _=>true|.int _,.non=>true|.non,.bl _=>true|.bl _,.non=>true|.non,.str _=>true|.str _,.non=>true
 | .int _,.int _=>true|.bl _,.bl _=>true|.str _,.str _=>true|.byt _,.byt _=>true
 | .int _,.str _=>true|.str _,.int _=>true|.bl _,.str _=>true|.str _,.bl _=>true
 | _,_=>false
noncomputable def rEq:R2:=λx y H Q=>Hg x y=true/\Q (.bl (decide (x=y))) H
noncomputable def rNe:R2:=λx y H Q=>Hg x y=true/\Q (.bl (!decide (x=y))) H
def vZ{i j:Int}:decide (V.int i=V.int j)=(i == j):=by
 rw [Lz];simp
def Aa{i j:Bool}:decide (V.bl i=V.bl j)=(i == j):=by
 rw [Lz];simp
def wb{i j:Str}:decide (V.str i=V.str j)=(i == j):=by
 rw [Lz];simp
def wc{i j:Array UInt8}:decide (V.byt i=V.byt j)=(i.toList == j.toList):=by
 rw [Lz];cases i;cases j;simp
section
variable {X:Cx}{a b c:Expr}{ta tb tc:TE}{pos:Pos}
def bp{pins:List (Addr×Obj)}{σ:St}{H:Hp}{s:cy}{Q:VK}{k k':Bool}(I:Inv X pins σ H s)(q:Q (.bl k) H)(e:k=k'):EP X pins σ Q (.bool k') s:=by
 subst e;exact⟨.bl k,H,I,rfl,q⟩
def FS:OpR X (compareOp .Eq) rEq:=by
 intro pins s σ H x y v u Q I rx ry h;obtain⟨hs,q⟩:=h
 cases x with
 | non =>
  cases rx
  cases y with
  | non=>cases ry;exact PySem.EqNone.eq_none_none (bp I q (by simp))
  | bl j=>cases ry;exact PySem.EqNone.eq_none_bool (bp I q (by simp))
  | int j=>obtain⟨t',rfl⟩:=ry;exact PySem.EqNone.eq_none_int (bp I q (by simp))
  | str j=>obtain⟨t',rfl⟩:=ry;exact PySem.EqNone.eq_none_str (bp I q (by simp))
  | _=>exact absurd (show false=true from hs) l_
 | bl i =>
  cases rx
  cases y with
  | non=>cases ry;exact PySem.EqNone.eq_bool_none (bp I q (by simp))
  | bl j=>cases ry;exact eq_bool (bp I q Aa)
  | str j=>obtain⟨t',rfl⟩:=ry;exact PySem.EqMixed.eq_bool_str (bp I q (by simp))
  | _=>exact absurd (show false=true from hs) l_
 | int i =>
  obtain⟨t,rfl⟩:=rx
  cases y with
  | non=>cases ry;exact PySem.EqNone.eq_int_none (bp I q (by simp))
  | int j=>obtain⟨t',rfl⟩:=ry;exact eq_int (bp I q vZ)
  | str j=>obtain⟨t',rfl⟩:=ry;exact PySem.EqMixed.eq_int_str (bp I q (by simp))
  | _=>exact absurd (show false=true from hs) l_
 | str i =>
  obtain⟨t,rfl⟩:=rx
  cases y with
  | non=>cases ry;exact PySem.EqNone.eq_str_none (bp I q (by simp))
  | bl j=>cases ry;exact PySem.EqMixed.eq_str_bool (bp I q (by simp))
  | int j=>obtain⟨t',rfl⟩:=ry;exact PySem.EqMixed.eq_str_int (bp I q (by simp))
  | str j=>obtain⟨t',rfl⟩:=ry;exact eq_str (bp I q wb)
  | _=>exact absurd (show false=true from hs) l_
 | byt i =>
  obtain⟨t,rfl⟩:=rx
  cases y with
  | byt j=>obtain⟨t',rfl⟩:=ry;exact PySem.W.eq_bytes (bp I q wc)
  | _=>exact absurd (show false=true from hs) l_
 | _=>cases y <;> exact absurd (show false=true from hs) l_
def FT:OpR X (compareOp .NotEq) rNe:=by
 intro pins s σ H x y v u Q I rx ry h;obtain⟨hs,q⟩:=h
 cases x with
 | non =>
  cases rx
  cases y with
  | non=>cases ry;exact PySem.EqNone.ne_none_none (bp I q (by simp))
  | bl j=>cases ry;exact PySem.EqNone.ne_none_bool (bp I q (by simp))
  | int j=>obtain⟨t',rfl⟩:=ry;exact PySem.EqNone.ne_none_int (bp I q (by simp))
  | str j=>obtain⟨t',rfl⟩:=ry;exact PySem.EqNone.ne_none_str (bp I q (by simp))
  | _=>exact absurd (show false=true from hs) l_
 | bl i =>
  cases rx
  cases y with
  | non=>cases ry;exact PySem.EqNone.ne_bool_none (bp I q (by simp))
  | bl j=>cases ry;exact ne_bool (bp I q (congrArg not Aa))
  | str j=>obtain⟨t',rfl⟩:=ry;exact PySem.EqMixed.ne_bool_str (bp I q (by simp))
  | _=>exact absurd (show false=true from hs) l_
 | int i =>
  obtain⟨t,rfl⟩:=rx
  cases y with
  | non=>cases ry;exact PySem.EqNone.ne_int_none (bp I q (by simp))
  | int j=>obtain⟨t',rfl⟩:=ry;exact ne_int (bp I q (congrArg not vZ))
  | str j=>obtain⟨t',rfl⟩:=ry;exact PySem.EqMixed.ne_int_str (bp I q (by simp))
  | _=>exact absurd (show false=true from hs) l_
 | str i =>
  obtain⟨t,rfl⟩:=rx
  cases y with
  | non=>cases ry;exact PySem.EqNone.ne_str_none (bp I q (by simp))
  | bl j=>cases ry;exact PySem.EqMixed.ne_str_bool (bp I q (by simp))
  | int j=>obtain⟨t',rfl⟩:=ry;exact PySem.EqMixed.ne_str_int (bp I q (by simp))
  | str j=>obtain⟨t',rfl⟩:=ry;exact ne_str (bp I q (congrArg not wb))
  | _=>exact absurd (show false=true from hs) l_
 | byt i =>
  obtain⟨t,rfl⟩:=rx
  cases y with
  | byt j=>obtain⟨t',rfl⟩:=ry;exact PySem.W.ne_bytes (bp I q (congrArg not wc))
  | _=>exact absurd (show false=true from hs) l_
 | _=>cases y <;> exact absurd (show false=true from hs) l_
def FU:OpR X (compareOp .Lt) (rI0 λi j=>.bl (decide (i<j))):=C7 λ_ _ _ _ _ _ _ q=>lt_int q
def FW:OpR X (compareOp .LtE) (rI0 λi j=>.bl (decide (i<=j))):=C7 λ_ _ _ _ _ _ _ q=>le_int q
def FY:OpR X (compareOp .Gt) (rI0 λi j=>.bl (decide (j<i))):=C7 λ_ _ _ _ _ _ _ q=>gt_int q
def FZ:OpR X (compareOp .GtE) (rI0 λi j=>.bl (decide (j<=i))):=C7 λ_ _ _ _ _ _ _ q=>ge_int q
def wd:OpR X (compareOp .Lt) (λx y H Q=>∃i j,x=.str i/\y=.str j/\Q (.bl (decide (i.cps.toList<j.cps.toList))) H):=by
 intro pins s σ H x y v u Q I rx ry h;obtain⟨i,j,rfl,rfl,q⟩:=h;obtain⟨t,rfl⟩:=rx;obtain⟨t',rfl⟩:=ry;exact lt_str (bp I q rfl)
def OpR.or{f:Value->Value->Sem Value}{r r':R2}(h:OpR X f r)(h':OpR X f r'):OpR X f (λx y H Q=>r x y H Q\/r' x y H Q):=by
 intro pins s σ H x y v u Q I rx ry q
 rcases q with q|q
 .exact h pins s σ H x y v u Q I rx ry q
 .exact h' pins s σ H x y v u Q I rx ry q
def a9(b:Expr){op:CmpOp}(h:op≠.In:=by decide)(h2:op≠.NotIn:=by decide):behindInMarks op b=false:=by
 have e1:(op == CmpOp.In)=false:=by cases op <;> first|rfl|exact absurd rfl h
 have e2:(op == CmpOp.NotIn)=false:=by cases op <;> first|rfl|exact absurd rfl h2
 cases b <;> simp [behindInMarks,e1,e2]
def dY{op:CmpOp}{r:R2}(ho:OpR X (compareOp op) r)(ha:PE X a ta)(hb:PE X b tb)(hm:behindInMarks op b=false):PE X (.Compare a [op] [b] pos) (tOp r ta tb):=by
 intro pins s σ H Q I h;exact wpAny_Compare1 (FL ha hb I h λv u s2 x y H2 I2 rx ry q=>ho pins s2 σ H2 x y v u Q I2 rx ry q) hm
noncomputable def uZ(t:TE):TT:=λσ H Q=>t σ H λx H'=>∃k,x=.bl k/\Q k H'
def aT{op:CmpOp}{r:R2}(ho:OpR X (compareOp op) r)(ha:PE X a ta)(hb:PE X b tb)(hm:behindInMarks op b=false):PT X (.Compare a [op] [b] pos) (uZ (tOp r ta tb)):=by
 intro pins s σ H Q I h
 refine wpAny_isTrue_Compare1 (thn (ha pins s σ H _ I h) λv s1 ⟨x,H1,I1,r1,q1⟩=>thn (hb pins s1 σ H1 _ I1 q1) λu s2 ⟨y,H2,I2,r2,q2⟩ =>
  thn (ho pins s2 σ H2 x y v u _ I2 r1 r2 q2) λc s3 ⟨z,H3,I3,r3,k,e,q3⟩=>?_) hm
 subst e;cases r3;exact Jg ⟨H3,I3,q3⟩
noncomputable def ua(r r':R2)(ta tb tc:TE):TE:=λσ H Q=>ta σ H λx H1=>tb σ H1 λy H2=>r x y H2 λz H3=>∃k,z=.bl k /\
 (if k=true then tc σ H3 λw' H4=>r' y w' H4 Q else Q (.bl false) H3)
def ub{op op':CmpOp}{r r':R2}(ho:OpR X (compareOp op) r)(ho':OpR X (compareOp op') r')(ha:PE X a ta)(hb:PE X b tb)(hc:PE X c tc)
  (hm:lastMarks [op,op'] [b,c]=false:=by with_unfolding_all rfl):PE X (.Compare a [op,op'] [b,c] pos) (ua r r' ta tb tc):=by
 intro pins s σ H Q I h
 refine Compare_chain (thn (ha pins s σ H _ I h) λv s1 ⟨x,H1,I1,r1,q1⟩=>chain_link (thn (hb pins s1 σ H1 _ I1 q1) λu s2 ⟨y,H2,I2,r2,q2⟩ =>
  thn (ho pins s2 σ H2 x y v u _ I2 r1 r2 q2) λd s3 ⟨z,H3,I3,r3,k,e,q3⟩=>?_)) hm
 subst e;cases r3;refine Jg ?_
 cases k with
 | false=>exact ite_ff ⟨.bl false,H3,I3,rfl,q3⟩
 | true=>exact ite_tt (chain_last (thn (hc pins s3 σ H3 _ I3 q3) λw' s4 ⟨z',H4,I4,r4,q4⟩=>ho' pins s4 σ H4 y z' u w' Q I4 r2 r4 q4))
def yM{op op':CmpOp}{r r':R2}(ho:OpR X (compareOp op) r)(ho':OpR X (compareOp op') r')(ha:PE X a ta)(hb:PE X b tb)(hc:PE X c tc)
  (hm:lastMarks [op,op'] [b,c]=false:=by with_unfolding_all rfl):PT X (.Compare a [op,op'] [b,c] pos) (uZ (ua r r' ta tb tc)):=by
 intro pins s σ H Q I h
 refine isTrue_chain (thn (ha pins s σ H _ I h) λv s1 ⟨x,H1,I1,r1,q1⟩=>test_link (thn (hb pins s1 σ H1 _ I1 q1) λu s2 ⟨y,H2,I2,r2,q2⟩ =>
  thn (ho pins s2 σ H2 x y v u _ I2 r1 r2 q2) λd s3 ⟨z,H3,I3,r3,k,e,q3⟩=>?_)) hm
 subst e;cases r3;refine Jg ?_
 cases k with
 | false =>
  obtain⟨k',e',q'⟩:=q3;cases e';exact ite_ff ⟨H3,I3,q'⟩
 | true =>
  refine ite_tt (test_last (thn (hc pins s3 σ H3 _ I3 q3) λw' s4 ⟨z',H4,I4,r4,q4⟩=>thn (ho' pins s4 σ H4 y z' u w' _ I4 r2 r4 q4) λd' s5 ⟨z2,H5,I5,r5,k2,e2,q5⟩=>?_));subst e2;cases r5;exact Jg ⟨H5,I5,q5⟩
def mX:(sizeLine:Nat)<2^63:=by rw [JB];decide
def u0:OpR X (binaryOp .Add) (λx y H Q=>∃i j,x=.str i/\y=.str j/\i.length+j.length<=sizeLine/\Q (.str (i++j)) H):=by
 intro pins s σ H x y v u Q I rx ry h;obtain⟨i,j,rfl,rfl,hz,q⟩:=h;obtain⟨t,rfl⟩:=rx;obtain⟨t',rfl⟩:=ry;exact add_str (λt' tk=>⟨.str (i++j),H,I.tok _,⟨_,rfl⟩,q⟩) hz
def iC{x:V}{us:List Value}(r:bD [x] us):∃u,us=[u]/\cv x u:=by
 cases r with
 | cons r1 r2=>cases r2;exact⟨_,rfl,r1⟩
def rO{x y:V}{us:List Value}(r:bD [x,y] us):∃u w',us=[u,w']/\cv x u/\cv y w':=by
 cases r with
 | cons r1 r2 =>
  cases r2 with
  | cons r3 r4=>cases r4;exact⟨_,_,rfl,r1,r3⟩
def yN:bo X (.builtin "abs") (λxs H Q=>∃i,xs=[.int i]/\Q (.int (if i<0 then -i else i)) H):=by
 intro pins s σ H xs us Q I r h;obtain⟨i,rfl,q⟩:=h;obtain⟨u,rfl,t,rfl⟩:=iC r;exact call_abs_int λu tk=>⟨.int (if i<0 then -i else i),H,I.tok _,⟨_,rfl⟩,q⟩
def wf(hc:X.calm=true):bo X (.builtin "max") (λxs H Q=>∃i j,xs=[.int i,.int j]/\Q (.int (if j > i then j else i)) H):=by
 intro pins s σ H xs us Q I r h;obtain⟨i,j,rfl,q⟩:=h;obtain⟨u,w',rfl,⟨t,rfl⟩,⟨t',rfl⟩⟩:=rO r;refine max_two_ints (I.ok.hd hc) λh' tk k=>⟨_,H,I.kept k,?_,q⟩
 by_cases hj:j > i
 .rw [if_pos hj,if_pos hj];exact⟨_,rfl⟩
 .rw [if_neg hj,if_neg hj];exact⟨_,rfl⟩
def wg(hc:X.calm=true):bo X (.builtin "min") (λxs H Q=>∃i j,xs=[.int i,.int j]/\Q (.int (if j<i then j else i)) H):=by
 intro pins s σ H xs us Q I r h;obtain⟨i,j,rfl,q⟩:=h;obtain⟨u,w',rfl,⟨t,rfl⟩,⟨t',rfl⟩⟩:=rO r;refine min_two_ints (I.ok.hd hc) λh' tk k=>⟨_,H,I.kept k,?_,q⟩
 by_cases hj:j<i
 .rw [if_pos hj,if_pos hj];exact⟨_,rfl⟩
 .rw [if_neg hj,if_neg hj];exact⟨_,rfl⟩
end
structure C8 (h:Heap) (x dx C:Addr) (mA:Str->Option Value):Prop where
 obj:h.get? x=some (JF C dx)
 ns:h.Ns1 dx mA
 ne:dx≠x
def wm{h:Heap}{dx:Addr}{mA:Str->Option Value}(n:h.Ns1 dx mA):∃od,h.get? dx=some od/\∀name,MP name od=some (mA name):=by
 obtain⟨o,es,ep,ho,hd,hk,_,hm⟩:=n;refine⟨o,ho,λname=>?_⟩;have e:=hm name;unfold nsFind findBy at e;rw [<- Array.find?_toList] at e;unfold MP;rw [hd];dsimp only
 split
 .rename_i y q;rw [q] at e;exact congrArg some e
 .rename_i q;rw [q] at e
  have a:es.toList.any (·.refKey)=false:=by
   rw [any_eq_false];intro y hy;obtain⟨z,t,hkey⟩:=hk y (Array.mem_toList_iff.mp hy);simp [DictEntry.refKey,hkey]
  have a':¬ es.toList.any (·.refKey)=true:=by rw [a];exact l_
  rw [if_neg a'];exact congrArg some e
def C8.look{h:Heap}{x dx C:Addr}{mA:Str->Option Value}(I:C8 h x dx C mA):∃od,PySem.W.InstAt h x (JF C dx) C (some od)/\∀name,MP name od=some (mA name) :=
 let ⟨od,ho,hl⟩:=wm I.ns
 ⟨od,⟨I.obj,rfl,rfl,ho⟩,hl⟩
section
variable {prog:pj}{w:World}{A:v_}{E:Value->cy->Prop}{s:cy}{K:a_}{x dx C f:Addr}{mA:Str->Option Value}{name:Str}{v:Value}
def Bq{expr:Bool}{Q:Value->cy->Prop}(X:K.In s.heap)(I:C8 s.heap x dx C mA)(hg:Lb K C name=true)(hh:KU K C=true)
  (ha:h_ K (.ref C) name=some none) (hv:mA name=some v) (hv':PySem.W.handedIn v=true) (h:Q v { s with toks:=s.toks+1 }) :
  wpAny (model prog w) A (getAttr (.ref x) name expr) Q E s:=by
 obtain⟨od,J,hl⟩:=I.look;exact PySem.W.get_value X J (PySem.W.plainGet_of hg).1 (PySem.W.findObj_own hh ha rfl (by rw [hl,hv])) hv' h
def Br{ns:List Str}{Q:Unit->cy->Prop}(X:K.In s.heap)(I:C8 s.heap x dx C mA)
  (hs:h_ K (.ref C) "__setattr__"=some (some (.builtin "object.__setattr__"))) (hp:Mc K C=true) (ht:MI K C name=some none) (hh:KU K C=true)
  (hw:M7 mA ns) (hsz:ns.length<=sizeLine)
  (h:∀h',C8 h' x dx C (λy=>if y=name then some v else mA y)->KS dx s.heap h'->Q () { s with heap:=h',toks:=s.toks+2 }) :
  wpAny (model prog w) A (setAttr (.ref x) name v) Q E s:=by
 obtain⟨od,J,hl⟩:=I.look;refine PySem.W.set_plain X J hs (PySem.W.osa_open (s:={ s with toks:=s.toks+1 }) (r:=none) X J hp ht λb=>?_);obtain⟨cd,hc,hd'⟩:=PySem.W.any_some hh;have hx:s.heap.get? x=some ⟨.ref C,some dx,.plain,#[]⟩:=I.obj;refine b_ (f_ (b_ (b_ (wpAny_loadPart hx (b_ (PySem.W.Looks.here (s:={ s with toks:=s.toks+1 }) (PySem.W.looks_clsIn X hc) ?_))))))
 rw [hd'];refine f_ (a:=some dx) (b_ (f_ (b_ ?_)));refine wpAny_nsSet1 (s:={ s with toks:=s.toks+1 }) I.ns λh' hn2 hs2=>?_;obtain⟨oD,esD,epD,hoD,hdD,hcD⟩:=hn2.count (PySem.Within.cons name v hw);refine b_ (wpAny_lookBehind hoD (by rw [hdD];exact pastItsLine_dict (IG hcD (by rw [length_cons];omega))) ?_);exact f_ (h _ ⟨(hs2.2 _ (J7 I.ne)).trans I.obj,hn2,I.ne⟩ hs2)
def yO{R:Result->cy->Prop}{vs:List Value}{kw:List (Str×Value)}(X:K.In s.heap)(hm:MJ K C=true)
  (hi:h_ K (.ref C) "__init__"=some (some (.ref f))) (hf:JC K (.ref f)=some (.type "function"))
  (h:codeAny (model prog w) (A.under (.builtin "type.__call__" ⟨.ref C::vs,kw⟩)) (.call (.ref f) ⟨.ref (s.heap.objs.size+1)::vs,kw⟩) (PySem.W.InitBack (s.heap.objs.size+1) R)
   { s with heap:=(s.heap.push Jh).push (JF C s.heap.objs.size) }) :
  codeAny (model prog w) A (.call (.ref C) ⟨vs,kw⟩) R s:=by
 obtain⟨hh,g,d,t,os⟩:=s;exact PySem.W.make_core (PySem.W.makes_of X hm) (Jo X hi) (λself=>PySem.W.bind_fn X self hf) (.inl rfl) h
end
noncomputable def mY(f:Str)(v:V):List (Str×V)->List (Str×V)
 | []=>[(f,v)]
 | (g,x)::r=>if g=f then (g,v)::r else (g,x)::mY f v r
theorem kN(f g:Str)(v:V):∀fs:List (Str×V),(mY f v fs).lookup g=if g=f then some v else fs.lookup g
 | []=>by
  show JD g [(f,v)]=_
  by_cases h:g=f
  .have hb:(g == f)=true:=beq_iff_eq.mpr h;simp only [JD,hb,if_pos h]
  .have hb:(g == f)=false:=beq_eq_false_iff_ne.mpr h;simp only [JD,hb,if_neg h]
 | (k,x)::r=>by
  have ih:=kN f g v r;rw [show mY f v ((k,x)::r)=(if k=f then (k,v)::r else (k,x)::mY f v r) from rfl]
  by_cases hk:k=f
  .rw [if_pos hk]
   by_cases h:g=k
   .have hb:(g == k)=true:=beq_iff_eq.mpr h;simp only [JD,hb,if_pos (h.trans hk)]
   .have hb:(g == k)=false:=beq_eq_false_iff_ne.mpr h;simp only [JD,hb,if_neg (λe:g=f=>h (e.trans hk.symm))]
  .rw [if_neg hk]
   by_cases h:g=k
   .have hb:(g == k)=true:=beq_iff_eq.mpr h;simp only [JD,hb,if_neg (λe:g=f=>hk (h.symm.trans e))]
   .have hb:(g == k)=false:=beq_eq_false_iff_ne.mpr h;simp only [JD,hb];exact ih
theorem kO(f:Str)(v:V):∀fs:List (Str×V),f∈(mY f v fs).map (·.1)/\∀g,g∈fs.map (·.1)->g∈(mY f v fs).map (·.1)
 | []=>⟨by simp [mY],λg h=>by simp at h⟩
 | (k,x)::r=>by
  obtain⟨i1,i2⟩:=kO f v r;rw [show mY f v ((k,x)::r)=(if k=f then (k,v)::r else (k,x)::mY f v r) from rfl]
  by_cases hk:k=f
  .rw [if_pos hk];subst hk;exact⟨by simp,λg h=>by simpa using h⟩
  .rw [if_neg hk]
   refine⟨?_,λg h=>?_⟩
   .rw [map_cons];exact q_ _ i1
   .rw [map_cons] at h ⊢
    rcases mem_cons.mp h with e|e
    .exact mem_cons.mpr (.inl e)
    .exact q_ _ (i2 g e)
theorem kP(f:Str)(v:V):∀fs:List (Str×V),(mY f v fs).length<=fs.length+1
 | []=>by simp [mY]
 | (k,x)::r=>by
  have ih:=kP f v r;rw [show mY f v ((k,x)::r)=(if k=f then (k,v)::r else (k,x)::mY f v r) from rfl]
  by_cases hk:k=f
  .rw [if_pos hk,length_cons,length_cons];omega
  .rw [if_neg hk,length_cons,length_cons];omega
def yD.some_of{v:V}{o:Option Value}(r:yD (some v) o):∃u,o=some u/\cv v u:=by
 cases o with
 | none=>exact (show False from r).elim
 | some u=>exact⟨u,rfl,r⟩
def wn{v:V}{u:Value}(r:cv v u):PySem.W.handedIn u=true:=by
 cases v with
 | non=>cases (show u=IJ from r);rfl
 | bl b=>cases (show u=JM b from r);rfl
 | int i=>obtain⟨t,e⟩:=(show ∃t,u=La i t from r);cases e;rfl
 | str x=>obtain⟨t,e⟩:=(show ∃t,u=Kr x t from r);cases e;rfl
 | byt b=>obtain⟨t,e⟩:=(show ∃t,u=Value.bytes b t from r);cases e;rfl
 | flt b=>obtain⟨t,e⟩:=(show ∃t,u=L_ b t from r);cases e;rfl
 | ref a=>cases (show u=gV a from r);rfl
 | ty n=>cases (show u=Jx n from r);rfl
section
variable {P:pj}{w:World}{H H':Hp}{h h':Heap}{a C dx:Addr}{fs fs':List (Str×V)}
def nO(hok:HOk P w H h)(e:H a=some (.ins C dx fs)):∃mA,C8 h a dx C mA/\(∀f,yD (fs.lookup f) (mA f))/\M7 mA (fs.map (·.1))/\fs.length<=1000/\H dx=some (.own a):=by
 obtain⟨d,z,ne,ob,mA,n,r,q⟩:=(show bn P w H h a (.ins C dx fs) from hok a _ e)
 exact⟨mA,⟨ob,n,ne⟩,r,q,z,d⟩
end
structure Cls (K:a_) (C:Addr):Prop where
 pg:Lb K C Str.empty=true
 hd:KU K C=true
 po:Mc K C=true
 sa:h_ K (.ref C) "__setattr__"=some (some (.builtin "object.__setattr__"))
def Cls.get{K:a_}{C:Addr}(c:Cls K C)(f:Str):Lb K C f=true:=c.pg
noncomputable def fU(K:a_)(C:Addr)(f:Str):Prop:=h_ K (.ref C) f=some none
def fU.taker{K:a_}{C:Addr}{f:Str}(n:fU K C f):MI K C f=some none:=by
 unfold MI;rw [show h_ K (.ref C) f=some none from n];rfl
section
variable {X:Cx}{pins:List (Addr×Obj)}{σ:St}{H:Hp}{s:cy}{a C dx:Addr}{fs:List (Str×V)}{f:Str}{v:V}{A:v_}{E:Value->cy->Prop}
def u8{b:Bool}{Q:Value->cy->Prop}(I:Inv X pins σ H s)(e:H a=some (.ins C dx fs))(c:Cls X.K C)(n:fU X.K C f)(l:fs.lookup f=some v)
  (h:∀u s',Inv X pins σ H s'->cv v u->Q u s'):wpAny (model X.prog X.w) A (getAttr (.ref a) f b) Q E s:=by
 obtain⟨mA,O,r,_,_,_⟩:=nO I.hok e;obtain⟨u,hu,ru⟩:=yD.some_of (v:=v) (o:=mA f) (by rw [<- l];exact r f);exact Bq I.kIn O (c.get f) c.hd n hu (wn ru) (h u _ (I.tok _) ru)
def u9{y:V}{u:Value}{Q:Unit->cy->Prop}(I:Inv X pins σ H s)(e:H a=some (.ins C dx fs))(c:Cls X.K C)(n:fU X.K C f)(hl:fs.length<1000)(ry:cv y u)
  (h:∀s',Inv X pins σ (upd H a (.ins C dx (mY f y fs))) s'->Q () s'):wpAny (model X.prog X.w) A (setAttr (.ref a) f u) Q E s:=by
 obtain⟨mA,O,r,wi,_,ho⟩:=nO I.hok e;have hz:(fs.map (·.1)).length<=sizeLine:=by rw [length_map,JB];omega
 refine Br I.kIn O c.sa c.po n.taker c.hd wi hz λh' O' sb=>h _ ?_;have hd:∃o,h'.get? dx=some o:=let ⟨o,_,_,e',_⟩:=O'.ns;⟨o,e'⟩
 refine I.write (x:=a) (e:=dx) (by rw [e];exact JH) (.inr ho) (λb q hb z=>(sb.2 b hb).trans z) hd ?_
 refine⟨by rw [au O.ne];exact ho,?_,O.ne,O'.obj,_,O'.ns,λg=>?_,λg hg=>?_⟩
 .have:=kP f y fs;omega
 .show yD ((mY f y fs).lookup g) (if g=f then some u else mA g);rw [kN]
  by_cases q:g=f
  .rw [if_pos q,if_pos q];exact ry
  .rw [if_neg q,if_neg q];exact r g
 .by_cases q:g=f
  .rw [q];exact (kO f y fs).1
  .refine (kO f y fs).2 g (wi g λz=>hg ?_);show (if g=f then some u else mA g)=none;rw [if_neg q];exact z
def Inv.made(I:Inv X pins σ H s):Inv X pins σ (upd (upd H s.heap.objs.size (.own (s.heap.objs.size+1))) (s.heap.objs.size+1) (.ins C s.heap.objs.size []))
  { s with heap:=(s.heap.push Jh).push (JF C s.heap.objs.size) }:=by
 have e1:(s.heap.push Jh).get? s.heap.objs.size=some Jh:=j_ s.heap rfl
 have e2:((s.heap.push Jh).push (JF C s.heap.objs.size)).get? (s.heap.objs.size+1)=some (JF C s.heap.objs.size):=by
  have:=j_ (s.heap.push Jh) (o:=JF C s.heap.objs.size) rfl
  rwa [IT] at this
 have e3:(s.heap.push Jh).Ns s.heap.objs.size (λ_=>none):=⟨Jh,#[],_,e1,rfl,(λe he=>absurd he (by simp)),λ_=>rfl⟩
 have I1:=I.laid (a:=s.heap.objs.size) (o:=.own (s.heap.objs.size+1)) (h':=s.heap.push Jh) (t':=s.toks) (λb u q=>e_ _ q) (pf _) ⟨_,e1⟩;refine I1.laid (a:=s.heap.objs.size+1) (o:=.ins C s.heap.objs.size []) (t':=s.toks) (λb u q=>e_ _ q) (Mu (IT _ _)) ?_;have ne:s.heap.objs.size≠s.heap.objs.size+1:=A_ (Mz _)
 refine⟨by rw [au ne,aB],IE _,ne,e2,λ_=>none,(Heap.Ns1.of_empty e3).at λo q=>e_ _ q,λ_=>JH,λy hy=>absurd rfl hy⟩
def wo{prog:pj}{w:World}{env:Env}{e:Expr}{f:Str}{pos:Pos}{s:cy}{Q:Value->cy->Prop}(hb:attributeBase e f env (eval e env)=eval e env)
  (h:wpAny (model prog w) A (eval e env) (λo s₁=>wpAny (model prog w) A (getAttr o f true) Q E s₁) E s):wpAny (model prog w) A (eval (.Attribute e f pos) env) Q E s :=
 Attribute_any_ h (by rw [arm_eval_Attribute,hb])
end
noncomputable def C9(K:a_)(ta:TE)(f:Str):TE:=λσ H Q=>ta σ H λx H1=>∃a C dx fs v,x=.ref a/\H1 a=some (.ins C dx fs)/\Cls K C/\fU K C f/\fs.lookup f=some v/\Q v H1
noncomputable def Hh(K:a_)(ta tv:TE)(f:Str):TS:=λD σ H=>tv σ H λy H1=>ta σ H1 λx H2=>∃a C dx fs,x=.ref a/\H2 a=some (.ins C dx fs)/\Cls K C/\fU K C f/\fs.length<1000 /\
 D.nx σ (upd H2 a (.ins C dx (mY f y fs)))
section
variable {X:Cx}{o e value:Expr}{f:Str}{pos pos' tpos:Pos}{ta tv:TE}
def DF(he:PE X e ta)(hb:attributeBase e f X.env (eval e X.env)=eval e X.env):PE X (.Attribute e f pos) (C9 X.K ta f):=by
 intro pins s σ H Q I h;refine wo hb (thn (he pins s σ H _ I h) λu s1 ⟨x,H1,I1,rx,a,C,dx,fs,v,ex,ea,c,n,l,q⟩=>?_);subst ex;obtain rfl:u=gV a:=rx;exact u8 I1 ea c n l λu' s2 I2 ru=>⟨v,H1,I2,ru,q⟩
def uc(ha:PE X o ta)(hv:PE X value tv)(hs:swapsWith value (some (.Attribute o f pos')) pos.line X.env=pure false):PS X (.Assign [.Attribute o f pos'] value pos) (Hh X.K ta tv f):=by
 intro pins s σ H D I h;refine K9 (thn (hv pins s σ H _ I h) λu s1 ⟨y,H1,I1,ry,q⟩=>thn (ha pins s1 σ H1 _ I1 q) λov s2 ⟨x,H2,I2,rx,a,C,dx,fs,ex,ea,c,n,l,q2⟩=>?_) hs;subst ex;obtain rfl:ov=gV a:=rx;exact u9 I2 ea c n l ry λs3 I3=>⟨σ,_,I3,q2⟩
end
section
variable {X:Cx}{pins:List (Addr×Obj)}{σ:St}{H:Hp}{s:cy}{A:v_}{E:Value->cy->Prop}{Q:Value->cy->Prop}{c:Value}{b:Bool}
inductive p9 (K:a_) (H:Hp):V->Value->Prop where
 | non:p9 K H .non (.type "NoneType")
 | bl (x:Bool):p9 K H (.bl x) (.type "bool")
 | int (i:Int):p9 K H (.int i) (.type "int")
 | str (x:Str):p9 K H (.str x) (.type "str")
 | flt (x:UInt64):p9 K H (.flt x) (.type "float")
 | lst {a:Addr}{xs:List V} (e:H a=some (.lst xs)):p9 K H (.ref a) (.type "list")
 | frz {a:Addr}{o:Obj}{xs:List V} (e:H a=some (.frz o (.lst xs))):p9 K H (.ref a) (.type "list")
 | tup {a:Addr}{xs:List V} (e:H a=some (.tup xs)):p9 K H (.ref a) (.type "tuple")
 | dK {a:Addr}{kvs:List (Key×V)} (e:H a=some (.dK kvs)):p9 K H (.ref a) (.type "dict")
 | dT {a:Addr}{kvs:List (List Key×V)} (e:H a=some (.dT kvs)):p9 K H (.ref a) (.type "dict")
 | ins {a C dx:Addr}{fs:List (Str×V)} (e:H a=some (.ins C dx fs)) (cl:Cls K C) (ha:h_ K (.ref C) "__class__"=some (some (.builtin "object.__class__")))
   (hn:PySem.W.specialIn K (.builtin "object.__class__") "__get__"=some (some (.builtin "getset_descriptor.__get__"))) (htk:PySem.W.takesIn K (.builtin "object.__class__")=some true)
   (hm:M4 K C (.type "object")=some true):p9 K H (.ref a) (.ref C)
def wq{x:V}{u t:Value}(I:Inv X pins σ H s)(rx:cv x u)(ty:p9 X.K H x t)(e:IK X.K t c=some b)(h:∀tk,Q (.bool b) { s with toks:=tk }) :
  wpAny (model X.prog X.w) A (call (.builtin "isinstance") [u,c]) Q E s:=by
 cases ty with
 | non=>cases (show u=IJ from rx);exact IR PySem.W.kitx_none I.kIn JH e (λz=>nomatch z) h
 | bl y=>cases (show u=JM y from rx);exact IR PySem.W.kitx_bool I.kIn JH e (λz=>nomatch z) h
 | int i=>obtain⟨t,q⟩:=(show ∃t,u=La i t from rx);cases q;exact IR PySem.W.kitx_int I.kIn JH e (λz=>nomatch z) h
 | str y=>obtain⟨t,q⟩:=(show ∃t,u=Kr y t from rx);cases q;exact IR PySem.W.kitx_str I.kIn JH e (λz=>nomatch z) h
 | flt y=>obtain⟨t,q⟩:=(show ∃t,u=L_ y t from rx);cases q;exact IR PySem.W.kitx_float I.kIn JH e (λz=>nomatch z) h
 | @lst a xs ea =>
  cases (show u=gV a from rx);obtain⟨_,_,n,_,h1⟩:=(show bn X.prog X.w H s.heap a (.lst xs) from I.hok a _ ea)
  exact IR KW I.kIn ⟨_,h1,rfl⟩ e (λz=>nomatch z) h
 | @frz a ob xs ea =>
  cases (show u=gV a from rx);obtain⟨_,_,_,n,_,h1⟩:=(show bn X.prog X.w H s.heap a (.frz ob (.lst xs)) from I.hok a _ ea)
  exact IR KW I.kIn ⟨_,h1,rfl⟩ e (λz=>nomatch z) h
 | @tup a xs ea =>
  cases (show u=gV a from rx);obtain⟨_,_,_,p⟩:=(show bn X.prog X.w H s.heap a (.tup xs) from I.hok a _ ea)
  obtain⟨o,h1,h2,_⟩:=p;exact IR PySem.W.kitx_tuple I.kIn ⟨o,h1,h2⟩ e (λz=>nomatch z) h
 | @dK a kvs ea =>
  cases (show u=gV a from rx);obtain⟨_,_,vs,_,p⟩:=(show bn X.prog X.w H s.heap a (.dK kvs) from I.hok a _ ea)
  obtain⟨o,es,ep,h1,h2,_⟩:=p;exact IR KY I.kIn ⟨o,h1,h2.1⟩ e (λz=>nomatch z) h
 | @dT a kvs ea =>
  cases (show u=gV a from rx);obtain⟨_,_,xs,_,o,es,ep,h1,h2,_⟩:=(show bn X.prog X.w H s.heap a (.dT kvs) from I.hok a _ ea)
  exact IR KY I.kIn ⟨o,h1,h2.1⟩ e (λz=>nomatch z) h
 | @ins a C dx fs ea cl ha hn htk hm =>
  cases (show u=gV a from rx);obtain⟨mA,O,_⟩:=nO I.hok ea;obtain⟨od,J,_⟩:=O.look;exact IR (PySem.W.kitx_own (cl.get _) cl.hd ha hn htk hm) I.kIn J e (λz=>nomatch z) h
end
structure dO (k:Nat) (A:v_):Prop where
 hd:A.handled=none
 dp:A.depth+3*k+5<recursionLimit
 un:A.units+16*k+200<cLine
def dO.mono{j k:Nat}{A:v_}(r:dO k A)(h:j<=k):dO j A:=⟨r.hd,by have:=r.dp;omega,by have:=r.un;omega⟩
def dO.deeper{k:Nat}{A:v_}(r:dO (k+1) A)(env:Env):dO k (A.deeper env) :=
 ⟨r.hd,by have:=r.dp;show A.depth+1+3*k+5<_;omega,by have:=r.un;show A.units+3+16*k+200<_;omega⟩
def va{A:v_}{C:Addr}{us:List Value}{kw:List (Str×Value)}:(A.under (.builtin "type.__call__" ⟨.ref C::us,kw⟩)).depth=A.depth+1:=by
 first|rfl|simp [Around.under,Code.weight,Code.isCreation,Code.isGuard,Code.isCaller,Code.frames,Code.isFrame,guardIds]
def vb{A:v_}{C:Addr}{us:List Value}{kw:List (Str×Value)}:(A.under (.builtin "type.__call__" ⟨.ref C::us,kw⟩)).units=A.units+1:=by
 first|rfl|simp [Around.under,Code.cUnits,Code.frames,Code.isFrame]
def dO.make{k:Nat}{A:v_}(r:dO (k+1) A)(C:Addr)(us:List Value)(kw:List (Str×Value)):dO k (A.under (.builtin "type.__call__" ⟨.ref C::us,kw⟩)) :=
 ⟨r.hd,by have:=r.dp;rw [va];omega,by have:=r.un;rw [vb];omega⟩
def dO.depth{k:Nat}{A:v_}(r:dO k A):A.depth<recursionLimit:=by have:=r.dp;omega
def dO.units{k:Nat}{A:v_}(r:dO k A):A.units+64<cLine:=by have:=r.un;omega
def dQ:TA:=λ_ H Q=>Q [] H
noncomputable def aU(ta:TE)(tr:TA):TA:=λσ H Q=>ta σ H λx H1=>tr σ H1 λxs H2=>Q (x::xs) H2
section
variable {X:Cx}{e:Expr}{es:List Expr}{te:TE}{t:TA}{pos:Pos}
def ag:PA X [] dQ:=λ_ _ _ _ H Q I h=>Calls.spliced_nil ⟨[],H,I,.nil,h⟩
def Bs(ha:PE X e te)(hr:PA X es t)(hs:starEach (e::es) X.env=(false,eval e X.env)::starEach es X.env:=by rfl):PA X (e::es) (aU te t):=by
 intro pos pins s σ H Q I h;rw [hs];show wpAny _ _ (spliced ((false,eval e X.env)::backTo pos (starEach es X.env))) _ _ s;refine Calls.spliced_cons (thn (ha pins s σ H _ I h) λu s1 ⟨x,H1,I1,r1,q1⟩=>?_);exact thn (hr pos pins s1 σ H1 _ I1 q1) λus s2 ⟨xs,H2,I2,r2,q2⟩=>⟨x::xs,H2,I2,.cons r1 r2,q2⟩
noncomputable def DG(t:TA):TE:=λσ H Q=>t σ H λxs H1=>xs.length<=sizeLine/\∀p,H1 p=none->Q (.ref p) (upd H1 p (.tup xs))
noncomputable def Hi(t:TA):TE:=λσ H Q=>t σ H λxs H1=>xs.length<=sizeLine/\∀p,H1 p=none->Q (.ref p) (upd H1 p (.lst xs))
def hZ{x1}(h:PA X es t):PE X (.Tuple es x1 pos) (DG t):=by
 intro pins s σ H Q I hq;refine wpAny_Tuple_spliced (thn (h pos pins s σ H _ I hq) λus s1 ⟨xs,H1,I1,r,z,q⟩=>⟨by rw [<- r.length];exact z,?_⟩);have hf:H1 s1.heap.objs.size=none:=I1.hok.fresh (pf _);refine⟨.ref s1.heap.objs.size,upd H1 s1.heap.objs.size (.tup xs),I1.laid (t':=s1.toks) (λb u e=>e_ _ e) (pf _) ?_,rfl,q _ hf⟩;exact⟨z,us,r,⟨_,j_ _ rfl,rfl,_,rfl⟩⟩
def bO(h:PA X es t):PE X (.List es pos) (Hi t):=by
 intro pins s σ H Q I hq;refine wpAny_List_spliced (thn (h pos pins s σ H _ I hq) λus s1 ⟨xs,H1,I1,r,z,q⟩=>⟨by rw [<- r.length];exact z,?_⟩);have hf:H1 s1.heap.objs.size=none:=I1.hok.fresh (pf _);refine⟨.ref s1.heap.objs.size,upd H1 s1.heap.objs.size (.lst xs),I1.laid (t':=s1.toks) (λb u e=>e_ _ e) (pf _) ?_,rfl,q _ hf⟩;exact⟨z,us,0,r,j_ _ rfl⟩
end
abbrev Sp:=List V->Hp->VK->XK->Prop
abbrev CXT:=List Env->Hp->cy->XK->Value->cy->Prop
structure Bt (P:pj) (w:World) (K:a_) (mg:Str->Option Value) (base:Heap) (A:v_) (outer:List Env) (s:cy) (H:Hp):Prop where
 frames:A.frames=some outer
 mod:Mod K mg base
 bs:∀b o,base.get? b=some o->s.heap.get? b=some o/\H b=none
 bsz:base.objs.size<=s.heap.objs.size
 funs:s.heap.FunFrames base outer
 frf:∀b∈frs outer,H b=none
 hok:HOk P w H s.heap
 bare:LK s.gens
noncomputable def CE(outer:List Env)(P:pj)(w:World)(H:Hp)(s:cy)(Q:VK)(u:Value)(s':cy):Prop :=
 ∃v H',s'.os=s.os/\LK s'.gens/\Un (frs outer) [] H H' s.heap s'.heap/\HOk P w H' s'.heap/\cv v u/\Q v H'
noncomputable def CR(CX:CXT)(outer:List Env)(P:pj)(w:World)(H:Hp)(s:cy)(Q:VK)(E:XK)(r:Result)(s':cy):Prop :=
 match r with
 | .ok (.ret u)=>CE outer P w H s Q u s'
 | .ok _=>False
 | .error e=>CX outer H s E e s'
structure nP (P:pj) (w:World) (K:a_) (mg:Str->Option Value) (base:Heap) (CX:CXT) (k:Nat) (f:Addr) (fd:Jp) (ps:List Str) (sp:Sp):Prop where
 len:∀vs H Q E,sp vs H Q E->vs.length=ps.length
 run:∀(A:v_) (outer:List Env) (s:cy) (H:Hp) (args:Args) (us:List Value) (vs:List V) (Q:VK) (E:XK),dO k A->Bt P w K mg base A outer s H->MA s fd args (ps.zip us)->bD vs us->sp vs H Q E ->
  codeAny (model P w) A (.call (.ref f) args) (CR CX outer P w H s Q E) s
def nP.imp{P:pj}{w:World}{K:a_}{mg:Str->Option Value}{base:Heap}{CX:CXT}{k:Nat}{f:Addr}{fd:Jp}{ps:List Str}{sp sp':Sp}(F:nP P w K mg base CX k f fd ps sp)
  (h:∀vs H Q E,sp' vs H Q E->sp vs H Q E):nP P w K mg base CX k f fd ps sp' :=
 ⟨λvs H Q E q=>F.len vs H Q E (h _ _ _ _ q),λA outer s H args us vs Q E hr he hb hv hs=>F.run A outer s H args us vs Q E hr he hb hv (h _ _ _ _ hs)⟩
def Bt.make{P:pj}{w:World}{K:a_}{mg:Str->Option Value}{base:Heap}{A:v_}{outer:List Env}{s:cy}{H:Hp}(e:Bt P w K mg base A outer s H)(C:Addr)(us:List Value)(kw:List (Str×Value)) :
  Bt P w K mg base (A.under (.builtin "type.__call__" ⟨.ref C::us,kw⟩)) outer s H:=⟨by first|exact e.frames|(simpa [Around.under,Code.envs,Code.isFrame,pushEnvs] using e.frames),e.mod,e.bs,e.bsz,e.funs,e.frf,e.hok,e.bare⟩
section
variable {X:Cx}{pins:List (Addr×Obj)}{σ:St}{H:Hp}{s s':cy}
def Inv.env0(I:Inv X pins σ H s):Bt X.prog X.w X.K X.mg X.base X.A X.stack s H :=
 ⟨I.ok.frames,I.ok.mod,I.bs,IG I.ok.bsz I.sz,I.stack,I.stkFree,I.hok,I.bare⟩
def Inv.after{Q:VK}{u:Value}(I:Inv X pins σ H s)(h:CE X.stack X.prog X.w H s Q u s'):EP X pins σ Q u s':=by
 obtain⟨v,H',os,bare,un,hok,r,q⟩:=h;obtain⟨hh,g,d,t,os'⟩:=s';obtain rfl:os'=s.os:=os;exact⟨v,H',I.call (h':=hh) (g':=g) (d':=d) (t':=t) (ch:=[]) un hok bare (λb z=>absurd z (by simp)),r,q⟩
end
noncomputable def eM(sp:Sp)(dvs:List V)(E:XK)(t:TA):TE:=λσ H Q=>t σ H λvs H1=>sp (vs++dvs) H1 Q E
noncomputable def yP(C:Addr)(sp:Sp)(dvs:List V)(E:XK)(t:TA):TE:=λσ H Q=>t σ H λvs H1=>∀x dx,H1 x=none->H1 dx=none->dx≠x ->
 sp (.ref x::(vs++dvs)) (upd (upd H1 dx (.own x)) x (.ins C dx [])) (λv H2=>v=.non/\Q (.ref x) H2) E
noncomputable def km(K:a_)(fd:Jp)(ps:List Str)(ds:List Value):Prop :=
 ∀(s:cy) (us:List Value),K.In s.heap->(us++ds).length=ps.length->MA s fd ⟨us,[]⟩ (ps.zip (us++ds))
def km.all{K:a_}{fd:Jp}{ps:List Str}(h:∀us:List Value,us.length=ps.length->bindArgs fd ⟨us,[]⟩=pure (ps.zip us)):km K fd ps []:=λs us _ hl=>by
 rw [IL] at hl ⊢;exact .of_eq (h us hl)
noncomputable def qe(CX:CXT)(X:Cx)(E:XK):Prop:=∀(pins:List (Addr×Obj)) (σ:St) (H:Hp) (s:cy) (e:Value) (s':cy),Inv X pins σ H s->CX X.stack H s E e s'->X.xe e s'
section
variable {X:Cx}{CX:CXT}{k:Nat}{f C:Addr}{fd:Jp}{ps:List Str}{sp:Sp}{dvs:List V}{ds:List Value}{E:XK}{x m:Str}{p pos apos:Pos}{e o:Expr}{es:List Expr}{ta:TE}{t:TA}
def DH{pins:List (Addr×Obj)}{σ:St}{H:Hp}{s:cy}{Q:VK}{us:List Value}{vs:List V}(F:nP X.prog X.w X.K X.mg X.base CX k f fd ps sp)(hr:dO k X.A)(hb:km X.K fd ps ds)(hd:bD dvs ds)(hx:qe CX X E)
  (I:Inv X pins σ H s) (r:bD vs us) (h:sp (vs++dvs) H Q E):wpAny (model X.prog X.w) X.A (call (.ref f) us) (EP X pins σ Q) X.xe s:=by
 have r2:bD (vs++dvs) (us++ds):=r.append hd;have hl:(us++ds).length=ps.length:=by rw [<- r2.length];exact F.len _ _ _ _ h
 refine Lc (KZ (F.run X.A X.stack s H ⟨us,[]⟩ (us++ds) (vs++dvs) Q E hr I.env0 (hb s us I.kIn hl) r2 h) λr s' hq=>?_)
 cases r with
 | error e=>exact hx pins σ H s e s' I hq
 | ok fl =>
  cases fl with
  | ret u=>exact I.after hq
  | next=>exact IS hq
  | brk=>exact IS hq
  | cont=>exact IS hq
def wt(F:nP X.prog X.w X.K X.mg X.base CX k f fd ps sp)(hr:dO k X.A)(hg:Gl X x)(hm:X.mg x=some (.ref f))(hk:z_ X.K (.ref f)=true)(hb:km X.K fd ps ds)(hd:bD dvs ds)(hx:qe CX X E)
  (ha:PA X (e::es) t) (hdb:(x == ("__debug__":Str))=false:=by decide) (he:starEach (e::es) X.env=(false,eval e X.env)::starEach es X.env:=by rfl) (hpl:(backTo pos (starEach es X.env)).any (·.1)=false:=by rfl) :
  PE X (.Call (.Name x p) (e::es) [] pos) (eM sp dvs E t):=by
 intro pins s σ H Q I h;refine Jz (f9 I hg hm ?_ hdb);refine KE (h₀:=X.base) I.ok.mod.kin hk (thn (ha pos pins s σ H _ I h) λus s1 ⟨vs,H1,I1,r,q⟩=>⟨I1.kIn,?_⟩) he hpl;exact DH F hr hb hd hx I1 r q
structure Mk (K:a_) (C f:Addr):Prop where
 makes:MJ K C=true
 init:h_ K (.ref C) "__init__"=some (some (.ref f))
 fn:PySem.W.isFn K (.ref f)=true
 kp:z_ K (.ref C)=true
def yQ{pins:List (Addr×Obj)}{σ:St}{H:Hp}{s:cy}{Q:VK}{us:List Value}{vs:List V}(M:Mk X.K C f)(F:nP X.prog X.w X.K X.mg X.base CX k f fd ps sp)(hr:dO (k+1) X.A)(hb:km X.K fd ps ds)(hd:bD dvs ds)
  (hx:qe CX X E) (I:Inv X pins σ H s) (r:bD vs us)
  (h:∀x dx,H x=none->H dx=none->dx≠x->sp (.ref x::(vs++dvs)) (upd (upd H dx (.own x)) x (.ins C dx [])) (λv H2=>v=.non/\Q (.ref x) H2) E) :
  wpAny (model X.prog X.w) X.A (call (.ref C) us) (EP X pins σ Q) X.xe s:=by
 have hq:=h (s.heap.objs.size+1) s.heap.objs.size (I.hok.fresh (M1 _)) (I.hok.fresh (pf _)) (A_ (Mz _));have I2:=Inv.made (C:=C) I;have r2:bD (V.ref (s.heap.objs.size+1)::(vs++dvs)) (gV (s.heap.objs.size+1)::(us++ds)):=.cons rfl (r.append hd)
 have hl:(gV (s.heap.objs.size+1)::us++ds).length=ps.length:=by
  have e:=r2.length;rw [F.len _ _ _ _ hq] at e;exact e.symm
 refine Lc (yO (f:=f) I.kIn M.makes M.init (beq_iff_eq.mp M.fn) (KZ (F.run _ X.stack _ _ ⟨gV (s.heap.objs.size+1)::us,[]⟩ (gV (s.heap.objs.size+1)::(us++ds)) _ _ E (hr.make C us [])
  (I2.env0.make C us []) (hb _ (gV (s.heap.objs.size+1)::us) I2.kIn hl) r2 hq) λr s' hq'=>?_))
 cases r with
 | error e=>exact hx pins σ _ _ e s' I2 hq'
 | ok fl =>
  cases fl with
  | ret u =>
   obtain⟨v,H',I3,rv,ev,q3⟩:=I2.after hq';subst ev;exact⟨rv,⟨V.ref (s.heap.objs.size+1),H',I3,rfl,q3⟩⟩
  | next=>exact IS hq'
  | brk=>exact IS hq'
  | cont=>exact IS hq'
def Bu(M:Mk X.K C f)(F:nP X.prog X.w X.K X.mg X.base CX k f fd ps sp)(hr:dO (k+1) X.A)(hg:Gl X x)(hm:X.mg x=some (.ref C))(hb:km X.K fd ps ds)(hd:bD dvs ds)(hx:qe CX X E)
  (ha:PA X (e::es) t) (hdb:(x == ("__debug__":Str))=false:=by decide) (he:starEach (e::es) X.env=(false,eval e X.env)::starEach es X.env:=by rfl) (hpl:(backTo pos (starEach es X.env)).any (·.1)=false:=by rfl) :
  PE X (.Call (.Name x p) (e::es) [] pos) (yP C sp dvs E t):=by
 intro pins s σ H Q I h;refine Jz (f9 I hg hm ?_ hdb);refine KE (h₀:=X.base) I.ok.mod.kin M.kp (thn (ha pos pins s σ H _ I h) λus s1 ⟨vs,H1,I1,r,q⟩=>⟨I1.kIn,?_⟩) he hpl;exact yQ M F hr hb hd hx I1 r q
end
structure aA (N P:List Str) (sc:Scope):Prop where
 kind:sc.kind=.function
 co:sc.isCoroutine=false
 gen:sc.isGenerator=false
 nd:N.Nodup
 pre:N.take P.length=P
 par:∀x∈P,sc.names.lookup x=some .local\/sc.names.lookup x=some .cell
 nofree:∀y∈sc.names,y.2≠.free
theorem qf{kindOf:Str->Option Jt}{x:Str}:∀{binds:List (Str×Value)}{m:Str->Option Value},(∀v,(x,v)∉binds)->bindL kindOf binds m x=m x
 | [],_,_=>rfl
 | (n,v)::r,m,h=>by
  unfold bindL;rw [qf λw hw=>h w (q_ _ hw)]
  split
  .have:x≠n:=by rintro rfl;exact h v mem_cons_self
   simp [this]
  .rfl
theorem qg{kindOf:Str->Option Jt}{x:Str}:∀{binds:List (Str×Value)}{m:Str->Option Value},(∀v,(x,v)∉binds)->bindC kindOf binds m x=m x
 | [],_,_=>rfl
 | (n,v)::r,m,h=>by
  unfold bindC;rw [qg λw hw=>h w (q_ _ hw)]
  split
  .rfl
  .have:x≠n:=by rintro rfl;exact h v mem_cons_self
   simp [this]
theorem qh{kindOf:Str->Option Jt}{x:Str}{v:Value}:∀{P:List Str}{vs:List Value}{i:Nat}{m:Str->Option Value},P.Nodup->P[i]?=some x->vs[i]?=some v->kindOf x=some .local ->
  bindL kindOf (P.zip vs) m x=some v
 | [],_,_,_,_,h,_,_=>by simp at h
 | _::_,[],_,_,_,_,h,_=>by simp at h
 | p::P,w::vs,0,m,nd,h1,h2,hk=>by
  simp at h1 h2;subst h1;subst h2;show bindL kindOf ((p,w)::P.zip vs) m p=_;unfold bindL;rw [qf λv hv=>(MB.mp nd).1 (of_mem_zip hv).1,if_pos hk];simp
 | p::P,w::vs,i+1,m,nd,h1,h2,hk=>by
  show bindL kindOf ((p,w)::P.zip vs) m x=_;unfold bindL;exact qh (i:=i) (MB.mp nd).2 (by simpa using h1) (by simpa using h2) hk
theorem qi{kindOf:Str->Option Jt}{x:Str}{v:Value}:∀{P:List Str}{vs:List Value}{i:Nat}{m:Str->Option Value},P.Nodup->P[i]?=some x->vs[i]?=some v->kindOf x≠some .local ->
  bindC kindOf (P.zip vs) m x=some v
 | [],_,_,_,_,h,_,_=>by simp at h
 | _::_,[],_,_,_,_,h,_=>by simp at h
 | p::P,w::vs,0,m,nd,h1,h2,hk=>by
  simp at h1 h2;subst h1;subst h2;show bindC kindOf ((p,w)::P.zip vs) m p=_;unfold bindC;rw [qg λv hv=>(MB.mp nd).1 (of_mem_zip hv).1,if_neg hk];simp
 | p::P,w::vs,i+1,m,nd,h1,h2,hk=>by
  show bindC kindOf ((p,w)::P.zip vs) m x=_;unfold bindC;exact qi (i:=i) (MB.mp nd).2 (by simpa using h1) (by simpa using h2) hk
noncomputable def start(N:List Str)(vs:List V):St:=vs.map some++so (N.length - vs.length) none
noncomputable def mZ(CX:CXT)(P:pj)(w:World)(K:a_)(mg:Str->Option Value)(base:Heap)(N:List Str)(qual:Str)(scope:Scope)(f:Addr)(cd:Value)(A:v_)(outer:List Env)(s:cy)(H:Hp)(E:XK):Cx where
 prog:=P
 w:=w
 K:=K
 mg:=mg
 base:=base
 A:=A.deeper (envOfC qual scope s.heap.objs.size f cd)
 N:=N
 s₀:=s
 H₀:=H
 env:=envOfC qual scope s.heap.objs.size f cd
 outer:=outer
 stack:=envOfC qual scope s.heap.objs.size f cd::outer
 ex:=[]
 calm:=true
 fn:=λ_=>true
 pn:=[]
 xe:=λe s'=>wpAny (model P w) (A.deeper (envOfC qual scope s.heap.objs.size f cd)) (leaving (envOfC qual scope s.heap.objs.size f cd) e) (λ_ s''=>CX outer H s E e s'') (λe' s''=>CX outer H s E e' s'') s'
def ud{sc:Scope}{n:Nat}{x:Str}(h:sc.names.lookup x=some .cell):∃c,(cellsFrom n sc.names []).lookup x=some c:=by
 have q:=Kc sc.names n [] (.inl h);exact JZ.mp q
def wu{CX:CXT}{P:pj}{w:World}{K:a_}{mg:Str->Option Value}{base:Heap}{N ps:List Str}{qual:Str}{scope:Scope}{f:Addr}{cd:Value}{A:v_}{outer:List Env}{s s1:cy}{H:Hp}{E:XK}{us:List Value}{vs:List V}
  (S:aA N ps scope) (hd:A.handled=none) (e0:Bt P w K mg base A outer s H) (hl:vs.length=ps.length) (r:bD vs us)
  (x:InCallC s s.heap.objs.size (bindL (envOfC qual scope s.heap.objs.size f cd).kindOf (ps.zip us) λ_=>none) (cellsFrom (s.heap.objs.size+1) scope.names []) (bindC (envOfC qual scope s.heap.objs.size f cd).kindOf (ps.zip us) λ_=>none) s1) :
  Inv (mZ CX P w K mg base N qual scope f cd A outer s H E) [] (start N vs) H s1:=by
 have hpl:ps.length<=N.length:=by have:=congrArg Lq S.pre;rw [length_take] at this;omega
 obtain⟨h1,tk,rfl,hk⟩:=x.done;have noA:∀b:Addr,b∉(mZ CX P w K mg base N qual scope f cd A outer s H E).ex:=λb z=>absurd (show b∈([]:List Addr) from z) (by simp)
 refine⟨⟨e0.mod,S.kind,rfl,rfl,pf _,λy z c h1 h2=>?_,λy hy=>?_,λy c _ h=>?_,λ_=>hd,Around.frames_deeper e0.frames,.inr ⟨rfl,rfl⟩,λb z=>absurd z (noA b),e0.bs,e0.bsz,λb _ _=>noA b,λb z=>absurd z (noA b),e0.funs,e0.frf⟩,
  rfl,e0.bare,Un.kept hk,⟨_,x.toInCall.ns,λi y v h1 h2 h3=>?_⟩,λy c h=>⟨_,x.cell y c h⟩,e0.hok.fresh (pf _),λy c h=>?_,λp hp=>absurd (show p∈([]:List (Addr×Obj)) from hp) (by simp),e0.hok.kept hk,?_⟩
 .exact name_of_addr x.apart (J8 h1) (J8 h2)
 .have hy:scope.names.lookup y=some .cell\/scope.names.lookup y=some .free:=hy
  rcases hy with hy|hy
  .exact ud hy
  .exact absurd rfl (S.nofree _ (J8 hy))
 .exact MO (x.above y c (J8 h))
 .have hi:i<vs.length:=by
   unfold start at h2
   by_cases hi:i<vs.length
   .exact hi
   .rw [JS (by simpa using hi)] at h2;rw [getElem?_replicate] at h2;split at h2 <;> cases h2
  have ha:vs[i]?=some v:=by
   unfold start at h2;rw [Kn (by simpa using hi),k_] at h2
   cases e:vs[i]? with
   | none=>rw [e] at h2;cases h2
   | some a=>rw [e] at h2;cases h2;rfl
  obtain⟨u,hu,rv⟩:=r.get ha
  have hp:ps[i]?=some y:=by
   rw [<- S.pre,getElem?_take_of_lt (by omega)];exact h1
  have ndP:ps.Nodup:=by rw [<- S.pre];exact S.nd.sublist (take_sublist _ _)
  refine⟨u,rv,?_⟩
  rcases S.par y (IH hp) with k|k
  .exact .inl ⟨k,qh ndP hp hu k⟩
  .obtain⟨c,e⟩:=ud (n:=s.heap.objs.size+1) k;refine .inr ⟨.inl k,c,e,?_⟩;have q:=x.cell y c e;rw [qi ndP hp hu (by show scope.names.lookup y≠_;rw [k];decide)] at q;exact q
 .exact e0.hok.fresh (MO (x.above y c (J8 h)))
 .unfold start;show _=N.length;rw [length_append,length_map,length_replicate];omega
def Bv{CX:CXT}{P:pj}{w:World}{K:a_}{mg:Str->Option Value}{base:Heap}{k:Nat}{f:Addr}{name qual:Str}{params:Arguments}{body:List Stmt}{scope:Scope}{dV kV doc pm cdv ct oc:Value}{an od:Option Addr}
  {osl:Array (Option Value)}{N ps:List Str}{sp:Sp} (lk:K.lookup f=some ⟨oc,od,.func (F_ name qual params body scope dV kV doc pm an cdv ct),osl⟩) (hcd:Jk K cdv qual=true) (S:aA N ps scope)
  (len:∀vs H Q E,sp vs H Q E->vs.length=ps.length)
  (hbody:∀(A:v_) (outer:List Env) (s:cy) (H:Hp) (vs:List V) (Q:VK) (E:XK),dO k (A.deeper (envOfC qual scope s.heap.objs.size f cdv))->sp vs H Q E ->
   ∃t,PSs (mZ CX P w K mg base N qual scope f cdv A outer s H E) body t/\t { nx:=λ_ H'=>Q .non H',rt:=Q } (start N vs) H) :
  nP P w K mg base CX (k+1) f (F_ name qual params body scope dV kV doc pm an cdv ct) ps sp:=by
 refine⟨len,λA outer s H args us vs Q E hr e0 hb r hsp=>?_⟩;have hl:=len _ _ _ _ hsp;have KX:K.In s.heap:=e0.mod.kin.keeps λb o e=>(e0.bs b o e).1;have lim:s.heap.NoLimit:=e0.mod.nolimit.keeps λb o e=>(e0.bs b o e).1
 have hkind:∀y∈ps.zip us,scope.names.lookup y.1=some .local\/(scope.names.lookup y.1=some .cell/\((cellsFrom (s.heap.objs.size+1) scope.names []).lookup y.1).isSome=true):=λ⟨n,v⟩ hy=>by
  rcases S.par n (of_mem_zip hy).1 with q|q
  .exact .inl q
  .exact .inr ⟨q,Kc _ _ _ (.inl q)⟩
 refine codeAny_call_function hr.depth (KX _ _ lk) rfl S.co S.gen rfl (PySem.W.codeRec_of KX hcd) (hb _ _ _ _ ?_);refine wpAny_newFunctionEnv_cells S.kind hkind λenv he s1 x=>?_;subst he;refine⟨lim.keeps x.toInCall.keep,codeAny_func ?_⟩;obtain⟨t,ht,hq⟩:=hbody A outer s H vs Q E (hr.deeper _) hsp;have I:Inv (mZ CX P w K mg base N qual scope f cdv A outer s H E) [] (start N vs) H s1:=wu S hr.hd e0 hl r x
 refine D_ (ht [] s1 (start N vs) H _ I hq) (λfl s' hs=>?_) λe s' hs=>hs
 have fin:∀{σ':St}{H':Hp}{v:V}{u:Value},Inv (mZ CX P w K mg base N qual scope f cdv A outer s H E) [] σ' H' s'->cv v u->Q v H'->CE outer P w H s Q u s' :=
  λ{σ' H' v u} J rv q=>⟨v,H',J.os,J.bare,J.base,J.hok,rv,q⟩
 cases fl with
 | ret u =>
  obtain⟨v,σ',H',J,rv,q⟩:=hs;exact fin J rv q
 | next =>
  obtain⟨σ',H',J,q⟩:=hs;exact fin (v:=V.non) (u:=IJ) J rfl q
 | brk =>
  obtain⟨_,_,_,q⟩:=hs;exact IS q
 | cont =>
  obtain⟨_,_,_,q⟩:=hs;exact IS q
section
variable {X:Cx}{x:Str}{p pos:Pos}{e:Expr}{es:List Expr}{t:TA}{id T:String}{r:List V->Hp->VK->Prop}
noncomputable def tCB(r:List V->Hp->VK->Prop)(t:TA):TE:=λσ H Q=>t σ H λvs H1=>r vs H1 Q
def yR(hc:bo X (.builtin id) r)(hg:Gl X x)(hm:X.mg x=none)(hv:bootBuiltins x=some (.builtin id))(ha:PA X (e::es) t)(hn:x≠"__name__":=by decide)(hdb:(x == ("__debug__":Str))=false:=by decide)
  (he:starEach (e::es) X.env=(false,eval e X.env)::starEach es X.env:=by rfl) (hpl:(backTo pos (starEach es X.env)).any (·.1)=false:=by rfl):PE X (.Call (.Name x p) (e::es) [] pos) (tCB r t):=by
 intro pins s σ H Q I h;refine Jz (kL I hg hm hv ?_ hn hdb);exact PyProof.Rows.callWith_builtin1 (thn (ha pos pins s σ H _ I h) λus s1 ⟨vs,H1,I1,r1,q1⟩=>hc pins s1 σ H1 vs us Q I1 r1 q1) he hpl
def wv(hc:bo X (.type T) r)(hg:Gl X x)(hm:X.mg x=none)(hv:bootBuiltins x=some (.type T))(ha:PA X (e::es) t)(hn:x≠"__name__":=by decide)(hdb:(x == ("__debug__":Str))=false:=by decide)
  (he:starEach (e::es) X.env=(false,eval e X.env)::starEach es X.env:=by rfl) (hpl:(backTo pos (starEach es X.env)).any (·.1)=false:=by rfl):PE X (.Call (.Name x p) (e::es) [] pos) (tCB r t):=by
 intro pins s σ H Q I h;refine Jz (kL I hg hm hv ?_ hn hdb);exact Js (thn (ha pos pins s σ H _ I h) λus s1 ⟨vs,H1,I1,r1,q1⟩=>hc pins s1 σ H1 vs us Q I1 r1 q1) he hpl
end
end L2
namespace HT
open PySem PyProof.Rows
section
open PySem.SeqAt
open PySem.AutoSeq1 (wpAny_loadPart')
open PySem.MeetsSeq PySem.MeetsSeq2 PySem.MeetsSeq3
end
section
variable {prog:pj}{w:World}{A:v_}{E:Value->cy->Prop}{s:cy}
def cat_tup{t b:Addr}{vs ws:List Value}{Q:Value->cy->Prop}(ht:IsTup s.heap t vs.toArray)(hb:IsTup s.heap b ws.toArray)(hv:vs≠[])
  (h1:ws=[]->Q (.ref t) s) (h2:ws≠[]->Q (.ref s.heap.objs.size) { s with heap:=s.heap.push { cls:=.type "tuple",data:=.seq (vs++ws).toArray } })
  (hsz:vs.length+ws.length<=sizeLine):wpAny (model prog w) A (binaryOp .Add (.ref t) (.ref b)) Q E s:=by
 obtain⟨⟨cls,dd,data,sl⟩,ho,hc,n,hd⟩:=id ht;obtain⟨⟨cls2,dd2,data2,sl2⟩,ho2,hc2,n2,hd2⟩:=id hb;simp only at hc hd hc2 hd2;subst hc hd hc2 hd2;have e:vs.toArray++ws.toArray=(vs++ws).toArray:=by simp
 by_cases hw:ws=[]
 .exact MC ⟨_,ho,rfl⟩ ⟨_,ho2,rfl⟩ Mv seq_tuple_add K0 KN (Ky _ _)
   (tuple_addW1 t b vs.toArray ws.toArray n n2 dd dd2 sl sl2 (by simpa using hv) (by simp [hw])) ⟨ho,ho2,h1 hw⟩
 .refine MC ⟨_,ho,rfl⟩ ⟨_,ho2,rfl⟩ Mv seq_tuple_add K0 KN (Ky _ _)
   (tuple_addW2 t b vs.toArray ws.toArray n n2 dd dd2 sl sl2 (by simpa using hv) (by simpa using hw) (by rw [size_toArray,size_toArray];exact hsz)) ⟨ho,ho2,?_⟩
  rw [e];exact h2 hw
noncomputable def sIx(n d:Nat):Option Int->Nat
 | none=>d
 | some v=>if v<0 then (v+(n:Int)).toNat else min v.toNat n
def sIx_nat(n d k:Nat):sIx n d (some (k:Int))=min k n:=by
 show (if (k:Int)<0 then ((k:Int)+(n:Int)).toNat else min (k:Int).toNat n)=min k n;rw [if_neg (by omega),B_]
def sIx_le(n d:Nat)(hd:d<=n)(o:Option Int):sIx n d o<=n:=by
 cases o with
 | none=>exact hd
 | some v =>
  show (if v<0 then (v+(n:Int)).toNat else min v.toNat n)<=n
  by_cases hv:v<0
  .rw [if_pos hv];omega
  .rw [if_neg hv];exact min_le_right _ _
def clip_eq(v:Int)(n d:Nat):(if v<0 then max (v+(n:Int)) 0 else min v (n:Int))=((sIx n d (some v):Nat):Int):=by
 show (if v<0 then max (v+(n:Int)) 0 else min v (n:Int))=(((if v<0 then (v+(n:Int)).toNat else min v.toNat n):Nat):Int)
 by_cases hv:v<0
 .simp only [if_pos hv];omega
 .simp only [if_neg hv];omega
def vc(lo hi:Option Int)(n:Nat):Kv lo hi 1 (n:Int)=(((sIx n 0 lo:Nat):Int),((sIx n n hi:Nat):Int)):=by
 have h1:¬ ((1:Int)<0):=by omega
 unfold Kv;simp only [h1,if_false]
 refine Prod.ext ?_ ?_
 .cases lo with
  | none=>rfl
  | some v=>exact clip_eq v n 0
 .cases hi with
  | none=>rfl
  | some v=>exact clip_eq v n n
def vd(i j:Nat):JU (i:Int) (j:Int) 1=j - i:=by
 unfold JU;have h1:(1:Int) > 0:=by omega
 simp only [h1,if_true,ediv_one];split <;> omega
def m5{v:Value}{o:Option Int}{Q:Option Int->cy->Prop}(p:MD v o)(h:Q o s):wpAny (model prog w) A (Builtin.Slice.slicePartIndex v) Q E s:=by
 cases p with
 | none=>exact slicePart_none h
 | int i t=>exact slicePart_int h
def fV{sl:Addr}{vl vu:Value}{lo hi:Option Int}{n:Nat}{Q:Int×Int×Nat->cy->Prop}(hs:s.heap.IsSliceOf sl vl vu .none)(pl:MD vl lo)(pu:MD vu hi)
  (h:Q (((sIx n 0 lo:Nat):Int),1,sIx n n hi - sIx n 0 lo) s):wpAny (model prog w) A (LZ (.ref sl) (pure (n:Int))) Q E s:=by
 obtain⟨os,hos,hcs,hds⟩:=id hs;unfold LZ Builtin.Slice.sliceFields;refine b_ (b_ (IM hos hds (x:=vl) rfl (b_ (IM hos hds (x:=vu) rfl (b_ (IM hos hds (x:=.none) rfl (f_ ?_)))))));refine b_ (slicePart_none ?_);show wpAny _ _ (if ((1:Int) == 0)=true then _ else _) _ _ s;rw [if_neg (by decide)];refine b_ (m5 pl (b_ (m5 pu (b_ (f_ ?_)))))
 show wpAny _ _ (match Kv lo hi 1 (n:Int) with|(lo,hi)=>pure (lo,(1:Int),JU lo hi 1)) _ _ s;rw [vc lo hi n];show wpAny _ _ (pure (((sIx n 0 lo:Nat):Int),(1:Int),JU ((sIx n 0 lo:Nat):Int) ((sIx n n hi:Nat):Int) 1)) _ _ s;rw [vd];exact f_ h
def yS(xs:Array Value)(i k:Nat):((g_ k).filterMap λ(m:Nat)=>xs[((i:Int)+(m:Int)*1).toNat]?).toArray=((xs.toList.drop i).take k).toArray:=by
 have e:(λ(m:Nat)=>xs[((i:Int)+(m:Int)*1).toNat]?)=λm=>xs[i+m]?:=by
  funext m;have:((i:Int)+(m:Int)*1).toNat=i+m:=by omega
  rw [this]
 rw [e];have:=pick_run xs i k;rw [Mg] at this;have e2:((λx=>xs[x]?) ∘ λx=>i+x)=λm=>xs[i+m]?:=rfl;rw [e2] at this;rw [this]
def getItem_tuple_cut{t sl:Addr}{items:Array Value}{vl vu:Value}{lo hi:Option Int}{Q:Value->cy->Prop}(ht:IsTup s.heap t items)(hs:s.heap.IsSliceOf sl vl vu .none)(pl:MD vl lo)(pu:MD vu hi)
  (hw:¬ (sIx items.size 0 lo=0/\sIx items.size items.size hi=items.size))
  (h:Q (.ref s.heap.objs.size) { s with heap:=s.heap.push { cls:=.type "tuple",data:=.seq ((items.toList.drop (sIx items.size 0 lo)).take (sIx items.size items.size hi - sIx items.size 0 lo)).toArray } })
  (hsz:items.size<=sizeLine):wpAny (model prog w) A (getItem (.ref t) (.ref sl)) Q E s:=by
 have htake:sizeOk (.seq ((items.toList.drop (sIx items.size 0 lo)).take (sIx items.size items.size hi - sIx items.size 0 lo)).toArray):=by
  show ((items.toList.drop (sIx items.size 0 lo)).take (sIx items.size items.size hi - sIx items.size 0 lo)).toArray.size<=sizeLine;rw [size_toArray,length_take,length_drop,I_];omega
 have hj:sIx items.size items.size hi<=items.size:=sIx_le _ _ (pf _) hi;obtain⟨os,hos,hcs,hds⟩:=id hs;have hTs:s.TypeIs (.ref sl) "slice":=⟨os,hos,hcs⟩
 unfold getItem
 try with_reducible refine G_ ?_
 first|refine b_ (f_ ?_)|skip
 refine b_ (wpAny_sequenceKey ht.typeIs (by decide) ?_)
 refine b_ (Ja (name:=Ks "__getitem__") ht.typeIs IQ
  (Jq IQ ht.typeIs entry_tuple_getitem ?_ (args_tuple_getitem _ _)))
 show wpAny _ _ (L0 (.ref t) >>= _) _ _ s;refine b_ (tupleItemsOf_ ht ?_);refine b_ (LL hTs ?_);rw [if_pos (by decide)];refine b_ (fV hs pl pu ?_)
 have hno:¬ ((((sIx items.size 0 lo:Nat):Int) == 0 && (1:Int) == 1 && (sIx items.size items.size hi - sIx items.size 0 lo) == items.size)=true):=by
  intro q;rw [and_eq_true,and_eq_true] at q;have q1:((sIx items.size 0 lo:Nat):Int)=0:=eq_of_beq q.1.1;have q2:sIx items.size items.size hi - sIx items.size 0 lo=items.size:=eq_of_beq q.2;exact hw ⟨by omega,by omega⟩
 show wpAny _ _ (if (((sIx items.size 0 lo:Nat):Int) == 0 && (1:Int) == 1 && (sIx items.size items.size hi - sIx items.size 0 lo) == items.size)=true then _ else _) _ _ s;rw [if_neg hno,yS]
 first
  | exact b_ (m:=J0 _) (Ji (f_ ⟨_,rfl,f_ h⟩) htake)
  | exact b_ (m:=J0 _) (Ji (b_ (f_ (f_ ⟨_,rfl,f_ h⟩))) htake)
  | exact b_ (b_ (m:=J0 _) (Ji (f_ (f_ ⟨_,rfl,f_ h⟩)) htake))
  | exact b_ (b_ (m:=J0 _) (Ji (f_ ⟨_,rfl,f_ h⟩) htake))
end
end HT
namespace L2
open PySem PySem.Spec PyProof.Rows
abbrev TO:=St->Hp->(Option Int->Hp->Prop)->Prop
noncomputable def PO(X:Cx)(e:Option Expr)(t:TO):Prop :=
 ∀(pins:List (Addr×Obj)) (s:cy) (σ:St) (H:Hp) (Q:Option Int->Hp->Prop),Inv X pins σ H s->t σ H Q ->
  wpAny (model X.prog X.w) X.A (evalPart e X.env) (λu s'=>∃o H',Inv X pins σ H' s'/\MD u o/\Q o H') X.xe s
def rP:TO:=λ_ H Q=>Q none H
noncomputable def ww(t:TE):TO:=λσ H Q=>t σ H λx H1=>∃i,x=.int i/\Q (some i) H1
def gU{ns:List Int}:∀{us:List Value},bD (ns.map V.int) us->KC us ns:=by
 induction ns with
 | nil=>intro us r;rw [map_nil] at r;cases r;exact .nil
 | cons n ns ih =>
  intro us r;rw [map_cons] at r
  cases r with
  | cons r1 r2 =>
   obtain⟨t,e⟩:=r1;subst e;exact .cons n t (ih r2)
section
variable {X:Cx}{e:Expr}{te:TE}{lo hi:Option Expr}{tl th:TO}{pos p2:Pos}
def bh:PO X none rP:=by
 intro pins s σ H Q I h;rw [evalPart_none];exact f_ ⟨none,H,I,.none,h⟩
def bc(h:PE X e te):PO X (some e) (ww te):=by
 intro pins s σ H Q I hw;rw [evalPart_some];refine thn (h pins s σ H _ I hw) λu s1 ⟨x,H1,I1,r1,q1⟩=>?_;obtain⟨i,rfl,q⟩:=q1;obtain⟨t,rfl⟩:=r1;exact⟨some i,H1,I1,.int i t,q⟩
noncomputable def SlR(X:Cx)(r:V->Option Int->Option Int->Hp->VK->Prop):Prop :=
 ∀(pins:List (Addr×Obj)) (s:cy) (σ:St) (H:Hp) (x:V) (v vl vu:Value) (lo hi:Option Int) (sl:Addr) (Q:VK),Inv X pins σ H s->cv x v->s.heap.IsSliceOf sl vl vu .none->MD vl lo->MD vu hi->r x lo hi H Q ->
  ∃T id,typeLookup (.type T) "__getitem__"=pure (some (.builtin id))/\s.TypeIs v T/\wpAny (model X.prog X.w) X.A (getItem v (.ref sl)) (EP X pins σ Q) X.xe s
def SlR.or{r r':V->Option Int->Option Int->Hp->VK->Prop}(h:SlR X r)(h':SlR X r'):SlR X (λx lo hi H Q=>r x lo hi H Q\/r' x lo hi H Q):=by
 intro pins s σ H x v vl vu lo hi sl Q I rx hs pl pu q
 rcases q with q|q
 .exact h pins s σ H x v vl vu lo hi sl Q I rx hs pl pu q
 .exact h' pins s σ H x v vl vu lo hi sl Q I rx hs pl pu q
noncomputable def tSl(r:V->Option Int->Option Int->Hp->VK->Prop)(te:TE)(tl th:TO):TE:=λσ H Q=>te σ H λx H1=>tl σ H1 λl H2=>th σ H2 λu H3=>r x l u H3 Q
def aQ{r:V->Option Int->Option Int->Hp->VK->Prop}(hr:SlR X r)(he:PE X e te)(hl:PO X lo tl)(hu:PO X hi th):PE X (.Subscript e (.Slice lo hi none p2) pos) (tSl r te tl th):=by
 intro pins s σ H Q I h;refine Subscript_ (thn (he pins s σ H _ I h) λv s1 ⟨x,H1,I1,r1,q1⟩=>?_);refine wpAny_Slice (thn (hl pins s1 σ H1 _ I1 q1) λvl s2 ⟨l,H2,I2,pl,q2⟩=>thn (hu pins s2 σ H2 _ I2 q2) λvu s3 ⟨u,H3,I3,pu,q3⟩=>?_);rw [evalPart_none];refine f_ ?_;have I4:Inv X pins σ H3 { s3 with heap:=s3.heap.push { cls:=.type "slice",data:=.fields #[vl,vu,.none] } }:=I3.kept (t':=s3.toks) λb ob q=>e_ _ q
 obtain⟨T,id,hT,ht,hg⟩:=hr pins { s3 with heap:=s3.heap.push { cls:=.type "slice",data:=.fields #[vl,vu,.none] } } σ H3 x v vl vu l u s3.heap.objs.size Q I4 r1 (Heap.IsSliceOf.new ..) pl pu q3;show wpAny (model X.prog X.w) X.A (subscriptTail e (.Slice lo hi none p2) v (.ref s3.heap.objs.size)) (EP X pins σ Q) X.xe { s3 with heap:=s3.heap.push { cls:=.type "slice",data:=.fields #[vl,vu,.none] } };exact tail_any (ops:=[.ref s3.heap.objs.size,v]) ht hT hg (by with_unfolding_all rfl)
noncomputable def Bw(xs:List V)(lo hi:Option Int):List V:=(xs.drop (HT.sIx xs.length 0 lo)).take (HT.sIx xs.length xs.length hi - HT.sIx xs.length 0 lo)
def kQ(xs:List V)(lo hi:Option Int):(Bw xs lo hi).length<=xs.length:=by
 unfold Bw;rw [length_take,length_drop];omega
noncomputable def Hj(K:a_):V->Option Int->Option Int->Hp->VK->Prop:=λx lo hi H Q=>∃a xs,x=.ref a/\SqT K H a xs /\
 ¬ (HT.sIx xs.length 0 lo=0/\HT.sIx xs.length xs.length hi=xs.length)/\∀p,H p=none->Q (.ref p) (upd H p (.tup (Bw xs lo hi)))
def DI:SlR X (Hj X.K):=by
 intro pins s σ H x v vl vu lo hi sl Q I rx hs pl pu h;obtain⟨a,xs,rfl,hx,hw,q⟩:=h;cases rx;obtain⟨its,r,ht,hz⟩:=I.tuple hx;have hlen:its.toArray.size=xs.length:=by rw [size_toArray];exact r.length.symm
 refine⟨"tuple",_,IQ.lookup,ht.typeIs,?_⟩;refine HT.getItem_tuple_cut ht hs pl pu (by rw [hlen];exact hw) ?_ (by rw [hlen];exact hz);rw [hlen];refine⟨.ref s.heap.objs.size,_,I.laid (t':=s.toks) (o:=.tup (Bw xs lo hi)) (λb ob q=>e_ _ q) (pf _) ?_,rfl,q _ (I.hok.fresh (pf _))⟩;exact⟨IG (kQ xs lo hi) hz,_,(r.drop (HT.sIx xs.length 0 lo)).take (HT.sIx xs.length xs.length hi - HT.sIx xs.length 0 lo),IsTup.new _ _⟩
noncomputable def DJ(K:a_):R2:=λx y H Q=>∃a b xs ys,x=.ref a/\y=.ref b/\SqT K H a xs/\SqT K H b ys/\xs≠[]/\xs.length+ys.length<=sizeLine /\
 (ys=[]->Q (.ref a) H)/\(ys≠[]->∀p,H p=none->Q (.ref p) (upd H p (.tup (xs++ys))))
def bD.nil_iff{xs:List V}{us:List Value}(r:bD xs us):us=[] ↔ xs=[]:=by
 cases r with
 | nil=>simp
 | cons _ _=>simp
def Bx:OpR X (binaryOp .Add) (DJ X.K):=by
 intro pins s σ H x y v u Q I rx ry h;obtain⟨a,b,xs,ys,rfl,rfl,ha,hb,hx,hz,q1,q2⟩:=h;cases rx;cases ry;obtain⟨its,r1,p1,_⟩:=I.tuple ha;obtain⟨its2,r2,p2,_⟩:=I.tuple hb;refine HT.cat_tup p1 p2 (λz=>hx (r1.nil_iff.mp z)) (λz=>⟨.ref a,H,I,rfl,q1 (r2.nil_iff.mp z)⟩) (λz=>?_) (by rw [<- r1.length,<- r2.length];exact hz);refine⟨.ref s.heap.objs.size,_,I.laid (t':=s.toks) (o:=.tup (xs++ys)) (λb ob q=>e_ _ q) (pf _) ?_,rfl,q2 (λw=>z (r2.nil_iff.mpr w)) _ (I.hok.fresh (pf _))⟩
 exact⟨by rw [length_append];exact hz,_,r1.append r2,IsTup.new _ _⟩
end
noncomputable def ixN(n:Nat)(i:Int):Option Nat:=if 0<=i then (if i<n then some i.toNat else none) else if -(n:Int)<=i then some (i+n).toNat else none
noncomputable def atI{α:Type}(xs:List α)(i:Int):Option α:=(ixN xs.length i).bind λj=>xs[j]?
def rQ{n:Nat}{i:Int}{j:Nat}(h:ixN n i=some j):seqIndex? i n=some j/\j<n/\-(n:Int)<=i/\i<n:=by
 unfold ixN at h
 by_cases h0:0<=i
 .rw [if_pos h0] at h
  by_cases h1:i<n
  .rw [if_pos h1] at h;have e:i.toNat=j:=r_ h;exact⟨by rw [seqIndex_of h0 h1,e],by omega,by omega,h1⟩
  .rw [if_neg h1] at h;cases h
 .rw [if_neg h0] at h
  by_cases h1:-(n:Int)<=i
  .rw [if_pos h1] at h;have e:(i+n).toNat=j:=r_ h;exact⟨by rw [seqIndex_neg (by omega) h1,e],by omega,h1,by omega⟩
  .rw [if_neg h1] at h;cases h
def rR{α:Type}{xs:List α}{i:Int}{v:α}(h:atI xs i=some v):∃j,seqIndex? i xs.length=some j/\xs[j]?=some v/\j<xs.length/\-(xs.length:Int)<=i/\i<xs.length:=by
 unfold atI at h
 cases e:ixN xs.length i with
 | none=>rw [e] at h;cases h
 | some j =>
  rw [e] at h;obtain⟨h1,h2,h3,h4⟩:=rQ e;exact⟨j,h1,h,h2,h3,h4⟩
def By{α:Type}{xs:List α}{j:Nat}{v:α}(h:xs[j]?=some v):atI xs (j:Int)=some v:=by
 have hj:j<xs.length:=(i_.mp h).1
 have e:ixN xs.length (j:Int)=some j:=by
  unfold ixN;rw [if_pos (by omega),if_pos (by omega)];simp
 unfold atI;rw [e];exact h
noncomputable def Bz(b:Expr):Prop:=∀o i,subscripted b false o i=operate [o,i] (getItem o i)
noncomputable def IxR(X:Cx)(r:R2):Prop :=
 ∀(value slice:Expr) (pins:List (Addr×Obj)) (s:cy) (σ:St) (H:Hp) (x y:V) (v u:Value) (Q:VK),Inv X pins σ H s->cv x v->cv y u->r x y H Q ->
  subscripted slice false v u=operate [v,u] (getItem v u)->wpAny (model X.prog X.w) X.A (subscriptTail value slice v u) (EP X pins σ Q) X.xe s
noncomputable def MtR(X:Cx)(id:String)(r:V->List V->Hp->VK->Prop):Prop :=
 ∀(pins:List (Addr×Obj)) (s:cy) (σ:St) (H:Hp) (x:V) (xs:List V) (v:Value) (us:List Value) (Q:VK),Inv X pins σ H s->cv x v->bD xs us->r x xs H Q ->
  wpAny (model X.prog X.w) X.A (call (.builtin id) (v::us)) (EP X pins σ Q) X.xe s
section
variable {X:Cx}{a b:Expr}{ta tb:TE}{pos:Pos}
def IxR.or{r r':R2}(h:IxR X r)(h':IxR X r'):IxR X (λx y H Q=>r x y H Q\/r' x y H Q):=by
 intro value slice pins s σ H x y v u Q I rx ry q hs
 rcases q with q|q
 .exact h value slice pins s σ H x y v u Q I rx ry q hs
 .exact h' value slice pins s σ H x y v u Q I rx ry q hs
def bx{r:R2}(hr:IxR X r)(ha:PE X a ta)(hb:PE X b tb)(hs:Bz b):PE X (.Subscript a b pos) (tOp r ta tb):=by
 intro pins s σ H Q I h;exact Subscript_ (FL ha hb I h λv u s2 x y H2 I2 rx ry q=>hr a b pins s2 σ H2 x y v u Q I2 rx ry q (hs _ _))
noncomputable def Hk(K:a_):R2:=λx y H Q=>∃p xs i v,x=.ref p/\y=.int i/\SqL K H p xs/\atI xs i=some v/\Q v H
noncomputable def Hl(K:a_):R2:=λx y H Q=>∃p xs i v,x=.ref p/\y=.int i/\SqT K H p xs/\atI xs i=some v/\Q v H
noncomputable def HX:R2:=λx y H Q=>∃z i c,x=.str z/\y=.int i/\z.length<=sizeLine/\atI z.cps.toList i=some c/\Q (.str ⟨#[c]⟩) H
def BA:IxR X (Hk X.K):=by
 intro value slice pins s σ H x y v u Q I rx ry h hs;obtain⟨p,xs,i,z,rfl,rfl,hq,he,q⟩:=h;cases rx;obtain⟨t,rfl⟩:=ry;obtain⟨its,r,pl,hz⟩:=I.list hq;obtain⟨j,h1,h2,h3,h4,h5⟩:=rR he;obtain⟨w,ew,rw'⟩:=r.get h2;have hl:=r.length;have hn:=mX;have fin:EP X pins σ Q w s:=⟨z,H,I,rw',q⟩
 by_cases h0:0<=i
 .have hj:i.toNat=j:=by
   rw [seqIndex_of h0 h5] at h1;exact r_ h1
  exact item_listR pl.isList h0 (by omega) (by rw [hj];simpa using ew) fin hs
 .have hj:(i+(its.toArray.size:Int)).toNat=j:=by
   rw [seqIndex_neg (by omega) h4] at h1;rw [size_toArray,<- hl];exact r_ h1
  exact subscriptTail_builtinR (x:=w) pl.isList.typeIs slot_list_getitem.lookup
   (wpAny_getItem_list_neg (Q:=λr s'=>r=w/\EP X pins σ Q r s') pl.isList (by omega) (by rw [size_toArray] <;> omega) (by omega) (by rw [hj];simpa using ew) ⟨rfl,fin⟩) hs
def DK:IxR X (Hl X.K):=by
 intro value slice pins s σ H x y v u Q I rx ry h hs;obtain⟨p,xs,i,z,rfl,rfl,hq,he,q⟩:=h;cases rx;obtain⟨t,rfl⟩:=ry;obtain⟨its,r,pl,hz⟩:=I.tuple hq;obtain⟨j,h1,h2,h3,h4,h5⟩:=rR he;obtain⟨w,ew,rw'⟩:=r.get h2;have hl:=r.length;have hn:=mX;have fin:EP X pins σ Q w s:=⟨z,H,I,rw',q⟩
 exact subscriptTail_builtinR (x:=w) pl.typeIs slot_tuple_getitem.lookup
  (getItem_tuple (j:=j) (Q:=λr s'=>r=w/\EP X pins σ Q r s') pl (by omega) (by omega) (by rw [size_toArray,<- hl];exact h1) (by simpa using ew) ⟨rfl,fin⟩) hs
def DL:IxR X HX:=by
 intro value slice pins s σ H x y v u Q I rx ry h hs;obtain⟨z,i,c,rfl,rfl,hz,he,q⟩:=h;obtain⟨t,rfl⟩:=rx;obtain⟨t',rfl⟩:=ry;obtain⟨j,h1,h2,h3,h4,h5⟩:=rR he;have hl:z.cps.toList.length=z.length:=by simp [Str.length]
 rw [hl] at h1 h4 h5;have hn:=mX
 exact tail_any (typeIs_str s z t) slot_str_getitem.lookup (getItem_str (c:=c) (by
  have e1:decide (i < -(2^63:Int))=false:=decide_eq_false (by omega);have e2:decide (i >= 2^63)=false:=decide_eq_false (by omega);rw [e1,e2,M5]) (by rw [h1];simpa using h2) ⟨.str ⟨#[c]⟩,H,I.tok _,⟨_,rfl⟩,q⟩) hs
def ve(its:List Value)(n j:Nat)(u:Value):IP (·.setIfInBounds j u) { cls:=.type "list",data:=.seq its.toArray n }={ cls:=.type "list",data:=.seq (its.set j u).toArray n }:=by
 simp [IP]
def Inv.lst{pins:List (Addr×Obj)}{σ:St}{H:Hp}{s:cy}{p:Addr}{xs:List V}(I:Inv X pins σ H s)(h:H p=some (.lst xs)) :
  ∃(its:List Value) (n:Nat),bD xs its/\s.heap.get? p=some { cls:=.type "list",data:=.seq its.toArray n }/\xs.length<=sizeLine:=by
 obtain⟨z,its,n,r,e⟩:=I.hok p _ h;exact⟨its,n,r,e,z⟩
def Inv.lstUpd{pins:List (Addr×Obj)}{σ:St}{H:Hp}{s:cy}{p:Addr}{xs ys:List V}{its its':List Value}{n n':Nat}{f:Obj->Obj}(I:Inv X pins σ H s)(h:H p=some (.lst xs))
  (ho:s.heap.get? p=some { cls:=.type "list",data:=.seq its.toArray n }) (hf:f { cls:=.type "list",data:=.seq its.toArray n }={ cls:=.type "list",data:=.seq its'.toArray n' }) (r:bD ys its') (hz:ys.length<=sizeLine) (t:Nat) :
  Inv X pins σ (upd H p (.lst ys)) { s with heap:=s.heap.update p f,toks:=t }:=by
 have e:(s.heap.update p f).get? p=some { cls:=.type "list",data:=.seq its'.toArray n' }:=by
  rw [JT f ho (by rw [hf] <;> rfl),hf]
 refine I.write (x:=p) (e:=p) (by rw [h];trivial) (.inl rfl) (λb u hb q=>(Heap.get?_update_other _ _ (J7 hb)).trans q) ⟨_,e⟩ ?_;exact⟨hz,its',n',r,e⟩
noncomputable def DM:V->V->V->Hp->(Hp->Prop)->Prop:=λo i v H Q=>∃p xs k j,o=.ref p/\i=.int k/\H p=some (.lst xs)/\ixN xs.length k=some j/\Q (upd H p (.lst (xs.set j v)))
def nQ:He X DM:=by
 intro pins s σ H o i v ov iv u Q I ro ri rv h;obtain⟨p,xs,k,j,rfl,rfl,hp,hj,q⟩:=h;cases ro;obtain⟨t,rfl⟩:=ri;obtain⟨its,n,r,ho,hz⟩:=I.lst hp;obtain⟨h1,h2,h3,h4⟩:=rQ hj;have hl:=r.length;have hn:=mX
 have I':Inv X pins σ (upd H p (.lst (xs.set j v))) { s with heap:=s.heap.update p (IP (·.setIfInBounds j u)) } :=
  I.lstUpd hp ho (ve its n j u) (r.set rv j) (by rw [Jc];exact hz) s.toks
 by_cases h0:0<=k
 .have hk:k.toNat=j:=by
   rw [seqIndex_of h0 h4] at h1;exact r_ h1
  exact PySem.W.ki_setAt ho h0 (by omega) (by rw [size_toArray,<- hl];exact h4) (by rw [hk];exact⟨_,I',q⟩)
 .have hk:(k+(its.toArray.size:Int)).toNat=j:=by
   rw [seqIndex_neg (by omega) h3] at h1;rw [size_toArray,<- hl];exact r_ h1
  exact PySem.W.ki_setBack ho (by omega) (by rw [size_toArray,<- hl];exact h3) (by omega) (by rw [hk];exact⟨_,I',q⟩)
def qj(lo hi:Option Int)(n:Nat):(sliceBounds lo hi none n).1=((HT.sIx n 0 lo:Nat):Int)/\(sliceBounds lo hi none n).2.1=((HT.sIx n n hi:Nat):Int)/\(sliceBounds lo hi none n).2.2=1:=by
 refine⟨?_,?_,rfl⟩
 .cases lo with
  | none=>simp [sliceBounds,HT.sIx]
  | some i =>
   simp only [sliceBounds,HT.sIx,Option.getD_none,show (1:Int) > 0 by decide,if_true]
   by_cases h:i<0
   .simp only [h,if_true] <;> omega
   .simp only [h,if_false] <;> omega
 .cases hi with
  | none=>simp [sliceBounds,HT.sIx]
  | some i =>
   simp only [sliceBounds,HT.sIx,Option.getD_none,show (1:Int) > 0 by decide,if_true]
   by_cases h:i<0
   .simp only [h,if_true] <;> omega
   .simp only [h,if_false] <;> omega
def nR(its:List Value)(lo hi:Option Int):slicePick its.toArray lo hi none=((its.drop (HT.sIx its.length 0 lo)).take (HT.sIx its.length its.length hi - HT.sIx its.length 0 lo)).toArray:=by
 obtain⟨h1,h2,h3⟩:=qj lo hi its.toArray.size;unfold slicePick;rw [h1,h2,h3];simp only [sliceRange_one,pick_run,size_toArray] <;> rfl
noncomputable def Hm(K:a_):V->Option Int->Option Int->Hp->VK->Prop:=λx lo hi H Q=>∃a xs,x=.ref a/\SqL K H a xs/\∀p,H p=none->Q (.ref p) (upd H p (.lst (Bw xs lo hi)))
def BB:SlR X (Hm X.K):=by
 intro pins s σ H x v vl vu lo hi sl Q I rx hs pl pu h;obtain⟨a,xs,rfl,hx,q⟩:=h;cases rx;obtain⟨its,r,ht,hz⟩:=I.list hx;have hlen:=r.length;refine⟨"list",_,slot_list_getitem.lookup,ht.isList.typeIs,?_⟩;refine wpAny_getItem_list_slice ht.isList hs pl pu .none (by simp) ?_ (by rw [size_toArray] <;> omega);rw [nR,<- hlen];refine⟨.ref s.heap.objs.size,_,I.laid (t':=s.toks) (o:=.lst (Bw xs lo hi)) (λb ob q=>e_ _ q) (pf _) ?_,rfl,q _ (I.hok.fresh (pf _))⟩
 exact⟨IG (kQ xs lo hi) hz,_,0,(r.drop (HT.sIx xs.length 0 lo)).take (HT.sIx xs.length xs.length hi - HT.sIx xs.length 0 lo),j_ _ rfl⟩
noncomputable def ml:V->Bool
 | .non=>true
 | .bl _=>true
 | .int _=>true
 | .str _=>true
 | _=>false
noncomputable def eqV:V->V->Bool
 | .non,.non=>true
 | .bl a,.bl b=>a == b
 | .bl a,.int b=>(if a then 1 else 0) == b
 | .int a,.bl b=>a == (if b then 1 else 0)
 | .int a,.int b=>a == b
 | .str a,.str b=>a == b
 | _,_=>false
def DN{A:v_}{s:cy}{y x:V}{u v:Value}(ry:cv y u)(rx:cv x v)(fy:ml y=true)(fx:ml x=true):SeqAt.EqAt A s u v (eqV y x):=by
 cases y with
 | non =>
  cases ry
  cases x with
  | non=>cases rx;exact SeqAt.EqAt.same _
  | bl b=>cases rx;exact SeqAt.EqAt.none_bool b
  | int b=>obtain⟨t,rfl⟩:=rx;exact SeqAt.EqAt.none_int b t
  | str b=>obtain⟨t,rfl⟩:=rx;exact SeqAt.EqAt.none_str b t
  | _=>exact absurd (show false=true from fx) l_
 | bl a =>
  cases ry
  cases x with
  | non=>cases rx;exact SeqAt.EqAt.bool_none a
  | bl b=>cases rx;exact SeqAt.EqAt.bool_bool a b
  | int b=>obtain⟨t,rfl⟩:=rx;exact SeqAt.EqAt.bool_int a b t
  | str b=>obtain⟨t,rfl⟩:=rx;exact SeqAt.EqAt.bool_str a b t
  | _=>exact absurd (show false=true from fx) l_
 | int a =>
  obtain⟨t',rfl⟩:=ry
  cases x with
  | non=>cases rx;exact SeqAt.EqAt.int_none a t'
  | bl b=>cases rx;exact SeqAt.EqAt.int_bool a t' b
  | int b=>obtain⟨t,rfl⟩:=rx;exact SeqAt.EqAt.int_int a t' b t
  | str b=>obtain⟨t,rfl⟩:=rx;exact SeqAt.EqAt.int_str a t' b t
  | _=>exact absurd (show false=true from fx) l_
 | str a =>
  obtain⟨t',rfl⟩:=ry
  cases x with
  | non=>cases rx;exact SeqAt.EqAt.str_none a t'
  | bl b=>cases rx;exact SeqAt.EqAt.str_bool a t' b
  | int b=>obtain⟨t,rfl⟩:=rx;exact SeqAt.EqAt.str_int a t' b t
  | str b=>obtain⟨t,rfl⟩:=rx;exact SeqAt.EqAt.str_str a t' b t
  | _=>exact absurd (show false=true from fx) l_
 | _=>exact absurd (show false=true from fy) l_
noncomputable def eqU(x:V)(u:Value):Bool:=match u with
 | .none=>eqV .non x
 | .bool b=>eqV (.bl b) x
 | .int i _=>eqV (.int i) x
 | .str z _=>eqV (.str z) x
 | _=>false
def Ab{x y:V}{u:Value}(r:cv y u)(f:ml y=true):eqU x u=eqV y x:=by
 cases y with
 | non=>cases r;rfl
 | bl b=>cases r;rfl
 | int i=>obtain⟨t,rfl⟩:=r;rfl
 | str z=>obtain⟨t,rfl⟩:=r;rfl
 | _=>exact absurd (show false=true from f) l_
theorem kR{x:V}:∀{xs:List V}{us:List Value},bD xs us->xs.all ml=true->us.any (eqU x)=xs.any λy=>eqV y x
 | _,_,.nil,_=>rfl
 | y::xs,u::us,.cons r t,f=>by
  rw [all_cons,and_eq_true] at f;rw [any_cons,any_cons,Ab r f.1,kR t f.2]
theorem iZ{A:v_}{s:cy}{x:V}{v:Value}(rx:cv x v)(fx:ml x=true):∀{xs:List V}{us:List Value},bD xs us->xs.all ml=true->∀u∈us,SeqAt.EqAt A s u v (eqU x u)
 | _,_,.nil,_=>λu hu=>by cases hu
 | y::xs,u::us,.cons r t,f=>λu' hu=>by
  rw [all_cons,and_eq_true] at f
  rcases mem_cons.mp hu with rfl|hu
  .rw [Ab r f.1];exact DN r rx f.1 fx
  .exact iZ rx fx t f.2 u' hu
noncomputable def inV(x:V)(xs:List V):Bool:=xs.any λy=>eqV y x
noncomputable def rIn(K:a_)(neg:Bool):R2:=λx y H Q=>∃p xs,y=.ref p/\(SqL K H p xs\/SqT K H p xs)/\ml x=true/\xs.all ml=true/\Q (.bl (if neg then !inV x xs else inV x xs)) H
def wx:OpR X (compareOp .In) (rIn X.K false):=by
 intro pins s σ H x y v u Q I rx ry h;obtain⟨p,xs,rfl,hq,fx,fs,q⟩:=h;cases ry
 rcases hq with hq|hq
 .obtain⟨its,r,pl,hz⟩:=I.list hq;refine SeqAt.in_listAt (eqU x) pl.isList (λw hw=>iZ rx fx r fs w (by simpa using hw)) ⟨.bl _,H,I,rfl,?_⟩;rw [show its.toArray.any (eqU x)=its.any (eqU x) by simp,kR r fs];exact q
 .obtain⟨its,r,pl,hz⟩:=I.tuple hq;refine SeqAt.in_tupleAt (eqU x) pl (λw hw=>iZ rx fx r fs w (by simpa using hw)) ⟨.bl _,H,I,rfl,?_⟩;rw [show its.toArray.any (eqU x)=its.any (eqU x) by simp,kR r fs];exact q
def qk:OpR X (compareOp .NotIn) (rIn X.K true):=by
 intro pins s σ H x y v u Q I rx ry h;obtain⟨p,xs,rfl,hq,fx,fs,q⟩:=h;cases ry
 rcases hq with hq|hq
 .obtain⟨its,r,pl,hz⟩:=I.list hq;refine SeqAt.notIn_listAt (eqU x) pl.isList (λw hw=>iZ rx fx r fs w (by simpa using hw)) ⟨.bl _,H,I,rfl,?_⟩;rw [show its.toArray.any (eqU x)=its.any (eqU x) by simp,kR r fs];exact q
 .obtain⟨its,r,pl,hz⟩:=I.tuple hq;refine SeqAt.notIn_tupleAt (eqU x) pl (λw hw=>iZ rx fx r fs w (by simpa using hw)) ⟨.bl _,H,I,rfl,?_⟩;rw [show its.toArray.any (eqU x)=its.any (eqU x) by simp,kR r fs];exact q
def j8:bo X (.builtin "len") (λxs H Q=>∃p ys,xs=[.ref p]/\(SqL X.K H p ys\/SqT X.K H p ys)/\Q (.int ys.length) H):=by
 intro pins s σ H xs us Q I r h;obtain⟨p,ys,rfl,hq,q⟩:=h;obtain⟨u,rfl,rx⟩:=iC r;cases rx;have hn:=mX
 rcases hq with hq|hq
 .obtain⟨its,r',pl,hz⟩:=I.list hq;have hlen:=r'.length;exact Calls.call_len_list pl.isList (by simp only [size_toArray] <;> omega) ⟨.int ys.length,H,I.tok _,⟨s.toks+1,by rw [size_toArray,hlen]⟩,q⟩
 .obtain⟨its,r',pl,hz⟩:=I.tuple hq;have hlen:=r'.length;exact len_tuple pl (by simp only [size_toArray] <;> omega) ⟨.int ys.length,H,I.tok _,⟨s.toks+1,by rw [size_toArray,hlen]⟩,q⟩
def ql:bo X (.builtin "len") (λxs H Q=>∃z,xs=[.str z]/\z.length<=sizeLine/\Q (.int z.length) H):=by
 intro pins s σ H xs us Q I r h;obtain⟨z,rfl,hz,q⟩:=h;obtain⟨u,rfl,t,rfl⟩:=iC r;have hn:=mX;exact len_str (by omega) ⟨.int z.length,H,I.tok _,⟨_,rfl⟩,q⟩
def bo.or{f:Value}{r r':List V->Hp->VK->Prop}(h:bo X f r)(h':bo X f r'):bo X f (λxs H Q=>r xs H Q\/r' xs H Q):=by
 intro pins s σ H xs us Q I rs q
 rcases q with q|q
 .exact h pins s σ H xs us Q I rs q
 .exact h' pins s σ H xs us Q I rs q
def qm:bo X (.type "list") (λxs H Q=>∃p ys,xs=[.ref p]/\(SqL X.K H p ys\/SqT X.K H p ys)/\∀l,H l=none->Q (.ref l) (upd H l (.lst ys))):=by
 intro pins s σ H xs us Q I r h;obtain⟨p,ys,rfl,hq,q⟩:=h;obtain⟨u,rfl,rx⟩:=iC r;cases rx
 have fin:∀(its:List Value),bD ys its->ys.length<=sizeLine->∀(h':Heap) (c':Nat),(∀b o',s.heap.get? b=some o'->h'.get? b=some o') ->
   h'.get? s.heap.objs.size=some { cls:=.type "list",dict:=none,data:=.seq its.toArray c',slots:=#[] }->EP X pins σ Q (.ref s.heap.objs.size) { s with heap:=h' }:=λits r' hz h' c' kp e =>
  ⟨.ref s.heap.objs.size,_,I.laid (t':=s.toks) kp (pf _) (show bn X.prog X.w _ h' _ (.lst ys) from ⟨hz,its,c',r',e⟩),rfl,q _ (I.hok.fresh (pf _))⟩
 rcases hq with hq|hq
 .obtain⟨its,r',pl,hz⟩:=I.list hq;have hlen:=r'.length;obtain⟨o,ho,hc,n,hd⟩:=pl.isList;exact call_list_seq p (.inl rfl) ho hc hd (λh' c' kp e=>fin its r' hz h' c' kp e) (by simp only [size_toArray] <;> omega)
 .obtain⟨its,r',pl,hz⟩:=I.tuple hq;have hlen:=r'.length;obtain⟨o,ho,hc,n,hd⟩:=pl;exact call_list_seq p (.inr rfl) ho hc hd (λh' c' kp e=>fin its r' hz h' c' kp e) (by simp only [size_toArray] <;> omega)
def nS:bo X (.type "tuple") (λxs H Q=>∃p ys,xs=[.ref p]/\((SqL X.K H p ys/\∀l,H l=none->Q (.ref l) (upd H l (.tup ys)))\/(SqT X.K H p ys/\Q (.ref p) H))):=by
 intro pins s σ H xs us Q I r h;obtain⟨p,ys,rfl,h⟩:=h;obtain⟨u,rfl,rx⟩:=iC r;cases rx
 rcases h with ⟨hq,q⟩|⟨hq,q⟩
 .obtain⟨its,r',pl,hz⟩:=I.list hq;have hlen:=r'.length;refine call_tuple_list pl.isList (λh' kp=>?_) (by simp only [size_toArray] <;> omega);have I1:Inv X pins σ H { s with heap:=h' }:=I.kept (t':=s.toks) kp
  have I2:Inv X pins σ (upd H h'.objs.size (.tup ys)) { s with heap:=h'.push { cls:=.type "tuple",data:=.seq its.toArray } } :=
   I1.laid (t':=s.toks) (λb o e=>e_ _ e) (pf _) (show bn X.prog X.w _ _ _ (.tup ys) from ⟨hz,its,r',IsTup.new _ _⟩)
  exact⟨.ref h'.objs.size,_,I2,rfl,q _ (I1.hok.fresh (pf _))⟩
 .obtain⟨its,r',pl,hz⟩:=I.tuple hq;exact call_tuple_same pl ⟨.ref p,H,I,rfl,q⟩
noncomputable def tyV(K:a_)(T:String)(x:V)(H:Hp):Prop:=match x with
 | .str _=>T="str"
 | .int _=>T="int"
 | .ref p=>(T="list"/\∃xs,SqL K H p xs)\/(T="tuple"/\∃o,K.lookup p=some o/\o.cls=.type "tuple"/\o.dict=none) \/
   (T="dict"/\((∃kvs,H p=some (.dK kvs))\/∃kvs,H p=some (.dT kvs)))\/(T="set"/\∃S n,H p=some (.set S n))
 | _=>False
def DO{pins:List (Addr×Obj)}{σ:St}{H:Hp}{s:cy}{T:String}{x:V}{v:Value}(I:Inv X pins σ H s)(r:cv x v)(ty:tyV X.K T x H) :
  s.TypeIs v T/\∀a,v=.ref a->∃ob,s.heap.get? a=some ob/\ob.dict=none:=by
 cases x with
 | str z =>
  obtain⟨t,rfl⟩:=r;cases (show T="str" from ty);exact⟨typeIs_str s z t,λ_ e=>nomatch e⟩
 | int i =>
  obtain⟨t,rfl⟩:=r;cases (show T="int" from ty);exact⟨typeIs_int s i t,λ_ e=>nomatch e⟩
 | ref p =>
  cases r
  rcases ty with ⟨rfl,xs,hq⟩|⟨rfl,o,hk,hc,hd⟩|⟨rfl,hk⟩|⟨rfl,S,n,hk⟩
  .obtain⟨its,_,pl,_⟩:=I.list hq;refine⟨pl.isList.typeIs,λa e=>?_⟩;cases e;obtain⟨o,n,e,c,hd,_⟩:=pl;exact⟨o,e,hd⟩
  .refine⟨⟨o,I.kIn p o hk,hc⟩,λa e=>?_⟩;cases e;exact⟨o,I.kIn _ o hk,hd⟩
  .have z:∃o,s.heap.get? p=some o/\o.ExactDict:=by
    rcases hk with ⟨kvs,hk⟩|⟨kvs,hk⟩
    .obtain⟨_,_,_,_,o,_,_,e,ex,_⟩:=I.hok p _ hk;exact⟨o,e,ex⟩
    .obtain⟨_,_,_,_,o,_,_,e,ex,_⟩:=I.hok p _ hk;exact⟨o,e,ex⟩
   obtain⟨o,e,ex⟩:=z;refine⟨⟨o,e,ex.1⟩,λa e2=>?_⟩;cases e2;exact⟨o,e,ex.2.1⟩
  .obtain⟨o,_,_,_,e,ex,_⟩:=I.hok p _ hk;refine⟨⟨o,e,ex.1⟩,λa e2=>?_⟩;cases e2;exact⟨o,e,ex.2.1⟩
 | _=>exact IS ty
noncomputable def tBM(K:a_)(T:String)(r:V->List V->Hp->VK->Prop)(to:TE)(t:TA):TE:=λσ H Q=>to σ H λx H1=>tyV K T x H1/\t σ H1 λxs H2=>r x xs H2 Q
variable {o e:Expr}{es:List Expr}{to:TE}{t:TA}{name:Str}{apos cpos:Pos}{T id:String}{r:V->List V->Hp->VK->Prop}
def F4(pa:PlainAttrs T)(slot:Slot T name id)(hty:typeOf (.builtin id)=pure (.type "method_descriptor"))(hm:MtR X id r)(ho:PE X o to)(ha:PA X (e::es) t)
  (hbase:attributeBase o name X.env (eval o X.env)=eval o X.env:=by rfl)
  (hfew:((backTo cpos (starEach (e::es) X.env)).all (λx=>!x.1) && (backToKw cpos (keywordEach [] X.env)).all (λx=>x.1.isSome)
   && decide ((e::es).length+([]:List Keyword).length+(if ([]:List Keyword).isEmpty then 0 else 1)<30))=true:=by rfl)
  (hline:(apos.endLine == cpos.line)=true:=by rfl) (hs:starEach (e::es) X.env=(false,eval e X.env)::starEach es X.env:=by rfl) (hplain:(backTo cpos (starEach es X.env)).any (·.1)=false:=by rfl) :
  PE X (.Call (.Attribute o name apos) (e::es) [] cpos) (tBM X.K T r to t):=by
 intro pins s σ H Q I h;refine wpAny_Call_method_late hbase hfew hline rfl (thn (ho pins s σ H _ I h) λv s1 ⟨x,H1,I1,r1,ty,q1⟩=>?_);obtain⟨h1,h2⟩:=DO I1 r1 ty;refine⟨T,id,pa,slot,hty,h1,h2,?_⟩;have hA:=ha cpos pins s1 σ H1 _ I1 q1;rw [hs] at hA ⊢;refine Calls.callWith_builtin (by show (false || (backTo cpos (starEach es X.env)).any (·.1))=false;rw [hplain] <;> rfl) (Calls.evalArgs_plain ?_);exact thn hA λus s2 ⟨vs,H2,I2,r2,q2⟩=>hm pins s2 σ H2 x vs v us Q I2 r1 r2 q2
end
noncomputable def MtM(X:Cx)(id:String)(r:V->List V->Hp->VK->Prop):Prop :=
 ∀(pins:List (Addr×Obj)) (s:cy) (σ:St) (H:Hp) (x:V) (xs:List V) (v:Value) (us:List Value) (Q:VK),Inv X pins σ H s->cv x v->bD xs us->r x xs H Q ->
  wpAny (model X.prog X.w) X.A (call (.builtin id) (v::us)) (EP X pins σ Q) X.xe s
theorem bD.one:∀{x:V}{us:List Value},bD [x] us->∃u,us=[u]/\cv x u
 | _,_,.cons r .nil=>⟨_,rfl,r⟩
theorem bD.eraseIdx:∀{xs:List V}{us:List Value} (i:Nat),bD xs us->bD (xs.eraseIdx i) (us.eraseIdx i)
 | _,_,_,.nil=>.nil
 | _,_,0,.cons _ t=>t
 | _,_,i+1,.cons r t=>.cons r (bD.eraseIdx i t)
theorem bD.rep{xs:List V}{us:List Value}(h:bD xs us):∀k:Nat,bD (so k xs).flatten (so k us).flatten
 | 0=>.nil
 | k+1=>by
  rw [replicate_succ,replicate_succ,flatten_cons,flatten_cons];exact bD.append h (bD.rep h k)
theorem qo{α:Type}:∀(l:List α) (i:Nat),(l.eraseIdx i).length<=l.length
 | [],_=>pf _
 | _::_,0=>M1 _
 | _::r,i+1=>succ_le_succ (qo r i)
theorem qq(its:List Value):∀(k:Nat) (acc:List Value),
  List.foldl (λx1 x2=>x1++x2) acc.toArray (so k its.toArray)=(acc++(so k its).flatten).toArray
 | 0,acc=>by simp
 | k+1,acc=>by
  have e:acc.toArray++its.toArray=(acc++its).toArray:=by simp
  have e2:(acc++its)++(so k its).flatten=acc++(so (k+1) its).flatten:=by
   rw [replicate_succ,flatten_cons,append_assoc]
  rw [<- e2,<- qq its k (acc++its),<- e,replicate_succ,foldl_cons]
section
variable {X:Cx}{pins:List (Addr×Obj)}{σ:St}{H:Hp}{s:cy}{l b:Addr}{xs ys zs:List V}
def Inv.lset{its its':List Value}{n:Nat}{f:Array Value->Array Value}{t':Nat}(I:Inv X pins σ H s)(hH:H l=some (.lst xs))
  (e:s.heap.get? l=some { cls:=.type "list",data:=.seq its.toArray n }) (hf:f its.toArray=its'.toArray) (hv:bD ys its') (hz:ys.length<=sizeLine) :
  Inv X pins σ (upd H l (.lst ys)) { s with heap:=s.heap.update l (IP f),toks:=t' }:=by
 have q:=PySem.IsL.update e f;rw [hf] at q;refine I.write (x:=l) (e:=l) (by rw [hH];exact trivial) (.inl rfl) (λb' u hb hu=>(Heap.get?_update_other s.heap (IP f) (J7 hb)).trans hu) ⟨_,q⟩ ?_;exact⟨hz,its',_,hv,q⟩
def Inv.lnew{its:List Value}{t':Nat}(I:Inv X pins σ H s)(hv:bD ys its)(hz:ys.length<=sizeLine) :
  Inv X pins σ (upd H s.heap.objs.size (.lst ys)) { s with heap:=s.heap.push { cls:=.type "list",data:=.seq its.toArray },toks:=t' } :=
 I.laid (λ_ _ q=>e_ _ q) (pf _) ⟨hz,its,0,hv,j_ _ rfl⟩
def Inv.fresh(I:Inv X pins σ H s):H s.heap.objs.size=none:=I.hok.fresh (pf _)
def Inv.lstM(I:Inv X pins σ H s)(hH:H l=some (.lst xs)):xs.length<=sizeLine/\∃(its:List Value) (n:Nat),bD xs its/\xs.length=its.length/\s.heap.get? l=some { cls:=.type "list",data:=.seq its.toArray n }:=by
 obtain⟨z,its,n,r,e⟩:=I.hok l _ hH;exact⟨z,its,n,r,r.length,e⟩
def nU{n:Nat}(h:n<=sizeLine):JA n=false:=by
 unfold JA;exact decide_eq_false (by omega)
end
section
variable {X:Cx}
noncomputable def wy:V->List V->Hp->VK->Prop:=λx vs H Q=>∃l xs y,x=.ref l/\vs=[y]/\H l=some (.lst xs)/\xs.length<sizeLine/\Q .non (upd H l (.lst (xs++[y])))
def eN:MtM X "list.append" wy:=by
 intro pins s σ H x vs v us Q I rx rv h;obtain⟨l,xs,y,rfl,rfl,hH,hz,q⟩:=h;cases rx;obtain⟨u,rfl,ru⟩:=rv.one;obtain⟨z,its,n,r,hl,e⟩:=I.lstM hH;refine L1 F.slot_list_append ⟨_,e,rfl⟩ F.entry_list_append (F.args_list_append_2 _ _) (PySem.list_append l its.toArray n u (by rw [size_toArray];omega)) ⟨e,?_⟩;refine⟨.non,_,I.lset (its':=its++[u]) hH e (by simp) (r.append (.cons ru .nil)) ?_,rfl,q⟩;rw [length_append,length_singleton]
 omega
noncomputable def wz:V->List V->Hp->VK->Prop:=λx vs H Q=>∃l b xs zs,x=.ref l/\vs=[.ref b]/\H l=some (.lst xs)/\H b=some (.lst zs)/\xs.length+zs.length<=sizeLine/\Q .non (upd H l (.lst (xs++zs)))
def qs:MtM X "list.extend" wz:=by
 intro pins s σ H x vs v us Q I rx rv h;obtain⟨l,b,xs,zs,rfl,rfl,hH,hB,hz,q⟩:=h;cases rx;obtain⟨u,rfl,ru⟩:=rv.one;cases ru;obtain⟨z,its,n,r,hl,e⟩:=I.lstM hH;obtain⟨z2,its2,n2,r2,hl2,e2⟩:=I.lstM hB;have hsz:its.toArray.size+its2.toArray.size<=sizeLine:=by rw [size_toArray,size_toArray];omega
 have hlong:¬ (!its.toArray.isEmpty && JA (its.toArray.size+its2.toArray.size))=true:=by
  rw [nU hsz,J_];exact l_
 refine L1 F.slot_list_extend ⟨_,e,rfl⟩ F.entry_list_extend (F.args_list_extend_2 _ _)
  (AutoSeq1.list_extend_list_list_0 l its.toArray n b its2.toArray n2 hlong (by rw [size_toArray];omega) (by omega)) ⟨e,e2,?_⟩
 refine⟨.non,_,I.lset (its':=its++its2) hH e (by simp) (r.append r2) ?_,rfl,q⟩;rw [length_append];omega
noncomputable def Ac:V->List V->Hp->VK->Prop:=λx vs H Q=>∃l xs i k y,x=.ref l/\vs=[.int i]/\H l=some (.lst xs)/\-(2^63)<=i/\i<2^63/\seqIndex? i xs.length=some k/\xs[k]?=some y/\Q y (upd H l (.lst (xs.eraseIdx k)))
def yT:MtM X "list.pop" Ac:=by
 intro pins s σ H x vs v us Q I rx rv h;obtain⟨l,xs,i,k,y,rfl,rfl,hH,h1,h2,hk,hy,q⟩:=h;cases rx;obtain⟨u,rfl,ru⟩:=rv.one;obtain⟨t,rfl⟩:=ru;obtain⟨z,its,n,r,hl,e⟩:=I.lstM hH;obtain⟨w,hw,rw'⟩:=r.get hy
 refine L1 F.slot_list_pop ⟨_,e,rfl⟩ F.entry_list_pop (F.args_list_pop_2 _ _)
  (MeetsSeq.list_pop_at l its.toArray n i t k w (fitsIndex_both h1 h2) (by rw [size_toArray,<- hl];exact hk) (by rw [<- Array.getElem?_toList];exact hw) (by rw [size_toArray];omega)) ⟨e,?_⟩
 refine⟨y,_,I.lset (its':=its.eraseIdx k) hH e ?_ (r.eraseIdx k) ?_,rw',q⟩
 .show its.toArray.eraseIdxIfInBounds k=(its.eraseIdx k).toArray;rw [eraseIdxIfInBounds_toArray]
 .have:=qo xs k;omega
noncomputable def Hn:R2:=λx y H Q=>∃l k xs,x=.ref l/\y=.int k/\H l=some (.lst xs)/\-(2^63)<=k/\k<2^63/\xs.length*k.toNat<=sizeLine /\
 ∀p,H p=none->Q (.ref p) (upd H p (.lst (so k.toNat xs).flatten))
def BC{α:Type}(xs:List α)(k:Nat):(so k xs).flatten.length=k*xs.length:=by
 induction k with
 | zero=>simp
 | succ k ih=>rw [replicate_succ,flatten_cons,length_append,ih,succ_mul,add_comm]
def DP:OpR X (binaryOp .Mult) Hn:=by
 intro pins s σ H x y v u Q I rx ry h;obtain⟨l,k,xs,rfl,rfl,hH,h1,h2,hz,q⟩:=h;cases rx;obtain⟨t,rfl⟩:=ry;obtain⟨z,its,n,r,hl,e⟩:=I.lstM hH;have hlen:its.toArray.size*k.toNat<=sizeLine:=by rw [size_toArray,<- hl];exact hz
 have hcap:¬ its.toArray.size*k.toNat > (2^63 - 1) / 8:=by
  have:(sizeLine:Nat)<=(2^63 - 1) / 8:=by decide
  omega
 have hfit:¬ (!Builtin.List.listFitsIndex k)=true:=by
  rw [fitsIndex_both h1 h2];exact l_
 have hlong:¬ JA (its.toArray.size*k.toNat)=true:=by
  rw [nU hlen];exact l_
 have hnew:List.foldl (λx1 x2=>x1++x2) #[] (so (if its.toArray.isEmpty=true then 0 else k.toNat) its.toArray)=(so k.toNat its).flatten.toArray:=by
  have f0:∀m:Nat,List.foldl (λx1 x2=>x1++x2) #[] (so m its.toArray)=(so m its).flatten.toArray:=λm=>by
   have:=qq its m [];rw [nil_append] at this;exact this
  rw [f0]
  cases its with
  | nil=>simp
  | cons a r'=>rw [if_neg (by simp)]
 refine wpAny_binaryOp_repeat_ref (T:="list") (U:="int") (by decide) ⟨_,e,rfl⟩ (λs'=>typeIs_int s' k t) noFill_list_mul F.fills_int_mul F.slot_int_rmul repeat_list F.slot_int_index.lookup
  (L1 F.slot_int_rmul (typeIs_int s k t) F.entry_int_rmul (F.args_int_rmul_2 _ _) (int___rmul___int_list k t l its.toArray n)
   ⟨e,rfl,⟨_,e,rfl⟩,L1 F.slot_list_mul ⟨_,e,rfl⟩ F.entry_list_mul (F.args_list_mul_2 _ _) (AutoListH.list___mul___list_int_3 l its.toArray n k t hfit hcap hlong) ⟨e,?_⟩⟩)
 rw [hnew];exact⟨.ref _,_,I.lnew (t':=s.toks) (r.rep k.toNat) (by rw [BC,mul_comm];exact hz),rfl,q _ I.fresh⟩
end
end L2
namespace Att
open PySem PySem.W PySem.Calls PyProof.Rows
def kS{P:LW}{h:Heap}:∀(ns:List Int) (vs:List Value),WellAll P h vs (ns.map WData.int)->KC vs ns:=by
 intro ns
 induction ns with
 | nil =>
  intro vs w;rw [map_nil] at w;cases w;exact .nil
 | cons n ns ih =>
  intro vs w;rw [map_cons] at w
  cases w with
  | cons a b =>
   cases a;exact .cons _ _ (ih _ b)
def wA{l:OpenLaw}{n:Nat}(hn:l.most=some n){P:LW}{h:Heap}{args:List WData}{vals:List Value}
  (hpre:l.row.toRowW.claim.pre args=true) (hwl:WellAll P h vals args) :
  ∃a vs ns,vals=[gV a]/\args=[WData.list (ns.map WData.int)]/\h.get? a=some { cls:=.type "list",data:=.seq vs.toArray }/\KC vs ns/\ns.length<=n:=by
 have hsh:WShape.hasAll [] args [.list .int]=true:=(pre_splitW hpre).1;have hc:l.pre.holds [] { args:=args }=true:=(pre_splitW hpre).2;obtain⟨d,r,rfl,h1,h2⟩:=hasAllW_cons hsh;obtain rfl:=hasAllW_nil h2;obtain⟨xs,rfl,h3⟩:=hasW_list h1;obtain⟨ns,rfl⟩:=items_int h3
 have hlen:ns.length<=n:=by
  unfold OpenLaw.pre at hc
  have h4:(WTm.not (.lt (.lit (.int (n:Int))) (.len (.arg 0)))).holds [] { args:=[.list (ns.map .int)] }=true:=by
   have h4:=(holds_andW hc).1;rw [hn] at h4;exact h4
  have h5:=condW_of h4 (w_not (w_lt w_lit (w_len_list (w_arg rfl))));rw [length_map] at h5;refine le_of_not_lt λq=>?_;have q':(n:Int)<((ns.length:Nat):Int):=by omega
  first
   | (rw [decide_eq_true q'] at h5;exact absurd h5 (by decide))
   | (simp at h5;omega)
 cases hwl with
 | cons w1 w2 =>
  cases w2
  cases w1 with
  | list ho hall=>exact⟨_,_,ns,rfl,rfl,ho,kS ns _ hall,hlen⟩
def wB(l:OpenLaw)(args:List WData):l.row.toRowW.claim.post args (.bool true) args=true :=
 postW_of (r:=l.row.toRowW) (X:=(true == true))
  (show WShape.has [] (.bool true) .bool=true by first|rfl|decide|simp [WShape.has,WShape.arms,WShape.armsAll])
  (show (WTm.eq .res (.lit (.bool true))).value [] { args:=args,res:=some (.bool true),after:=args }=some (.bool (true == true)) from w_eq_bool (w_res rfl) w_lit) rfl
def attach_call{l:OpenLaw}{n:Nat}{q:pj}{loose:List Str}{XP:(Str->Option Value)->Heap->Prop}{YP:World->Heap->Prop}{d:DefRec}
  (hn:l.most=some n) (hdf:d.params.defaults=[])
  (call:∀(w:World) (s₀ s₁:cy) (mg mb:Str->Option Value) (fa:Addr) (o:Obj) (pm cd doc:Value) (a:Addr) (vs:List Value) (ns:List Int),
   Ground q loose [] XP w s₀ mg mb s₁.heap->YP w s₁.heap ->
   s₁.heap.get? fa=some o->o.data=.func (docDef d.name d.params d.body d.scope pm cd doc)->s₁.heap.CodeRec cd d.name->mg d.name=some (.ref fa) ->
   s₁.heap.get? a=some { cls:=.type "list",data:=.seq vs.toArray }->KC vs ns->ns.length<=n->s₁.gens=#[] ->
   codeAny (model l.prog w) callerA (.call (.ref fa) ⟨[.ref a],[]⟩) (λr s'=>r=.ok (.ret (.bool true))/\OldK s₁.heap s'.heap/\s'.os=s₁.os/\LK s'.gens) s₁) :
  WalkO q loose XP YP l.row.toRowW d [] (λf vs=>PySem.call f vs):=by
 intro w s₀ s₁ mg mb G Y fa o pm cd doc dV kV ho hd hcd hD hmg hg args vals as hpre hlay hrd hwl hlo;obtain rfl:dV=.none:=Dflts.none hD hdf;obtain rfl:kV=.none:=Dflts.noKw hD;obtain⟨a,vs,ns,rfl,rfl,hobj,hints,hlen⟩:=wA hn hpre hwl;refine enter_call (KZ (call w s₀ s₁ mg mb fa o pm cd doc a vs ns G Y ho (fd_plain hd) hcd hmg hobj hints hlen hg) λr s' hq=>?_);obtain⟨rfl,h2,h3,h4⟩:=hq;exact⟨.inl ⟨.bool true,.bool true,[],rfl,λ_=>rfl,.bool true,wB l _,λ_=>⟨K3,λ_ hm=>(nomatch hm)⟩⟩,h2,h3,h4⟩
end Att
namespace L2
open PySem PySem.Spec PyProof.Rows
theorem i4:∀{vs:List Value}{ns:List Int},KC vs ns->bD (ns.map V.int) vs
 | _,_,.nil=>.nil
 | _,_,.cons n t h=>.cons ⟨t,rfl⟩ (i4 h)
noncomputable def F8(H:Hp):Prop:=∀b,H b=none\/∃o xs,H b=some (.frz o (.lst xs))
def yU{P:pj}{w:World}{K:a_}{mg mb:Str->Option Value}{CX:CXT}{k:Nat}{fa a:Addr}{fd:Jp}{x:Str}{sp:Sp}{s₁:cy}{vs:List Value}{ns:List Int}
  (KX:K.In s₁.heap) (hns:s₁.heap.Ns mainGlobals mg) (hb:s₁.heap.Ns builtinsNs mb) (hbb:∀x:Str,x≠"__name__"->mb x=bootBuiltins x) (hlim:s₁.heap.NoLimit) (hg:s₁.gens=#[])
  (ha:s₁.heap.get? a=some { cls:=.type "list",data:=.seq vs.toArray }) (hi:KC vs ns) (hl:ns.length<=sizeLine) (hr:dO k callerA)
  (F:∀base:Heap,K.In base->base.Ns mainGlobals mg->nP P w K mg base CX k fa fd [x] sp) (hbind:∀(s:cy) (u:Value),MA s fd ⟨[u],[]⟩ [(x,u)])
  (hsp:∀H:Hp,F8 H->SqL K H a (ns.map V.int)->sp [.ref a] H (λv _=>v=.bl true) λ_ _ _=>False)
  (hCX:∀H e s',CX [] H s₁ (λ_ _ _=>False) e s'->False) :
  codeAny (model P w) callerA (.call (.ref fa) ⟨[.ref a],[]⟩) (λr s'=>r=.ok (.ret (.bool true))/\OldK s₁.heap s'.heap/\s'.os=s₁.os/\LK s'.gens) s₁:=by
 have rv:=i4 hi;have lenV:=hi.length
 -- from an abstract heap in which nothing but the script may be tracked
 have core:∀H:Hp,F8 H->SqL K H a (ns.map V.int)->HOk P w H s₁.heap->(∀b,H b≠none->b=a)->(H a≠none->K.lookup a=none) ->
   codeAny (model P w) callerA (.call (.ref fa) ⟨[.ref a],[]⟩) (λr s'=>r=.ok (.ret (.bool true))/\OldK s₁.heap s'.heap/\s'.os=s₁.os/\LK s'.gens) s₁:=by
  intro H hO hS hok hA hK;have base_of:∀{b:Addr}{o:Obj},s₁.heap.get? b=some o->H b=none->(yI s₁.heap H).get? b=some o:=λe n=>yJ e n
  have noA:∀{b:Addr}{o:Obj}{es:Array MY}{ep:Nat},s₁.heap.get? b=some o->o.data=.dict es ep->H b=none:=λ{b o es ep} e d=>by
   cases q:H b with
   | none=>rfl
   | some u =>
    have e':b=a:=hA b (by rw [q];simp);subst e';rw [ha] at e;cases e;have d':Data.seq vs.toArray _=Data.dict es ep:=d;cases d'
  have nsK:∀{b:Addr}{m:Str->Option Value},s₁.heap.Ns b m->(yI s₁.heap H).Ns b m:=λ{b m} ⟨o,es,ep,e,d,r⟩=>⟨o,es,ep,base_of e (noA e d),d,r⟩
  have hKb:K.In (yI s₁.heap H):=λb o e=>base_of (KX b o e) (by
   cases q:H b with
   | none=>rfl
   | some u =>
    have e':b=a:=hA b (by rw [q];simp);subst e';rw [hK (by rw [q];simp)] at e;cases e)
  have hM:Mod K mg (yI s₁.heap H):=⟨hKb,nsK hns,⟨mb,nsK hb,hbb⟩,let ⟨mc,h1,h2⟩:=hlim;⟨mc,nsK h1,h2⟩⟩
  have e0:Bt P w K mg (yI s₁.heap H) callerA [] s₁ H:=⟨rfl,hM,λb o e=>Bh e,Mu (vT _ _),trivial,λb hb=>absurd (show b∈([]:List Addr) from hb) (by simp),hok,.of_eq hg⟩
  refine KZ ((F _ hKb (nsK hns)).run callerA [] s₁ H ⟨[.ref a],[]⟩ [.ref a] [.ref a] _ _ hr e0 (hbind s₁ (.ref a)) (.cons rfl .nil) (hsp H hO hS)) λr s' h=>?_
  cases r with
  | error e=>exact (hCX H e s' h).elim
  | ok fl =>
   cases fl with
   | next=>exact IS h
   | brk=>exact IS h
   | cont=>exact IS h
   | ret u =>
    obtain⟨v,H',os,bare,un,hok',r',q⟩:=h;have q':v=.bl true:=q;subst q';obtain rfl:u=JM true:=r';refine⟨rfl,OldK.of_keep λb o e=>?_,os,bare⟩
    cases q:H b with
    | none=>exact un.keep b o e q (by intro z;exact absurd (show b∈([]:List Addr) from z) (by simp)) (by simp)
    | some u =>
     rcases hO b with z|⟨ob,xs,z⟩
     .rw [q] at z;cases z
     .have z2:=un.frzs b ob _ z;obtain⟨e1,_⟩:=hok b _ z;obtain⟨e2,_⟩:=hok' b _ z2;rw [e] at e1;cases e1;exact e2
 cases hk:K.lookup a with
 | some o =>
  -- the script is one of the module's own objects
  have e:=KX a o hk;rw [ha] at e;cases e;refine core (λ_=>none) (λ_=>.inl rfl) (.inr ⟨_,vs.toArray,_,hk,rfl,rfl,rfl,by rw [size_toArray,lenV];exact hl,by simpa using rv⟩) (λb u z=>by have z':(none:Option HO)=some u:=z;cases z') (λb z=>absurd rfl z) λz=>absurd rfl z
 | none =>
  refine core (λb=>if b=a then some (.frz { cls:=.type "list",data:=.seq vs.toArray } (.lst (ns.map V.int))) else none) (λb=>?_) (.inl (.inr ⟨{ cls:=.type "list",data:=.seq vs.toArray },if_pos rfl⟩)) (λb u z=>?_) (λb z=>?_) λ_=>hk
  .by_cases hb:b=a
   .exact .inr ⟨_,_,if_pos hb⟩
   .exact .inl (if_neg hb)
  .by_cases hb:b=a
   .have z':=(if_pos hb).symm.trans z;cases z';subst hb;exact⟨ha,by rw [length_map];exact hl,vs,_,rv,ha⟩
   .have z':=(if_neg hb).symm.trans z;cases z'
  .by_cases hb:b=a
   .exact hb
   .exact absurd (if_neg hb) z
def BD{l:MK}{n k:Nat}{q:pj}{loose:List Str}{XP:(Str->Option Value)->Heap->Prop}{YP:World->Heap->Prop}{d:DefRec}{K:LW->a_}{CX:World->CXT}{sp:World->Sp}{x:Str}
  (hn:l.most=some n) (hn2:n<=sizeLine) (hdf:d.params.defaults=[]) (hr:dO k callerA)
  (hY:∀(w:World) (h:Heap),YP w h->(K w.params).In h)
  (F:∀(w:World) (mg:Str->Option Value) (fa:Addr) (h:Heap),(K w.params).In h->h.Ns mainGlobals mg->mg d.name=some (.ref fa) ->
   ∃fd:Jp,(∀(s:cy) (u:Value),MA s fd ⟨[u],[]⟩ [(x,u)]) /\
    ∀base:Heap,(K w.params).In base->base.Ns mainGlobals mg->nP l.prog w (K w.params) mg base (CX w) k fa fd [x] (sp w))
  (hsp:∀(w:World) (H:Hp) (a:Addr) (ns:List Int),ns.length<=n->F8 H->SqL (K w.params) H a (ns.map V.int)->sp w [.ref a] H (λv _=>v=.bl true) λ_ _ _=>False)
  (hCX:∀(w:World) (H:Hp) (s:cy) (e:Value) (s':cy),CX w [] H s (λ_ _ _=>False) e s'->False) :
  PySem.W.WalkO q loose XP YP l.row.toRowW d [] (λf vs=>PySem.call f vs):=by
 refine Att.attach_call hn hdf λw s₀ s₁ mg mb fa o pm cd doc a vs ns G Y ho hd hcd hmg hobj hints hlen hg=>?_;have KX:=hY w _ Y;obtain⟨fd,hb,hF⟩:=F w mg fa _ KX G.T.g hmg;exact yU KX G.T.g G.T.b G.T.builtins G.T.nolimit hg hobj hints (IG hlen hn2) hr hF hb (λH hO hS=>hsp w H a ns hlen hO hS) λH e s'=>hCX w H s₁ e s'
noncomputable def nV(s:Stmt)(j:Nat):Stmt:=match s with
 | .ClassDef _ _ _ body _ _ _ _ _ _ _=>body.getD j (.Pass ⟨0,0,0,0⟩)
 | _=>.Pass ⟨0,0,0,0⟩
noncomputable def bK(s:Stmt):Arguments:=match s with
 | .FunctionDef _ a _ _ _ _ _ _ _ _=>a
 | _=>{ posonlyargs:=[],args:=[],vararg:=none,kwonlyargs:=[],kw_defaults:=[],kwarg:=none,defaults:=[] }
noncomputable def aX(s:Stmt):List Stmt:=match s with
 | .FunctionDef _ _ b _ _ _ _ _ _ _=>b
 | _=>[]
noncomputable def aj(s:Stmt):Scope:=match s with
 | .FunctionDef _ _ _ _ _ _ sc _ _ _=>sc
 | _=>{ kind:=.function,names:=[],isGenerator:=false,isCoroutine:=false }
abbrev CX0:CXT:=λ_ _ _ _ _ _=>False
abbrev E0:XK:=λ_ _ _=>False
def BE{X:Cx}:qe CX0 X E0:=λ_ _ _ _ _ _ _ h=>h.elim
structure Fun (K:a_) (x qual:Str) (st:Stmt) (f:Addr) (fd:Jp):Prop where
 ex:∃(oc:Value) (od:Option Addr) (kV doc pm:Value) (an:Option Addr) (cdv ct:Value) (osl:Array (Option Value)),
  fd=F_ x qual (bK st) (aX st) (aj st) .none kV doc pm an cdv ct/\K.lookup f=some ⟨oc,od,.func fd,osl⟩/\Jk K cdv qual=true
 kp:z_ K (.ref f)=true
section
variable {P:pj}{w:World}{K:a_}{mg:Str->Option Value}{base:Heap}
def Fun.ok{x qual:Str}{st:Stmt}{f:Addr}{fd:Jp}{N ps:List Str}{k:Nat}{sp:Sp}(F:Fun K x qual st f fd)(S:aA N ps (aj st))(len:∀vs H Q E,sp vs H Q E->vs.length=ps.length)
  (hbody:∀(cdv:Value) (A:v_) (outer:List Env) (s:cy) (H:Hp) (vs:List V) (Q:VK) (E:XK),dO k (A.deeper (envOfC qual (aj st) s.heap.objs.size f cdv))->sp vs H Q E ->
   ∃t,PSs (mZ CX0 P w K mg base N qual (aj st) f cdv A outer s H E).nox (aX st) t/\t { nx:=λ_ H'=>Q .non H',rt:=Q } (start N vs) H):nP P w K mg base CX0 (k+1) f fd ps sp:=by
 obtain⟨oc,od,kV,doc,pm,an,cdv,ct,osl,rfl,lk,hcd⟩:=F.ex;refine Bv lk hcd S len λA outer s H vs Q E hr hsp=>?_;obtain⟨t,h,q⟩:=hbody cdv A outer s H vs Q E hr hsp;exact⟨t,h.nox,q⟩
def Fun.binds{x qual:Str}{st:Stmt}{f:Addr}{fd:Jp}{ps:List Str}(F:Fun K x qual st f fd)
  (h:∀(kV doc pm:Value) (an:Option Addr) (cdv ct:Value) (us:List Value),us.length=ps.length->bindArgs (F_ x qual (bK st) (aX st) (aj st) .none kV doc pm an cdv ct) ⟨us,[]⟩=pure (ps.zip us)):km K fd ps []:=by
 obtain⟨oc,od,kV,doc,pm,an,cdv,ct,osl,rfl,lk,hcd⟩:=F.ex;exact .all (h kV doc pm an cdv ct)
def qt{x qual:Str}{st:Stmt}{f:Addr}{oc:Value}{od an:Option Addr}{osl:Array (Option Value)}{kV doc pm cdv ct:Value}(l:K.lookup f=some ⟨oc,od,.func (F_ x qual (bK st) (aX st) (aj st) .none kV doc pm an cdv ct),osl⟩)
  (c:Jk K cdv qual=true) (k:z_ K (.ref f)=true):Fun K x qual st f (F_ x qual (bK st) (aX st) (aj st) .none kV doc pm an cdv ct):=⟨⟨oc,od,kV,doc,pm,an,cdv,ct,osl,rfl,l,c⟩,k⟩
end
section
variable {X:Cx}
theorem pv(i:Nat){x:Str}{pos:Pos}(hN:X.N[i]?=some x:=by rfl)(hv:Vis X.env.scope x:=by first|exact Mh rfl|exact M8 (Mh rfl)|exact M8 (M8 rfl))(hd:(x == ("__debug__":Str))=false:=by decide)
  (hcd:(x == ("__classdict__":Str))=false:=by decide):PE X (.Name x pos) (bv i):=Dt hN hv hd hcd
end
def S(l:List Nat):Str:=⟨l.toArray⟩
def eO(l:List Nat):(S l).length=l.length:=by simp [S,Str.length]
def yV(a b:List Nat):S a++S b=S (a++b):=by
 show (⟨a.toArray++b.toArray⟩:Str)=⟨(a++b).toArray⟩
 rw [append_toArray]
def DQ{a b:List Nat}(h:S a=S b):a=b:=by
 have h':=congrArg (λx:Str=>x.cps.toList) h;simpa [S] using h'
def HY{a b:List Nat}(h:a≠b):S a≠S b:=λe=>h (DQ e)
def DR{a b:List Nat}:V.str (S a)=V.str (S b) ↔ a=b:=⟨λh=>DQ (V.str.inj h),λh=>by rw [h]⟩
def DS(a b:List Nat):decide (V.str (S a)=V.str (S b))=decide (a=b):=by
 by_cases h:a=b
 .rw [decide_eq_true h,decide_eq_true (DR.mpr h)]
 .rw [decide_eq_false h,decide_eq_false (λz=>h (DR.mp z))]
noncomputable def cQ{α:Type}(xs:List α)(lo hi:Option Int):List α:=(xs.drop (HT.sIx xs.length 0 lo)).take (HT.sIx xs.length xs.length hi - HT.sIx xs.length 0 lo)
def bd{α:Type}(xs:List α)(lo hi:Option Int):(cQ xs lo hi).length<=xs.length:=by
 unfold cQ;rw [length_take,length_drop];omega
def wC(xs:List V)(lo hi:Option Int):Bw xs lo hi=cQ xs lo hi:=rfl
def DT(lo hi:Option Int)(n:Nat):JI lo hi 1 n=(g_ (HT.sIx n n hi - HT.sIx n 0 lo)).map (λk=>HT.sIx n 0 lo+k):=by
 have key:∀(o:Option Int) (d:Nat),d<=n->(match o with|none=>(d:Int)|some i=>max 0 (min (if i<0 then i+(n:Int) else i) (n:Int)))=((HT.sIx n d o:Nat):Int):=by
  intro o d hd
  cases o with
  | none=>rfl
  | some i =>
   show max 0 (min (if i<0 then i+(n:Int) else i) (n:Int))=_;rw [<- HT.clip_eq i n d]
   by_cases h:i<0
   .rw [if_pos h,if_pos h];omega
   .rw [if_neg h,if_neg h];omega
 have k1:=key lo 0 (IE _);have k2:=key hi n (pf _);unfold JI;simp only [show (1:Int) > 0 by decide,if_true];refine Eq.trans (congrArg (λa=>sliceRange a _ 1) k1) (Eq.trans (congrArg (λb=>sliceRange _ b 1) k2) ?_);unfold sliceRange;simp only [show (1:Int) > 0 by decide,if_true];generalize HT.sIx n 0 lo=a;generalize HT.sIx n n hi=b
 have ec:(if (a:Int)<(b:Int) then ((b:Int) - (a:Int)+1 - 1) / 1 else 0).toNat=b - a:=by
  split <;> omega
 rw [ec];apply JN;intro k _;omega
def wD{α:Type}(l:List α)(a m:Nat):((g_ m).map (λk=>a+k)).filterMap (λi=>l[i]?)=(l.drop a).take m:=by
 induction m generalizing a with
 | zero=>simp
 | succ m ih =>
  rw [range_succ_eq_map,map_cons,map_map,J9];have e:((λk=>a+k) ∘ Nat.succ)=λk=>(a+1)+k:=by funext k;simp;omega
  rw [e,ih (a+1)]
  cases h:l[a+0]? with
  | none =>
   have hl:l.length<=a:=by simpa using List.getElem?_eq_none_iff.mp h
   rw [Kl hl,Kl (by omega)];simp
  | some v =>
   have hl:a<l.length:=by simpa using (i_.mp h).1
   have hv:l[a]=v:=by simpa using (i_.mp h).2
   rw [Lr hl,hv];rfl
def BF(l:List Nat)(lo hi:Option Int):Txt.slice (S l) lo hi=S (cQ l lo hi):=by
 have e1:(JI lo hi 1 (S l).length).filterMap ((S l).cps[·]?)=cQ l lo hi:=by
  rw [DT,eO];have e:(λi:Nat=>(S l).cps[i]?)=λi:Nat=>l[i]?:=by funext i;simp [S]
  rw [e];exact wD l _ _
 unfold Txt.slice
 split
 .rename_i h;have h2:(JI lo hi 1 (S l).length).length=(S l).length:=by simpa using h
  rw [DT,eO,length_map,IF] at h2;have a0:=HT.sIx_le l.length 0 (IE _) lo;have b0:=HT.sIx_le l.length l.length (pf _) hi;unfold cQ
  by_cases hz:l.length=0
  .have:l=[]:=Jn.mp hz;subst this;simp
  .have ha:HT.sIx l.length 0 lo=0:=by omega
   have hb:HT.sIx l.length l.length hi=l.length:=by omega
   rw [ha,hb];simp
 .rw [e1];rfl
def dZ{α:Type}(l:List α)(k:Nat):cQ l none (some (k:Int))=l.take k:=by
 unfold cQ;rw [HT.sIx_nat];show (l.drop 0).take (min k l.length - 0)=l.take k;rw [drop_zero,LN]
 by_cases h:k<=l.length
 .rw [KO h]
 .rw [ME (by omega),Jj (pf _),Jj (by omega)]
def dn{α:Type}(l:List α)(k:Nat):cQ l (some (k:Int)) none=l.drop k:=by
 unfold cQ;rw [HT.sIx_nat];show (l.drop (min k l.length)).take (l.length - min k l.length)=l.drop k
 by_cases h:k<=l.length
 .rw [KO h,Jj (by rw [length_drop];exact pf _)]
 .rw [ME (by omega),sub_self,take_zero,Kl (by omega)]
def qu{α:Type}(l:List α)(i j:Nat):cQ l (some (i:Int)) (some (j:Int))=(l.drop i).take (j - i):=by
 unfold cQ;rw [HT.sIx_nat,HT.sIx_nat]
 by_cases h:i<=l.length
 .rw [KO h]
  by_cases h2:j<=l.length
  .rw [KO h2]
  .rw [ME (by omega),Jj (by rw [length_drop];omega),Jj (by rw [length_drop];omega)]
 .have e:min i l.length=l.length:=ME (by omega);rw [e,Kl (pf _),Kl (by omega),take_nil,take_nil]
section
variable {X:Cx}
noncomputable def Ho:V->Option Int->Option Int->Hp->VK->Prop:=λx lo hi H Q=>∃l,x=.str (S l)/\l.length<=sizeLine/\Q (.str (S (cQ l lo hi))) H
def DU:SlR X Ho:=by
 intro pins s σ H x v vl vu lo hi sl Q I rx hs pl pu h;obtain⟨l,rfl,hz,q⟩:=h;obtain⟨t,rfl⟩:=rx;refine⟨"str",_,slot_str_getitem.lookup,typeIs_str s _ t,?_⟩
 obtain⟨l',hl',el⟩:∃l':Option (Int×Tok),vl=partValue l'/\l'.map (·.1)=lo:=by
  cases pl with
  | none=>exact⟨none,rfl,rfl⟩
  | int i t=>exact⟨some (i,t),rfl,rfl⟩
 obtain⟨u',hu',eu⟩:∃l':Option (Int×Tok),vu=partValue l'/\l'.map (·.1)=hi:=by
  cases pu with
  | none=>exact⟨none,rfl,rfl⟩
  | int i t=>exact⟨some (i,t),rfl,rfl⟩
 subst hl' hu';refine wpAny_getItem_str_slice (l:=l') (u:=u') (st:=none) hs rfl ?_;have hm:∀t' k,EP X pins σ Q (.str (Txt.slice (S l) lo hi) t') { s with toks:=k }:=λt' k=>⟨.str (S (cQ l lo hi)),H,I.tok _,⟨t',by rw [BF]⟩,q⟩
 have hlen:(Txt.slice (S l) lo hi).length<=sizeLine:=IG (Txt.slice_le _ _ _) (by rw [eO];exact hz);subst el eu;exact post_val_or_str ⟨hlen,hm⟩
noncomputable def nW{α:Type}(l:List α)(n:Int):List α:=(so n.toNat l).flatten
def wE(k:Nat)(l acc:List Nat):(so k l.toArray).foldl (·++·) acc.toArray=(acc++(so k l).flatten).toArray:=by
 induction k generalizing acc with
 | zero=>simp
 | succ k ih =>
  rw [replicate_succ,foldl_cons,append_toArray,ih (acc++l),replicate_succ,flatten_cons,append_assoc]
def Ga(l:List Nat)(n:Int):Txt.mul (S l) n=S (nW l n):=by
 unfold Txt.mul nW
 by_cases h:n<1
 .rw [if_pos h];have:n.toNat=0:=by omega
  rw [this];rfl
 .rw [if_neg h]
  split
  .rename_i h2;rw [eO] at h2;simp only [or_eq_true,beq_iff_eq] at h2
   rcases h2 with h2|h2
   .subst h2;simp [S]
   .have:l=[]:=Jn.mp h2;subst this;simp [S]
  .have e:=wE n.toNat l [];show (⟨_⟩:Str)=_
   have e':(so n.toNat (S l).cps).foldl (·++·) #[]=((so n.toNat l).flatten).toArray:=by
    simpa [S] using e
   rw [e'];rfl
def dq{α:Type}(l:List α)(n:Int):(nW l n).length=n.toNat*l.length:=by
 unfold nW;rw [length_flatten,map_replicate,sum_replicate_nat]
def vf:OpR X (binaryOp .Mult) (λx y H Q=>∃l n,x=.str (S l)/\y=.int n/\-1000000<=n/\n<=1000000/\n.toNat*l.length<=sizeLine/\Q (.str (S (nW l n))) H):=by
 intro pins s σ H x y v u Q I rx ry h;obtain⟨l,n,rfl,rfl,h1,h2,hz,q⟩:=h;obtain⟨t,rfl⟩:=rx;obtain⟨t',rfl⟩:=ry;have hs:sizeLine=16777216:=JB;have hz':n.toNat*l.length<=16777216:=by rw [<- hs];exact hz
 refine SB.mul ⟨?_,λhn hc=>?_,λhn hc=>?_⟩ λt' k=>⟨.str (S (nW l n)),H,I.tok _,⟨t',by rw [Ga]⟩,q⟩
 .rw [decide_eq_false (by omega),decide_eq_false (by omega)];rfl
 .rw [eO];intro hgt
  have hl:l.length<=16777216:=by
   have:1*l.length<=n.toNat*l.length:=mul_le_mul_right _ (by omega);omega
  have hdiv:(2^63 - 1:Int) / 1000000<=(2^63 - 1) / n:=by
   apply le_ediv_of_mul_le (by omega);have:=L8 h2 (show (0:Int)<=(2^63 - 1) / 1000000 by decide);have e2:((2^63 - 1:Int) / 1000000)*1000000<=2^63 - 1:=by decide
   omega
  have e3:(2^63 - 1:Int) / 1000000=9223372036854:=by decide
  omega
 .rw [eO];have:l.length*n.toNat<=16777216:=by rw [mul_comm];exact hz'
  exact decide_eq_false (by omega)
def wF:OpR X (compareOp .LtE) (λx y H Q=>∃i j,x=.str i/\y=.str j/\Q (.bl (!decide (j.cps.toList<i.cps.toList))) H):=by
 intro pins s σ H x y v u Q I rx ry h;obtain⟨i,j,rfl,rfl,q⟩:=h;obtain⟨t,rfl⟩:=rx;obtain⟨t',rfl⟩:=ry;exact PySem.P.le_str ⟨.bl _,H,I,rfl,q⟩
end
noncomputable def Its(xs:List V):It:=⟨λi _=>i<xs.length,λi H x H'=>H'=H/\xs[i]?=some x,λi _=>xs.length=i⟩
def wG{M:Model}{A:v_}{E:Value->cy->Prop}{s:cy}{tg:Expr}{it:Addr}{u:Value}{Q:Unit->cy->Prop}(hu:∀a,u≠.ref a)(hQ:Q () s):wpAny M A (letOwnedTupleGo tg (.ref it) u) Q E s:=by
 unfold letOwnedTupleGo
 cases tg <;> first
  | exact f_ hQ
  | (cases u <;> first
    | exact f_ hQ
    | exact absurd rfl (hu _))
def kT{P:pj}{w:World}{K:a_}{tg:Expr}{it:Addr}{xs:List V}{n:Nat}{Pt:Nat->Value->Prop}{St:Nat->Heap->Prop}
  (W:∀A:v_,A.handled=none->Walks P w A it [it] [it] n Pt St) (hn:xs.length=n)
  (hv:∀i v,i<n->Pt i v->∃x,xs[i]?=some x/\cv x v) (hsc:∀i v,Pt i v->∀a,v≠.ref a)
  (hobj:∀i h,St i h->∃o,h.get? it=some o/\∀v,o.data≠.cell v)
  (hfr:∀i h h',St i h->(∀b∈[it],∀o,h.get? b=some o->h'.get? b=some o)->St i h')
  (hself:∀(A:v_) (i:Nat) (s:cy) (Q:Value->cy->Prop) (E:Value->cy->Prop),St i s.heap->Q (.ref it) s->wpAny (model P w) A (pyIter (.ref it)) Q E s) :
  Bm P w K tg (Its xs) [it] it St where
 mem:=by simp
 obj:=λi h st b hb=>by
  have e:b=it:=by simpa using hb
  subst e;exact hobj i h st
 keep:=λi h h' st k=>hfr i h h' st k
 item:=by
  intro X hP hw hK hc i pins s σ H E I hf st hg;subst hP hw hK;obtain⟨f0,f1,f2,f3,f4,f5⟩:=hf it (by simp);refine (W X.A (I.ok.hd hc)).item i s _ _ (by rw [<- hn];exact hg) st λv h' tk hp st' kk=>?_;obtain⟨x,hx,rx⟩:=hv i v (by rw [<- hn];exact hg) hp;have I1:Inv X pins σ H { s with heap:=h',toks:=tk }:=I.turned (λb o hb e=>kk b o (by simpa using hb) e) f0 f1 f3 f4 f5;exact⟨v,rfl,wG (s:={ s with heap:=h',toks:=tk }) (hsc i v hp) ⟨x,H,I1,rx,⟨rfl,hx⟩,st',λb hb=>(hf b hb).1⟩⟩
 done:=by
  intro X hP hw hK hc i pins s σ H E I hf st hg;subst hP hw hK;obtain⟨f0,f1,f2,f3,f4,f5⟩:=hf it (by simp);have e:n=i:=hn.symm.trans hg;subst e;exact (W X.A (I.ok.hd hc)).done s _ _ st λh' tk kk=>⟨rfl,I.turned (λb o hb e=>kk b o (by simpa using hb) e) f0 f1 f3 f4 f5⟩
 self:=hself
section
variable {X:Cx}{tg:Expr}
noncomputable def gc(l:List Nat):List V:=l.map λc=>V.str (S [c])
def vg{l:List Nat}{i:Nat}{x:V}(h:(gc l)[i]?=some x):∃c,l[i]?=some c/\x=.str (S [c]):=by
 unfold gc at h;rw [k_] at h
 cases e:l[i]? with
 | none=>rw [e] at h;cases h
 | some c=>rw [e] at h;exact⟨c,rfl,(r_ h).symm⟩
def jB(l:List Nat):(gc l).length=l.length:=length_map _
noncomputable def nX(i:Int)(n:Nat):List V:=(g_ n).map λ(k:Nat)=>V.int (i - k)
def kU(i:Int)(n:Nat):(nX i n).length=n:=by simp [nX]
def wH{i:Int}{n k:Nat}{x:V}(h:(nX i n)[k]?=some x):k<n/\x=.int (i - k):=by
 unfold nX at h;rw [k_] at h
 by_cases hk:k<n
 .rw [IU hk] at h;exact⟨hk,(r_ h).symm⟩
 .rw [we (by simp;omega)] at h;cases h
noncomputable def DW(ta:TA):TI:=λσ H R=>ta σ H λvs H1=>∃i j:Int,vs=[.int i,.int j,.int (-1)]/\(-(2^60)<=i/\i<2^60/\-(2^60)<=j/\j<2^60)/\R (Its (nX i (i - j).toNat)) H1
def h7(i j:Int):KM i j (-1)=(((i - j).toNat:Nat):Int):=by
 unfold KM;rw [if_neg (by decide)];simp only [neg_neg,ediv_one];split <;> omega
def qv{a b c:Expr}{ta:TA}{p pos:Pos}(hg:Gl X "range")(hm:X.mg "range"=none)(ha:PA X [a,b,c] ta)
  (hs:starEach [a,b,c] X.env=[(false,eval a X.env),(false,eval b X.env),(false,eval c X.env)]:=by rfl) (hs2:starEach [b,c] X.env=[(false,eval b X.env),(false,eval c X.env)]:=by rfl) :
  PI X tg (.Call (.Name "range" p) [a,b,c] [] pos) (DW ta):=by
 intro pins s σ H R I h;refine Call_ (kL I hg hm boot_range (Js (thn (ha pos pins s σ H _ I h) λus s1 ⟨vs,H1,I1,r1,q1⟩=>?_) (by rw [hs,hs2]) (by rw [hs2];rfl)));obtain⟨i,j,e,⟨q1,q2,q3,q4⟩,q⟩:=q1;subst e
 cases r1 with
 | cons r rr =>
  cases rr with
  | cons r' rr =>
   cases rr with
   | cons r'' rr =>
    cases rr;obtain⟨t,rfl⟩:=r;obtain⟨t',rfl⟩:=r';obtain⟨t'',rfl⟩:=r'';refine call_range_3 (by decide) ?_ (.inl (My (by decide)))
    refine wpAny_pyIter_range (IsRange.new ..) ?_ ?_
    .unfold Builtin.Range.small;rw [h7];simp only [Builtin.Range.rangeFitsLong,and_eq_true,or_eq_true,decide_eq_true_eq,beq_iff_eq,show ¬ (-1:Int) > 0 by decide,if_false];omega
    have I2:Inv X pins σ H1 { s1 with heap:=s1.heap.push { cls:=.type "range",data:=.fields #[.int i t,.int j t',.int (-1) t''] },toks:=s1.toks }:=I1.kept λb o e=>e_ _ e
    refine⟨_,[(s1.heap.push { cls:=.type "range",data:=.fields #[.int i t,.int j t',.int (-1) t''] }).objs.size],_,Its (nX i (i - j).toNat),H1,rfl,I2.kept (t':=s1.toks) λb o e=>e_ _ e,
     kT (λA hA=>Walks.range hA _ i (-1) (i - j).toNat) (kU _ _) ?_ ?_ ?_ ?_ (λA i s Q E st q=>wpAny_pyIter_rangeiter st q),?_,λb hb=>?_,q⟩
    .rintro k v hk ⟨t,rfl⟩
     refine⟨.int (i - k),?_,t,?_⟩
     .unfold nX;rw [k_,IU hk];rfl
     .have e:i+(k:Int)*(-1)=i - k:=by omega
      rw [e]
    .rintro k v ⟨t,rfl⟩ a z;cases z
    .exact λk h st=>⟨_,st,λv z=>by
      have z':Data.fields _=Data.cell v:=z;cases z'⟩
    .exact λk h h' st kk=>kk _ (by simp) _ st
    .show IsRangeIter _ _ (i+((0:Nat):Int)*(-1)) ((((i - j).toNat:Nat):Int) - ((0:Nat):Int)) (-1);rw [<- h7];simp only [natCast_zero,zero_mul,Int.add_zero,Int.sub_zero];exact j_ _ rfl
    .have e:b=(s1.heap.push { cls:=.type "range",data:=.fields #[.int i t,.int j t',.int (-1) t''] }).objs.size:=by simpa using hb
     subst e;exact I2.fpOk (pf _) (I2.hok.fresh (pf _))
end
section
variable {X:Cx}
def rS:bo X (.builtin "isinstance") (λxs H Q=>∃x n t b,xs=[x,.ty n]/\p9 X.K H x t/\IK X.K t (.type n)=some b/\Q (.bl b) H):=by
 intro pins s σ H xs us Q I r h;obtain⟨x,n,t,b,rfl,ty,e,q⟩:=h;obtain⟨u,w',rfl,rx,ry⟩:=rO r;cases (show w'=Jx n from ry);exact wq I rx ty e λtk=>⟨.bl b,H,I.tok _,rfl,q⟩
mutual
inductive DV (K:a_) (H:Hp):V->KF->Prop
 | non:DV K H .non .none
 | bl (b:Bool):DV K H (.bl b) (.bool b)
 | int (i:Int):DV K H (.int i) (.int i)
 | str (x:Str):DV K H (.str x) (.str x)
 | lst {a:Addr}{xs:List V}{ds:List KF}:SqL K H a xs->DVs K H xs ds->DV K H (.ref a) (.list ds)
 | tup {a:Addr}{xs:List V}{ds:List KF}:SqT K H a xs->DVs K H xs ds->DV K H (.ref a) (.tuple ds)
inductive DVs (K:a_) (H:Hp):List V->List KF->Prop
 | nil:DVs K H [] []
 | cons {x:V}{d:KF}{xs:List V}{ds:List KF}:DV K H x d->DVs K H xs ds->DVs K H (x::xs) (d::ds)
end
mutual
theorem DV.reads{pins:List (Addr×Obj)}{σ:St}{H:Hp}{s:cy}(I:Inv X pins σ H s):∀{x:V}{d:KF}{u:Value},DV X.K H x d->cv x u->∃as,Reads s.heap u d as
 | _,_,u,.non,r=>by cases (show u=IJ from r);exact⟨_,.none⟩
 | _,_,u,.bl b,r=>by cases (show u=JM b from r);exact⟨_,.bool b⟩
 | _,_,u,.int i,r=>by obtain⟨t,e⟩:=(show ∃t,u=La i t from r);subst e;exact⟨_,.int i t⟩
 | _,_,u,.str x,r=>by obtain⟨t,e⟩:=(show ∃t,u=Kr x t from r);subst e;exact⟨_,.str x t⟩
 | _,_,u,.lst (a:=a) hq hs,r=>by
  cases (show u=gV a from r);obtain⟨its,rv,pl,_⟩:=I.list hq;obtain⟨o,ho,hc,n,hd⟩:=pl.isList;obtain⟨as,ra⟩:=DVs.reads I hs rv;exact⟨_,.list ho hc hd ra⟩
 | _,_,u,.tup (a:=a) hq hs,r=>by
  cases (show u=gV a from r);obtain⟨its,rv,pl,_⟩:=I.tuple hq;obtain⟨o,ho,hc,n,hd⟩:=pl;obtain⟨as,ra⟩:=DVs.reads I hs rv;exact⟨_,.tuple ho hc hd ra⟩
theorem DVs.reads{pins:List (Addr×Obj)}{σ:St}{H:Hp}{s:cy}(I:Inv X pins σ H s):∀{xs:List V}{ds:List KF}{us:List Value},DVs X.K H xs ds->bD xs us->∃as,ReadsAll s.heap us ds as
 | _,_,_,.nil,.nil=>⟨_,.nil⟩
 | _,_,_,.cons h hs,.cons r rs=>by
  obtain⟨as,ra⟩:=DV.reads I h r;obtain⟨bs,rb⟩:=DVs.reads I hs rs;exact⟨_,.cons ra rb⟩
end
noncomputable def Gb(K:a_)(neg:Bool):R2:=λx y H Q=>∃da db,DV K H x da/\DV K H y db/\JJ da=true/\JJ db=true/\Q (.bl (if neg then !Ld da db else Ld da db)) H
def DX(hu:X.A.units+64<cLine):OpR X (compareOp .Eq) (Gb X.K false):=by
 intro pins s σ H x y v u Q I rx ry h;obtain⟨da,db,ha,hb,sa,sb,q⟩:=h;obtain⟨as,ra⟩:=DV.reads I ha rx;obtain⟨bs,rb⟩:=DV.reads I hb ry;exact eq_dataH ra rb sa sb hu ⟨.bl _,H,I,rfl,q⟩
def DY(hu:X.A.units+64<cLine):OpR X (compareOp .NotEq) (Gb X.K true):=by
 intro pins s σ H x y v u Q I rx ry h;obtain⟨da,db,ha,hb,sa,sb,q⟩:=h;obtain⟨as,ra⟩:=DV.reads I ha rx;obtain⟨bs,rb⟩:=DV.reads I hb ry;exact ne_dataH ra rb sa sb hu ⟨.bl _,H,I,rfl,q⟩
theorem DVs.ints{K:a_}{H:Hp}:∀ns:List Int,DVs K H (ns.map V.int) (ns.map MF)
 | []=>.nil
 | n::ns=>.cons (.int n) (DVs.ints ns)
theorem kW:∀ns ms:List Int,Lh (ns.map MF) (ms.map MF)=decide (ns=ms)
 | [],[]=>by simp [Lh]
 | [],_::_=>by simp [Lh]
 | _::_,[]=>by simp [Lh]
 | a::r,b::t=>by
  simp only [map_cons,Lh,Ld,kW r t]
  by_cases h:a=b <;> by_cases h':r=t <;> simp [h,h']
def rT:MtR X "str.endswith" (λx xs H Q=>∃a b,x=.str (S a)/\xs=[.str (S b)]/\Q (.bl (decide (b <:+ a))) H):=by
 intro pins s σ H x xs v us Q I rx rs h;obtain⟨a,b,rfl,rfl,q⟩:=h;obtain⟨t,rfl⟩:=rx;obtain⟨u,rfl,t',rfl⟩:=iC rs
 have e:Txt.endswith (S a) (S b)=decide (b <:+ a):=by
  unfold Txt.endswith K4;rw [eO,eO]
  have e1:((S a).cps.extract (a.length - b.length) (a.length - b.length+b.length))=((a.drop (a.length - b.length)).take b.length).toArray:=by
   show a.toArray.extract _ _=_;rw [extract_toArray,extract_eq_take_drop];have e2:a.length - b.length+b.length - (a.length - b.length)=b.length:=by omega
   rw [e2]
  rw [e1]
  by_cases h:b <:+ a
  .rw [decide_eq_true h];have hl:=h.length_le;have hd:a.drop (a.length - b.length)=b:=(suffix_iff_eq_drop.mp h).symm;rw [hd];simp [S,hl]
  .rw [decide_eq_false h]
   by_cases hl:b.length<=a.length
   .have hne:¬ (a.drop (a.length - b.length)).take b.length=b:=λz=>h (by
     rw [Jj (by rw [length_drop];omega)] at z;exact suffix_iff_eq_drop.mpr z.symm)
    simp only [and_eq_false_imp];intro _;show (((a.drop (a.length - b.length)).take b.length).toArray == b.toArray)=false;rw [beq_eq_false_iff_ne];intro z;exact hne (by simpa using congrArg Mx z)
   .rw [decide_eq_false (by omega)];rfl
 exact SC.endswith ⟨.bl _,H,I,rfl,by rw [e];exact q⟩
end
section
variable {X:Cx}{a b:Expr}{ta tb:TE}{pos:Pos}
def bF{x:Str}{l:List Nat}{j:Nat}(h:x=S l):PE X (.Constant (.str x) j pos) (tC (.str (S l))):=by
 subst h;exact Du
def wI:bo X (.builtin "len") (λxs H Q=>∃l,xs=[.str (S l)]/\l.length<=sizeLine/\Q (.int l.length) H):=by
 intro pins s σ H xs us Q I r h;obtain⟨l,rfl,hz,q⟩:=h;exact ql pins s σ H _ us Q I r ⟨S l,rfl,by rw [eO];exact hz,by rw [eO];exact q⟩
noncomputable def DZ:R2:=λx y H Q=>∃l i c,x=.str (S l)/\y=.int i/\l.length<=sizeLine/\atI l i=some c/\Q (.str (S [c])) H
def BG:IxR X DZ:=by
 intro value slice pins s σ H x y v u Q I rx ry q hs;obtain⟨l,i,c,rfl,rfl,hz,ha,q⟩:=q;exact DL value slice pins s σ H _ _ v u Q I rx ry ⟨S l,i,c,rfl,rfl,by rw [eO];exact hz,ha,q⟩ hs
def BH:OpR X (binaryOp .Add) (λx y H Q=>∃i j,x=.str (S i)/\y=.str (S j)/\i.length+j.length<=sizeLine/\Q (.str (S (i++j))) H):=by
 intro pins s σ H x y v u Q I rx ry h;obtain⟨i,j,rfl,rfl,hz,q⟩:=h;exact u0 pins s σ H _ _ v u Q I rx ry ⟨S i,S j,rfl,rfl,by rw [eO,eO];exact hz,by rw [yV];exact q⟩
def D0:OpR X (compareOp .Eq) (λx y H Q=>∃i j,x=.str (S i)/\y=.str (S j)/\Q (.bl (decide (i=j))) H):=by
 intro pins s σ H x y v u Q I rx ry h;obtain⟨i,j,rfl,rfl,q⟩:=h;exact FS pins s σ H _ _ v u Q I rx ry ⟨rfl,by rw [DS];exact q⟩
def D1:OpR X (compareOp .NotEq) (λx y H Q=>∃i j,x=.str (S i)/\y=.str (S j)/\Q (.bl (!decide (i=j))) H):=by
 intro pins s σ H x y v u Q I rx ry h;obtain⟨i,j,rfl,rfl,q⟩:=h;exact FT pins s σ H _ _ v u Q I rx ry ⟨rfl,by rw [DS];exact q⟩
def D2:OpR X (compareOp .Eq) (rI0 λi j=>.bl (decide (i=j))):=C7 λ_ _ _ _ _ _ _ q=>eq_int (by rw [beq_eq_decide_eq];exact q)
def D3:OpR X (compareOp .NotEq) (rI0 λi j=>.bl (!decide (i=j))):=C7 λ_ _ _ _ _ _ _ q=>ne_int (by rw [bne,beq_eq_decide_eq];exact q)
def wJ:bo X (.builtin "len") (λxs H Q=>∃p ys,xs=[.ref p]/\SqL X.K H p ys/\Q (.int ys.length) H):=by
 intro pins s σ H xs us Q I r h;obtain⟨p,ys,e,hq,q⟩:=h;exact j8 pins s σ H xs us Q I r ⟨p,ys,e,.inl hq,q⟩
def wK:bo X (.builtin "len") (λxs H Q=>∃p ys,xs=[.ref p]/\SqT X.K H p ys/\Q (.int ys.length) H):=by
 intro pins s σ H xs us Q I r h;obtain⟨p,ys,e,hq,q⟩:=h;exact j8 pins s σ H xs us Q I r ⟨p,ys,e,.inr hq,q⟩
end
structure Cal (P:pj) (w:World) (K:a_) (mg:Str->Option Value) (base:Heap) (k:Nat) (x:Str) (ps:List Str) (sp:Sp):Prop where
 ex:∃(f:Addr) (fd:Jp),nP P w K mg base CX0 k f fd ps sp/\km K fd ps []/\z_ K (.ref f)=true/\mg x=some (.ref f)/\∃oc od osl,K.lookup f=some ⟨oc,od,.func fd,osl⟩
structure aV (K:a_) (mg:Str->Option Value) (x:Str) (st:Stmt):Prop where
 ex:∃(f:Addr) (fd:Jp),Fun K x x st f fd/\mg x=some (.ref f)
section
variable {P:pj}{w:World}{K:a_}{mg:Str->Option Value}{base:Heap}{x:Str}{st:Stmt}{N ps:List Str}{k:Nat}{sp:Sp}
def aV.ok(D:aV K mg x st)(S:aA N ps (aj st))
  (hb:∀(kV doc pm:Value) (an:Option Addr) (cdv ct:Value) (us:List Value),us.length=ps.length->bindArgs (F_ x x (bK st) (aX st) (aj st) .none kV doc pm an cdv ct) ⟨us,[]⟩=pure (ps.zip us))
  (len:∀vs H Q E,sp vs H Q E->vs.length=ps.length)
  (hbody:∀(f:Addr) (cdv:Value) (A:v_) (outer:List Env) (s:cy) (H:Hp) (vs:List V) (Q:VK) (E:XK),dO k (A.deeper (envOfC x (aj st) s.heap.objs.size f cdv))->sp vs H Q E ->
   ∃t,PSs (mZ CX0 P w K mg base N x (aj st) f cdv A outer s H E).nox (aX st) t/\t { nx:=λ_ H'=>Q .non H',rt:=Q } (start N vs) H):Cal P w K mg base (k+1) x ps sp:=by
 obtain⟨f,fd,F,hm⟩:=D.ex
 have lk:∃oc od osl,K.lookup f=some ⟨oc,od,.func fd,osl⟩:=by
  obtain⟨oc,od,kV,doc,pm,an,cdv,ct,osl,rfl,lk,hcd⟩:=F.ex;exact⟨oc,od,osl,lk⟩
 exact⟨f,fd,F.ok S len λcdv A outer s H vs Q E hr h=>hbody f cdv A outer s H vs Q E hr h,F.binds hb,F.kp,hm,lk⟩
def aV.mk'{K:a_}{h:Heap}{mg:Str->Option Value}{x:Str}{st:Stmt}{f:Addr}{oc:Value}{od an:Option Addr}{osl:Array (Option Value)}{kV doc pm cdv ct:Value}(X:K.In h)(G:h.Ns mainGlobals mg)
  (a:tf K mainGlobals x=some (some (.ref f))) (l:K.lookup f=some ⟨oc,od,.func (F_ x x (bK st) (aX st) (aj st) .none kV doc pm an cdv ct),osl⟩)
  (c:Jk K cdv x=true) (k:z_ K (.ref f)=true):aV K mg x st:=⟨f,_,qt (st:=st) l c k,IW X G a⟩
end
section
variable {X:Cx}{k:Nat}{x:Str}{ps:List Str}{sp:Sp}{p pos:Pos}{e:Expr}{es:List Expr}{t:TA}
def D4(C:Cal X.prog X.w X.K X.mg X.base k x ps sp)(hr:dO k X.A)(ha:PA X (e::es) t)(hg:Gl X x:=by rfl)(hdb:(x == ("__debug__":Str))=false:=by decide)(he:starEach (e::es) X.env=(false,eval e X.env)::starEach es X.env:=by rfl)
  (hpl:(backTo pos (starEach es X.env)).any (·.1)=false:=by rfl):PE X (.Call (.Name x p) (e::es) [] pos) (eM sp [] E0 t):=by
 obtain⟨f,fd,F,hb,hk,hm,_⟩:=C.ex;exact wt F hr hg hm hk hb .nil BE ha hdb he hpl
end
noncomputable def vh(K:a_):Sp:=λvs H Q _=>∃(a:Addr) (ns:List Int),vs=[.ref a]/\SqL K H a (ns.map V.int)/\ns.length<=63/\∀H',Q (.bl true) H'
def D5{P:pj}{w:World}{K:a_}{mg:Str->Option Value}{fa:Addr}{st:Stmt}{k:Nat}{x:Str}(hfa:mg "law"=some (.ref fa))(D:aV K mg "law" st)
  (hbind:∀(kV doc pm:Value) (an:Option Addr) (cdv ct:Value) (s:cy) (v:Value),MA s (F_ "law" "law" (bK st) (aX st) (aj st) .none kV doc pm an cdv ct) ⟨[v],[]⟩ [(x,v)])
  (h:∀base:Heap,Cal P w K mg base k "law" [x] (vh K)) :
  ∃fd:Jp,(∀(s:cy) (v:Value),MA s fd ⟨[v],[]⟩ [(x,v)])/\∀base:Heap,K.In base->base.Ns mainGlobals mg->nP P w K mg base CX0 k fa fd [x] (vh K):=by
 obtain⟨f,fd,F,hm⟩:=D.ex;have e:=hfa.symm.trans hm;cases e;obtain⟨oc,od,kV,doc,pm,an,cdv,ct,osl,rfl,lk,hcd⟩:=F.ex;refine⟨_,λs v=>hbind kV doc pm an cdv ct s v,λbase kb nb=>?_⟩;obtain⟨f',fd',F',_,_,hm',oc',od',osl',lk'⟩:=(h base).ex;have e:=hfa.symm.trans hm';cases e;rw [lk] at lk';cases lk';exact F'
def D6{l:MK}{q:pj}{loose:List Str}{XP:(Str->Option Value)->Heap->Prop}{YP:World->Heap->Prop}{d:DefRec}{K:LW->a_}{k:Nat}{x:Str}(hn:l.most=some 63)(hdf:d.params.defaults=[])(hr:dO k callerA)
  (hY:∀(w:World) (h:Heap),YP w h->(K w.params).In h)
  (F:∀(w:World) (mg:Str->Option Value) (fa:Addr) (h:Heap),(K w.params).In h->h.Ns mainGlobals mg->mg d.name=some (.ref fa) ->
   ∃fd:Jp,(∀(s:cy) (u:Value),MA s fd ⟨[u],[]⟩ [(x,u)])/\∀base:Heap,(K w.params).In base->base.Ns mainGlobals mg->nP l.prog w (K w.params) mg base CX0 k fa fd [x] (vh (K w.params))) :
  PySem.W.WalkO q loose XP YP l.row.toRowW d [] (λf vs=>PySem.call f vs) :=
 BD (n:=63) (k:=k) (x:=x) (CX:=λ_=>CX0) (sp:=λw=>vh (K w.params)) hn (by decide) hdf hr hY F (λ_ _ a ns hl _ hS=>⟨a,ns,rfl,hS,hl,λ_=>rfl⟩) λ_ _ _ _ _ z=>z
def BI{α β:Type}{f:α->β}{xs:List α}{i:Int}{v:α}(h:atI xs i=some v):atI (xs.map f) i=some (f v):=by
 unfold atI at h ⊢;rw [length_map]
 cases e:ixN xs.length i with
 | none=>rw [e] at h;cases h
 | some j =>
  rw [e] at h;show (xs.map f)[j]?=some (f v);have h':xs[j]?=some v:=h;rw [k_,h'];rfl
def dR{α:Type}{xs:List α}{i:Int}{j:Nat}{v:α}(h:xs[j]?=some v)(e:i=(j:Int)):atI xs i=some v:=by subst e;exact By h
def sz(n:Nat)(h:n<=1000000):n<=sizeLine:=by rw [JB];omega
def yW{ns:List Int}{i:Nat}{x:V}(h:(ns.map V.int)[i]?=some x):∃z,ns[i]?=some z/\x=.int z:=by
 rw [k_] at h
 cases e:ns[i]? with
 | none=>rw [e] at h;cases h
 | some z=>rw [e] at h;exact⟨z,rfl,(r_ h).symm⟩
section
variable {X:Cx}{st:Stmt}{t:TS}
noncomputable def D7(t:TS):TS:=λD σ H=>∃J:St->Hp->Prop,t { D with nx:=J } σ H/\∀σ' H',J σ' H'->D.nx σ' H'
def iD(h:PS X st t):PS X st (D7 t):=by
 intro pins s σ H D I q;obtain⟨J,q1,q2⟩:=q;refine thn (h pins s σ H _ I q1) λf s' r=>?_
 cases f with
 | next=>obtain⟨σ',H',I',r'⟩:=r;exact⟨σ',H',I',q2 σ' H' r'⟩
 | brk=>exact r
 | cont=>exact r
 | ret u=>exact r
end
def yX{α β:Type}(f:α->β)(xs:List α)(lo hi:Option Int):cQ (xs.map f) lo hi=(cQ xs lo hi).map f:=by
 unfold cQ;rw [length_map,map_take,map_drop]
def yY{α:Type}(l:List α){k:Int}(h:0<=k):cQ l none (some k)=l.take k.toNat:=by
 have e:k=((k.toNat:Nat):Int):=by omega
 rw [e,dZ];rfl
def vi{α:Type}(l:List α){k:Int}(h:0<=k):cQ l (some k) none=l.drop k.toNat:=by
 have e:k=((k.toNat:Nat):Int):=by omega
 rw [e,dn];rfl
theorem dr{x:Str}{c:Addr}:∀(names:List (Str×Jt)) (n:Nat) (acc:List (Str×Addr)),(cellsFrom n names acc).lookup x=some c->(n<=c/\(x,Kh)∈names)\/acc.lookup x=some c
 | [],n,acc,h=>.inr h
 | (y,k)::r,n,acc,h=>by
  unfold cellsFrom at h
  split at h
  .rename_i hk;have hk':k=.cell:=by simpa using hk
   subst hk'
   rcases dr r (n+1) ((y,n)::acc) h with ⟨h1,h2⟩|h1
   .exact .inl ⟨by omega,q_ _ h2⟩
   .rw [JE] at h1
    cases e:x == y with
    | true =>
     rw [e] at h1;have:n=c:=r_ h1;have ex:x=y:=by simpa using e
     subst ex;exact .inl ⟨by omega,mem_cons_self⟩
    | false=>rw [e] at h1;exact .inr h1
  .rcases dr r n acc h with ⟨h1,h2⟩|h1
   .exact .inl ⟨h1,q_ _ h2⟩
   .exact .inr h1
theorem eY{x:Str}:∀(names:List (Str×Jt)) (n:Nat) (acc:List (Str×Addr)),(x,Kh)∉names->(cellsFrom n names acc).lookup x=acc.lookup x
 | [],_,_,_=>rfl
 | (y,k)::r,n,acc,h=>by
  unfold cellsFrom
  split
  .rename_i hk;have hk':k=.cell:=by simpa using hk
   subst hk';rw [eY r (n+1) _ (λz=>h (q_ _ z)),JE]
   have:(x == y)=false:=by
    rw [beq_eq_false_iff_ne];intro e;subst e;exact h mem_cons_self
   rw [this]
  .exact eY r n acc (λz=>h (q_ _ z))
theorem eZ{x y:Str}{c:Addr}:∀(names:List (Str×Jt)) (n:Nat) (acc:List (Str×Addr)),(∀z d,acc.lookup z=some d->d<n) ->
  (cellsFrom n names acc).lookup x=some c->(cellsFrom n names acc).lookup y=some c->n<=c->x=y
 | [],n,acc,ha,h1,h2,hc=>absurd (ha x c h1) (not_lt.mpr hc)
 | (z,k)::r,n,acc,ha,h1,h2,hc=>by
  unfold cellsFrom at h1 h2
  split at h1
  .rename_i hk;rw [if_pos hk] at h2
   have ha':∀w d,((z,n)::acc).lookup w=some d->d<n+1:=λw d e=>by
    rw [JE] at e
    cases q:w == z with
    | true=>rw [q] at e;cases e;exact Mz _
    | false=>rw [q] at e;exact Ki (ha w d e)
   by_cases hcn:n+1<=c
   .exact eZ r (n+1) _ ha' h1 h2 hcn
   .have e:c=n:=le_antisymm (not_lt.mp hcn) hc;subst e
    have key:∀w:Str,(cellsFrom (c+1) r ((z,c)::acc)).lookup w=some c->w=z:=λw hw=>by
     rcases dr r (c+1) _ hw with ⟨q,_⟩|q
     .exact absurd q (not_succ_le_self _)
     .rw [JE] at q
      cases q2:w == z with
      | true=>simpa using q2
      | false=>rw [q2] at q;exact absurd (ha w c q) (IV _)
    rw [key x h1,key y h2]
  .rename_i hk;rw [if_neg hk] at h2;exact eZ r n acc ha h1 h2 hc
noncomputable def iF(env:Env):List (Str×Jt)->List (Str×Addr)->List (Str×Addr)
 | [],acc=>acc
 | (n,k)::r,acc=>if (k == .free)=true then iF env r ((n,(env.cells.lookup n).getD 0)::acc) else iF env r acc
theorem e6{env:Env}{x:Str}{c:Addr}:∀(names:List (Str×Jt)) (acc:List (Str×Addr)),(iF env names acc).lookup x=some c->((x,Kz)∈names/\c=(env.cells.lookup x).getD 0)\/acc.lookup x=some c
 | [],acc,h=>.inr h
 | (y,k)::r,acc,h=>by
  unfold iF at h
  split at h
  .rename_i hk;have hk':k=.free:=by simpa using hk
   subst hk'
   rcases e6 r _ h with ⟨h1,h2⟩|h1
   .exact .inl ⟨q_ _ h1,h2⟩
   .rw [JE] at h1
    cases e:x == y with
    | true =>
     rw [e] at h1;have ex:x=y:=by simpa using e
     subst ex;exact .inl ⟨mem_cons_self,(r_ h1).symm⟩
    | false=>rw [e] at h1;exact .inr h1
  .rcases e6 r acc h with ⟨h1,h2⟩|h1
   .exact .inl ⟨q_ _ h1,h2⟩
   .exact .inr h1
theorem i5{env:Env}{x:Str}:∀(names:List (Str×Jt)) (acc:List (Str×Addr)),((x,Kz)∈names\/(acc.lookup x).isSome=true)->((iF env names acc).lookup x).isSome=true
 | [],acc,h=>h.elim (λz=>nomatch z) id
 | (y,k)::r,acc,h=>by
  unfold iF
  split
  .rename_i hk;refine i5 r _ ?_
   by_cases e:(x == y)=true
   .exact .inr (by rw [JE,e];rfl)
   .rcases h with h|h
    .rcases mem_cons.mp h with z|z
     .cases z;exact absurd (by simp) e
     .exact .inl z
    .exact .inr (by rw [JE];rw [not_eq_true] at e;rw [e];exact h)
  .rename_i hk;refine i5 r acc ?_
   rcases h with h|h
   .rcases mem_cons.mp h with z|z
    .cases z;exact absurd rfl hk
    .exact .inl z
   .exact .inr h
def fW{scope:Scope}{env:Env}(h:∀x∈scope.names,x.2=.free->∃c,env.cells.lookup x.1=some c):closureFor scope env=pure (iF env scope.names []):=by
 unfold closureFor
 have key:∀(names:List (Str×Jt)) (acc:List (Str×Addr)),(∀x∈names,x.2=.free->∃c,env.cells.lookup x.1=some c) ->
   (forIn names acc λ(x:Str×Jt) (r:List (Str×Addr))=>(if (x.2 == Kz)=true then do let y <- cellOf env x.1;pure (Jm ((x.1,y)::r)) else pure (Jm r):Sem _))=pure (iF env names acc):=by
  intro names
  induction names with
  | nil=>intro acc _;rfl
  | cons p r ih =>
   intro acc hp;obtain⟨n,k⟩:=p;rw [forIn_cons];have hr:∀x∈r,x.2=.free->∃c,env.cells.lookup x.1=some c:=λx hx=>hp x (q_ _ hx);unfold iF
   by_cases hk:(k == Kz)=true
   .obtain⟨c,hc⟩:=hp (n,k) mem_cons_self (by simpa using hk);have hc':env.cells.lookup n=some c:=hc;have e1:cellOf env n=pure c:=by unfold cellOf;rw [hc']
    simp only [hk,if_true];rw [e1,hc'];simp only [pure_bind];exact ih _ hr
   .rw [if_neg hk,if_neg hk];simp only [pure_bind];exact ih _ hr
 have e:=key scope.names [] h;have e2:∀(m:Sem (List (Str×Addr))),(m >>= λr=>pure r)=m:=λm=>bind_pure m;rw [<- e]
 first
  | rfl
  | exact (e2 _)
noncomputable def nY(scope:Scope)(C:Addr)(env:Env):Env :=
 { scope:=relabel scope env,locals:=C,globals:=env.globals,cells:=cellsFrom (C+1) scope.names (iF env scope.names []),qual:=env.qual,func:=none,code:=env.code,frame:=env.frame,builtins:=env.builtins }
noncomputable def bb(X:Cx)(N':List Str)(scope:Scope)(s:cy)(H:Hp)(fp:List Addr)(pins:List (Addr×Obj)):Cx :=
 { X with N:=N',s₀:=s,H₀:=H,env:=nY scope s.heap.objs.size X.env,outer:=X.stack,stack:=X.stack,ex:=fp,fn:=λx=>decide ((x,Kh)∈scope.names),pn:=X.pn++pins,xe:=λ_ _=>False }
noncomputable def kX(sc0:Scope)(N:List Str)(scope:Scope)(N':List Str)(ix:List (Option Nat)):Bool :=
 decide (scope.kind=.function) && scope.names.all (λy=>(!decide (y.2=.local) || decide (scope.names.lookup y.1=some .local)) &&
  (!decide (y.2=.free) || ((decide (sc0.names.lookup y.1=some .cell) || decide (sc0.names.lookup y.1=some .free)) && !decide ((y.1,Kh)∈scope.names)))) &&
 decide (N'.length=ix.length) && (N'.zip ix).all (λp=>match p.2 with|none=>true|some j=>decide (N[j]?=some p.1) && decide (scope.names.lookup p.1=some .free))
structure ue (env:Env) (N:List Str) (scope:Scope) (N':List Str) (ix:List (Option Nat)):Prop where
 kind:scope.kind=.function
 loc:∀y∈scope.names,y.2=.local->scope.names.lookup y.1=some .local
 free:∀y∈scope.names,y.2=.free->(env.kindOf y.1=some .cell\/env.kindOf y.1=some .free)/\(y.1,Kh)∉scope.names
 len:N'.length=ix.length
 slot:∀(i:Nat) (x:Str) (j:Nat),N'[i]?=some x->ix[i]?=some (some j)->N[j]?=some x/\scope.names.lookup x=some .free
def kY{env:Env}{N:List Str}{scope:Scope}{N':List Str}{ix:List (Option Nat)}(h:kX env.scope N scope N' ix=true):ue env N scope N' ix:=by
 unfold kX at h;simp only [and_eq_true,decide_eq_true_eq,Jw] at h;obtain⟨⟨⟨h1,h2⟩,h3⟩,h4⟩:=h
 refine⟨h1,λy hy e=>?_,λy hy e=>?_,h3,λi x j e1 e2=>?_⟩
 .have:=(h2 y hy).1;rw [e] at this;simpa using this
 .have:=(h2 y hy).2;rw [e] at this;simpa [Env.kindOf] using this
 .have hm:(x,some j)∈N'.zip ix:=by
   refine IH (i:=i) ?_;rw [getElem?_zip_eq_some];exact⟨e1,e2⟩
  have:=h4 _ hm;simpa using this
noncomputable def rlf(env:Env)(p:Str×Jt):Str×Jt:=match p with|(n,k)=>if (k == Kz && env.scope.kind == .function && env.kindOf n == some .cell) then (n,.cell) else (n,k)
def wL(env:Env)(n:Str)(k:Jt):∃k',rlf env (n,k)=(n,k')/\(k'=k\/(k=.free/\k'=.cell)):=by
 unfold rlf
 by_cases c:(k == Kz && env.scope.kind == .function && env.kindOf n == some .cell)=true
 .refine⟨.cell,if_pos c,.inr ⟨?_,rfl⟩⟩;simp only [and_eq_true,beq_iff_eq] at c;exact c.1.1
 .exact⟨k,if_neg c,.inl rfl⟩
theorem uf{env:Env}:∀{names:List (Str×Jt)}{x:Str},names.lookup x=some .free->(names.map (rlf env)).lookup x=some .cell\/(names.map (rlf env)).lookup x=some .free
 | [],_,h=>by simp at h
 | (n,k)::r,x,h=>by
  have ih:=@uf env r x;obtain⟨k',e,hk'⟩:=wL env n k;rw [map_cons,e]
  cases hx:x == n with
  | true =>
   simp only [JE,hx] at h ⊢;have hk:k=.free:=r_ h
   rcases hk' with z|z
   .right;rw [z,hk]
   .left;rw [z.2]
  | false =>
   simp only [JE,hx] at h ⊢;exact ih h
theorem nZ{env:Env}:∀{names:List (Str×Jt)}{x:Str}{k':Jt},(names.map (rlf env)).lookup x=some k'->k'=.cell\/k'=.free->names.lookup x=some .cell\/names.lookup x=some .free
 | [],_,_,h,_=>by simp at h
 | (n,k)::r,x,k',h,hk'=>by
  have ih:=@nZ env r x k';obtain⟨k2,e,hk2⟩:=wL env n k;rw [map_cons,e] at h
  cases hx:x == n with
  | true =>
   simp only [JE,hx] at h ⊢;have:k2=k':=r_ h;subst this
   rcases hk2 with z|z
   .rw [<- z]
    rcases hk' with q|q
    .left;rw [q]
    .right;rw [q]
   .right;rw [z.1]
  | false =>
   simp only [JE,hx] at h ⊢;exact ih h hk'
def qw{x:Str}{c:Addr}:∀(names:List (Str×Jt)) (n:Nat) (acc:List (Str×Addr)),(cellsFrom n names acc).lookup x=some c->(x,c)∈cellsFrom n names []\/acc.lookup x=some c:=by
 have app:∀(names:List (Str×Jt)) (n:Nat) (acc:List (Str×Addr)),cellsFrom n names acc=cellsFrom n names []++acc:=by
  intro names
  induction names with
  | nil=>intro n acc;rfl
  | cons p r ih =>
   intro n acc;obtain⟨y,k⟩:=p;unfold cellsFrom
   split
   .rw [ih (n+1) ((y,n)::acc),ih (n+1) [(y,n)],append_assoc];rfl
   .exact ih n acc
 intro names n acc h;rw [app] at h;rw [lookup_append] at h
 cases e:(cellsFrom n names []).lookup x with
 | some d =>
  rw [e] at h;have:d=c:=by simpa using h
  subst this;exact .inl (mem_of_lookup e)
 | none=>rw [e] at h;exact .inr (by simpa using h)
noncomputable def qx(ix:List (Option Nat))(σ:St):St:=ix.map λo=>match o with
 | none=>none
 | some j=>match σ[j]? with
  | some v=>v
  | none=>none
section
variable {X:Cx}{pins:List (Addr×Obj)}{σ:St}{H:Hp}{s:cy}
def ug{N':List Str}{ix:List (Option Nat)}{scope:Scope}{fp:List Addr}(ok:ue X.env X.N scope N' ix)(I:Inv X pins σ H s)(hf:∀b∈fp,rN X pins H b)(hfl:∀b∈fp,b<s.heap.objs.size) :
  Inv (bb X N' scope s H fp pins) [] (qx ix σ) H { s with heap:=pushCells (s.heap.push { cls:=.type "dict",data:=.dict #[] }) scope.names }:=by
 have hk4:∀b o,s.heap.get? b=some o->(pushCells (s.heap.push { cls:=.type "dict",data:=.dict #[] }) scope.names).get? b=some o:=λb o e=>LA _ _ b o (e_ _ e)
 have hclo:∀x c,(iF X.env scope.names []).lookup x=some c->X.env.cells.lookup x=some c:=λx c e=>by
  rcases e6 scope.names [] e with ⟨h1,h2⟩|h1
  .obtain⟨d,hd⟩:=I.ok.has x (ok.free _ h1 rfl).1;rw [hd] at h2 ⊢;rw [h2];rfl
  .cases h1
 have hcl:∀x c,X.env.cells.lookup x=some c->c<s.heap.objs.size:=λx c e=>by
  obtain⟨v,q⟩:=I.cell x c e;exact q.lt
 have own:=cellsFrom_ok scope.names (s.heap.push { cls:=.type "dict",data:=.dict #[] }) (s.heap.objs.size+1) [] ⟨λ_ _ hm=>(nomatch hm),K3⟩ (by rw [IT];exact pf _);rw [IT] at own
 have cases:∀x c,(cellsFrom (s.heap.objs.size+1) scope.names (iF X.env scope.names [])).lookup x=some c ->
   ((pushCells (s.heap.push { cls:=.type "dict",data:=.dict #[] }) scope.names).IsCell c none/\s.heap.objs.size+1<=c)\/X.env.cells.lookup x=some c:=λx c e=>by
  rcases qw _ _ _ e with h|h
  .exact .inl (own.empty x c h)
  .exact .inr (hclo x c h)
 have fs':∀b,b∈frs X.stack->b<s.heap.objs.size:=λb hb=>by
  rcases mem_cons.mp (I.stkSub b hb) with z|z
  .rw [z];exact I.lt
  .by_cases q:b<s.heap.objs.size
   .exact q
   .exact absurd z (I.nofs (not_lt.mp q))
 have cix:(bb X N' scope s H fp pins).Ok:=by
  refine⟨I.ok.mod,ok.kind,I.ok.glob,I.ok.blt,pf _,λx y c h1 h2=>?_,λx hx=>?_,λx c hx e=>?_,I.ok.hd,I.ok.frames,.inl rfl,λb hb=>⟨A_ (hfl b hb),λx c e=>?_⟩,λb o e=>I.bs b o e,IG I.ok.bsz I.sz,λb o e hb=>?_,λb hb=>?_,I.stack,I.stkFree⟩
  .rcases cases x c h1 with ⟨_,z⟩|z
   .exact eZ scope.names _ _ (λw d e=>Ki (hcl w d (hclo w d e))) h1 h2 z
   .rcases cases y c h2 with ⟨_,z2⟩|z2
    .exact absurd (hcl x c z) (not_lt.mpr (Li z2))
    .exact I.ok.inj x y c z z2
  .have hx':scope.names.lookup x=some .cell\/scope.names.lookup x=some .free:=by
    rcases hx with z|z
    .exact nZ (env:=X.env) z (.inl rfl)
    .exact nZ (env:=X.env) z (.inr rfl)
   rcases hx' with z|z
   .exact JZ.mp (Kc scope.names _ _ (.inl z))
   .exact JZ.mp (Kc scope.names _ _ (.inr (i5 _ _ (.inl (mem_of_lookup z)))))
  .have hx':(x,Kh)∈scope.names:=of_decide_eq_true hx
   rcases cases x c e with ⟨_,z⟩|z
   .exact Li z
   .rcases qw _ _ _ e with h|h
    .exact Li (own.empty x c h).2
    .rcases e6 scope.names [] h with ⟨h1,_⟩|h1
     .exact absurd hx' (ok.free _ h1 rfl).2
     .cases h1
  .intro z
   rcases cases x c e with ⟨_,z2⟩|z2
   .rw [z] at z2;exact absurd (hfl b hb) (not_lt.mpr (Li z2))
   .exact (hf b hb).2.2.2.2.1 x c z2 z
  .rcases (hf b hb).2.2.2.1 with z|z
   .exact I.ok.noex b o e z
   .exact absurd (m_ (I.ok.bs b o e).1) (not_lt.mpr z)
  .intro z
   rcases mem_cons.mp (I.stkSub b z) with q|q
   .exact (hf b hb).2.1 q
   .exact (hf b hb).2.2.1 q
 refine⟨cix,rfl,I.bare,Un.kept hk4,⟨λ_=>none,?_,λi x v e1 e2 e3=>?_⟩,λx c e=>?_,I.hok.fresh (pf _),λx c e=>?_,λp hp=>?_,I.hok.kept hk4,?_⟩
 .exact (Heap.Ns.new s.heap (.type "dict")).keeps (LA _ _)
 .have e2':∃j,ix[i]?=some (some j)/\σ[j]?=some (some v):=by
   unfold qx at e2;rw [k_] at e2
   cases q:ix[i]? with
   | none=>rw [q] at e2;cases e2
   | some o =>
    rw [q] at e2
    cases o with
    | none=>cases (r_ e2)
    | some j =>
     refine⟨j,rfl,?_⟩;have e2'':(match σ[j]? with|some v=>v|none=>none)=some v:=r_ e2
     cases r:σ[j]? with
     | none=>rw [r] at e2'';cases e2''
     | some w=>rw [r] at e2'';exact congrArg some e2''
  obtain⟨j,hj,hv⟩:=e2';obtain⟨hN,hfr⟩:=ok.slot i x j e1 hj;have hk:=(ok.free _ (mem_of_lookup hfr) rfl).1
  have hvis:Vis X.env.scope x:=by
   rcases hk with z|z
   .exact .inr (.inl z)
   .exact .inr (.inr z)
  obtain⟨m,hn,hl⟩:=I.loc;obtain⟨u,ru,lk⟩:=hl j x v hN hv hvis
  refine⟨u,ru,.inr ⟨?_,?_⟩⟩
  .exact uf (env:=X.env) hfr
  .rcases lk with ⟨z,_⟩|⟨_,c,hc,hcell⟩
   .rcases hk with q|q
    .rw [z] at q;cases q
    .rw [z] at q;cases q
   .refine⟨c,?_,hcell.keeps hk4⟩;show (cellsFrom (s.heap.objs.size+1) scope.names (iF X.env scope.names [])).lookup x=some c;rw [eY scope.names _ _ (ok.free _ (mem_of_lookup hfr) rfl).2];obtain⟨d,hd⟩:=JZ.mp (i5 (env:=X.env) scope.names [] (.inl (mem_of_lookup hfr)));rw [hd,<- hclo x d hd,hc]
 .rcases cases x c e with ⟨z,_⟩|z
  .exact⟨none,z⟩
  .obtain⟨v,q⟩:=I.cell x c z;exact⟨v,q.keeps hk4⟩
 .rcases cases x c e with ⟨_,z⟩|z
  .exact I.hok.fresh (Li z)
  .exact I.freeC x c z
 .have hp':p∈X.pn++pins:=by simpa [bb] using hp
  obtain⟨q1,q2,q3,q4,q5⟩:=I.pin p hp';refine⟨hk4 _ _ q1,q2,A_ (m_ q1),λz=>?_,q5⟩
  rcases mem_cons.mp (I.stkSub p.1 z) with q|q
  .exact q3 q
  .exact q4 q
 .unfold qx;rw [length_map];exact ok.len.symm
end
section
variable {M:Model}{A:v_}{E:Value->cy->Prop}{s:cy}
def du{scope:Scope}{globals:Addr}{cl:List (Str×Addr)}{qual:Str}{func:Option Addr}{code:Value}{env:Env}{Q:Env->cy->Prop}
  (hQ:Q { scope:=scope,locals:=s.heap.objs.size,globals:=globals,cells:=cellsFrom (s.heap.objs.size+1) scope.names cl,qual:=qual,func:=func,code:=env.code,frame:=env.frame,builtins:=env.builtins }
   { s with heap:=pushCells (s.heap.push { cls:=.type "dict",data:=.dict #[] }) scope.names }) :
  wpAny M A (newFunctionEnv scope globals cl [] qual func code (some env)) Q E s:=by
 simp only [newFunctionEnv,Option.isSome_some,if_true];refine b_ (wpAny_alloc ?_);refine b_ (wpAny_layCells _ (λname kind cells=>by cases hkc:kind == Kh <;> simp [hkc]) _ _ _ _ ?_);rw [show ({ s with heap:=s.heap.push { cls:=.type "dict",data:=.dict #[] } }:cy).heap.objs.size=s.heap.objs.size+1 from IT ..];simp only [forIn_nil];exact b_ (f_ (f_ hQ))
end
section
variable {prog:pj}{w:World}{A:v_}{R:Result->cy->Prop}{s:cy}
theorem qy{elt target iter:Expr}{ifs:List Expr}{scope:Scope}{pos:Pos}{it acc:Value}{env:Env}(I:Nat->cy->Prop)
  (turn:∀n s,I n s->wpAny (model prog w) A (pyNext it) (λr s₁=>match r with
   | none=>R (.ok .next) s₁
   | some v=>wpAny (model prog w) A (letOwnedTupleGo target it v) (λ_ s₂=>wpAny (model prog w) A (assign target env v) (λ_ s₃ =>
     wpAny (model prog w) A (forIn ifs true λc r=>if r=true then do let ok <- isTrue c env (eval c env);pure (Jm ok) else pure (Jm r)) (λok s₄ =>
      if ok=true then wpAny (model prog w) A (eval elt env) (λx s₅ =>
       wpAny (model prog w) A (call (.builtin "list.append") [acc,x]) (λ_ s₆=>∃m,m<n/\I m s₆) (λ_ _=>False) s₅) (λ_ _=>False) s₄
      else ∃m,m<n/\I m s₄) (λ_ _=>False) s₃) (λ_ _=>False) s₂) (λ_ _=>False) s₁) (λ_ _=>False) s)
  (n:Nat) (h:I n s) :
  codeAny (model prog w) A (.compLoop (.ListComp elt [⟨target,iter,ifs,0⟩] scope pos) 0 it acc env) R s:=by
 refine codeAny_loop rfl I (λn s hI=>?_) n h;show wpAny _ A ((compTurn (.ListComp elt [⟨target,iter,ifs,0⟩] scope pos) 0 it acc env).onRaise (λx=>do noteFrame x env;theTreesLotGoes x)) _ _ s;refine wpAny_noted ?_;rw [compTurn_list];refine b_ (Jd (b_ (D_ (turn n s hI) (λr s₁ h₁=>?_) λ_ _ h'=>h'.elim)))
 cases r with
 | none=>exact f_ h₁
 | some v =>
  refine b_ (D_ h₁ (λ_ s₂ h₂=>?_) λ_ _ h'=>h'.elim);refine b_ (D_ h₂ (λ_ s₃ h₃=>b_ (D_ h₃ (λok s₄ h₄=>?_) λ_ _ h'=>h'.elim)) λ_ _ h'=>h'.elim)
  cases ok with
  | false=>exact f_ ⟨rfl,h₄⟩
  | true =>
   exact b_ (b_ (D_ h₄ (λx s₅ h₅=>b_ (D_ h₅ (λ_ s₆ h₆=>f_ (f_ ⟨rfl,h₆⟩)) λ_ _ h'=>h'.elim)) λ_ _ h'=>h'.elim))
end
noncomputable def PIf(X:Cx)(ifs:List Expr)(t:TT):Prop :=
 ∀(pins:List (Addr×Obj)) (s:cy) (σ:St) (H:Hp) (Q:Bool->Hp->Prop),Inv X pins σ H s->t σ H Q ->
  wpAny (model X.prog X.w) X.A (forIn ifs true λc r=>if r=true then do let ok <- isTrue c X.env (eval c X.env);pure (Jm ok) else pure (Jm r)) (TP X pins σ Q) X.xe s
def mm:TT:=λ_ H Q=>Q true H
section
variable {X:Cx}
def bM:PIf X [] mm:=λ_ _ _ H _ I h=>wpAny_tests_nil ⟨H,I,h⟩
def kZ{c:Expr}{t:TT}(h:PT X c t):PIf X [c] t:=λpins s σ H Q I q=>wpAny_tests_one (h pins s σ H Q I q)
end
noncomputable def wM(ix:List (Option Nat))(wi:TI)(g:TG)(tts:TT)(te:TE):TE:=λσ H Q=>wi σ H λJ H1=>∀D,H1 D=none->∃W:Nat->Nat->St->Hp->Prop,(∃m,W 0 m (qx ix σ) (upd H1 D (.lst [])))/\∀i m τ H2,W i m τ H2 ->
 (J.stop i H2/\Q (.ref D) H2)\/(J.go i H2/\∀x H3,J.yld i H2 x H3->g x τ H3 λτ2 H4=>tts τ2 H4 λok H5=>if ok=true then te τ2 H5 λv H6=>∃ys,H6 D=some (.lst ys)/\ys.length<sizeLine/\∃m',m'<m/\W (i+1) m' τ2 (upd H6 D (.lst (ys++[v])))
  else ∃m',m'<m/\W (i+1) m' τ2 H5)
section
variable {X:Cx}{tg iter elt:Expr}{ifs:List Expr}{scope:Scope}{N':List Str}{ix:List (Option Nat)}{wi:TI}{g:TG}{tts:TT}{te:TE}
def qz{use:Option (Value->Sem Unit)}{Qf:Value->cy->Prop}{pos p':Pos}{pins:List (Addr×Obj)}{σ:St}{H:Hp}{s:cy}{Q:VK}(hc:X.calm=true)(ok:ue X.env X.N scope N' ix)(hi:PI X tg iter wi)
  (blk:∀s H fp pn,PG (bb X N' scope s H fp pn) tg g/\PIf (bb X N' scope s H fp pn) ifs tts/\PE (bb X N' scope s H fp pn) elt te)
  (hs:∀x,foldedSetIterable iter X.env x=pure x) (I:Inv X pins σ H s) (hw:wM ix wi g tts te σ H Q)
  (fin:∀D C H' s',Inv X pins σ H' s'->Q (.ref D) H'->(∃m,s'.heap.Ns C m)->H' C=none->X.s₀.heap.objs.size<=C->C≠X.env.locals->(∀x c,X.env.cells.lookup x=some c->c≠C)->C∉X.fs->(∀p∈X.pn++pins,p.1≠C) ->
   compPost (model X.prog X.w) X.A X.xe use Qf (.ref D) C (.ok .next) s') :
  wpAny (model X.prog X.w) X.A (comprehension (.ListComp elt [⟨tg,iter,ifs,0⟩] scope pos) scope X.env p' (newList []) false (eval iter X.env) use) Qf X.xe s:=by
 have hclos:closureFor scope X.env=pure (iF X.env scope.names []):=fW λy hy e=>I.ok.has y.1 (ok.free y hy e).1;refine wpAny_comprehension_free (use:=use) rfl hs hclos ok.kind ok.loc (thn (hi pins s σ H _ I hw) λv s1 h1=>thn h1 λitv s2 h2=>?_);obtain⟨it,fp,tn,J,H2,e,I2,T,st2,f2,hW⟩:=h2;subst e;obtain⟨W,⟨m0,w0⟩,turn⟩:=hW s2.heap.objs.size (I2.hok.fresh (pf _))
 have hfl:∀b∈fp,b<s2.heap.objs.size:=λb hb=>by
  obtain⟨o,e,_⟩:=T.obj 0 _ st2 b hb;exact m_ e
 refine Ji ?_
 have I3:Inv X pins σ (upd H2 s2.heap.objs.size (.lst [])) { s2 with heap:=s2.heap.push { cls:=.type "list",dict:=none,data:=.seq ([]:List Value).toArray } } :=
  I2.laid (t':=s2.toks) (λb o e=>e_ _ e) (pf _) (show bn X.prog X.w _ _ _ (.lst []) from ⟨IE _,[],0,.nil,j_ _ rfl⟩)
 have st3:tn 0 (s2.heap.push { cls:=.type "list",dict:=none,data:=.seq ([]:List Value).toArray }):=T.keep 0 _ _ st2 λb _ o e=>e_ _ e;have f3:∀b∈fp,rN X pins (upd H2 s2.heap.objs.size (.lst [])) b:=λb hb=>⟨by rw [au (A_ (hfl b hb))];exact (f2 b hb).1,(f2 b hb).2⟩
 have hfl3:∀b∈fp,b<(s2.heap.push { cls:=.type "list",dict:=none,data:=.seq ([]:List Value).toArray }).objs.size:=λb hb=>by rw [IT];exact Ki (hfl b hb)
 generalize hs3:({ s2 with heap:=s2.heap.push { cls:=.type "list",dict:=none,data:=.seq ([]:List Value).toArray } }:cy)=s3 at I3 ⊢;have eh3:s3.heap=s2.heap.push { cls:=.type "list",dict:=none,data:=.seq ([]:List Value).toArray }:=by rw [<- hs3]
 rw [<- eh3] at st3 hfl3;generalize hH3:upd H2 s2.heap.objs.size (.lst [])=H3 at I3 f3 w0;generalize hD:s2.heap.objs.size=D at *;refine du ?_;have I4:=ug ok I3 f3 hfl3;obtain⟨hg,ht,he⟩:=blk s3 H3 fp pins;have st4:tn 0 (pushCells (s3.heap.push { cls:=.type "dict",data:=.dict #[] }) scope.names):=T.keep 0 _ _ st3 λb _ o e=>LA _ _ b o (e_ _ e)
 have stat:∀{H':Hp},(∀b∈fp,H' b=none)->∀b∈fp,rN (bb X N' scope s3 H3 fp pins) [] H' b:=λhn b hb=>by
  refine⟨hn b hb,A_ (hfl3 b hb),I4.ok.exfs b hb,.inl hb,(I4.ok.exf b hb).2,λp hp=>?_⟩;have hp':p∈X.pn++pins:=by simpa [bb] using hp
  exact (f2 b hb).2.2.2.2.2 p hp'
 have loop:∀(s4:cy),Inv (bb X N' scope s3 H3 fp pins) [] (qx ix σ) H3 s4->tn 0 s4.heap ->
   codeAny (model X.prog X.w) X.A (.compLoop (.ListComp elt [⟨tg,iter,ifs,0⟩] scope pos) 0 (.ref it) (.ref D) (nY scope s3.heap.objs.size X.env)) (compPost (model X.prog X.w) X.A X.xe use Qf (.ref D) s3.heap.objs.size) s4:=by
  intro s4 I4 st4;refine qy (λn s'=>∃i τ H',Inv (bb X N' scope s3 H3 fp pins) [] τ H' s'/\tn i s'.heap/\(∀b∈fp,H' b=none)/\W i n τ H') ?_ m0 ⟨0,_,H3,I4,st4,λb hb=>(f3 b hb).1,w0⟩;rintro n s5 ⟨i,τ,H5,I5,st5,fr5,w5⟩
  rcases turn i n τ H5 w5 with ⟨stop,qn⟩|⟨go,step⟩
  .refine thn (T.done (bb X N' scope s3 H3 fp pins) rfl rfl rfl hc i [] s5 τ H5 (λ_ _=>False) I5 (stat fr5) st5 stop) λr s6 ⟨hr,I6⟩=>?_;subst hr;have I7:Inv X pins σ H5 s6:=I3.call' (ch:=fp) I6.os I6.base I6.hok I6.bare λb hb=>⟨(f2 b hb).2.2.2.1,(f2 b hb).2.1,(f2 b hb).2.2.2.2.1,(f2 b hb).2.2.2.2.2⟩
   obtain⟨m6,hn6,_⟩:=I6.loc
   refine fin D s3.heap.objs.size H5 s6 I7 qn ⟨m6,hn6⟩ I6.free ?_ ?_ ?_ ?_ ?_
   .exact I3.sz
   .exact Lp I3.lt
   .intro x c e z;obtain⟨v,q⟩:=I3.cell x c e;have:=q.lt;rw [z] at this;exact IV _ this
   .exact I3.nofs (pf _)
   .intro p hp z;have:=m_ (I3.pin p hp).1;rw [z] at this;exact IV _ this
  .refine thn (T.item (bb X N' scope s3 H3 fp pins) rfl rfl rfl hc i [] s5 τ H5 (λ_ _=>False) I5 (stat fr5) st5 go) λr s6 ⟨u,hr,h6⟩=>?_;subst hr;refine thn h6 λ_ s7 ⟨x,H7,I7,r7,y7,st7,fr7⟩=>?_;have I7':=I7.pinned (stat fr7) (T.obj _ _ st7)
   have again:∀{s8:cy}{τ8:St}{H8:Hp},Inv (bb X N' scope s3 H3 fp pins) ([]++kM fp s7.heap) τ8 H8 s8->(∃m',m'<n/\W (i+1) m' τ8 H8) ->
     ∃m,m<n/\∃i τ H',Inv (bb X N' scope s3 H3 fp pins) [] τ H' s8/\tn i s8.heap/\(∀b∈fp,H' b=none)/\W i m τ H':=λ{s8 τ8 H8} I8 ⟨m',hm,w8⟩=>by
    refine⟨m',hm,i+1,τ8,H8,I8.unpinned,T.keep _ _ _ st7 λb hb o e=>(I8.pin (b,o) (t_ _ (t_ _ (cr hb e)))).1,λb hb=>?_,w8⟩;obtain⟨o,e,d⟩:=T.obj _ _ st7 b hb;exact (I8.pin (b,o) (t_ _ (t_ _ (cr hb e)))).2.1
   refine thn (hg _ s7 τ H7 x u _ I7' r7 (step x H7 y7)) λ_ s8 ⟨τ8,H8,I8,q8⟩=>?_;refine thn (ht _ s8 τ8 H8 _ I8 q8) λokb s9 ⟨H9,I9,q9⟩=>?_
   cases okb with
   | false =>
    rw [if_neg l_] at q9;rw [if_neg l_];exact again I9 q9
   | true =>
    rw [if_pos rfl] at q9;rw [if_pos rfl];refine thn (he _ s9 τ8 H9 _ I9 q9) λv10 s10 ⟨x10,H10,I10,r10,q10⟩=>?_;obtain⟨ys,hD10,hz,m',hm,w10⟩:=q10;refine thn (eN (X:=bb X N' scope s3 H3 fp pins) _ s10 τ8 H10 (.ref D) [x10] (.ref D) [v10] (λ_ H'=>∃m',m'<n/\W (i+1) m' τ8 H') I10 rfl (.cons r10 .nil) ⟨D,ys,x10,rfl,rfl,hD10,hz,m',hm,w10⟩) λ_ s11 ⟨_,H11,I11,_,q11⟩=>?_;exact again I11 q11
 exact codeAny_compStart_list (loop _ I4 st4) (T.self X.A 0 _ _ _ st4 (loop _ I4 st4))
def bU{pos:Pos}(N':List Str)(ix:List (Option Nat))(hc:X.calm=true)(hi:PI X tg iter wi)
  (blk:∀s H fp pn,PG (bb X N' scope s H fp pn) tg g/\PIf (bb X N' scope s H fp pn) ifs tts/\PE (bb X N' scope s H fp pn) elt te)
  (chk:kX X.env.scope X.N scope N' ix=true) (hs:∀x,foldedSetIterable iter X.env x=pure x:=by intro _;rfl) :
  PE X (.ListComp elt [⟨tg,iter,ifs,0⟩] scope pos) (wM ix wi g tts te):=by
 intro pins s σ H Q I hw;rw [eval_ListComp];refine qz (use:=none) hc (kY chk) hi blk hs I hw λD C H' s' I' q hm hn h1 h2 h3 h4 h5=>?_;obtain⟨m,hm⟩:=hm;refine⟨m,hm,λh' sb=>⟨.ref D,H',?_,rfl,q⟩⟩;exact I'.turned (t':=s'.toks) (λb o hb e=>(sb.2 b hb).trans e) hn h2 (.inr h1) h3 h5
end
section
variable {X:Cx}{tg iter elt:Expr}{ifs:List Expr}{scope:Scope}{N':List Str}{ix:List (Option Nat)}{wi:TI}{g:TG}{tts:TT}{te:TE}
theorem n5{i:Nat}{x:Str}{pos pos' cpos:Pos}(N':List Str)(ix:List (Option Nat))(hN:X.N.Nodup)(hi:X.N[i]?=some x)(hx:Loc X.env.scope x)(hc:X.calm=true)(hit:PI X tg iter wi)
  (blk:∀s H fp pn,PG (bb X N' scope s H fp pn) tg g/\PIf (bb X N' scope s H fp pn) ifs tts/\PE (bb X N' scope s H fp pn) elt te)
  (chk:kX X.env.scope X.N scope N' ix=true) (hsw:swapsWith (.ListComp elt [⟨tg,iter,ifs,0⟩] scope cpos) (some (.Name x pos')) pos.line X.env=pure true:=by rfl)
  (hs:∀x,foldedSetIterable iter X.env x=pure x:=by intro _;rfl) (hf:X.fn x=true\/X.env.scope.names.lookup x=some .local:=by first|exact .inl rfl|exact .inr rfl|assumption) :
  PS X (.Assign [.Name x pos'] (.ListComp elt [⟨tg,iter,ifs,0⟩] scope cpos) pos) (Bl (wM ix wi g tts te) (bS i)):=by
 intro pins s σ H D I hw;rw [exec_Assign_Name_used _ _ _ _ hsw];refine b_ (Jd (b_ ?_));show wpAny _ X.A (do let _ <- comprehension (.ListComp elt [⟨tg,iter,ifs,0⟩] scope cpos) scope X.env _ (newList []) false (eval iter X.env) (some (assign (.Name x pos') X.env))) _ _ s;refine b_ (thn (qz (use:=some (assign (.Name x pos') X.env)) (Qf:=λ_ s'=>SP X pins D .next s') hc (kY chk) hit blk hs I hw λD' C H' s' I' q hm hn h1 h2 h3 h4 h5=>?_) λ_ s' q=>f_ (f_ q))
 obtain⟨m,oC,es,ep,hoC,hdC,hrC⟩:=hm
 have Ip:Inv X (pins++[(C,oC)]) σ H' s':=I'.pins_of λp hp=>(JG.mp hp).elim (λz=>I'.pin p (t_ _ z)) λz=>by
  have e:p=(C,oC):=by simpa using z
  subst e;exact⟨hoC,hn,h2,h4,λv z=>by rw [hdC] at z;cases z⟩
 refine Mb (eV (v:=.ref D') Ip hN hi hx rfl (λs2 I2=>?_) hf);have hC2:s2.heap.get? C=some oC:=(I2.pin (C,oC) (by simp)).1;have I2':Inv X pins (σ.set i (some (.ref D'))) H' s2:=I2.pins_of λp hp=>I2.pin p (t_ _ (Kf _ hp));refine⟨m,⟨oC,es,ep,hC2,hdC,hrC⟩,λh' sb=>⟨_,H',?_,q⟩⟩;exact I2'.turned (t':=s2.toks) (λb o hb e=>(sb.2 b hb).trans e) hn h2 (.inr h1) h3 h5
end
noncomputable def d4(k:Bool)(h:Heap)(a:Addr)(its:Array Value):Prop:=∃o,h.get? a=some o/\o.cls=.type (cond k "tuple" "list")/\∃n,o.data=.seq its n
noncomputable def bY(k:Bool)(h:Heap)(it a:Addr)(i:Nat):Prop:=∃o,h.get? it=some o/\o.cls=.type (cond k "tuple_iterator" "list_iterator")/\o.data=.fields #[.ref a,.int i 0]
def d4.mv{k:Bool}{h h':Heap}{a:Addr}{its:Array Value}(r:d4 k h a its)(f:∀o,h.get? a=some o->h'.get? a=some o):d4 k h' a its:=let ⟨o,e,q⟩:=r;⟨o,f o e,q⟩
def bY.mv{k:Bool}{h h':Heap}{it a:Addr}{i:Nat}(r:bY k h it a i)(f:∀o,h.get? it=some o->h'.get? it=some o):bY k h' it a i:=let ⟨o,e,q⟩:=r;⟨o,f o e,q⟩
section
variable {P:pj}{w:World}{A:v_}{E:Value->cy->Prop}{s:cy}{k:Bool}{it a:Addr}{i:Nat}{its:Array Value}
def qA{x:Value}{Q:Value->cy->Prop}(W:s.heap.IsTupleIter it a i)(R:s.heap.IsTuple a its)(hx:its[i]?=some x)
  (hQ:∀h',h'.IsTupleIter it a (i+1)->KS it s.heap h'->Q x { s with heap:=h' }):wpAny (model P w) A (y_ (.ref it)) Q E s:=by
 have hT:=W.typeIs;obtain⟨o,ho,c,d⟩:=W;obtain⟨ol,hol,_,nl,dl⟩:=R;unfold y_;refine b_ (Ja (name:=Ks "__next__") hT F.slot_tuple_iterator_next (Jq F.slot_tuple_iterator_next hT F.entry_tuple_iterator_next ?_ (F.args_tuple_iterator_next_1 _)));refine b_ (m:=field (.ref it) 0) (IM ho d (x:=.ref a) rfl ?_);have nn:¬ ((gV a == IJ)=true):=l_
 show wpAny _ _ (if (gV a == IJ)=true then _ else _) _ _ s;rw [if_neg nn];refine b_ (m:=field (.ref it) 1) (IM ho d (x:=.int i 0) rfl ?_);refine b_ (m:=seqItems? (.ref a)) (JO hol dl ?_);simp only [B_,hx];exact b_ (K5 ho d (by simp) (f_ ⟨x,rfl,f_ (hQ _ ⟨_,JT _ ho (K_ (KG d _)),(Obj.cls_mapFields ..).trans c,by rw [KG d];simp [rawInt]⟩ (Heap.SameBut.update ..))⟩))
def rV{Q:Value->cy->Prop}(hh:A.handled=none)(W:s.heap.IsTupleIter it a i)(R:s.heap.IsTuple a its)(hx:its[i]?=none)
  (hE:∀h' e,MQ it s.heap h'->(∃o,h'.get? e=some o/\o.cls=.type "StopIteration")->E (.ref e) { s with heap:=h' }):wpAny (model P w) A (y_ (.ref it)) Q E s:=by
 have hT:=W.typeIs;obtain⟨o,ho,c,d⟩:=W;obtain⟨ol,hol,_,nl,dl⟩:=R;unfold y_;refine b_ (Ja (name:=Ks "__next__") hT F.slot_tuple_iterator_next (Jq F.slot_tuple_iterator_next hT F.entry_tuple_iterator_next ?_ (F.args_tuple_iterator_next_1 _)));refine b_ (m:=field (.ref it) 0) (IM ho d (x:=.ref a) rfl ?_);have nn:¬ ((gV a == IJ)=true):=l_
 show wpAny _ _ (if (gV a == IJ)=true then _ else _) _ _ s;rw [if_neg nn];refine b_ (m:=field (.ref it) 1) (IM ho d (x:=.int i 0) rfl ?_);refine b_ (m:=seqItems? (.ref a)) (JO hol dl ?_);simp only [B_,hx];refine b_ (L3 (b_ (K5 ho d (by simp) (b_ (m:=newExc (.type "StopIteration") []) ?_))));simp only [newExc,newTuple]
 refine b_ (Ji (b_ (m:=firstArgMember _ _) (Ls (a:=IJ) (by first|rfl|(simp only [firstArgMember];rfl)) (Ji ?_ (by size_fits)))) (by size_fits));simp only [raiseNew];refine b_ (wpAny_handled ?_)
 first|rw [show A.in1.handled=none from hh]|rw [hh]
 exact b_ (f_ (wpAny_throw (hE _ _ (((Heap.SameBut.update ..).extBut.push _).push _) ⟨_,j_ _ rfl,rfl⟩)))
def dS{x:Value}{Q:Value->cy->Prop}(W:bY k s.heap it a i)(R:d4 k s.heap a its)(hx:its[i]?=some x)
  (hQ:∀h',bY k h' it a (i+1)->KS it s.heap h'->Q x { s with heap:=h' }):wpAny (model P w) A (y_ (.ref it)) Q E s:=by
 cases k with
 | false=>exact wpAny_nextOf_list_item W R hx hQ
 | true=>exact qA W R hx hQ
def e7{Q:Value->cy->Prop}(hh:A.handled=none)(W:bY k s.heap it a i)(R:d4 k s.heap a its)(hx:its[i]?=none)
  (hE:∀h' e,MQ it s.heap h'->(∃o,h'.get? e=some o/\o.cls=.type "StopIteration")->E (.ref e) { s with heap:=h' }):wpAny (model P w) A (y_ (.ref it)) Q E s:=by
 cases k with
 | false=>exact wpAny_nextOf_list_end hh W R hx hE
 | true=>exact rV hh W R hx hE
end
structure ZA (z U V i j:Addr):Prop where
 Uz:U≠z
 Vz:V≠z
 iz:i≠z
 jz:j≠z
 UV:U≠V
 Ui:U≠i
 Uj:U≠j
 Vi:V≠i
 Vj:V≠j
 ij:i≠j
section
variable {P:pj}{w:World}{A:v_}{E:Value->cy->Prop}{s:cy}{k l:Bool}{z U V i j a c:Addr}{n:Nat}{xs ys:Array Value}{x y u v:Value}
def BJ{Q:Value->cy->Prop}(D:ZA z U V i j)(az:a≠z)(cz:c≠z)(ci:c≠i)(cV:c≠V)(hz:IsZip s.heap z U V .none)(hU:KH s.heap U (.ref i) (.ref j))(hV:KH s.heap V u v)
  (W1:bY k s.heap i a n) (W2:bY l s.heap j c n) (R1:d4 k s.heap a xs) (R2:d4 l s.heap c ys) (hx:xs[n]?=some x) (hy:ys[n]?=some y)
  (hQ:∀h',IsZip h' z U V (rawInt s.heap.objs.size)->KH h' V x y->bY k h' i a (n+1)->bY l h' j c (n+1)->KH h' s.heap.objs.size x y->h'.objs.size=s.heap.objs.size+1 ->
   (∀b o,b≠z->b≠V->b≠i->b≠j->s.heap.get? b=some o->h'.get? b=some o)->Q (.ref s.heap.objs.size) { s with heap:=h' }) :
  wpAny (model P w) A (JW.«zip.__next__» ⟨[.ref z],[]⟩) (λf s'=>∃r,f=.done (.ret r)/\Q r s') E s:=by
 refine b_ (m:=field (.ref z) 2) (IM hz rfl (x:=.bool false) rfl (b_ (m:=field (.ref z) 3) (IM hz rfl (x:=.ref U) rfl (b_ (JO hU rfl ?_)))));refine b_ (m:=Jl (.ref z)) ?_;unfold Jl;refine b_ (IM hz rfl (x:=.none) rfl (f_ ?_));simp only [if_true];refine b_ (L3 (b_ (IM hz rfl (x:=.ref V) rfl (b_ (JP hz (by simp) λg1 z1 b1=>b_ ?_)))))
 replace z1:IsZip g1 z U V .ellipsis:=z1
 simp only [zipIdx_cons,zipIdx_nil,forIn_cons,forIn_nil];have e1:=b1.extBut;refine b_ (b_ (KA (b_ (m:=y_ (.ref i)) (dS (W1.mv λo e=>e1 _ o D.iz e) (R1.mv λo e=>e1 _ o az e) hx λg2 w1 b2=>f_ ?_))));have e2:=b2.extBut;have v2:KH g2 V u v:=e2 _ _ D.Vi (e1 _ _ D.Vz hV);refine b_ (JO v2 rfl (b_ (Lu v2 λg3 v3 b3=>b_ (wpAny_letGo (f_ ?_)))))
 replace v3:KH g3 V x v:=v3
 have e3:=b3.extBut;refine b_ (b_ (KA (b_ (m:=y_ (.ref j)) (dS (W2.mv λo e=>e3 _ o D.Vj.symm (e2 _ o D.ij.symm (e1 _ o D.jz e))) (R2.mv λo e=>e3 _ o cV (e2 _ o ci (e1 _ o cz e))) hy λg4 w2 b4=>f_ ?_))));have e4:=b4.extBut;have v4:KH g4 V x v:=e4 _ _ D.Vj v3;refine b_ (JO v4 rfl (b_ (Lu v4 λg5 v5 b5=>b_ (wpAny_letGo (f_ (f_ ?_))))))
 replace v5:KH g5 V x y:=v5
 have e5:=b5.extBut;refine b_ (JO v5 rfl (b_ (wpAny_newTuple ?_)));have sz:g5.objs.size=s.heap.objs.size:=by rw [b5.1,b4.1,b3.1,b2.1,b1.1]
 have z5:IsZip g5 z U V .ellipsis:=e5 _ _ D.Vz.symm (e4 _ _ D.jz.symm (e3 _ _ D.Vz.symm (e2 _ _ D.iz.symm z1)));have k5:∀b o,b≠z->b≠V->b≠i->b≠j->s.heap.get? b=some o->g5.get? b=some o:=λb o q1 q2 q3 q4 e=>e5 _ _ q2 (e4 _ _ q4 (e3 _ _ q2 (e2 _ _ q3 (e1 _ _ q1 e))));have w15:bY k g5 i a (n+1):=w1.mv λo e=>e5 _ o D.Vi.symm (e4 _ o D.ij (e3 _ o D.Vi.symm e));have w25:bY l g5 j c (n+1):=w2.mv λo e=>e5 _ o D.Vj.symm e
 have zlt:z<g5.objs.size:=m_ z5;refine b_ (m:=Kw (.ref z) (.ref g5.objs.size)) ?_;unfold Kw;have z6:IsZip (g5.push { cls:=.type "tuple",data:=.seq #[x,y] }) z U V .ellipsis:=e_ _ z5;refine b_ (JP z6 (by simp) λg7 z7 b7=>?_)
 replace z7:IsZip g7 z U V (rawInt g5.objs.size):=z7
 refine JP z7 (by simp) λg8 z8 b8=>?_
 replace z8:IsZip g8 z U V (rawInt g5.objs.size):=z8
 have up:∀b o,b≠z->g5.get? b=some o->g8.get? b=some o:=λb o q e=>b8.extBut _ _ q (b7.extBut _ _ q (e_ _ e));have t8:KH g8 g5.objs.size x y:=b8.extBut _ _ (Lp zlt) (b7.extBut _ _ (Lp zlt) (j_ _ rfl));have s8:g8.objs.size=g5.objs.size+1:=by rw [b8.1,b7.1,IT]
 rw [sz] at z8 t8 s8;refine f_ ⟨_,rfl,?_⟩;show Q (.ref g5.objs.size) _;rw [sz];exact hQ g8 z8 (up _ _ D.Vz v5) (w15.mv λo e=>up _ o D.iz e) (w25.mv λo e=>up _ o D.jz e) t8 s8 λb o q1 q2 q3 q4 e=>up b o q1 (k5 b o q1 q2 q3 q4 e)
def D8{Q:Fin->cy->Prop}(hh:A.handled=none)(D:ZA z U V i j)(az:a≠z)(cz:c≠z)(ci:c≠i)(cV:c≠V)(hz:IsZip s.heap z U V .none)(hU:KH s.heap U (.ref i) (.ref j))(hV:KH s.heap V u v)
  (W1:bY k s.heap i a n) (W2:bY l s.heap j c n) (R1:d4 k s.heap a xs) (R2:d4 l s.heap c ys) (hend:xs[n]?=none\/ys[n]?=none)
  (hE:∀h' e,(∀b o,b≠z->b≠V->b≠i->b≠j->s.heap.get? b=some o->h'.get? b=some o)->(∃o,h'.get? e=some o/\o.cls=.type "StopIteration")->E (.ref e) { s with heap:=h' }) :
  wpAny (model P w) A (JW.«zip.__next__» ⟨[.ref z],[]⟩) Q E s:=by
 refine b_ (m:=field (.ref z) 2) (IM hz rfl (x:=.bool false) rfl (b_ (m:=field (.ref z) 3) (IM hz rfl (x:=.ref U) rfl (b_ (JO hU rfl ?_)))));refine b_ (m:=Jl (.ref z)) ?_;unfold Jl;refine b_ (IM hz rfl (x:=.none) rfl (f_ ?_));simp only [if_true];refine b_ (L3 (b_ (IM hz rfl (x:=.ref V) rfl (b_ (JP hz (by simp) λg1 z1 b1=>b_ ?_)))))
 replace z1:IsZip g1 z U V .ellipsis:=z1
 simp only [zipIdx_cons,zipIdx_nil,forIn_cons,forIn_nil];have e1:=b1.extBut
 cases hx:xs[n]? with
 | none =>
  refine b_ (b_ (KA (b_ (m:=y_ (.ref i)) (e7 hh (W1.mv λo e=>e1 _ o D.iz e) (R1.mv λo e=>e1 _ o az e) hx λg2 e b2 he=>?_))));obtain⟨oe,ge,ce⟩:=he;have z2:IsZip g2 z U V .ellipsis:=b2 _ _ D.iz.symm z1;have ez:e≠z:=λq=>by subst q;rw [z2] at ge;cases ge;simp at ce
  exact JP z2 (by simp) λg3 _ b3=>hE g3 e (λb o q1 _ q3 _ q=>b3.extBut _ _ q1 (b2 _ _ q3 (e1 _ _ q1 q))) ⟨oe,b3.extBut _ _ ez ge,ce⟩
 | some x =>
  have hy:ys[n]?=none:=by
   rcases hend with q|q
   .rw [hx] at q;cases q
   .exact q
  refine b_ (b_ (KA (b_ (m:=y_ (.ref i)) (dS (W1.mv λo e=>e1 _ o D.iz e) (R1.mv λo e=>e1 _ o az e) hx λg2 w1 b2=>f_ ?_))));have e2:=b2.extBut;have v2:KH g2 V u v:=e2 _ _ D.Vi (e1 _ _ D.Vz hV);refine b_ (JO v2 rfl (b_ (Lu v2 λg3 v3 b3=>b_ (wpAny_letGo (f_ ?_)))))
  have e3:=b3.extBut;refine b_ (b_ (KA (b_ (m:=y_ (.ref j)) (e7 hh (W2.mv λo e=>e3 _ o D.Vj.symm (e2 _ o D.ij.symm (e1 _ o D.jz e))) (R2.mv λo e=>e3 _ o cV (e2 _ o ci (e1 _ o cz e))) hy λg4 e b4 he=>?_))));obtain⟨oe,ge,ce⟩:=he;have z4:IsZip g4 z U V .ellipsis:=b4 _ _ D.jz.symm (e3 _ _ D.Vz.symm (e2 _ _ D.iz.symm z1));have ez:e≠z:=λq=>by subst q;rw [z4] at ge;cases ge;simp at ce
  exact JP z4 (by simp) λg5 _ b5=>hE g5 e (λb o q1 q2 q3 q4 q=>b5.extBut _ _ q1 (b4 _ _ q4 (e3 _ _ q2 (e2 _ _ q3 (e1 _ _ q1 q))))) ⟨oe,b5.extBut _ _ ez ge,ce⟩
end
noncomputable def Sq(k:Bool)(K:a_)(H:Hp)(a:Addr)(xs:List V):Prop:=cond k (SqT K H a xs) (SqL K H a xs)
section
variable {X:Cx}{pins:List (Addr×Obj)}{σ:St}{H:Hp}{s:cy}{k l:Bool}{a b c:Addr}{xs ys:List V}
def Inv.row(I:Inv X pins σ H s)(h:Sq k X.K H a xs):∃its:List Value,bD xs its/\d4 k s.heap a its.toArray/\xs.length<=sizeLine:=by
 cases k with
 | false=>obtain⟨its,r,p,z⟩:=I.list h;exact⟨its,r,p.isList,z⟩
 | true=>obtain⟨its,r,p,z⟩:=I.tuple h;exact⟨its,r,p,z⟩
def Inv.row_inj(I:Inv X pins σ H s)(h:Sq k X.K H a xs)(h':Sq k X.K H a ys):xs=ys:=by
 cases k with
 | false=>exact I.list_inj h h'
 | true=>exact I.tuple_inj h h'
def wN{u:HO}(r:Rd H a u):∃v,H a=some v:=by
 rcases r with r|⟨o,r⟩ <;> exact⟨_,r⟩
def Inv.row_ne(I:Inv X pins σ H s)(h:Sq k X.K H a xs)(f:rN X pins H b):a≠b:=by
 have kk:∀o,X.K.lookup a=some o->a≠b:=λo e z=>by
  have e1:=I.ok.mod.kin a o e
  rcases f.2.2.2.1 with q|q
  .exact I.ok.noex a o e1 (z ▸ q)
  .exact absurd (tj (m_ (I.ok.bs a o e1).1) (z ▸ q)) (IV _)
 have hh:∀u,H a=some u->a≠b:=λu e z=>by rw [z,f.1] at e;cases e
 cases k with
 | false =>
  rcases h with r|⟨o,its,n,e,_⟩
  .obtain⟨v,e⟩:=wN r;exact hh v e
  .exact kk o e
 | true =>
  rcases h with r|⟨o,its,n,e,_⟩
  .obtain⟨v,e⟩:=wN r;exact hh v e
  .exact kk o e
def Inv.yielded{h':Heap}{T:Addr}{zs:List V}{t':Nat}{ch:List Addr}(I:Inv X pins σ H s)(hf:∀b∈ch,rN X pins H b)(hT:s.heap.objs.size<=T)
  (kp:∀b o,b∉ch->s.heap.get? b=some o->h'.get? b=some o) (new:bn X.prog X.w (upd H T (.tup zs)) h' T (.tup zs)):Inv X pins σ (upd H T (.tup zs)) { s with heap:=h',toks:=t' }:=by
 have hn:H T=none:=I.hok.fresh hT;have nT:∀b u,H b=some u->b≠T:=λb u e z=>by rw [z,hn] at e;cases e
 have oT:∀b o,s.heap.get? b=some o->b≠T:=λb o e z=>absurd (tj (m_ e) (z ▸ hT)) (IV _);have nc:∀b u,H b=some u->b∉ch:=λb u e z=>by rw [(hf b z).1] at e;cases e
 refine I.step (g':=s.gens) (d':=s.drawn) (ch:=ch) (λb hb=>⟨(hf b hb).2.2.2.1,(hf b hb).2.1,(hf b hb).2.2.2.2.1,(hf b hb).2.2.2.2.2⟩) (λb o _ _ hc e _=>kp b o hc e) (λb o _ _ hc e _=>⟨o.slots,kp b o hc e⟩)
  (λb o _ e n=>by rw [au (oT b o e)];exact n) (λb o hc e=>⟨o,kp b o hc e⟩) (λb xs e=>by rw [au (nT b _ e)];exact e) (λb o u e=>by rw [au (nT b _ e)];exact e)
  (λb ps e=>⟨#[],by rw [au (nT b _ e),e];simp⟩) (λm hm=>?_) (λb u e=>?_) I.bare
 .obtain⟨o,es,ep,ho,r⟩:=hm;exact⟨o,es,ep,kp _ o (λz=>(hf _ z).2.1 rfl) ho,r⟩
 .by_cases hb:b=T
  .subst hb;rw [aB] at e;cases e;exact new
  .rw [au hb] at e;refine (I.hok b u e).stay (λc v hc q=>kp c v ?_ q) (λc q=>by rw [au (nT c _ q)];exact q) λc xs q=>by rw [au (nT c _ q)];exact q
   rcases hc with z|z
   .rw [z];exact nc b u e
   .exact nc c _ z
end
noncomputable def Itz(k l:Bool)(K:a_)(a c:Addr):It :=
  ⟨λi H=>∃xs ys x y,Sq k K H a xs/\Sq l K H c ys/\xs[i]?=some x/\ys[i]?=some y,
   λi H p H'=>∃T x y,H T=none/\p=.ref T/\(∀xs,Sq k K H a xs->xs[i]?=some x)/\(∀ys,Sq l K H c ys->ys[i]?=some y)/\H'=upd H T (.tup [x,y]),
   λi H=>∃xs ys,Sq k K H a xs/\Sq l K H c ys/\(xs.length<=i\/ys.length<=i)⟩
def yZ{P:pj}{w:World}{K:a_}{es:List Expr}{ct:Nat}{tp:Pos}{k l:Bool}{a c z U V i j:Addr}(D:ZA z U V i j) :
  Bm P w K (.Tuple es ct tp) (Itz k l K a c) [z,U,V,i,j] z (λn h=>IsZip h z U V .none/\KH h U (.ref i) (.ref j)/\(∃u v,KH h V u v)/\bY k h i a n/\bY l h j c n) where
 mem:=by simp
 obj:=λn h st b hb=>by
  obtain⟨hz,hU,⟨u,v,hV⟩,⟨o1,g1,c1,d1⟩,⟨o2,g2,c2,d2⟩⟩:=st;simp only [mem_cons,not_mem_nil,or_false] at hb
  rcases hb with rfl|rfl|rfl|rfl|rfl
  .exact⟨_,hz,λv q=>by cases q⟩
  .exact⟨_,hU,λv q=>by cases q⟩
  .exact⟨_,hV,λv q=>by cases q⟩
  .exact⟨_,g1,λv q=>by rw [d1] at q;cases q⟩
  .exact⟨_,g2,λv q=>by rw [d2] at q;cases q⟩
 keep:=λn h h' st kk=>by
  obtain⟨hz,hU,⟨u,v,hV⟩,w1,w2⟩:=st;exact⟨kk z (by simp) _ hz,kk U (by simp) _ hU,⟨u,v,kk V (by simp) _ hV⟩,w1.mv λo e=>kk i (by simp) o e,w2.mv λo e=>kk j (by simp) o e⟩
 item:=by
  intro X hP hw hK hc n pins s σ H E I hf st hg;subst hP hw hK;obtain⟨xs,ys,x,y,q1,q2,hx,hy⟩:=hg;obtain⟨hz,hU,⟨u,v,hV⟩,w1,w2⟩:=st;obtain⟨its,rv,p,_⟩:=I.row q1;obtain⟨jts,rv',p',_⟩:=I.row q2;obtain⟨ux,hux,rx⟩:=rv.get hx;obtain⟨uy,huy,ry⟩:=rv'.get hy;have hT:s.TypeIs (.ref z) "zip":=⟨_,hz,rfl⟩
  have nz:=I.row_ne q1 (hf z (by simp));have mz:=I.row_ne q2 (hf z (by simp));have mi:=I.row_ne q2 (hf i (by simp));have mV:=I.row_ne q2 (hf V (by simp));unfold pyNext
  refine b_ (Lj (Ja (name:=Ks "__next__") hT F.slot_zip_next (Jq F.slot_zip_next hT F.entry_zip_next
   (BJ (x:=ux) (y:=uy) D nz mz mi mV hz hU hV w1 w2 p p' (by simpa using hux) (by simpa using huy) λh' a1 a2 a3 a4 a5 a6 a7=>f_ ?_) (F.args_zip_next_1 _))))
  refine⟨_,rfl,wpAny_letOwnedTupleGo_zip a1 λg gz gs=>?_⟩;have lt:∀{b o},s.heap.get? b=some o->s.heap.objs.size≠b:=λe=>Lp (m_ e)
  have kp:∀b o,b∉[z,V,i,j]->s.heap.get? b=some o->g.get? b=some o:=λb o hb e=>by
   simp only [mem_cons,not_mem_nil,or_false,not_or] at hb;exact gs.extBut _ _ hb.1 (a7 b o hb.1 hb.2.1 hb.2.2.1 hb.2.2.2 e)
  have I2:Inv X pins σ (upd H s.heap.objs.size (.tup [x,y])) { s with heap:=g,toks:=s.toks }:=I.yielded (ch:=[z,V,i,j]) (λb hb=>hf b (by
   simp only [mem_cons,not_mem_nil,or_false] at hb ⊢;rcases hb with q|q|q|q <;> simp [q])) (pf _) kp ⟨by show 2<=sizeLine;decide,[ux,uy],.cons rx (.cons ry .nil),_,gs.extBut _ _ (lt hz) a5,rfl,_,rfl⟩
  refine⟨.ref s.heap.objs.size,_,I2,rfl,⟨_,x,y,I.hok.fresh (pf _),rfl,λxs' q=>by rw [I.row_inj q q1];exact hx,λys' q=>by rw [I.row_inj q q2];exact hy,rfl⟩,
   ⟨gz,gs.extBut _ _ D.Uz (a7 _ _ D.Uz D.UV D.Ui D.Uj hU),⟨_,_,gs.extBut _ _ D.Vz a2⟩,a3.mv λo e=>gs.extBut _ o D.iz e,a4.mv λo e=>gs.extBut _ o D.jz e⟩,λb hb=>?_⟩
  rw [au ?_]
  .exact (hf b hb).1
  .intro q;subst q;simp only [mem_cons,not_mem_nil,or_false] at hb;obtain⟨o1,g1,_⟩:=w1;obtain⟨o2,g2,_⟩:=w2
   rcases hb with q|q|q|q|q
   .exact lt hz q
   .exact lt hU q
   .exact lt hV q
   .exact lt g1 q
   .exact lt g2 q
 done:=by
  intro X hP hw hK hc n pins s σ H E I hf st hg;subst hP hw hK;obtain⟨xs,ys,q1,q2,hend⟩:=hg;obtain⟨hz,hU,⟨u,v,hV⟩,w1,w2⟩:=st;obtain⟨its,rv,p,_⟩:=I.row q1;obtain⟨jts,rv',p',_⟩:=I.row q2;have e1:=rv.length;have e2:=rv'.length;have hT:s.TypeIs (.ref z) "zip":=⟨_,hz,rfl⟩
  unfold pyNext
  refine b_ (Lj (Ja (name:=Ks "__next__") hT F.slot_zip_next (Jq F.slot_zip_next hT F.entry_zip_next
   (D8 (I.ok.hd hc) D (I.row_ne q1 (hf z (by simp))) (I.row_ne q2 (hf z (by simp))) (I.row_ne q2 (hf i (by simp))) (I.row_ne q2 (hf V (by simp))) hz hU hV w1 w2 p p' ?_ λh' e hk he=>?_) (F.args_zip_next_1 _))))
  .rcases hend with q|q
   .exact .inl (by simp;omega)
   .exact .inr (by simp;omega)
  .obtain⟨o,ho,hcl⟩:=he;refine b_ (wpAny_isInstance (T:="StopIteration") (b:=true) ⟨o,ho,hcl⟩ isSubtype_stop (f_ ⟨rfl,?_⟩))
   exact I.step (g':=s.gens) (d':=s.drawn) (t':=s.toks) (ch:=[z,V,i,j]) (λb hb=>by
     have q:=hf b (by
      simp only [mem_cons,not_mem_nil,or_false] at hb ⊢;rcases hb with q|q|q|q <;> simp [q])
     exact⟨q.2.2.2.1,q.2.1,q.2.2.2.2.1,q.2.2.2.2.2⟩) (λb o _ _ hc e _=>by
     simp only [mem_cons,not_mem_nil,or_false,not_or] at hc;exact hk b o hc.1 hc.2.1 hc.2.2.1 hc.2.2.2 e) (λb o _ _ hc e _=>⟨o.slots,by
     simp only [mem_cons,not_mem_nil,or_false,not_or] at hc;exact hk b o hc.1 hc.2.1 hc.2.2.1 hc.2.2.2 e⟩) (λ_ _ _ _ q=>q) (λb o hc e=>⟨o,by
     simp only [mem_cons,not_mem_nil,or_false,not_or] at hc;exact hk b o hc.1 hc.2.1 hc.2.2.1 hc.2.2.2 e⟩) (λ_ _ e=>e) (λ_ _ _ e=>e) (λb ps e=>⟨#[],by rw [e];simp⟩) (λm hm=>by
     obtain⟨o,es,ep,ho,r⟩:=hm;exact⟨o,es,ep,hk _ o (hf z (by simp)).2.1.symm (hf V (by simp)).2.1.symm (hf i (by simp)).2.1.symm (hf j (by simp)).2.1.symm ho,r⟩) (λb u e=>by
     have nn:∀b u,H b=some u->b≠z/\b≠V/\b≠i/\b≠j:=λb u e=>⟨λq=>(by rw [q,(hf z (by simp)).1] at e;cases e),λq=>(by rw [q,(hf V (by simp)).1] at e;cases e),λq=>(by rw [q,(hf i (by simp)).1] at e;cases e),λq=>(by rw [q,(hf j (by simp)).1] at e;cases e)⟩
     refine (I.hok b u e).stay (λc v hc q=>?_) (λ_ q=>q) λ_ _ q=>q
     have n4:c≠z/\c≠V/\c≠i/\c≠j:=by
      rcases hc with q|q
      .rw [q];exact nn b u e
      .exact nn c _ q
     exact hk c v n4.1 n4.2.1 n4.2.2.1 n4.2.2.2 q) I.bare
 self:=λ_ _ _ _ _ st h=>wpAny_pyIter_zip st.1 h
def Gc(n:Nat):ZA (n+4) (n+2) (n+3) n (n+1):=by
 refine⟨?_,?_,?_,?_,?_,?_,?_,?_,?_,?_⟩ <;> (intro h;have h2:@Eq Nat _ _:=h;omega)
section
variable {P:pj}{w:World}{A:v_}{E:Value->cy->Prop}{s:cy}{k l:Bool}
abbrev kn(k:Bool)(a:Addr):Obj:={ cls:=.type (cond k "tuple_iterator" "list_iterator"),data:=.fields #[.ref a,.int 0 0] }
def eP{a:Addr}{its:Array Value}{Q:Value->cy->Prop}(R:d4 k s.heap a its)(hQ:Q (.ref s.heap.objs.size) { s with heap:=s.heap.push (kn k a) }):wpAny (model P w) A (pyIter (.ref a)) Q E s:=by
 cases k with
 | false=>exact Km R hQ
 | true=>exact wpAny_pyIter_tuple R hQ
abbrev zg1(h:Heap)(k:Bool)(a:Addr):Heap:=h.push (kn k a)
abbrev zg2(h:Heap)(k l:Bool)(a c:Addr):Heap:=(zg1 h k a).push (kn l c)
abbrev zg3(h:Heap)(k l:Bool)(a c:Addr):Heap:=(zg2 h k l a c).push { cls:=.type "tuple",data:=.seq #[.ref h.objs.size,.ref (zg1 h k a).objs.size] }
abbrev zg4(h:Heap)(k l:Bool)(a c:Addr):Heap:=(zg3 h k l a c).push { cls:=.type "tuple",data:=.seq #[.none,.none] }
abbrev zg5(h:Heap)(k l:Bool)(a c:Addr):Heap:=(zg4 h k l a c).push { cls:=.type "zip",data:=.fields #[.none,.bool false,.bool false,.ref (zg2 h k l a c).objs.size,.ref (zg3 h k l a c).objs.size] }
def BK(k l:Bool)(a c:Addr)(xs ys:Array Value):Meets (JW.«zip.__new__» ⟨[.type "zip",.ref a,.ref c],[]⟩) (λ_ R s=>d4 k s.heap a xs/\d4 l s.heap c ys /\
   R (.ok (.ret (.ref (zg4 s.heap k l a c).objs.size))) { s with heap:=zg5 s.heap k l a c }) :=
 .of_wp λprog w A R s h=>by
  obtain⟨hp,g,d,tk,os⟩:=s;obtain⟨r1,r2,h⟩:=h;have hsub:=sub_zip;have R1:d4 k (Shared.heap ⟨hp,g,d,tk,os⟩) a xs:=r1;have R2:d4 l (Shared.heap ⟨hp.push (kn k a),g,d,tk,os⟩) c ys:=r2.mv λo e=>e_ _ e
  wp_walk using eP R1,eP R2
  exact⟨_,rfl,h⟩
def BL{a c:Addr}{xs ys:Array Value}{Q:Value->cy->Prop}(r1:d4 k s.heap a xs)(r2:d4 l s.heap c ys)
  (h:∀h',IsZip h' (s.heap.objs.size+4) (s.heap.objs.size+2) (s.heap.objs.size+3) .none->KH h' (s.heap.objs.size+2) (.ref s.heap.objs.size) (.ref (s.heap.objs.size+1)) ->
   KH h' (s.heap.objs.size+3) .none .none->bY k h' s.heap.objs.size a 0->bY l h' (s.heap.objs.size+1) c 0->(∀b o,s.heap.get? b=some o->h'.get? b=some o)->Q (.ref (s.heap.objs.size+4)) { s with heap:=h' }) :
  wpAny (model P w) A (call (.type "zip") [.ref a,.ref c]) Q E s:=by
 refine callType_new F.called_zip (by decide) (F.typeCall_zip_2 _ _) (F.newCall_zip_2 _ _) (λobj=>F.args_object_init_3 obj _ _) F.entry_zip_new (BK k l a c xs ys) ⟨r1,r2,?_⟩;have z1:(zg1 s.heap k a).objs.size=s.heap.objs.size+1:=IT ..;have z2:(zg2 s.heap k l a c).objs.size=s.heap.objs.size+2:=by rw [IT,z1]
 have z3:(zg3 s.heap k l a c).objs.size=s.heap.objs.size+3:=by rw [IT,z2]
 have z4:(zg4 s.heap k l a c).objs.size=s.heap.objs.size+4:=by rw [IT,z3]
 have m4:∀b o,(zg4 s.heap k l a c).get? b=some o->(zg5 s.heap k l a c).get? b=some o:=λb o e=>e_ _ e;have m3:∀b o,(zg3 s.heap k l a c).get? b=some o->(zg5 s.heap k l a c).get? b=some o:=λb o e=>m4 b o (e_ _ e);have m2:∀b o,(zg2 s.heap k l a c).get? b=some o->(zg5 s.heap k l a c).get? b=some o:=λb o e=>m3 b o (e_ _ e);have m1:∀b o,(zg1 s.heap k a).get? b=some o->(zg5 s.heap k l a c).get? b=some o:=λb o e=>m2 b o (e_ _ e)
 have g5:(zg5 s.heap k l a c).get? (zg4 s.heap k l a c).objs.size=some _:=j_ _ rfl;have g4:=m4 _ _ (j_ (zg3 s.heap k l a c) (o:={ cls:=.type "tuple",data:=.seq #[.none,.none] }) rfl);have g3:=m3 _ _ (j_ (zg2 s.heap k l a c) (o:={ cls:=.type "tuple",data:=.seq #[.ref s.heap.objs.size,.ref (zg1 s.heap k a).objs.size] }) rfl);have g2:=m2 _ _ (j_ (zg1 s.heap k a) (o:=kn l c) rfl)
 have g1:=m1 _ _ (j_ s.heap (o:=kn k a) rfl);show _/\_;rw [z2,z3,z4] at g5;rw [z1,z2] at g3;rw [z3] at g4;rw [z1] at g2;rw [z4];exact⟨⟨_,g5,rfl⟩,h _ g5 g3 g4 ⟨_,g1,rfl,rfl⟩ ⟨_,g2,rfl,rfl⟩ λb o e=>m1 b o (e_ _ e)⟩
end
noncomputable def stA(a b:List Nat)(i:Nat):Bool:=decide (i+b.length<=a.length/\(a.drop i).take b.length=b)
noncomputable def fnd(a b:List Nat)(lo:Nat):Int:=match (KP lo (a.length+1 - lo)).find? (stA a b) with|some k=>(k:Int)|none=>-1
theorem qB(s sub:Str)(hi:Nat):∀(l:List Nat) (st:Array Nat×Nat),st.fst.size=1->(forIn l st (LB s sub hi 1)).run.fst=st.fst
 | [],_,_=>rfl
 | x::l,st,h=>by
  rw [forIn_cons];unfold LB;rw [if_neg (λz=>by have:=z.1.1.1;omega)];exact qB s sub hi l (st.fst,st.snd) h
theorem qC(s sub:Str)(hi:Nat)(p:Nat->Bool)(hp:∀i,p i=true ↔ (i+sub.length<=hi/\K4 s sub i=true)):∀(l:List Nat) (free:Nat),(∀i∈l,free<=i) ->
  (forIn l ((#[]:Array Nat),free) (LB s sub hi 1)).run.fst=(match l.find? p with|some k=>#[k]|none=>#[])
 | [],_,_=>rfl
 | x::l,free,hf=>by
  rw [forIn_cons,find?_cons];unfold LB;have hx:free<=x:=hf x (mem_cons_self ..)
  cases c:p x with
  | true =>
   have hc:=(hp x).mp c;rw [if_pos ⟨⟨⟨by simp,hx⟩,hc.1⟩,hc.2⟩];exact qB s sub hi l (#[x],x+sub.length) rfl
  | false =>
   rw [if_neg (λz=>by
    have:=(hp x).mpr ⟨z.1.2,z.2⟩;rw [c] at this;cases this)]
   exact qC s sub hi p hp l free λi h=>hf i (q_ _ h)
def BM(a b:List Nat)(i:Nat):K4 (S a) (S b) i=decide ((a.drop i).take b.length=b):=by
 unfold K4;rw [eO]
 have e1:((S a).cps.extract i (i+b.length))=((a.drop i).take b.length).toArray:=by
  show a.toArray.extract _ _=_;rw [extract_toArray,extract_eq_take_drop];congr 2;omega
 rw [e1];show (((a.drop i).take b.length).toArray == b.toArray)=_
 by_cases h:(a.drop i).take b.length=b
 .rw [decide_eq_true h,h];simp
 .rw [decide_eq_false h,beq_eq_false_iff_ne];intro z;exact h (by simpa using congrArg Mx z)
theorem rW(a b:List Nat)(lo:Nat):(match KQ (S a) (S b) lo (S a).length 1 with|k::_=>(k:Int)|[]=>-1)=fnd a b lo:=by
 rw [StrLaws.occ_eq,eO,qC (S a) (S b) a.length (stA a b) (λi=>?_) _ lo (λi hi=>(LP.mp hi).1)]
 .unfold fnd;cases (KP lo (a.length+1 - lo)).find? (stA a b) <;> rfl
 .unfold stA;rw [BM,eO];simp
section
variable {X:Cx}
def y0:MtR X "str.find" (λx xs H Q=>∃a b,x=.str (S a)/\xs=[.str (S b)]/\Q (.int (fnd a b 0)) H):=by
 intro pins s σ H x xs v us Q I rx rs h;obtain⟨a,b,rfl,rfl,q⟩:=h;obtain⟨t,rfl⟩:=rx;obtain⟨u,rfl,t',rfl⟩:=iC rs;have e:Txt.find (S a) (S b)=fnd a b 0:=rW a b 0;exact SC.find ⟨.int _,H,I.tok _,⟨_,rfl⟩,by rw [e];exact q⟩
def y6:MtR X "str.find" (λx xs H Q=>∃a b i,x=.str (S a)/\xs=[.str (S b),.int i]/\0<=i/\Q (.int (fnd a b i.toNat)) H):=by
 intro pins s σ H x xs v us Q I rx rs h;obtain⟨a,b,i,rfl,rfl,h0,q⟩:=h;obtain⟨t,rfl⟩:=rx
 cases rs with
 | cons r rr =>
  cases rr with
  | cons r' rr =>
   cases rr;obtain⟨t1,rfl⟩:=r;obtain⟨t2,rfl⟩:=r'
   have e:Txt.find3 (S a) (S b) i=fnd a b i.toNat:=by
    unfold Txt.find3
    have e2:fromIndex (S a).length i=i.toNat:=by
     unfold fromIndex;rw [if_neg (by omega)];omega
    rw [e2];exact rW a b i.toNat
   exact SC.find3 ⟨.int _,H,I.tok _,⟨_,rfl⟩,by rw [e];exact q⟩
end
def kA{a b:List Nat}{lo:Nat}(h:fnd a b lo≠-1):∃k:Nat,fnd a b lo=(k:Int)/\lo<=k/\stA a b k=true/\∀j,lo<=j->j<k->stA a b j=false:=by
 unfold fnd at h ⊢
 cases e:(KP lo (a.length+1 - lo)).find? (stA a b) with
 | none=>rw [e] at h;exact absurd rfl h
 | some k =>
  obtain⟨h1,h2⟩:=find?_eq_some_iff_append.mp e;obtain⟨as,bs,hl,hn⟩:=h2;have hk:k∈KP lo (a.length+1 - lo):=by rw [hl];simp
  refine⟨k,rfl,(LP.mp hk).1,h1,λj hj1 hj2=>?_⟩;have hj:j∈KP lo (a.length+1 - lo):=LP.mpr ⟨hj1,by have:=(LP.mp hk).2;omega⟩;have hs:(KP lo (a.length+1 - lo)).Pairwise (·<·):=List.pairwise_lt_range';rw [hl] at hj hs
  rcases JG.mp hj with z|z
  .have:=hn j z;simpa using this
  .rcases mem_cons.mp z with z|z
   .omega
   .have:=(Mi.mp (LD.mp hs).2.1).1 j z;omega
def uh{a b:List Nat}{lo:Nat}(h:fnd a b lo=-1):∀j,lo<=j->stA a b j=false:=by
 unfold fnd at h
 cases e:(KP lo (a.length+1 - lo)).find? (stA a b) with
 | some k=>rw [e] at h;simp only at h;omega
 | none =>
  intro j hj
  by_cases hlt:j<a.length+1
  .have:=find?_eq_none.mp e j (LP.mpr ⟨hj,by omega⟩);simpa using this
  .unfold stA;rw [decide_eq_false (λz=>by have:=z.1;omega)]
section
variable {X:Cx}{tg:Expr}
noncomputable def Itk(k:Bool)(K:a_)(a:Addr):It:=cond k (Itt K a) (Itl K a)
noncomputable def D9(K:a_):R2:=λx y H Q=>∃l b xs zs,x=.ref l/\y=.ref b/\SqL K H l xs/\SqL K H b zs/\xs.length+zs.length<=sizeLine/\∀p,H p=none->Q (.ref p) (upd H p (.lst (xs++zs)))
def BN:OpR X (binaryOp .Add) (D9 X.K):=by
 intro pins s σ H x y v u Q I rx ry h;obtain⟨l,b,xs,zs,rfl,rfl,hH,hB,hz,q⟩:=h;cases rx;cases ry;obtain⟨its,r,pl,hl⟩:=I.list hH;obtain⟨its2,r2,pl2,hl2⟩:=I.list hB;obtain⟨⟨cls,dd,data,sl⟩,ho,hc,n,hd⟩:=pl.isList;obtain⟨⟨cls2,dd2,data2,sl2⟩,ho2,hc2,n2,hd2⟩:=pl2.isList;simp only at hc hd hc2 hd2;subst hc hd hc2 hd2;have n1:=r.length;have n2':=r2.length;have ea:its.toArray++its2.toArray=(its++its2).toArray:=by simp
 have fin:EP X pins σ Q (.ref s.heap.objs.size) { s with heap:=s.heap.push { cls:=.type "list",data:=.seq (its.toArray++its2.toArray) } }:=by
  rw [ea];exact⟨.ref _,_,I.lnew (t':=s.toks) (r.append r2) (by rw [length_append];omega),rfl,q _ I.fresh⟩
 exact MC ⟨_,ho,rfl⟩ ⟨_,ho2,rfl⟩ noFill_list_add seq_list_add PySem.F.slot_list_add PySem.F.entry_list_add (PySem.F.args_list_add_2 _ _) (list_addW l b its.toArray its2.toArray n n2 dd dd2 sl sl2 (by simp;omega)) ⟨ho,ho2,fin⟩
end
def tx(l:List Nat):V:=.str (S l)
noncomputable def mn(n:Nat)(d:KF):Prop:=d.canLay0=true/\d.depth<=n
def mn.shaped{n:Nat}{d:KF}(h:mn n d)(hn:n<=64):JJ d=true:=by
 unfold JJ;rw [h.1,decide_eq_true (IG h.2 hn)];rfl
theorem rX{n:Nat}:∀{ds:List KF},(∀d∈ds,mn n d)->PyData.canLayAll0 ds=true/\PyData.depthAll ds<=n
 | [],_=>⟨rfl,IE _⟩
 | d::ds,h=>by
  obtain⟨a,b⟩:=rX (ds:=ds) λx hx=>h x (q_ _ hx);obtain⟨c,e⟩:=h d mem_cons_self;simp only [PyData.canLayAll0,PyData.depthAll,a,c];exact⟨rfl,max_le.mpr ⟨e,b⟩⟩
def mn.list{n:Nat}{ds:List KF}(h:∀d∈ds,mn n d):mn (n+1) (.list ds):=by
 obtain⟨a,b⟩:=rX h;exact⟨by simp only [Ko];exact a,by simp only [K6];omega⟩
def mn.tuple{n:Nat}{ds:List KF}(h:∀d∈ds,mn n d):mn (n+1) (.tuple ds):=by
 obtain⟨a,b⟩:=rX h;exact⟨by simp only [Ko];exact a,by simp only [K6];omega⟩
def mn.int(i:Int):mn 0 (.int i):=⟨by simp [Ko],by simp [K6]⟩
noncomputable def Lts(l:List Nat):Prop:=∀c∈l,97<=c/\c<=122
def Lts.nil:Lts []:=λc h=>nomatch h
def Lts.app{a b:List Nat}(x:Lts a)(y:Lts b):Lts (a++b):=λc h=>(JG.mp h).elim (x c) (y c)
def Lts.one{c:Nat}(h:97<=c/\c<=122):Lts [c]:=λd hd=>by
 have:d=c:=by simpa using hd
 subst this;exact h
def Lts.take{a:List Nat}(x:Lts a)(n:Nat):Lts (a.take n):=λc h=>x c (LF h)
def Lts.drop{a:List Nat}(x:Lts a)(n:Nat):Lts (a.drop n):=λc h=>x c (mem_of_mem_drop h)
def Lts.rep{a:List Nat}(x:Lts a)(n:Int):Lts (nW a n):=λc h=>by
 unfold nW at h;obtain⟨l,h1,h2⟩:=mem_flatten.mp h;rw [eq_of_mem_replicate h1] at h2;exact x c h2
def qD(ns:List Int):∀d∈ns.map MF,mn 0 d:=λd hd=>by
 obtain⟨i,_,rfl⟩:=Ju.mp hd;exact mn.int i
def y8{d:KF}(h:JJ d=true):Ld d d=true:=SeqAt.eqv_refl d (SeqAt.canLay_of_shaped h)
theorem k6(p:Nat->Prop)(h0:p 0):∀n,0<n->∃k,k<n/\p k/\∀j,j<n->p j->j<=k
 | 0,h=>absurd h (by decide)
 | 1,_=>⟨0,by decide,h0,λj hj _=>by omega⟩
 | n+2,_=>by
  obtain⟨k,h1,h2,h3⟩:=k6 p h0 (n+1) (by omega)
  by_cases c:p (n+1)
  .exact⟨n+1,by omega,c,λj hj _=>by omega⟩
  .refine⟨k,by omega,h2,λj hj hp=>?_⟩
   by_cases e:j=n+1
   .subst e;exact absurd hp c
   .exact h3 j (by omega) hp
section
variable {κ:Type} [DecidableEq κ]
def KV.length{kvs:List (κ×V)}{vs:List (κ×Value)}(r:KV kvs vs):kvs.length=vs.length:=Paired.length r
end
section
variable {P:pj}{w:World}{H:Hp}{h:Heap}{a:Addr}
def Gd{u:HO}(ok:HOk P w H h)(e:Rd H a u):bn P w H h a u:=e.ok ok
def Ge{kvs:List (Key×V)}(ok:HOk P w H h)(e:Rd H a (.dK kvs)):kvs.length<=sizeLine/\(a == sysModules)=false/\∃vs,KV kvs vs/\h.DictOf (rM P w) a vs :=
 show bn P w H h a (.dK kvs) from Gd ok e
end
section
variable {X:Cx}{pins:List (Addr×Obj)}{σ:St}{H:Hp}{s:cy}{a:Addr}{y v:V}{u r:Value}{o:Option V}{A:v_}{E:Value->cy->Prop}
def Inv.big(I:Inv X pins σ H s):sysModules<s.heap.objs.size:=by
 have h:mainGlobals<s.heap.objs.size:=(I.mod.glob.keeps I.bk).lt;exact lt_trans (by decide) h
end
section
variable {X:Cx}{pins:List (Addr×Obj)}{σ:St}{H:Hp}{s:cy}{a:Addr}{kvs:List (Key×V)}{k:Key}{u:Value}{A:v_}{E:Value->cy->Prop}
def Gf{Q:Value->cy->Prop}(I:Inv X pins σ H s)(e:Rd H a (.dK kvs))(h:∀t s',Inv X pins σ H s'->Q (.int kvs.length t) s'):wpAny (model X.prog X.w) A (call (.builtin "len") [.ref a]) Q E s:=by
 obtain⟨z,hd,vs,rel,dd⟩:=Ge I.hok e;refine call_len_dict hd dd (by rw [<- rel.length];rw [JB] at z;omega) ?_;rw [<- rel.length];exact h _ _ (I.tok _)
end
def y9{P:pj}{w:World}{H:Hp}(h:Heap)(hb:sysModules<h.objs.size):bn P w H (h.push { cls:=.type "dict",data:=.dict #[] }) h.objs.size (.dK []) :=
 ⟨IE _,beq_eq_false_iff_ne.mpr (J7 (A_ hb)),[],.nil,Heap.DictOf.new h⟩
noncomputable def Ad:TE:=λ_ H Q=>∀p,H p=none->Q (.ref p) (upd H p (.dK []))
section
variable {X:Cx}{pos:Pos}
def za:PE X (.Dict [] [] pos) Ad:=λpins s σ H Q I h =>
 wpAny_Dict_empty ⟨.ref s.heap.objs.size,_,I.laid (a:=s.heap.objs.size) (o:=.dK []) (t':=s.toks) (λ_ _ q=>e_ _ q) (pf _) (y9 s.heap I.big),rfl,h _ (I.hok.fresh (pf _))⟩
end
section
variable {X:Cx}
def kB{x:Str}{i:Int}{pos:Pos}(hg:Gl X x)(h:∃t,X.mg x=some (.int i t))(hd:(x == ("__debug__":Str))=false:=by decide):PE X (.Name x pos) (tC (.int i)):=by
 obtain⟨t,e⟩:=h;exact Bi (u:=.int i t) hg e ⟨t,rfl⟩ hd
end
structure Ea (P:pj) (w:World) (K:a_) (mg:Str->Option Value) (base:Heap) (k:Nat) (x:Str) (ps:List Str) (dvs:List V) (sp:Sp):Prop where
 ex:∃(f:Addr) (fd:Jp),nP P w K mg base CX0 k f fd ps sp/\(∀n,n<=dvs.length->∃ds,bD (dvs.drop n) ds/\km K fd ps ds)/\z_ K (.ref f)=true/\mg x=some (.ref f)
structure ui (K:a_) (mg:Str->Option Value) (x:Str) (st:Stmt) (dvs:List V):Prop where
 ex:∃(f dT:Addr) (oc:Value) (od an dd:Option Addr) (kV doc pm cdv ct:Value) (osl sl:Array (Option Value)) (items:List Value) (n:Nat),
  K.lookup f=some ⟨oc,od,.func (F_ x x (bK st) (aX st) (aj st) (.ref dT) kV doc pm an cdv ct),osl⟩/\Jk K cdv x=true/\z_ K (.ref f)=true/\mg x=some (.ref f) /\
  K.lookup dT=some ⟨.type "tuple",dd,.seq items.toArray n,sl⟩/\bD dvs items
section
variable {P:pj}{w:World}{K:a_}{mg:Str->Option Value}{base:Heap}{x:Str}{st:Stmt}{N ps:List Str}{k:Nat}{sp:Sp}{dvs:List V}
def ui.ok(D:ui K mg x st dvs)(S:aA N ps (aj st))
  (hb:∀(dT:Addr) (kV doc pm:Value) (an:Option Addr) (cdv ct:Value) (items:List Value) (us:List Value) (n:Nat),items.length=dvs.length->n<=dvs.length->(us++items.drop n).length=ps.length ->
   ∃k,bindArgs (F_ x x (bK st) (aX st) (aj st) (.ref dT) kV doc pm an cdv ct) ⟨us,[]⟩=seqItems? (.ref dT) >>= k/\k (some items.toArray)=pure (ps.zip (us++items.drop n)))
  (len:∀vs H Q E,sp vs H Q E->vs.length=ps.length)
  (hbody:∀(f:Addr) (cdv:Value) (A:v_) (outer:List Env) (s:cy) (H:Hp) (vs:List V) (Q:VK) (E:XK),dO k (A.deeper (envOfC x (aj st) s.heap.objs.size f cdv))->sp vs H Q E ->
   ∃t,PSs (mZ CX0 P w K mg base N x (aj st) f cdv A outer s H E).nox (aX st) t/\t { nx:=λ_ H'=>Q .non H',rt:=Q } (start N vs) H):Ea P w K mg base (k+1) x ps dvs sp:=by
 obtain⟨f,dT,oc,od,an,dd,kV,doc,pm,cdv,ct,osl,sl,items,n,lk,hcd,kp,hm,lt,rv⟩:=D.ex;have hl:=rv.length
 refine⟨f,_,Bv lk hcd S len λA outer s H vs Q E hr hsp=>?_,λj hj=>⟨items.drop j,rv.drop j,λs us X hlen=>?_⟩,kp,hm⟩
 .obtain⟨t,h,q⟩:=hbody f cdv A outer s H vs Q E hr hsp;exact⟨t,h.nox,q⟩
 .obtain⟨k,h1,h2⟩:=hb dT kV doc pm an cdv ct items us j hl.symm hj hlen;exact BindsTo.of_defaults rfl (X dT _ lt) rfl h1 h2
end
section
variable {X:Cx}{k:Nat}{x:Str}{ps:List Str}{sp:Sp}{p pos:Pos}{e:Expr}{es:List Expr}{t:TA}{dvs:List V}
def BO(j:Nat)(C:Ea X.prog X.w X.K X.mg X.base k x ps dvs sp)(hr:dO k X.A)(hj:j<=dvs.length)(ha:PA X (e::es) t)(hg:Gl X x:=by rfl)(hdb:(x == ("__debug__":Str))=false:=by decide)(he:starEach (e::es) X.env=(false,eval e X.env)::starEach es X.env:=by rfl)
  (hpl:(backTo pos (starEach es X.env)).any (·.1)=false:=by rfl):PE X (.Call (.Name x p) (e::es) [] pos) (eM sp (dvs.drop j) E0 t):=by
 obtain⟨f,fd,F,hb,hk,hm⟩:=C.ex;obtain⟨ds,rv,hb⟩:=hb j hj;exact wt F hr hg hm hk hb rv BE ha hdb he hpl
def Eb{pins:List (Addr×Obj)}{σ:St}{H:Hp}{s:cy}{x:V}{u t:Value}(I:Inv X pins σ H s)(rx:cv x u)(ty:p9 X.K H x t) :
  ∃Hq:Heap->Prop,PySem.W.KitX X.K u t Hq/\Hq s.heap/\u≠.builtin "__main__.__loader__#opaque":=by
 cases ty with
 | non=>cases (show u=IJ from rx);exact⟨_,PySem.W.kitx_none,JH,λz=>nomatch z⟩
 | bl y=>cases (show u=JM y from rx);exact⟨_,PySem.W.kitx_bool,JH,λz=>nomatch z⟩
 | int i=>obtain⟨t,q⟩:=(show ∃t,u=La i t from rx);cases q;exact⟨_,PySem.W.kitx_int,JH,λz=>nomatch z⟩
 | str y=>obtain⟨t,q⟩:=(show ∃t,u=Kr y t from rx);cases q;exact⟨_,PySem.W.kitx_str,JH,λz=>nomatch z⟩
 | flt y=>obtain⟨t,q⟩:=(show ∃t,u=L_ y t from rx);cases q;exact⟨_,PySem.W.kitx_float,JH,λz=>nomatch z⟩
 | @lst a xs ea =>
  cases (show u=gV a from rx);obtain⟨_,_,n,_,h1⟩:=(show bn X.prog X.w H s.heap a (.lst xs) from I.hok a _ ea)
  exact⟨_,KW,⟨_,h1,rfl⟩,λz=>nomatch z⟩
 | @frz a ob xs ea =>
  cases (show u=gV a from rx);obtain⟨_,_,_,n,_,h1⟩:=(show bn X.prog X.w H s.heap a (.frz ob (.lst xs)) from I.hok a _ ea)
  exact⟨_,KW,⟨_,h1,rfl⟩,λz=>nomatch z⟩
 | @tup a xs ea =>
  cases (show u=gV a from rx);obtain⟨_,_,_,p⟩:=(show bn X.prog X.w H s.heap a (.tup xs) from I.hok a _ ea)
  obtain⟨o,h1,h2,_⟩:=p;exact⟨_,PySem.W.kitx_tuple,⟨o,h1,h2⟩,λz=>nomatch z⟩
 | @dK a kvs ea =>
  cases (show u=gV a from rx);obtain⟨_,_,vs,_,p⟩:=(show bn X.prog X.w H s.heap a (.dK kvs) from I.hok a _ ea)
  obtain⟨o,es,ep,h1,h2,_⟩:=p;exact⟨_,KY,⟨o,h1,h2.1⟩,λz=>nomatch z⟩
 | @dT a kvs ea =>
  cases (show u=gV a from rx);obtain⟨_,_,xs,_,o,es,ep,h1,h2,_⟩:=(show bn X.prog X.w H s.heap a (.dT kvs) from I.hok a _ ea)
  exact⟨_,KY,⟨o,h1,h2.1⟩,λz=>nomatch z⟩
 | @ins a C dx fs ea cl ha hn htk hm =>
  cases (show u=gV a from rx);obtain⟨mA,O,_⟩:=nO I.hok ea;obtain⟨od,J,_⟩:=O.look;exact⟨_,PySem.W.kitx_own (cl.get _) cl.hd ha hn htk hm,J,λz=>nomatch z⟩
theorem uj:∀{ts:List String}{us:List Value},bD (ts.map V.ty) us->us=ts.map Jx
 | [],_,.nil=>rfl
 | t::ts,_,.cons r rr=>by rw [uj rr,show _=Jx t from r];rfl
def qE:bo X (.builtin "isinstance") (λxs H Q=>∃(x:V) (p:Addr) (ts:List String) (t:Value) (b:Bool),xs=[x,.ref p]/\p9 X.K H x t/\H p=some (.tup (ts.map V.ty))/\JQ X.K t (ts.map Jx)=some b/\Q (.bl b) H):=by
 intro pins s σ H xs us Q I r h;obtain⟨x,p,ts,t,b,rfl,ty,hp,e,q⟩:=h;obtain⟨u,w',rfl,rx,ry⟩:=rO r;cases (show w'=gV p from ry);obtain⟨Hq,Z,hq,hx⟩:=Eb I rx ty;obtain⟨its,rv,⟨⟨cls,dd,data,sl⟩,ho,hc,n,hd⟩,_⟩:=I.tuple (SqT.of hp);simp only at hc hd;subst hc hd;exact PySem.W.kia_tup Z I.kIn hq ho (by rw [uj rv];exact e) hx λtk=>⟨.bl b,H,I.tok _,rfl,q⟩
def n6(bs:List Bool):(g_ bs.length).all (λi=>bs.getD i false)=bs.all id:=by
 induction bs with
 | nil=>rfl
 | cons b bs ih=>rw [length_cons,range_succ_eq_map,all_cons,all_map,all_cons,<- ih];rfl
def n8(bs:List Bool):(g_ bs.length).any (λi=>bs.getD i false)=bs.any id:=by
 induction bs with
 | nil=>rfl
 | cons b bs ih=>rw [length_cons,range_succ_eq_map,any_cons,any_map,any_cons,<- ih];rfl
def wO{bs:List Bool}{its:List Value}(r:bD (bs.map V.bl) its){i:Nat}{v:Value}(h:its.toArray[i]?=some v):v=.bool (bs.getD i false):=by
 have h':its[i]?=some v:=by simpa using h
 have hl:=r.length;rw [length_map] at hl;have hi:i<bs.length:=by have:=(i_.mp h').1;omega
 obtain⟨u,e1,e2⟩:=r.get (i:=i) (x:=V.bl bs[i]) (by rw [k_,c_ hi];rfl);rw [h'] at e1;cases e1;rw [show v=JM bs[i] from e2,d_,c_ hi];rfl
def zb(hc:X.calm=true):bo X (.builtin "all") (λxs H Q=>∃(p:Addr) (bs:List Bool),xs=[.ref p]/\SqL X.K H p (bs.map V.bl)/\Q (.bl (bs.all id)) H):=by
 intro pins s σ H xs us Q I r h;obtain⟨p,bs,rfl,hS,q⟩:=h;obtain⟨u,rfl,ru⟩:=iC r;cases (show u=gV p from ru);obtain⟨its,rv,pl,hz⟩:=I.list hS;have hl:=rv.length;rw [length_map] at hl;have hps:p<s.heap.objs.size:=let ⟨o,ho,_⟩:=pl.isList;m_ ho
 obtain⟨f0,f1,f2,f3,f4,f5⟩:=I.fpOk (H':=H) (pf s.heap.objs.size) (I.hok.fresh (pf _))
 refine call_all_walk (Km pl.isList ⟨s.heap.objs.size,_,_,its.toArray.size,_,_,λi=>bs.getD i false,rfl,Walks.list (by exact I.ok.hd hc) s.heap.objs.size p (A_ hps) its.toArray,⟨⟨_,j_ _ rfl,rfl,rfl⟩,pl.isList.push _⟩,λi v s Q E hP hQ=>?_,λh' tk hk=>?_⟩)
 .rw [wO rv hP];exact Jg hQ
 .have I1:Inv X pins σ H { s with heap:=s.heap.push { cls:=.type "list_iterator",data:=.fields #[.ref p,.int 0 0] } }:=I.kept (t':=s.toks) λb o e=>e_ _ e;have I2:=I1.turned (h':=h') (t':=tk) (it:=s.heap.objs.size) (λb o hb e=>hk b o (by simpa using hb) e) f0 f1 f3 f4 f5;refine⟨.bl (bs.all id),H,I2,?_,q⟩;show JM _=JM _;rw [size_toArray,<- hl,n6]
def zc(hc:X.calm=true):bo X (.builtin "any") (λxs H Q=>∃(p:Addr) (bs:List Bool),xs=[.ref p]/\SqL X.K H p (bs.map V.bl)/\Q (.bl (bs.any id)) H):=by
 intro pins s σ H xs us Q I r h;obtain⟨p,bs,rfl,hS,q⟩:=h;obtain⟨u,rfl,ru⟩:=iC r;cases (show u=gV p from ru);obtain⟨its,rv,pl,hz⟩:=I.list hS;have hl:=rv.length;rw [length_map] at hl;have hps:p<s.heap.objs.size:=let ⟨o,ho,_⟩:=pl.isList;m_ ho
 obtain⟨f0,f1,f2,f3,f4,f5⟩:=I.fpOk (H':=H) (pf s.heap.objs.size) (I.hok.fresh (pf _))
 refine call_any_walk (Km pl.isList ⟨s.heap.objs.size,_,_,its.toArray.size,_,_,λi=>bs.getD i false,rfl,Walks.list (by exact I.ok.hd hc) s.heap.objs.size p (A_ hps) its.toArray,⟨⟨_,j_ _ rfl,rfl,rfl⟩,pl.isList.push _⟩,λi v s Q E hP hQ=>?_,λh' tk hk=>?_⟩)
 .rw [wO rv hP];exact Jg hQ
 .have I1:Inv X pins σ H { s with heap:=s.heap.push { cls:=.type "list_iterator",data:=.fields #[.ref p,.int 0 0] } }:=I.kept (t':=s.toks) λb o e=>e_ _ e;have I2:=I1.turned (h':=h') (t':=tk) (it:=s.heap.objs.size) (λb o hb e=>hk b o (by simpa using hb) e) f0 f1 f3 f4 f5;refine⟨.bl (bs.any id),H,I2,?_,q⟩;show JM _=JM _;rw [size_toArray,<- hl,n8]
end
section
variable {X:Cx}{o e f:Expr}{apos cpos:Pos}{td ty tx:TE}
def wP:bo X (.builtin "len") (λxs H Q=>∃p kvs,xs=[.ref p]/\Rd H p (.dK kvs)/\Q (.int kvs.length) H):=by
 intro pins s σ H xs us Q I r h;obtain⟨p,kvs,rfl,hd,q⟩:=h;obtain⟨u,rfl,ru⟩:=iC r;cases (show u=gV p from ru);exact Gf I hd λt s' I'=>⟨.int kvs.length,H,I',⟨t,rfl⟩,q⟩
end
noncomputable def aK(K:a_)(x:Str):Addr:=match tf K mainGlobals x with
 | some (some (.ref C))=>C
 | _=>0
def gW{K:a_}{x:Str}{C:Addr}(h:tf K mainGlobals x=some (some (.ref C))):aK K x=C:=by unfold aK;rw [h]
structure Ed (P:pj) (w:World) (K:a_) (mg:Str->Option Value) (base:Heap) (k:Nat) (C:Addr) (x:Str) (ps:List Str) (sp:Sp):Prop where
 ex:∃(f:Addr) (fd:Jp),nP P w K mg base CX0 k f fd ps sp/\km K fd ps []/\Mk K C f/\mg x=some (.ref C)
structure uk (K:a_) (mg:Str->Option Value) (C:Addr) (x qual:Str) (st:Stmt):Prop where
 ex:∃(f:Addr) (fd:Jp),Fun K "__init__" qual st f fd/\Mk K C f/\mg x=some (.ref C)
section
variable {P:pj}{w:World}{K:a_}{mg:Str->Option Value}{base:Heap}{x m qual:Str}{C:Addr}{st:Stmt}{N ps:List Str}{k:Nat}{sp:Sp}
def uk.ok(D:uk K mg C x qual st)(S:aA N ps (aj st))
  (hb:∀(kV doc pm:Value) (an:Option Addr) (cdv ct:Value) (us:List Value),us.length=ps.length->bindArgs (F_ "__init__" qual (bK st) (aX st) (aj st) .none kV doc pm an cdv ct) ⟨us,[]⟩=pure (ps.zip us))
  (len:∀vs H Q E,sp vs H Q E->vs.length=ps.length)
  (hbody:∀(f:Addr) (cdv:Value) (A:v_) (outer:List Env) (s:cy) (H:Hp) (vs:List V) (Q:VK) (E:XK),dO k (A.deeper (envOfC qual (aj st) s.heap.objs.size f cdv))->sp vs H Q E ->
   ∃t,PSs (mZ CX0 P w K mg base N qual (aj st) f cdv A outer s H E).nox (aX st) t/\t { nx:=λ_ H'=>Q .non H',rt:=Q } (start N vs) H):Ed P w K mg base (k+1) C x ps sp:=by
 obtain⟨f,fd,F,hm,e⟩:=D.ex;exact⟨f,fd,F.ok S len λcdv A outer s H vs Q E hr h=>hbody f cdv A outer s H vs Q E hr h,F.binds hb,hm,e⟩
end
section
variable {X:Cx}{k:Nat}{x m:Str}{C:Addr}{ps:List Str}{sp:Sp}{p pos apos:Pos}{o e:Expr}{es:List Expr}{ta:TE}{t:TA}
def BP(M:Ed X.prog X.w X.K X.mg X.base k C x ps sp)(hr:dO (k+1) X.A)(ha:PA X (e::es) t)(hg:Gl X x:=by rfl)(hdb:(x == ("__debug__":Str))=false:=by decide)(he:starEach (e::es) X.env=(false,eval e X.env)::starEach es X.env:=by rfl)
  (hpl:(backTo pos (starEach es X.env)).any (·.1)=false:=by rfl):PE X (.Call (.Name x p) (e::es) [] pos) (yP C sp [] E0 t):=by
 obtain⟨f,fd,F,hb,hk,hm⟩:=M.ex;exact Bu hk F hr hg hm hb .nil BE ha hdb he hpl
end
def wQ{prog:pj}{w:World}{A:v_}(k:Bool)(hh:A.handled=none)(it a:Addr)(hne:a≠it)(its:Array Value) :
  Draws prog w A it [it,a] its.size (λi v=>its[i]?=some v) (λi h=>bY k h it a i/\d4 k h a its) where
 live:=λ_ _ st=>let ⟨o,ho,_⟩:=st.1;⟨o,ho⟩
 frame:=λ_ _ _ st hk=>⟨st.1.mv λo e=>hk it (by simp) o e,st.2.mv λo e=>hk a (by simp) o e⟩
 item:=λi s Q E hi st hQ=>by
  refine dS st.1 st.2 (x:=its[i]) (by simp [hi]) λh' hit' hs'=>?_;exact hQ _ h' s.toks (by simp [hi]) ⟨hit',st.2.mv λo e=>hs'.extBut _ o hne e⟩ hs'
 done:=λs Q E st hE=>e7 hh st.1 st.2 (by simp) hE
noncomputable def Ite(k:Bool)(K:a_)(a:Addr):It :=
  ⟨λi H=>∃xs x,Sq k K H a xs/\xs[i]?=some x,
   λi H p H'=>∃T x,H T=none/\p=.ref T/\(∀xs,Sq k K H a xs->xs[i]?=some x)/\H'=upd H T (.tup [.int (i:Int),x]),
   λi H=>∃xs,Sq k K H a xs/\xs.length<=i⟩
def wR{P:pj}{w:World}{K:a_}{es:List Expr}{ct:Nat}{tp:Pos}{k:Bool}{a e it:Addr}(hei:e≠it) :
  Bm P w K (.Tuple es ct tp) (Ite k K a) [e,it] e (λn h=>(∃old,IsEnum h e it ((n:Nat):Int) old)/\bY k h it a n) where
 mem:=by simp
 obj:=λn h st b hb=>by
  obtain⟨⟨old,he⟩,o1,g1,c1,d1⟩:=st;simp only [mem_cons,not_mem_nil,or_false] at hb
  rcases hb with rfl|rfl
  .exact⟨_,he,λv q=>by cases q⟩
  .exact⟨_,g1,λv q=>by rw [d1] at q;cases q⟩
 keep:=λn h h' st kk=>by
  obtain⟨⟨old,he⟩,w1⟩:=st;exact⟨⟨old,kk e (by simp) _ he⟩,w1.mv λo q=>kk it (by simp) o q⟩
 item:=by
  intro X hP hw hK hc n pins s σ H E I hf st hg;subst hP hw hK;obtain⟨xs,x,q1,hx⟩:=hg;obtain⟨⟨old,he⟩,w1⟩:=st;obtain⟨its,rv,p,_⟩:=I.row q1;obtain⟨ux,hux,rx⟩:=rv.get hx;have ne:=I.row_ne q1 (hf e (by simp));have ni:=I.row_ne q1 (hf it (by simp))
  have hlt:n<its.toArray.size:=by
   have:=(i_.mp hux).1;simpa using this
  have hhd:X.A.in1.handled=none:=by exact I.ok.hd hc
  refine wpAny_pyNext_enum_itemD (wQ k hhd it a ni its.toArray) he ⟨w1,p⟩ hlt hei (by simp [hei,J7 ne]) λy h' tk hP ho hst ht hsz hk=>?_
  have hy:y=ux:=by
   have h1:its[n]?=some y:=by simpa using hP
   rw [hux] at h1;exact (r_ h1).symm
  subst hy;refine⟨_,rfl,wpAny_letOwnedTupleGo_enum ho λg ge gs=>?_⟩;have lt:∀{b o},s.heap.get? b=some o->s.heap.objs.size≠b:=λq=>Lp (m_ q)
  have kp:∀b o,b∉[e,it]->s.heap.get? b=some o->g.get? b=some o:=λb o hb q=>by
   simp only [mem_cons,not_mem_nil,or_false,not_or] at hb;exact gs.extBut _ _ hb.1 (hk b o hb.1 hb.2 q)
  have I2:Inv X pins σ (upd H s.heap.objs.size (.tup [.int (n:Int),x])) { s with heap:=g,toks:=tk+1 }:=I.yielded (ch:=[e,it]) (λb hb=>hf b hb) (pf _) kp
   ⟨by show 2<=sizeLine;decide,[.int (n:Int) tk,y],.cons ⟨tk,rfl⟩ (.cons rx .nil),_,gs.extBut _ _ (lt he) ht,rfl,_,rfl⟩
  refine⟨.ref s.heap.objs.size,_,I2,rfl,⟨_,x,I.hok.fresh (pf _),rfl,λxs' q=>by rw [I.row_inj q q1];exact hx,rfl⟩,⟨⟨y,by simpa using ge⟩,hst.1.mv λo q=>gs.extBut _ o (J7 hei) q⟩,λb hb=>?_⟩
  rw [au ?_]
  .exact (hf b hb).1
  .intro q;subst q;simp only [mem_cons,not_mem_nil,or_false] at hb;obtain⟨o1,g1,_⟩:=w1
   rcases hb with q|q
   .exact lt he q
   .exact lt g1 q
 done:=by
  intro X hP hw hK hc n pins s σ H E I hf st hg;subst hP hw hK;obtain⟨xs,q1,hend⟩:=hg;obtain⟨⟨old,he⟩,w1⟩:=st;obtain⟨its,rv,p,_⟩:=I.row q1;have e1:=rv.length;have ni:=I.row_ne q1 (hf it (by simp));have hhd:X.A.in1.handled=none:=by exact I.ok.hd hc
  obtain⟨f0,f1,f2,f3,f4,f5⟩:=hf it (by simp)
  -- the walk's end is wherever the row has no item
  have hT:s.TypeIs (.ref e) "enumerate":=⟨_,he,rfl⟩
  unfold pyNext
  refine b_ (Lj (Ja (name:=Ks "__next__") hT F.slot_enumerate_next
   (Jq F.slot_enumerate_next hT F.entry_enumerate_next ?_ (F.args_enumerate_next_1 _))))
  show wpAny _ _ (field (.ref e) 2 >>= _) _ _ _;refine b_ (IM he rfl (x:=.ref it) rfl ?_);refine b_ (e7 hhd w1 p (by simp;omega) λh' x he' hx'=>?_);obtain⟨o,ho,hcl⟩:=hx';refine b_ (wpAny_isInstance (T:="StopIteration") (b:=true) ⟨o,ho,hcl⟩ isSubtype_stop ?_);exact f_ ⟨rfl,I.turned (t':=s.toks) (λb o hb q=>he' b o hb q) f0 f1 f3 f4 f5⟩
 self:=λ_ _ _ _ _ st h=>let ⟨⟨_,he⟩,_⟩:=st;wpAny_pyIter_enum he h
section
variable {P:pj}{w:World}{A:v_}{E:Value->cy->Prop}{s:cy}{k:Bool}
def zd(k:Bool)(a:Addr)(xs:Array Value):Meets (JW.«enumerate.__new__» ⟨[.type "enumerate",.ref a],[]⟩) (λ_ R s=>d4 k s.heap a xs /\
   R (.ok (.ret (.ref (s.heap.push (kn k a)).objs.size))) { s with heap:=(s.heap.push (kn k a)).push { cls:=.type "enumerate",data:=.fields #[.none,.bool false,.ref s.heap.objs.size,rawInt 0,.none,.none] } }) :=
 .of_wp λprog w A R s h=>by
  obtain⟨hp,g,d,tk,os⟩:=s;obtain⟨r1,h⟩:=h;have hsub:=sub_enumerate;have R1:d4 k (Shared.heap ⟨hp,g,d,tk,os⟩) a xs:=r1;obtain⟨⟨cls,dd,data,sl⟩,ho,hc,n,hd⟩:=id r1;simp only at hc hd;subst hc hd
  wp_walk using J1 ho
  refine wpAny_stack_any λst=>f_ ?_
  split
  .rename_i c _ _ _ _ _
   cases (c == Jx "enumerate")
   .wp_walk using J1 ho,eP R1
    exact⟨_,rfl,h⟩
   .wp_walk using J1 ho,eP R1
    exact⟨_,rfl,h⟩
  .wp_walk using J1 ho,eP R1
   exact⟨_,rfl,h⟩
def ze{a:Addr}{xs:Array Value}{Q:Value->cy->Prop}(r1:d4 k s.heap a xs)
  (h:∀h',IsEnum h' (s.heap.objs.size+1) s.heap.objs.size 0 .none->bY k h' s.heap.objs.size a 0->(∀b o,s.heap.get? b=some o->h'.get? b=some o)->Q (.ref (s.heap.objs.size+1)) { s with heap:=h' }) :
  wpAny (model P w) A (call (.type "enumerate") [.ref a]) Q E s:=by
 refine callType_new F.called_enumerate (by decide) (F.typeCall_enumerate_1 _) (F.newCall_enumerate_1 _) (λobj=>F.args_object_init_2 obj _) F.entry_enumerate_new (zd k a xs) ⟨r1,?_⟩;have z1:(s.heap.push (kn k a)).objs.size=s.heap.objs.size+1:=IT ..;have g2:((s.heap.push (kn k a)).push { cls:=.type "enumerate",data:=.fields #[.none,.bool false,.ref s.heap.objs.size,rawInt 0,.none,.none] }).get? (s.heap.push (kn k a)).objs.size=some _:=j_ _ rfl
 have g1:=e_ { cls:=.type "enumerate",data:=.fields #[.none,.bool false,.ref s.heap.objs.size,rawInt 0,.none,.none] } (j_ s.heap (o:=kn k a) rfl);show _/\_;rw [z1] at g2 ⊢;exact⟨⟨_,g2,rfl⟩,h _ g2 ⟨_,g1,rfl,rfl⟩ λb o q=>e_ _ (e_ _ q)⟩
end
section
variable {X:Cx}{es:List Expr}{ct:Nat}{tp:Pos}
noncomputable def zf(K:a_)(ta:TA):TI:=λσ H R=>ta σ H λvs H1=>∃k a,vs=[.ref a]/\(∃xs,Sq k K H1 a xs)/\R (Ite k K a) H1
def BQ{a:Expr}{ta:TA}{p pos:Pos}(hg:Gl X "enumerate")(hm:X.mg "enumerate"=none)(ha:PA X [a] ta)(hs:starEach [a] X.env=[(false,eval a X.env)]:=by rfl) :
  PI X (.Tuple es ct tp) (.Call (.Name "enumerate" p) [a] [] pos) (zf X.K ta):=by
 intro pins s σ H R I h;refine Call_ (kL I hg hm boot_enumerate (Js (thn (ha pos pins s σ H _ I h) λus s1 ⟨vs,H1,I1,r1,q1⟩=>?_) hs rfl));obtain⟨k,a,e,⟨xs,q1⟩,q⟩:=q1;subst e
 cases r1 with
 | cons r rr =>
  cases rr;cases r;obtain⟨its,rv,p,_⟩:=I1.row q1;refine ze p λh' g1 g2 kk=>wpAny_pyIter_enum g1 ?_;have I2:Inv X pins σ H1 { s1 with heap:=h',toks:=s1.toks }:=I1.kept kk;refine⟨s1.heap.objs.size+1,[s1.heap.objs.size+1,s1.heap.objs.size],_,_,H1,rfl,I2,wR (k:=k) (a:=a) (it:=s1.heap.objs.size) (Lp (Mz _)),⟨⟨_,g1⟩,g2⟩,λb hb=>?_,q⟩
  have hle:s1.heap.objs.size<=b:=by
   simp only [mem_cons,not_mem_nil,or_false] at hb
   rcases hb with e|e
   .rw [e];exact LQ _ _
   .rw [e];exact pf _
  exact I1.fpOk hle (I1.hok.fresh hle)
end
section
variable {X:Cx}
theorem m7(ns:List Int):∀k,k<=ns.length->preSum (λi=>ns.getD i 0) k=(ns.take k).sum
 | 0,_=>rfl
 | k+1,h=>by
  rw [preSum,m7 ns k (by omega),take_add_one,c_ (by omega),sum_append,d_,c_ (by omega)];simp
def wS(hc:X.calm=true):bo X (.builtin "sum") (λxs H Q=>∃(p:Addr) (ns:List Int),xs=[.ref p]/\SqL X.K H p (ns.map V.int)/\Q (.int ns.sum) H):=by
 intro pins s σ H xs us Q I r h;obtain⟨p,ns,rfl,hS,q⟩:=h;obtain⟨u,rfl,ru⟩:=iC r;cases (show u=gV p from ru);obtain⟨its,rv,pl,hz⟩:=I.list hS;have hi:=gU rv;have hl:=pl.isList;obtain⟨ys,e⟩:=hi.allInts.items;have hns:ns=ys.toList.map (·.1):=by rw [<- hi.numsOf,<- nums_intItems,<- e]
 rw [e] at hl;refine sum_intListG (by exact I.ok.hd hc) hl λh' tk t' hk=>⟨.int ns.sum,H,I.kept (t':=tk) hk,⟨t',?_⟩,q⟩
 have hlen:ys.size=ns.length:=by rw [hns,length_map,I_]
 have hnum:numAt ys=λi=>ns.getD i 0:=by
  funext i;rw [numAt_eq,hns]
 rw [hnum,hlen,m7 ns ns.length (pf _),take_length]
theorem wT:∀{ws:List (List Nat)}{us:List Value},bD (ws.map tx) us->StrsAre us (ws.map S)
 | [],_,.nil=>.nil
 | w::ws,_,.cons r rr=>by
  obtain⟨t,e⟩:=r;subst e;exact .cons _ _ (wT rr)
end
section
variable {X:Cx}{es:List Expr}{ct:Nat}{tp:Pos}
noncomputable def zg(K:a_)(ta:TA):TI:=λσ H R=>ta σ H λvs H1=>∃k l a c,vs=[.ref a,.ref c]/\(∃xs ys,Sq k K H1 a xs/\Sq l K H1 c ys)/\R (Itz k l K a c) H1
def BR{a b:Expr}{ta:TA}{p pos:Pos}(hg:Gl X "zip")(hm:X.mg "zip"=none)(ha:PA X [a,b] ta)
  (hs:starEach [a,b] X.env=[(false,eval a X.env),(false,eval b X.env)]:=by rfl) (hs2:starEach [b] X.env=[(false,eval b X.env)]:=by rfl) :
  PI X (.Tuple es ct tp) (.Call (.Name "zip" p) [a,b] [] pos) (zg X.K ta):=by
 intro pins s σ H R I h;refine Call_ (kL I hg hm boot_zip (Js (thn (ha pos pins s σ H _ I h) λus s1 ⟨vs,H1,I1,r1,q1⟩=>?_) (by rw [hs,hs2]) (by rw [hs2];rfl)));obtain⟨k,l,a,c,e,⟨xs,ys,q1,q2⟩,q⟩:=q1;subst e
 cases r1 with
 | cons r rr =>
  cases rr with
  | cons r' rr =>
   cases rr;cases r;cases r';obtain⟨its,rv,p,_⟩:=I1.row q1;obtain⟨jts,rv',p',_⟩:=I1.row q2;refine BL p p' λh' g1 g2 g3 g4 g5 kk=>wpAny_pyIter_zip g1 ?_;have I2:Inv X pins σ H1 { s1 with heap:=h',toks:=s1.toks }:=I1.kept kk
   refine⟨s1.heap.objs.size+4,[s1.heap.objs.size+4,s1.heap.objs.size+2,s1.heap.objs.size+3,s1.heap.objs.size,s1.heap.objs.size+1],_,_,H1,rfl,I2,yZ (i:=s1.heap.objs.size) (j:=s1.heap.objs.size+1)
    (Gc _),⟨g1,g2,⟨_,_,g3⟩,g4,g5⟩,λb hb=>?_,q⟩
   have hle:s1.heap.objs.size<=b:=by
    simp only [mem_cons,not_mem_nil,or_false] at hb
    rcases hb with e|e|e|e|e
    .rw [e];exact LQ _ _
    .rw [e];exact LQ _ _
    .rw [e];exact LQ _ _
    .rw [e];exact pf _
    .rw [e];exact LQ _ _
   exact I1.fpOk hle (I1.hok.fresh hle)
end
section
variable {X:Cx}{e:Expr}{ta:TE}{f:Str}{pos:Pos}
def e8(K:a_)(eK:X.K=K)(he:PE X e ta)(hb:attributeBase e f X.env (eval e X.env)=eval e X.env):PE X (.Attribute e f pos) (C9 K ta f):=eK ▸ DF he hb
noncomputable def Gg(K:a_):List V->Hp->VK->Prop:=λxs H Q=>∃p ys,xs=[.ref p]/\SqL K H p ys/\Q (.int ys.length) H
noncomputable def Gh(K:a_):List V->Hp->VK->Prop:=λxs H Q=>∃p ys,xs=[.ref p]/\SqT K H p ys/\Q (.int ys.length) H
noncomputable def Hr(K:a_):List V->Hp->VK->Prop:=λxs H Q=>∃x n t b,xs=[x,.ty n]/\p9 K H x t/\IK K t (.type n)=some b/\Q (.bl b) H
noncomputable def wU(K:a_):List V->Hp->VK->Prop:=λxs H Q=>∃p ys,xs=[.ref p]/\(SqL K H p ys\/SqT K H p ys)/\∀l,H l=none->Q (.ref l) (upd H l (.lst ys))
end
section
variable {X:Cx}{o e:Expr}{es:List Expr}{to:TE}{t:TA}{name:Str}{apos cpos:Pos}{T id:String}{r:V->List V->Hp->VK->Prop}
def dU(K:a_)(eK:X.K=K)(pa:PlainAttrs T)(slot:Slot T name id)(hty:typeOf (.builtin id)=pure (.type "method_descriptor"))(hm:MtR X id r)(ho:PE X o to)(ha:PA X (e::es) t)
  (hbase:attributeBase o name X.env (eval o X.env)=eval o X.env:=by rfl)
  (hfew:((backTo cpos (starEach (e::es) X.env)).all (λx=>!x.1) && (backToKw cpos (keywordEach [] X.env)).all (λx=>x.1.isSome)
   && decide ((e::es).length+([]:List Keyword).length+(if ([]:List Keyword).isEmpty then 0 else 1)<30))=true:=by rfl)
  (hline:(apos.endLine == cpos.line)=true:=by rfl) (hs:starEach (e::es) X.env=(false,eval e X.env)::starEach es X.env:=by rfl) (hplain:(backTo cpos (starEach es X.env)).any (·.1)=false:=by rfl) :
  PE X (.Call (.Attribute o name apos) (e::es) [] cpos) (tBM K T r to t):=eK ▸ F4 pa slot hty hm ho ha hbase hfew hline hs hplain
end
noncomputable def iX(c:Bool)(A B:Prop):Prop:=match c with|true=>A|false=>B
def Ee{c:Bool}{A B:Prop}(h1:c=true->A)(h2:c=false->B):iX c A B:=by
 cases c with
 | true=>exact h1 rfl
 | false=>exact h2 rfl
def cJ{p:Prop}[Decidable p]{A B:Prop}(h1:p->A)(h2:¬ p->B):iX (decide p) A B:=Ee (λh=>h1 (of_decide_eq_true h)) (λh=>h2 (of_decide_eq_false h))
def rY{p:Prop}[Decidable p]{A B:Prop}(h1:¬ p->A)(h2:p->B):iX (!decide p) A B:=Ee (λh=>h1 λz=>by rw [decide_eq_true z] at h;cases h) (λh=>h2 (by
 by_cases z:p
 .exact z
 .rw [decide_eq_false z] at h;cases h))
def Gi{p:Prop}[Decidable p]{A B:Prop}(h:p)(hA:A):iX (decide p) A B:=cJ (λ_=>hA) (λz=>absurd h z)
def Gj{p:Prop}[Decidable p]{A B:Prop}(h:¬ p)(hB:B):iX (decide p) A B:=cJ (λz=>absurd z h) (λ_=>hB)
def Ef{p:Prop}[Decidable p]{A B:Prop}(h:¬ p)(hA:A):iX (!decide p) A B:=rY (λ_=>hA) (λz=>absurd z h)
def Eg{p:Prop}[Decidable p]{A B:Prop}(h:p)(hB:B):iX (!decide p) A B:=rY (λz=>absurd h z) (λ_=>hB)
def wV{c:Bool}{A B:Prop}(h:iX c B A):iX (!c) A B:=by
 cases c <;> exact h
def HZ{c:Bool}{A B:Prop}(h:c=true)(hA:A):iX c A B:=by subst h;exact hA
def Ia{c:Bool}{A B:Prop}(h:c=false)(hB:B):iX c A B:=by subst h;exact hB
def Gk{c:Bool}{A B:Prop}(h:c=false)(hA:A):iX (!c) A B:=by subst h;exact hA
def BS{c:Bool}{A B:Prop}(h:c=true)(hB:B):iX (!c) A B:=by subst h;exact hB
inductive D where
 | non|bl (b:Bool)|int (i:Int)|str (l:List Nat)|ty (n:String)
 | lst (ds:List D)|tup (ds:List D)|scr (ns:List Int)|dic (ks:List Key) (ds:List D)|obj (c:Str) (ns:List Str) (ds:List D)|exc (c:Str) (ns:List Str) (ds:List D)
noncomputable def XAt(x C:Addr)(dd:Option Addr)(new:Bool)(h:Heap):Prop:=∃o vs,h.get? x=some o/\o.cls=.ref C/\o.dict=dd/\o.data=.fields vs/\1<vs.size/\(new=true->vs[1]?=some .none)
noncomputable def eQ(A:Addr->Prop)(a:Addr):Addr->Prop:=λb=>A b\/b=a
noncomputable def Db(K:a_)(O:Addr->Prop)(H:Hp)(a:Addr)(xs:List V):Prop :=
 (¬ O a/\Rd H a (.lst xs))\/∃(o:Obj) (its:Array Value) (n:Nat),K.lookup a=some o/\o.cls=.type "list"/\o.dict=none/\o.data=.seq its n/\its.size<=sizeLine/\bD xs its.toList
def Db.sq{K:a_}{O:Addr->Prop}{H:Hp}{a:Addr}{xs:List V}(h:Db K O H a xs):SqL K H a xs:=h.elim (λz=>.inl z.2) .inr
noncomputable def aL(O:Addr->Prop)(H:Hp)(O':Addr->Prop)(H':Hp):Prop:=∀b o,¬ O b->H b=some o->¬ O' b/\H' b=some o
def Rd.keeps{O O':Addr->Prop}{H H':Hp}{a:Addr}{u:HO}(k:aL O H O' H')(n:¬ O a)(r:Rd H a u):¬ O' a/\Rd H' a u:=by
 rcases r with e|⟨o,e⟩
 .exact⟨(k _ _ n e).1,.inl (k _ _ n e).2⟩
 .exact⟨(k _ _ n e).1,.inr ⟨o,(k _ _ n e).2⟩⟩
def Db.keeps{K:a_}{O O':Addr->Prop}{H H':Hp}{a:Addr}{xs:List V}(k:aL O H O' H')(h:Db K O H a xs):Db K O' H' a xs:=by
 rcases h with ⟨n,r⟩|r
 .exact .inl (r.keeps k n)
 .exact .inr r
mutual
inductive FV (K:a_) (O:Addr->Prop) (H:Hp):V->D->Prop
 | non:FV K O H .non .non
 | bl (b:Bool):FV K O H (.bl b) (.bl b)
 | int (i:Int):FV K O H (.int i) (.int i)
 | str (l:List Nat):l.length<=1000000->FV K O H (.str (S l)) (.str l)
 | ty (n:String):FV K O H (.ty n) (.ty n)
 | scr {a:Addr}{ns:List Int}:Db K O H a (ns.map V.int)->FV K O H (.ref a) (.scr ns)
 | lst {a:Addr}{xs:List V}{ds:List D}:¬ O a->H a=some (.lst xs)->FVs K O H xs ds->FV K O H (.ref a) (.lst ds)
 | tup {a:Addr}{xs:List V}{ds:List D}:¬ O a->H a=some (.tup xs)->FVs K O H xs ds->FV K O H (.ref a) (.tup ds)
 | dic {a:Addr}{kvs:List (Key×V)}{ks:List Key}{ds:List D}:¬ O a->H a=some (.dK kvs)->kvs.map IX=ks->FVs K O H (kvs.map Lv) ds->FV K O H (.ref a) (.dic ks ds)
 | obj {a dx:Addr}{c:Str}{fs:List (Str×V)}{ns:List Str}{ds:List D}:¬ O a->H a=some (.ins (aK K c) dx fs)->fs.map IX=ns->FVs K O H (fs.map Lv) ds->FV K O H (.ref a) (.obj c ns ds)
 | exc0 {a:Addr}{c:Str}{new:Bool}:¬ O a->H a=some (.ext (XAt a (aK K c) none new))->FV K O H (.ref a) (.exc c [] [])
 | exc1 {a dx:Addr}{c:Str}{new:Bool}{fs:List (Str×V)}{ns:List Str}{ds:List D}:¬ O a->¬ O dx->H a=some (.ext (XAt a (aK K c) (some dx) new))->H dx=some (.xd fs)->fs.map IX=ns->FVs K O H (fs.map Lv) ds->FV K O H (.ref a) (.exc c ns ds)
inductive FVs (K:a_) (O:Addr->Prop) (H:Hp):List V->List D->Prop
 | nil:FVs K O H [] []
 | cons {x:V}{d:D}{xs:List V}{ds:List D}:FV K O H x d->FVs K O H xs ds->FVs K O H (x::xs) (d::ds)
end
section
variable {K:a_}{O O':Addr->Prop}{H H':Hp}
mutual
theorem FV.keeps(k:aL O H O' H'):∀{v:V}{d:D},FV K O H v d->FV K O' H' v d
 | _,_,.non=>.non
 | _,_,.bl b=>.bl b
 | _,_,.int i=>.int i
 | _,_,.str l h=>.str l h
 | _,_,.ty n=>.ty n
 | _,_,.scr s=>.scr (s.keeps k)
 | _,_,.lst n e f=>.lst (k _ _ n e).1 (k _ _ n e).2 (FVs.keeps k f)
 | _,_,.tup n e f=>.tup (k _ _ n e).1 (k _ _ n e).2 (FVs.keeps k f)
 | _,_,.dic n e m f=>.dic (k _ _ n e).1 (k _ _ n e).2 m (FVs.keeps k f)
 | _,_,.obj n e m f=>.obj (k _ _ n e).1 (k _ _ n e).2 m (FVs.keeps k f)
 | _,_,.exc0 n e=>.exc0 (k _ _ n e).1 (k _ _ n e).2
 | _,_,.exc1 n n2 e e2 m f=>.exc1 (k _ _ n e).1 (k _ _ n2 e2).1 (k _ _ n e).2 (k _ _ n2 e2).2 m (FVs.keeps k f)
theorem FVs.keeps(k:aL O H O' H'):∀{vs:List V}{ds:List D},FVs K O H vs ds->FVs K O' H' vs ds
 | _,_,.nil=>.nil
 | _,_,.cons a b=>.cons (FV.keeps k a) (FVs.keeps k b)
end
theorem FVs.length:∀{vs:List V}{ds:List D},FVs K O H vs ds->vs.length=ds.length
 | _,_,.nil=>rfl
 | _,_,.cons _ b=>by rw [length_cons,length_cons,b.length]
theorem FVs.get:∀{vs:List V}{ds:List D}{i:Nat}{v:V},FVs K O H vs ds->vs[i]?=some v->∃d,ds[i]?=some d/\FV K O H v d
 | _,_,0,_,.cons a _,e=>by simp at e;subst e;exact⟨_,rfl,a⟩
 | _,_,i+1,v,.cons _ b,e=>by
  obtain⟨d,h1,h2⟩:=b.get (i:=i) (v:=v) (by simpa using e);exact⟨d,by simpa using h1,h2⟩
theorem FVs.getD:∀{vs:List V}{ds:List D}{i:Nat}{d:D},FVs K O H vs ds->ds[i]?=some d->∃v,vs[i]?=some v/\FV K O H v d
 | _,_,0,_,.cons a _,e=>by simp at e;subst e;exact⟨_,rfl,a⟩
 | _,_,i+1,v,.cons _ b,e=>by
  obtain⟨d,h1,h2⟩:=b.getD (i:=i) (d:=v) (by simpa using e);exact⟨d,by simpa using h1,h2⟩
theorem FVs.append:∀{vs ws:List V}{ds es:List D},FVs K O H vs ds->FVs K O H ws es->FVs K O H (vs++ws) (ds++es)
 | _,_,_,_,.nil,s=>s
 | _,_,_,_,.cons a b,s=>.cons a (b.append s)
theorem FVs.set{v:V}{d:D}(f:FV K O H v d):∀{vs:List V}{ds:List D} (i:Nat),FVs K O H vs ds->FVs K O H (vs.set i v) (ds.set i d)
 | _,_,_,.nil=>.nil
 | _,_,0,.cons _ t=>.cons f t
 | _,_,i+1,.cons q t=>.cons q (FVs.set f i t)
theorem FVs.take:∀{vs:List V}{ds:List D} (n:Nat),FVs K O H vs ds->FVs K O H (vs.take n) (ds.take n)
 | _,_,0,_=>.nil
 | _,_,_+1,.nil=>.nil
 | _,_,n+1,.cons r t=>.cons r (t.take n)
theorem FVs.drop:∀{vs:List V}{ds:List D} (n:Nat),FVs K O H vs ds->FVs K O H (vs.drop n) (ds.drop n)
 | _,_,0,r=>r
 | _,_,_+1,.nil=>.nil
 | _,_,n+1,.cons _ t=>t.drop n
theorem FVs.ints:∀{vs:List V}{ns:List Int},FVs K O H vs (ns.map D.int)->vs=ns.map V.int
 | _,[],.nil=>rfl
 | _,n::r,h=>by
  cases h with
  | cons a b=>cases a;rw [FVs.ints b];rfl
theorem FVs.of_ints:∀ns:List Int,FVs K O H (ns.map V.int) (ns.map D.int)
 | []=>.nil
 | n::r=>.cons (.int n) (FVs.of_ints r)
theorem FVs.strs:∀{vs:List V}{ws:List (List Nat)},FVs K O H vs (ws.map D.str)->vs=ws.map tx
 | _,[],.nil=>rfl
 | _,n::r,h=>by
  cases h with
  | cons a b=>cases a;rw [FVs.strs b];rfl
theorem FVs.bls:∀{vs:List V}{bs:List Bool},FVs K O H vs (bs.map D.bl)->vs=bs.map V.bl
 | _,[],.nil=>rfl
 | _,n::r,h=>by
  cases h with
  | cons a b=>cases a;rw [FVs.bls b];rfl
end
inductive PV where
 | dat (d:D)|own (ds:List D)|ins (c:Str) (ns:List Str) (ds:List D)
noncomputable def PV.isOwn:PV->Bool
 | .dat _=>false
 | _=>true
noncomputable def PV.d:PV->D
 | .dat d=>d
 | .own ds=>.lst ds
 | .ins c ns ds=>.obj c ns ds
abbrev PSt:=List (Option PV)
noncomputable def Wr(ρ:PSt)(σ:St)(b:Addr):Prop:=∃(i:Nat) (p:PV),ρ[i]?=some (some p)/\p.isOwn=true/\σ[i]?=some (some (.ref b))
noncomputable def OO(A:Addr->Prop)(ρ:PSt)(σ:St)(b:Addr):Prop:=A b\/Wr ρ σ b
noncomputable def RS(K:a_)(O:Addr->Prop)(H:Hp):PV->V->Prop
 | .dat d,v=>FV K O H v d
 | .own ds,v=>∃a xs,v=.ref a/\H a=some (.lst xs)/\FVs K O H xs ds
 | .ins c ns ds,v=>∃a dx fs,v=.ref a/\H a=some (.ins (aK K c) dx fs)/\fs.map IX=ns/\FVs K O H (fs.map Lv) ds
structure Rel (K:a_) (A:Addr->Prop) (ρ:PSt) (σ:St) (H:Hp):Prop where
 len:ρ.length=σ.length
 get:∀(i:Nat) (p:PV),ρ[i]?=some (some p)->∃v,σ[i]?=some (some v)/\RS K (OO A ρ σ) H p v
 dj:∀(i j:Nat) (p q:PV) (v:V),ρ[i]?=some (some p)->ρ[j]?=some (some q)->p.isOwn=true->q.isOwn=true->σ[i]?=some (some v)->σ[j]?=some (some v)->i=j
 dom:∀b,A b->H b≠none
 sep:∀b,A b->¬ Wr ρ σ b
structure Fr (ρ:PSt) (σ:St) (H:Hp) (ρ':PSt) (H':Hp):Prop where
 kp:∀b o,¬ Wr ρ σ b->H b=some o->H' b=some o
 dm:∀b,H b≠none->H' b≠none
 ow:∀b,Wr ρ' σ b->Wr ρ σ b
def Fr.refl(ρ:PSt)(σ:St)(H:Hp):Fr ρ σ H ρ H:=⟨λ_ _ _ h=>h,λ_ h=>h,λ_ h=>h⟩
def Fr.trans{ρ ρ1 ρ2:PSt}{σ:St}{H H1 H2:Hp}(a:Fr ρ σ H ρ1 H1)(b:Fr ρ1 σ H1 ρ2 H2):Fr ρ σ H ρ2 H2 :=
 ⟨λc o n h=>b.kp c o (λz=>n (a.ow c z)) (a.kp c o n h),λc h=>b.dm c (a.dm c h),λc h=>a.ow c (b.ow c h)⟩
def Fr.keeps{ρ ρ':PSt}{σ:St}{H H':Hp}{A:Addr->Prop}(f:Fr ρ σ H ρ' H'):aL (OO A ρ σ) H (OO A ρ' σ) H':=λb o n h =>
 ⟨λz=>z.elim (λz=>n (.inl z)) (λz=>n (.inr (f.ow b z))),f.kp b o (λz=>n (.inr z)) h⟩
def Fr.new{ρ:PSt}{σ:St}{H:Hp}{p:Addr}{o:HO}(h:H p=none):Fr ρ σ H ρ (upd H p o) :=
 ⟨λb u _ e=>by rw [au (aM e h)];exact e,λb e=>by
  by_cases z:b=p
  .rw [z,aB];exact nofun
  .rw [au z];exact e,λ_ h=>h⟩
def aL.fresh{O:Addr->Prop}{H:Hp}{p:Addr}{o:HO}(h:H p=none):aL O H (eQ O p) (upd H p o):=λb u n e =>
 ⟨λz=>z.elim n (λz=>by rw [z,h] at e;cases e),by rw [au (aM e h)];exact e⟩
def aL.less{O O':Addr->Prop}{H:Hp}(h:∀b,O' b->O b):aL O H O' H:=λb o n e=>⟨λz=>n (h b z),e⟩
def RS.keeps{K:a_}{O O':Addr->Prop}{H H':Hp}{p:PV}{v:V}(k:aL O H O' H')(w:p.isOwn=true->∀a,v=.ref a->H' a=H a)(h:RS K O H p v):RS K O' H' p v:=by
 cases p with
 | dat d=>exact FV.keeps k h
 | own ds =>
  obtain⟨a,xs,e,g,f⟩:=h;exact⟨a,xs,e,by rw [w rfl a e];exact g,f.keeps k⟩
 | ins c ns ds =>
  obtain⟨a,dx,fs,e,g,m,f⟩:=h;exact⟨a,dx,fs,e,by rw [w rfl a e];exact g,m,f.keeps k⟩
def RS.ref{K:a_}{O:Addr->Prop}{H:Hp}{p:PV}{v:V}(h:RS K O H p v)(o:p.isOwn=true):∃a u,v=.ref a/\H a=some u:=by
 cases p with
 | dat d=>cases o
 | own ds=>obtain⟨a,xs,e,g,f⟩:=h;exact⟨a,_,e,g⟩
 | ins c ns ds=>obtain⟨a,dx,fs,e,g,m,f⟩:=h;exact⟨a,_,e,g⟩
def Rel.wr{K:a_}{A:Addr->Prop}{ρ:PSt}{σ:St}{H:Hp}(R:Rel K A ρ σ H){b:Addr}(h:Wr ρ σ b):H b≠none:=by
 obtain⟨i,p,e,o,s⟩:=h;obtain⟨v,s',r⟩:=R.get i p e;rw [s] at s';cases s';obtain⟨a,u,e1,e2⟩:=r.ref o;cases e1;rw [e2];exact nofun
def Rel.oo{K:a_}{A:Addr->Prop}{ρ:PSt}{σ:St}{H:Hp}(R:Rel K A ρ σ H){b:Addr}(h:H b=none):¬ OO A ρ σ b:=λz=>z.elim (λz=>R.dom b z h) (λz=>R.wr z h)
def Rel.grow{K:a_}{A:Addr->Prop}{ρ:PSt}{σ:St}{H:Hp}(R:Rel K A ρ σ H){p:Addr}{o:HO}(h:H p=none):Rel K A ρ σ (upd H p o):=by
 have k:aL (OO A ρ σ) H (OO A ρ σ) (upd H p o):=Fr.keeps (Fr.new h);refine⟨R.len,λi q e=>?_,R.dj,λb z=>(Fr.new (ρ:=ρ) (σ:=σ) h).dm b (R.dom b z),R.sep⟩;obtain⟨v,s,r⟩:=R.get i q e;refine⟨v,s,r.keeps k λow a ea=>?_⟩;obtain⟨a',u,e1,e2⟩:=r.ref ow;rw [ea] at e1;cases e1;rw [au (aM e2 h)]
def Rel.less{K:a_}{A A':Addr->Prop}{ρ:PSt}{σ:St}{H:Hp}(R:Rel K A ρ σ H)(h:∀b,A' b->A b):Rel K A' ρ σ H:=by
 refine⟨R.len,λi q e=>?_,R.dj,λb z=>R.dom b (h b z),λb z=>R.sep b (h b z)⟩;obtain⟨v,s,r⟩:=R.get i q e;exact⟨v,s,r.keeps (aL.less λb z=>z.imp (h b) id) λ_ _ _=>rfl⟩
def Rel.write{K:a_}{A:Addr->Prop}{ρ:PSt}{σ:St}{H:Hp}(R:Rel K A ρ σ H){i:Nat}{p q:PV}{a:Addr}{o:HO}(e:ρ[i]?=some (some p))(ow:p.isOwn=true)(ow':q.isOwn=true)(es:σ[i]?=some (some (.ref a)))
  (new:RS K (OO A ρ σ) (upd H a o) q (.ref a)):Rel K A (ρ.set i (some q)) σ (upd H a o)/\Fr ρ σ H (ρ.set i (some q)) (upd H a o):=by
 have hi:i<ρ.length:=(i_.mp e).1;have wa:Wr ρ σ a:=⟨i,p,e,ow,es⟩
 have weq:∀b,Wr (ρ.set i (some q)) σ b ↔ Wr ρ σ b:=λb=>by
  constructor
  .rintro⟨j,r,e1,o1,s1⟩
   by_cases z:i=j
   .subst z;exact⟨i,p,e,ow,s1⟩
   .rw [n_ z] at e1;exact⟨j,r,e1,o1,s1⟩
  .rintro⟨j,r,e1,o1,s1⟩
   by_cases z:i=j
   .subst z;exact⟨i,q,p_ hi,ow',s1⟩
   .exact⟨j,r,by rw [n_ z];exact e1,o1,s1⟩
 have oeq:OO A (ρ.set i (some q)) σ=OO A ρ σ:=funext λb=>propext (or_congr Iff.rfl (weq b));have kp:∀b u,¬ Wr ρ σ b->H b=some u->upd H a o b=some u:=λb u n h=>by rw [au (λz=>n (by rw [z];exact wa))];exact h
 have k:aL (OO A ρ σ) H (OO A ρ σ) (upd H a o):=λb u n h=>⟨n,kp b u (λz=>n (.inr z)) h⟩
 have dm:∀b,H b≠none->upd H a o b≠none:=λb n=>by
  by_cases z:b=a
  .rw [z,aB];exact nofun
  .rw [au z];exact n
 refine⟨⟨by rw [Jc];exact R.len,λj r e1=>?_,λj l p1 q1 v e1 e2 o1 o2 s1 s2=>?_,λb z=>dm b (R.dom b z),λb z w=>R.sep b z ((weq b).mp w)⟩,⟨kp,dm,λb w=>(weq b).mp w⟩⟩
 .rw [oeq]
  by_cases z:i=j
  .subst z;rw [p_ hi] at e1;cases e1;exact⟨_,es,new⟩
  .rw [n_ z] at e1;obtain⟨v,s,rr⟩:=R.get j r e1;refine⟨v,s,rr.keeps k λow2 b eb=>?_⟩;rw [au];intro zz;subst zz;rw [eb] at s;exact z (R.dj i j p r _ e e1 ow ow2 es s)
 .have ex:∀(m:Nat) (x:PV),(ρ.set i (some q))[m]?=some (some x)->x.isOwn=true->∃y:PV,ρ[m]?=some (some y)/\y.isOwn=true:=λm x em ox=>by
   by_cases z:i=m
   .subst z;exact⟨p,e,ow⟩
   .rw [n_ z] at em;exact⟨x,em,ox⟩
  obtain⟨y1,h1,h2⟩:=ex j p1 e1 o1;obtain⟨y2,h3,h4⟩:=ex l q1 e2 o2;exact R.dj j l y1 y2 v h1 h3 h2 h4 s1 s2
def Rel.frz{K:a_}{A:Addr->Prop}{ρ:PSt}{σ:St}{H:Hp}(R:Rel K A ρ σ H){i:Nat}{p:PV}(e:ρ[i]?=some (some p)) :
  Rel K A (ρ.set i (some (.dat p.d))) σ H/\Fr ρ σ H (ρ.set i (some (.dat p.d))) H:=by
 have hi:i<ρ.length:=(i_.mp e).1
 have ex:∀(m:Nat) (x:PV),(ρ.set i (some (.dat p.d)))[m]?=some (some x)->x.isOwn=true->m≠i/\ρ[m]?=some (some x):=λm x em ox=>by
  by_cases z:i=m
  .subst z;rw [p_ hi] at em;cases em;cases ox
  .rw [n_ z] at em;exact⟨λq=>z q.symm,em⟩
 have ow:∀b,Wr (ρ.set i (some (.dat p.d))) σ b->Wr ρ σ b:=λb ⟨j,r,e1,o1,s1⟩=>⟨j,r,(ex j r e1 o1).2,o1,s1⟩
 have k:aL (OO A ρ σ) H (OO A (ρ.set i (some (.dat p.d))) σ) H:=aL.less λb z=>z.imp id (ow b);refine⟨⟨by rw [Jc];exact R.len,λj r e1=>?_,λj l p1 q1 v e1 e2 o1 o2 s1 s2=>R.dj j l p1 q1 v (ex j p1 e1 o1).2 (ex l q1 e2 o2).2 o1 o2 s1 s2,R.dom,λb z w=>R.sep b z (ow b w)⟩,⟨λ_ _ _ h=>h,λ_ h=>h,ow⟩⟩
 by_cases z:i=j
 .subst z;rw [p_ hi] at e1;cases e1;obtain⟨v,s,r⟩:=R.get i p e;refine⟨v,s,?_⟩
  have na:∀a,v=.ref a->p.isOwn=true->¬ OO A (ρ.set i (some (.dat p.d))) σ a:=λa ea oo z=>by
   subst ea
   rcases z with z|⟨j,r,e1,o1,s1⟩
   .exact R.sep a z ⟨i,p,e,oo,s⟩
   .obtain⟨n1,n2⟩:=ex j r e1 o1;exact n1 (R.dj j i r p _ n2 e o1 oo s1 s)
  cases p with
  | dat d=>exact FV.keeps k r
  | own ds =>
   obtain⟨a,xs,rfl,g,f⟩:=r;exact .lst (na a rfl rfl) g (f.keeps k)
  | ins c ns ds =>
   obtain⟨a,dx,fs,rfl,g,m,f⟩:=r;exact .obj (na a rfl rfl) g m (f.keeps k)
 .rw [n_ z] at e1;obtain⟨v,s,r⟩:=R.get j _ e1;exact⟨v,s,r.keeps k λ_ _ _=>rfl⟩
abbrev PKt:=PV->PSt->Prop
abbrev PTE:=PSt->PKt->Prop
abbrev PTT:=PSt->(Bool->PSt->Prop)->Prop
inductive AV where
 | v (d:D)|sl (i:Nat)
abbrev PA1:=PSt->(AV->PSt->Prop)->Prop
abbrev PTA:=PSt->(List AV->PSt->Prop)->Prop
noncomputable def Out(K:a_)(A:Addr->Prop)(ρ:PSt)(σ:St)(H0 H:Hp):PV->V->Prop
 | .dat d,v=>Rel K A ρ σ H/\FV K (OO A ρ σ) H v d
 | .own ds,v=>∃a xs,v=.ref a/\¬ A a/\H0 a=none/\H a=some (.lst xs)/\Rel K (eQ A a) ρ σ H/\FVs K (OO (eQ A a) ρ σ) H xs ds
 | .ins c ns ds,v=>∃a dx fs,v=.ref a/\¬ A a/\H0 a=none/\H a=some (.ins (aK K c) dx fs)/\fs.map IX=ns/\Rel K (eQ A a) ρ σ H/\FVs K (OO (eQ A a) ρ σ) H (fs.map Lv) ds
noncomputable def LE(K:a_)(te:TE)(pe:PTE):Prop:=∀(A:Addr->Prop) (ρ:PSt) (σ:St) (H:Hp) (Q:PKt) (Q':VK),Rel K A ρ σ H->pe ρ Q ->
 (∀v H' p ρ',Q p ρ'->Fr ρ σ H ρ' H'->Out K A ρ' σ H H' p v->Q' v H')->te σ H Q'
noncomputable def LT(K:a_)(tt:TT)(pt:PTT):Prop:=∀(A:Addr->Prop) (ρ:PSt) (σ:St) (H:Hp) (Q:Bool->PSt->Prop) (Q':Bool->Hp->Prop),Rel K A ρ σ H->pt ρ Q ->
 (∀b H' ρ',Q b ρ'->Fr ρ σ H ρ' H'->Rel K A ρ' σ H'->Q' b H')->tt σ H Q'
noncomputable def AOk(K:a_)(O:Addr->Prop)(σ:St)(H:Hp):AV->V->Prop
 | .v d,v=>FV K O H v d
 | .sl i,v=>σ[i]?=some (some v)
noncomputable def LA1(K:a_)(te:TE)(pa:PA1):Prop:=∀(A:Addr->Prop) (ρ:PSt) (σ:St) (H:Hp) (Q:AV->PSt->Prop) (Q':VK),Rel K A ρ σ H->pa ρ Q ->
 (∀v H' av ρ',Q av ρ'->Fr ρ σ H ρ' H'->Rel K A ρ' σ H'->AOk K (OO A ρ' σ) σ H' av v->Q' v H')->te σ H Q'
inductive BU (K:a_) (O:Addr->Prop) (σ:St) (H:Hp):List AV->List V->Prop
 | nil:BU K O σ H [] []
 | cons {a:AV}{v:V}{as:List AV}{vs:List V}:AOk K O σ H a v->BU K O σ H as vs->BU K O σ H (a::as) (v::vs)
noncomputable def LAs(K:a_)(ta:TA)(pa:PTA):Prop:=∀(A:Addr->Prop) (ρ:PSt) (σ:St) (H:Hp) (Q:List AV->PSt->Prop) (Q':List V->Hp->Prop),Rel K A ρ σ H->pa ρ Q ->
 (∀vs H' as ρ',Q as ρ'->Fr ρ σ H ρ' H'->Rel K A ρ' σ H'->BU K (OO A ρ' σ) σ H' as vs->Q' vs H')->ta σ H Q'
section
variable {K:a_}{A O O':Addr->Prop}{ρ ρ':PSt}{σ:St}{H H' H0:Hp}
def AOk.keeps{a:AV}{v:V}(k:aL O H O' H')(h:AOk K O σ H a v):AOk K O' σ H' a v:=by
 cases a with
 | v d=>exact FV.keeps k h
 | sl i=>exact h
def Out.frz{p:PV}{v:V}(h:Out K A ρ σ H0 H p v):Rel K A ρ σ H/\FV K (OO A ρ σ) H v p.d:=by
 cases p with
 | dat d=>exact h
 | own ds =>
  obtain⟨a,xs,rfl,na,_,e,R,f⟩:=h;refine⟨R.less λb z=>.inl z,.lst (λz=>?_) e (f.keeps (aL.less λb z=>z.imp .inl id))⟩;exact z.elim na (λz=>R.sep a (.inr rfl) z)
 | ins c ns ds =>
  obtain⟨a,dx,fs,rfl,na,_,e,m,R,f⟩:=h;refine⟨R.less λb z=>.inl z,.obj (λz=>?_) e m (f.keeps (aL.less λb z=>z.imp .inl id))⟩;exact z.elim na (λz=>R.sep a (.inr rfl) z)
def Out.h0{p:PV}{v:V}{H1:Hp}(h:Out K A ρ σ H0 H p v)(dm:∀b,H1 b≠none->H0 b≠none):Out K A ρ σ H1 H p v:=by
 have k:∀a,H0 a=none->H1 a=none:=λa e=>by
  cases z:H1 a with
  | none=>rfl
  | some o=>exact absurd e (dm a (by rw [z];exact nofun))
 cases p with
 | dat d=>exact h
 | own ds=>obtain⟨a,xs,e1,na,e2,r⟩:=h;exact⟨a,xs,e1,na,k a e2,r⟩
 | ins c ns ds=>obtain⟨a,dx,fs,e1,na,e2,r⟩:=h;exact⟨a,dx,fs,e1,na,k a e2,r⟩
noncomputable def Gr(H H':Hp):Prop:=∀b o,H b=some o->H' b=some o
def Gr.fr(g:Gr H H'):Fr ρ σ H ρ H':=⟨λb o _ h=>g b o h,λb h=>by
 cases e:H b with
 | none=>exact absurd e h
 | some o=>rw [g b o e];exact nofun,λ_ h=>h⟩
def Gr.new{p:Addr}{o:HO}(h:H p=none):Gr H (upd H p o):=λb u e=>by rw [au (aM e h)];exact e
def Gr.refl(H:Hp):Gr H H:=λ_ _ h=>h
def Rel.gr(R:Rel K A ρ σ H)(g:Gr H H'):Rel K A ρ σ H':=by
 refine⟨R.len,λi q e=>?_,R.dj,λb z=>(g.fr (ρ:=ρ) (σ:=σ)).dm b (R.dom b z),R.sep⟩;obtain⟨v,s,r⟩:=R.get i q e;refine⟨v,s,r.keeps (g.fr (ρ:=ρ) (σ:=σ)).keeps λow a ea=>?_⟩;obtain⟨a',u,e1,e2⟩:=r.ref ow;rw [ea] at e1;cases e1;rw [e2];exact g _ _ e2
def Rel.grA(R:Rel K A ρ σ H)(g:Gr H H'){p:Addr}(h:H p=none)(h':H' p≠none):Rel K (eQ A p) ρ σ H':=by
 have k:aL (OO A ρ σ) H (OO (eQ A p) ρ σ) H':=λb u n e=>by
  refine⟨λz=>?_,g _ _ e⟩
  rcases z with (z|z)|z
  .exact n (.inl z)
  .rw [z,h] at e;cases e
  .exact n (.inr z)
 refine⟨R.len,λi q e=>?_,R.dj,λb z=>?_,λb z w=>?_⟩
 .obtain⟨v,s,r⟩:=R.get i q e;refine⟨v,s,r.keeps k λow a ea=>?_⟩;obtain⟨a',u,e1,e2⟩:=r.ref ow;rw [ea] at e1;cases e1;rw [e2];exact g _ _ e2
 .rcases z with z|z
  .exact (g.fr (ρ:=ρ) (σ:=σ)).dm b (R.dom b z)
  .rw [z];exact h'
 .rcases z with z|z
  .exact R.sep b z w
  .exact R.wr w (by rw [z];exact h)
noncomputable def ul(K:a_)(O:Addr->Prop)(H0 H:Hp):PV->V->Prop
 | .dat d,v=>FV K O H v d
 | .own ds,v=>∃a xs,v=.ref a/\H0 a=none/\H a=some (.lst xs)/\FVs K (eQ O a) H xs ds
 | .ins c ns ds,v=>∃a dx fs,v=.ref a/\H0 a=none/\H a=some (.ins (aK K c) dx fs)/\fs.map IX=ns/\FVs K (eQ O a) H (fs.map Lv) ds
def ul.out{p:PV}{v:V}(R:Rel K A ρ σ H)(g:Gr H H')(h:ul K (OO A ρ σ) H H' p v):Out K A ρ σ H H' p v:=by
 cases p with
 | dat d=>exact⟨R.gr g,h⟩
 | own ds =>
  obtain⟨a,xs,rfl,e0,e,f⟩:=h;refine⟨a,xs,rfl,λz=>R.dom a z e0,e0,e,R.grA g e0 (by rw [e];exact nofun),f.keeps (aL.less λb z=>?_)⟩
  rcases z with (z|z)|z
  .exact .inl (.inl z)
  .exact .inr z
  .exact .inl (.inr z)
 | ins c ns ds =>
  obtain⟨a,dx,fs,rfl,e0,e,m,f⟩:=h;refine⟨a,dx,fs,rfl,λz=>R.dom a z e0,e0,e,m,R.grA g e0 (by rw [e];exact nofun),f.keeps (aL.less λb z=>?_)⟩
  rcases z with (z|z)|z
  .exact .inl (.inl z)
  .exact .inr z
  .exact .inl (.inr z)
noncomputable def FVc(K:a_)(O:Addr->Prop)(H:Hp)(v:V)(d:D):Prop:=FV K O H v d\/(∃a xs ds,v=.ref a/\d=.lst ds/\H a=some (.lst xs)/\FVs K O H xs ds) \/
 ∃a dx c fs ns ds,v=.ref a/\d=.obj c ns ds/\H a=some (.ins (aK K c) dx fs)/\fs.map IX=ns/\FVs K O H (fs.map Lv) ds
noncomputable def cont(ρ:PSt):AV->Option D
 | .v d=>some d
 | .sl i=>match ρ[i]? with|some (some p)=>some p.d|_=>none
def Rel.cont{av:AV}{v:V}{d:D}(R:Rel K A ρ σ H)(h:AOk K (OO A ρ σ) σ H av v)(e:L2.cont ρ av=some d):FVc K (OO A ρ σ) H v d:=by
 cases av with
 | v d'=>cases e;exact .inl h
 | sl i =>
  have h:σ[i]?=some (some v):=h;simp only [L2.cont] at e
  split at e
  .rename_i p ep;cases e;obtain⟨v',s,r⟩:=R.get i p ep;rw [h] at s;cases s
   cases p with
   | dat d=>exact .inl r
   | own ds=>obtain⟨a,xs,e1,e2,f⟩:=r;exact .inr (.inl ⟨a,xs,ds,e1,rfl,e2,f⟩)
   | ins c ns ds=>obtain⟨a,dx,fs,e1,e2,m,f⟩:=r;exact .inr (.inr ⟨a,dx,c,fs,ns,ds,e1,rfl,e2,m,f⟩)
  .cases e
def FVc.lst{v:V}{ds:List D}(h:FVc K O H v (.lst ds)):∃a xs,v=.ref a/\H a=some (.lst xs)/\FVs K O H xs ds:=by
 rcases h with h|⟨a,xs,ds',e1,e2,e3,f⟩|⟨a,dx,c,fs,ns,ds',e1,e2,_⟩
 .cases h with
  | lst n s f=>exact⟨_,_,rfl,s,f⟩
 .cases e2;exact⟨a,xs,e1,e3,f⟩
 .cases e2
def FVc.fv{v:V}{d:D}(h:FVc K O H v d)(n:∀ds,d≠.lst ds)(n':∀c ns ds,d≠.obj c ns ds):FV K O H v d:=by
 rcases h with h|⟨a,xs,ds',e1,e2,e3,f⟩|⟨a,dx,c,fs,ns,ds',e1,e2,_⟩
 .exact h
 .exact absurd e2 (n _)
 .exact absurd e2 (n' _ _ _)
def FVc.tup{v:V}{ds:List D}(h:FVc K O H v (.tup ds)):∃a xs,v=.ref a/\¬ O a/\H a=some (.tup xs)/\FVs K O H xs ds:=by
 cases h.fv nofun nofun with
 | tup n s f=>exact⟨_,_,rfl,n,s,f⟩
def FVc.scr{v:V}{ns:List Int}(h:FVc K O H v (.scr ns)):∃a,v=.ref a/\SqL K H a (ns.map V.int):=by
 cases h.fv nofun nofun with
 | scr s=>exact⟨_,rfl,s.sq⟩
def FVc.int{v:V}{i:Int}(h:FVc K O H v (.int i)):v=.int i:=by cases h.fv nofun nofun;rfl
def FVc.str{v:V}{i:List Nat}(h:FVc K O H v (.str i)):v=.str (S i)/\i.length<=1000000:=by
 cases h.fv nofun nofun with
 | str _ z=>exact⟨rfl,z⟩
end
def pC(d:D):PTE:=λρ Q=>Q (.dat d) ρ
noncomputable def zh(i:Nat):PTE:=λρ Q=>match ρ[i]? with
 | some (some (.dat d))=>Q (.dat d) ρ
 | some (some (.own ds))=>Q (.dat (.lst ds)) (ρ.set i (some (.dat (.lst ds))))
 | some (some (.ins c ns ds))=>Q (.dat (.obj c ns ds)) (ρ.set i (some (.dat (.obj c ns ds))))
 | _=>False
noncomputable def pSl(i:Nat):PA1:=λρ Q=>match ρ[i]? with
 | some (some (.dat d))=>Q (.v d) ρ
 | some (some (.own _))=>Q (.sl i) ρ
 | some (some (.ins _ _ _))=>Q (.sl i) ρ
 | _=>False
noncomputable def pFz(pe:PTE):PA1:=λρ Q=>pe ρ λp ρ1=>Q (.v p.d) ρ1
def iG:PTA:=λρ Q=>Q [] ρ
noncomputable def c6(pa:PA1)(pr:PTA):PTA:=λρ Q=>pa ρ λa ρ1=>pr ρ1 λas ρ2=>Q (a::as) ρ2
section
variable {K:a_}{ta tb tc:TE}{pa pb pc:PA1}{pe pe':PTE}{tr:TA}{pr:PTA}
def Fz{v:V}{d:D}(h:∀O H,FV K O H v d):LE K (tC v) (pC d):=λA ρ σ H Q Q' R q k=>k v H (.dat d) ρ q (Fr.refl _ _ _) ⟨R,h _ _⟩
def le_int{i:Int}:LE K (tC (.int i)) (pC (.int i)):=Fz λ_ _=>.int i
def gg{i:Bool}:LE K (tC (.bl i)) (pC (.bl i)):=Fz λ_ _=>.bl i
def um:LE K (tC .non) (pC .non):=Fz λ_ _=>.non
def le_str{l:List Nat}(h:l.length<=1000000:=by decide):LE K (tC (.str (S l))) (pC (.str l)):=Fz λ_ _=>.str l h
def ai{i:Nat}:LE K (bv i) (zh i):=by
 intro A ρ σ H Q Q' R q k;unfold zh at q
 split at q
 .rename_i d e;obtain⟨v,s,r⟩:=R.get i _ e;exact⟨v,s,k v H (.dat d) ρ q (Fr.refl _ _ _) ⟨R,r⟩⟩
 .rename_i ds e;obtain⟨R',f⟩:=R.frz e;obtain⟨v,s,r⟩:=R'.get i _ (p_ (i_.mp e).1);exact⟨v,s,k v H (.dat (.lst ds)) _ q f ⟨R',r⟩⟩
 .rename_i c ns ds e;obtain⟨R',f⟩:=R.frz e;obtain⟨v,s,r⟩:=R'.get i _ (p_ (i_.mp e).1);exact⟨v,s,k v H (.dat (.obj c ns ds)) _ q f ⟨R',r⟩⟩
 .exact q.elim
def al{i:Nat}:LA1 K (bv i) (pSl i):=by
 intro A ρ σ H Q Q' R q k;unfold pSl at q
 split at q
 .rename_i d e;obtain⟨v,s,r⟩:=R.get i _ e;exact⟨v,s,k v H _ ρ q (Fr.refl _ _ _) R r⟩
 .rename_i e;obtain⟨v,s,r⟩:=R.get i _ e;exact⟨v,s,k v H _ ρ q (Fr.refl _ _ _) R s⟩
 .rename_i e;obtain⟨v,s,r⟩:=R.get i _ e;exact⟨v,s,k v H _ ρ q (Fr.refl _ _ _) R s⟩
 .exact q.elim
def ae(h:LE K ta pe):LA1 K ta (pFz pe):=λA ρ σ H Q Q' R q k=>h A ρ σ H _ Q' R q λv H' p ρ' q f o=>k v H' _ ρ' q f o.frz.1 o.frz.2
def af:LAs K dQ iG:=λA ρ σ H Q Q' R q k=>k [] H [] ρ q (Fr.refl _ _ _) R .nil
def ac(h:LA1 K ta pa)(hr:LAs K tr pr):LAs K (aU ta tr) (c6 pa pr):=λA ρ σ H Q Q' R q k =>
 h A ρ σ H _ _ R q λv H1 a ρ1 q1 f1 R1 o1=>hr A ρ1 σ H1 _ _ R1 q1 λvs H2 as ρ2 q2 f2 R2 o2=>k _ H2 _ ρ2 q2 (f1.trans f2) R2 (.cons (o1.keeps f2.keeps) o2)
noncomputable def LO(K:a_)(r:R2)(f:D->D->(PV->Prop)->Prop):Prop:=∀(O:Addr->Prop) (H:Hp) (x y:V) (a b:D) (Q:PV->Prop) (Q':VK),(∀b,O b->H b≠none)->FVc K O H x a->FVc K O H y b->f a b Q ->
 (∀v H' p,Q p->Gr H H'->ul K O H H' p v->Q' v H')->r x y H Q'
noncomputable def op2(f:D->D->(PV->Prop)->Prop)(ρ:PSt)(x y:AV)(Q:PKt):Prop:=match cont ρ x,cont ρ y with
 | some a,some b=>f a b λp=>Q p ρ
 | _,_=>False
noncomputable def pOp(f:D->D->(PV->Prop)->Prop)(pa pb:PA1):PTE:=λρ Q=>pa ρ λx ρ1=>pb ρ1 λy ρ2=>op2 f ρ2 x y Q
def Rel.dom2{A:Addr->Prop}{ρ:PSt}{σ:St}{H:Hp}(R:Rel K A ρ σ H):∀b,OO A ρ σ b->H b≠none:=λb z=>z.elim (R.dom b) R.wr
def ax{r:R2}{f:D->D->(PV->Prop)->Prop}(o:LO K r f)(ha:LA1 K ta pa)(hb:LA1 K tb pb):LE K (tOp r ta tb) (pOp f pa pb):=λA ρ σ H Q Q' R q k =>
 ha A ρ σ H _ _ R q λv H1 a ρ1 q1 f1 R1 o1=>hb A ρ1 σ H1 _ _ R1 q1 λw H2 b ρ2 q2 f2 R2 o2=>by
  unfold op2 at q2
  split at q2
  .rename_i da db e1 e2;exact o _ H2 v w da db _ _ R2.dom2 (R2.cont (o1.keeps f2.keeps) e1) (R2.cont o2 e2) q2 λz H3 p q3 g ov=>k z H3 p ρ2 q3 ((f1.trans f2).trans g.fr) ((ov.out R2 g).h0 λb z=>f2.dm b (f1.dm b z))
  .exact q2.elim
noncomputable def LU(K:a_)(r:V->Hp->VK->Prop)(f:D->(PV->Prop)->Prop):Prop:=∀(O:Addr->Prop) (H:Hp) (x:V) (a:D) (Q:PV->Prop) (Q':VK),(∀b,O b->H b≠none)->FVc K O H x a->f a Q ->
 (∀v H' p,Q p->Gr H H'->ul K O H H' p v->Q' v H')->r x H Q'
noncomputable def op1(f:D->(PV->Prop)->Prop)(ρ:PSt)(x:AV)(Q:PKt):Prop:=match cont ρ x with
 | some a=>f a λp=>Q p ρ
 | _=>False
noncomputable def pUn(f:D->(PV->Prop)->Prop)(pa:PA1):PTE:=λρ Q=>pa ρ λx ρ1=>op1 f ρ1 x Q
def zi{r:V->Hp->VK->Prop}{f:D->(PV->Prop)->Prop}(o:LU K r f)(ha:LA1 K ta pa):LE K (tUn r ta) (pUn f pa):=λA ρ σ H Q Q' R q k =>
 ha A ρ σ H _ _ R q λv H1 a ρ1 q1 f1 R1 o1=>by
  unfold op1 at q1
  split at q1
  .rename_i da e1;exact o _ H1 v da _ _ R1.dom2 (R1.cont o1 e1) q1 λz H3 p q3 g ov=>k z H3 p ρ1 q3 (f1.trans g.fr) ((ov.out R1 g).h0 λb z=>f1.dm b z)
  .exact q1.elim
inductive Dc (K:a_) (O:Addr->Prop) (H:Hp):List V->List D->Prop
 | nil:Dc K O H [] []
 | cons {x:V}{d:D}{xs:List V}{ds:List D}:FVc K O H x d->Dc K O H xs ds->Dc K O H (x::xs) (d::ds)
noncomputable def conts(ρ:PSt):List AV->Option (List D)
 | []=>some []
 | a::r=>match cont ρ a,conts ρ r with
  | some d,some ds=>some (d::ds)
  | _,_=>none
theorem Rel.conts{A:Addr->Prop}{ρ:PSt}{σ:St}{H:Hp}(R:Rel K A ρ σ H):∀{as:List AV}{vs:List V}{ds:List D},BU K (OO A ρ σ) σ H as vs->L2.conts ρ as=some ds->Dc K (OO A ρ σ) H vs ds
 | _,_,_,.nil,e=>by cases e;exact .nil
 | _,_,_,.cons a b,e=>by
  unfold L2.conts at e
  split at e
  .rename_i e1 e2;cases e;exact .cons (R.cont a e1) (R.conts b e2)
  .cases e
noncomputable def LC(K:a_)(r:List V->Hp->VK->Prop)(f:List D->(PV->Prop)->Prop):Prop:=∀(O:Addr->Prop) (H:Hp) (xs:List V) (as:List D) (Q:PV->Prop) (Q':VK),(∀b,O b->H b≠none)->Dc K O H xs as->f as Q ->
 (∀v H' p,Q p->Gr H H'->ul K O H H' p v->Q' v H')->r xs H Q'
noncomputable def opN(f:List D->(PV->Prop)->Prop)(ρ:PSt)(as:List AV)(Q:PKt):Prop:=match conts ρ as with
 | some ds=>f ds λp=>Q p ρ
 | _=>False
noncomputable def pCB(f:List D->(PV->Prop)->Prop)(pr:PTA):PTE:=λρ Q=>pr ρ λas ρ1=>opN f ρ1 as Q
def aW{r:List V->Hp->VK->Prop}{f:List D->(PV->Prop)->Prop}(o:LC K r f)(ha:LAs K tr pr):LE K (tCB r tr) (pCB f pr):=λA ρ σ H Q Q' R q k =>
 ha A ρ σ H _ _ R q λvs H1 as ρ1 q1 f1 R1 o1=>by
  unfold opN at q1
  split at q1
  .rename_i ds e1;exact o _ H1 vs ds _ _ R1.dom2 (R1.conts o1 e1) q1 λz H3 p q3 g ov=>k z H3 p ρ1 q3 (f1.trans g.fr) ((ov.out R1 g).h0 λb z=>f1.dm b z)
  .exact q1.elim
noncomputable def avD:List AV->Option (List D)
 | []=>some []
 | .v d::r=>match avD r with|some ds=>some (d::ds)|none=>none
 | .sl _::_=>none
theorem BU.avD{O:Addr->Prop}{σ:St}{H:Hp}:∀{as:List AV}{vs:List V}{ds:List D},BU K O σ H as vs->L2.avD as=some ds->FVs K O H vs ds
 | _,_,_,.nil,e=>by cases e;exact .nil
 | .v d::r,_,_,.cons a b,e=>by
  simp only [L2.avD] at e
  split at e
  .rename_i e1;cases e;exact .cons a (b.avD e1)
  .cases e
 | .sl i::r,_,_,.cons a b,e=>by cases e
noncomputable def Ib(pr:PTA):PTE:=λρ Q=>pr ρ λas ρ1=>match avD as with
 | some ds=>ds.length<=1000000/\Q (.own ds) ρ1
 | _=>False
noncomputable def Ic(pr:PTA):PTE:=λρ Q=>pr ρ λas ρ1=>match avD as with
 | some ds=>ds.length<=1000000/\Q (.dat (.tup ds)) ρ1
 | _=>False
def bP(ha:LAs K tr pr):LE K (Hi tr) (Ib pr):=λA ρ σ H Q Q' R q k =>
 ha A ρ σ H _ _ R q λvs H1 as ρ1 q1 f1 R1 o1=>by
  split at q1
  .rename_i ds e1;have fs:=o1.avD e1;refine⟨sz _ (by rw [fs.length];exact q1.1),λp hp=>k _ _ (.own ds) ρ1 q1.2 (f1.trans (Fr.new hp)) ?_⟩;have g:Gr H1 (upd H1 p (.lst vs)):=Gr.new hp;exact (ul.out (p:=.own ds) R1 g ⟨p,vs,rfl,hp,aB,fs.keeps (aL.fresh hp)⟩).h0 λb z=>f1.dm b z
  .exact q1.elim
def m8(ha:LAs K tr pr):LE K (DG tr) (Ic pr):=λA ρ σ H Q Q' R q k =>
 ha A ρ σ H _ _ R q λvs H1 as ρ1 q1 f1 R1 o1=>by
  split at q1
  .rename_i ds e1;have fs:=o1.avD e1;refine⟨sz _ (by rw [fs.length];exact q1.1),λp hp=>k _ _ (.dat (.tup ds)) ρ1 q1.2 (f1.trans (Fr.new hp)) ⟨R1.grow hp,?_⟩⟩;exact .tup (R1.oo hp) aB (fs.keeps (Fr.new hp).keeps)
  .exact q1.elim
noncomputable def pB(pe:PTE):PTT:=λρ Q=>pe ρ λp ρ1=>match p with
 | .dat (.bl b)=>Q b ρ1
 | _=>False
def j9(h:LE K ta pe):LT K (tB ta) (pB pe):=λA ρ σ H Q Q' R q k=>h A ρ σ H _ _ R q λv H1 p ρ1 q1 f1 o1=>by
 split at q1
 .rename_i b;obtain⟨R1,f⟩:=o1;cases f;exact⟨b,rfl,k b H1 ρ1 q1 f1 R1⟩
 .exact q1.elim
def g6(h:LE K ta pe):LT K (uZ ta) (pB pe):=j9 h
noncomputable def Ie(a b:PTT):PTT:=λρ Q=>a ρ λc ρ1=>iX c (b ρ1 Q) (Q false ρ1)
noncomputable def pOr(a b:PTT):PTT:=λρ Q=>a ρ λc ρ1=>iX c (Q true ρ1) (b ρ1 Q)
noncomputable def FA(a:PTT):PTT:=λρ Q=>a ρ λc ρ1=>Q (!c) ρ1
variable {tta ttb:TT}{pta ptb:PTT}
def uo(ha:LT K tta pta)(hb:LT K ttb ptb):LT K (Hc tta ttb) (Ie pta ptb):=λA ρ σ H Q Q' R q k=>ha A ρ σ H _ _ R q λc H1 ρ1 q1 f1 R1=>by
 cases c with
 | true=>exact hb A ρ1 σ H1 _ _ R1 q1 λb H2 ρ2 q2 f2 R2=>k b H2 ρ2 q2 (f1.trans f2) R2
 | false=>exact k false H1 ρ1 q1 f1 R1
def mo(ha:LT K tta pta)(hb:LT K ttb ptb):LT K (tOr tta ttb) (pOr pta ptb):=λA ρ σ H Q Q' R q k=>ha A ρ σ H _ _ R q λc H1 ρ1 q1 f1 R1=>by
 cases c with
 | false=>exact hb A ρ1 σ H1 _ _ R1 q1 λb H2 ρ2 q2 f2 R2=>k b H2 ρ2 q2 (f1.trans f2) R2
 | true=>exact k true H1 ρ1 q1 f1 R1
def bQ(ha:LT K tta pta):LT K (Fw tta) (FA pta):=λA ρ σ H Q Q' R q k=>ha A ρ σ H _ _ R q λc H1 ρ1 q1 f1 R1=>k _ H1 ρ1 q1 f1 R1
noncomputable def Gm(a b:PTE):PTE:=λρ Q=>a ρ λp ρ1=>match p with
 | .dat (.bl c)=>iX c (b ρ1 Q) (Q (.dat (.bl false)) ρ1)
 | _=>False
noncomputable def Gn(a:PTE):PTE:=λρ Q=>a ρ λp ρ1=>match p with
 | .dat (.bl c)=>Q (.dat (.bl (!c))) ρ1
 | _=>False
def eR(ha:LE K ta pe)(hb:LE K tb pe'):LE K (Dw ta tb) (Gm pe pe'):=λA ρ σ H Q Q' R q k=>ha A ρ σ H _ _ R q λv H1 p ρ1 q1 f1 o1=>by
 split at q1
 .rename_i c;obtain⟨R1,f⟩:=o1;cases f;refine⟨c,rfl,?_⟩
  cases c with
  | true=>exact hb A ρ1 σ H1 _ _ R1 q1 λb H2 p2 ρ2 q2 f2 o2=>k b H2 p2 ρ2 q2 (f1.trans f2) (o2.h0 λb z=>f1.dm b z)
  | false=>exact k _ H1 _ ρ1 q1 f1 ⟨R1,.bl false⟩
 .exact q1.elim
def qF(ha:LE K ta pe):LE K (Dx ta) (Gn pe):=λA ρ σ H Q Q' R q k=>ha A ρ σ H _ _ R q λv H1 p ρ1 q1 f1 o1=>by
 split at q1
 .rename_i c;obtain⟨R1,f⟩:=o1;cases f;exact⟨c,rfl,k _ H1 _ ρ1 q1 f1 ⟨R1,.bl (!c)⟩⟩
 .exact q1.elim
end
abbrev F2:=D->D->(PV->Prop)->Prop
noncomputable def fI0(g:Int->Int->D):F2
 | .int i,.int j,Q=>Q (.dat (g i j))
 | _,_,_=>False
noncomputable def fI(C:Int->Int->Prop)(g:Int->Int->D):F2
 | .int i,.int j,Q=>C i j/\Q (.dat (g i j))
 | _,_,_=>False
section
variable {K:a_}{X:Cx}
def BV{g:Int->Int->V}{g':Int->Int->D}(h:∀i j O H,FV K O H (g i j) (g' i j)):LO K (rI0 g) (fI0 g'):=by
 intro O H x y a b Q Q' dom fx fy q k;unfold fI0 at q
 split at q
 .rename_i i j;exact⟨i,j,fx.int,fy.int,k _ H _ q (Gr.refl _) (h i j _ _)⟩
 .exact q.elim
def Go{C:Int->Int->Prop}{g:Int->Int->V}{g':Int->Int->D}(h:∀i j O H,FV K O H (g i j) (g' i j)):LO K (rI C g) (fI C g'):=by
 intro O H x y a b Q Q' dom fx fy q k;unfold fI at q
 split at q
 .rename_i i j;exact⟨i,j,fx.int,fy.int,q.1,k _ H _ q.2 (Gr.refl _) (h i j _ _)⟩
 .exact q.elim
def dw{O:Addr->Prop}{H:Hp}{xs:List V}{ds:List D}{p:Addr}(hp:H p=none)(f:FVs K O H xs ds):ul K O H (upd H p (.lst xs)) (.own ds) (.ref p) :=
 ⟨p,xs,rfl,hp,aB,f.keeps (aL.fresh hp)⟩
def n9{O:Addr->Prop}{H:Hp}{xs:List V}{ds:List D}{p:Addr}(dom:∀b,O b->H b≠none)(hp:H p=none)(f:FVs K O H xs ds):ul K O H (upd H p (.tup xs)) (.dat (.tup ds)) (.ref p) :=
 .tup (λz=>dom p z hp) aB (f.keeps λb o n e=>⟨n,by rw [au (aM e hp)];exact e⟩)
noncomputable def Gp:R2:=λx y H Q=>∃i j,x=.str (S i)/\y=.str (S j)/\i.length+j.length<=sizeLine/\Q (.str (S (i++j))) H
noncomputable def BW(K:a_):R2:=λx y H Q=>rI0 (λi j=>.int (i+j)) x y H Q\/Gp x y H Q\/D9 K x y H Q\/DJ K x y H Q
def Gq(K:a_)(e:X.K=K):OpR X (binaryOp .Add) (BW K):=by
 subst e;exact OpR.or DA (OpR.or BH (OpR.or BN Bx))
noncomputable def Gs:F2
 | .int i,.int j,Q=>Q (.dat (.int (i+j)))
 | .str a,.str b,Q=>a.length+b.length<=1000000/\Q (.dat (.str (a++b)))
 | .lst a,.lst b,Q=>a.length+b.length<=1000000/\Q (.own (a++b))
 | .scr a,.lst b,Q=>a.length+b.length<=1000000/\Q (.own (a.map .int++b))
 | .tup a,.tup b,Q=>a≠[]/\a.length+b.length<=1000000/\Q (.dat (.tup (a++b)))
 | _,_,_=>False
def Ae:LO K (BW K) Gs:=by
 intro O H x y a b Q Q' dom fx fy q k;unfold Gs at q
 split at q
 .rename_i i j;exact .inl ⟨i,j,fx.int,fy.int,k _ H _ q (Gr.refl _) (.int _)⟩
 .rename_i i j;exact .inr (.inl ⟨i,j,fx.str.1,fy.str.1,sz _ q.1,k _ H _ q.2 (Gr.refl _) (.str _ (by rw [length_append];exact q.1))⟩)
 .rename_i i j;obtain⟨a,xs,rfl,e1,f1⟩:=fx.lst;obtain⟨b,ys,rfl,e2,f2⟩:=fy.lst;exact .inr (.inr (.inl ⟨a,b,xs,ys,rfl,rfl,SqL.of e1,SqL.of e2,sz _ (by rw [f1.length,f2.length];exact q.1),λp hp=>k _ _ _ q.2 (Gr.new hp) (dw hp (f1.append f2))⟩))
 .rename_i i j;obtain⟨a,rfl,e1⟩:=fx.scr;obtain⟨b,ys,rfl,e2,f2⟩:=fy.lst;exact .inr (.inr (.inl ⟨a,b,_,ys,rfl,rfl,e1,SqL.of e2,sz _ (by rw [length_map,f2.length];exact q.1),λp hp=>k _ _ _ q.2 (Gr.new hp) (dw hp ((FVs.of_ints i).append f2))⟩))
 .rename_i i j;obtain⟨a,xs,rfl,n1,e1,f1⟩:=fx.tup;obtain⟨b,ys,rfl,n2,e2,f2⟩:=fy.tup;have l1:=f1.length;have l2:=f2.length
  refine .inr (.inr (.inr ⟨a,b,xs,ys,rfl,rfl,SqT.of e1,SqT.of e2,λz=>q.1 ?_,sz _ (by rw [l1,l2];exact q.2.1),λz=>?_,λ_ p hp=>k _ _ _ q.2.2 (Gr.new hp) (n9 dom hp (f1.append f2))⟩))
  .exact Jn.mp (by rw [<- l1,z];rfl)
  .have:j=[]:=Jn.mp (by rw [<- l2,z];rfl);subst this;exact k _ H _ q.2.2 (Gr.refl _) (by rw [IL];exact .tup n1 e1 f1)
 .exact q.elim
def m9:LO K (rI0 λi j=>.int (i - j)) (fI0 λi j=>.int (i - j)):=BV λ_ _ _ _=>.int _
def k7:LO K (rI (λ_ j=>0<j) λi j=>.int (i % j)) (fI (λ_ j=>0<j) λi j=>.int (i % j)):=Go λ_ _ _ _=>.int _
def oa:LO K (rI FP λi j=>.int (i / j)) (fI (λ_ j=>0<j/\j<1073741824) λi j=>.int (i / j)):=Go λ_ _ _ _=>.int _
def Eh:LO K (rI FQ λi j=>.int (i^j.toNat)) (fI (λi j=>0<=j/\j<=1000000/\i.natAbs<2^64) λi j=>.int (i^j.toNat)):=Go λ_ _ _ _=>.int _
noncomputable def Gu:R2:=λx y H Q=>∃l n,x=.str (S l)/\y=.int n/\-1000000<=n/\n<=1000000/\n.toNat*l.length<=sizeLine/\Q (.str (S (nW l n))) H
noncomputable def BX:R2:=λx y H Q=>rI z0 (λi j=>.int (i*j)) x y H Q\/Gu x y H Q\/Hn x y H Q
def ko:OpR X (binaryOp .Mult) BX:=OpR.or DC (OpR.or vf DP)
noncomputable def Gv:F2
 | .int i,.int j,Q=>((-(2^64)<i/\i<2^64)\/(-(2^64)<j/\j<2^64))/\Q (.dat (.int (i*j)))
 | .str a,.int n,Q=>(-1000000<=n/\n<=1000000/\n.toNat*a.length<=1000000)/\Q (.dat (.str (nW a n)))
 | .lst a,.int n,Q=>(-1000000<=n/\n<=1000000/\a.length*n.toNat<=1000000)/\Q (.own (nW a n))
 | _,_,_=>False
theorem FVs.rep{O:Addr->Prop}{H:Hp}{xs:List V}{ds:List D}(f:FVs K O H xs ds):∀n,FVs K O H (so n xs).flatten (so n ds).flatten
 | 0=>.nil
 | n+1=>by rw [replicate_succ,replicate_succ,flatten_cons,flatten_cons];exact f.append (f.rep n)
def fX:LO K BX Gv:=by
 intro O H x y a b Q Q' dom fx fy q k;unfold Gv at q
 split at q
 .rename_i i j;exact .inl ⟨i,j,fx.int,fy.int,q.1,k _ H _ q.2 (Gr.refl _) (.int _)⟩
 .rename_i i j;exact .inr (.inl ⟨i,j,fx.str.1,fy.int,q.1.1,q.1.2.1,sz _ q.1.2.2,k _ H _ q.2 (Gr.refl _) (.str _ (by rw [dq];exact q.1.2.2))⟩)
 .rename_i i j;obtain⟨a,xs,rfl,e1,f1⟩:=fx.lst;exact .inr (.inr ⟨a,j,xs,rfl,fy.int,e1,by omega,by omega,sz _ (by rw [f1.length];exact q.1.2.2),λp hp=>k _ _ _ q.2 (Gr.new hp) (dw hp (f1.rep _))⟩)
 .exact q.elim
noncomputable def Gw:R2:=λx y H Q=>rI0 (λi j=>.bl (decide (i<j))) x y H Q\/∃i j,x=.str i/\y=.str j/\Q (.bl (decide (i.cps.toList<j.cps.toList))) H
noncomputable def FC:R2:=λx y H Q=>rI0 (λi j=>.bl (decide (i<=j))) x y H Q\/∃i j,x=.str i/\y=.str j/\Q (.bl (!decide (j.cps.toList<i.cps.toList))) H
def Gx:OpR X (compareOp .Lt) Gw:=OpR.or FU wd
def Af:OpR X (compareOp .LtE) FC:=OpR.or FW wF
noncomputable def fLt:F2
 | .int i,.int j,Q=>Q (.dat (.bl (decide (i<j))))
 | .str i,.str j,Q=>Q (.dat (.bl (decide (i<j))))
 | _,_,_=>False
noncomputable def fLe:F2
 | .int i,.int j,Q=>Q (.dat (.bl (decide (i<=j))))
 | .str i,.str j,Q=>Q (.dat (.bl (!decide (j<i))))
 | _,_,_=>False
def BY:LO K Gw fLt:=by
 intro O H x y a b Q Q' dom fx fy q k;unfold fLt at q
 split at q
 .rename_i i j;exact .inl ⟨i,j,fx.int,fy.int,k _ H _ q (Gr.refl _) (.bl _)⟩
 .rename_i i j;exact .inr ⟨_,_,fx.str.1,fy.str.1,k _ H _ q (Gr.refl _) (.bl _)⟩
 .exact q.elim
def qG:LO K FC fLe:=by
 intro O H x y a b Q Q' dom fx fy q k;unfold fLe at q
 split at q
 .rename_i i j;exact .inl ⟨i,j,fx.int,fy.int,k _ H _ q (Gr.refl _) (.bl _)⟩
 .rename_i i j;exact .inr ⟨_,_,fx.str.1,fy.str.1,k _ H _ q (Gr.refl _) (.bl _)⟩
 .exact q.elim
def og:LO K (rI0 λi j=>.bl (decide (j<i))) (fI0 λi j=>.bl (decide (j<i))):=BV λ_ _ _ _=>.bl _
def BZ:LO K (rI0 λi j=>.bl (decide (j<=i))) (fI0 λi j=>.bl (decide (j<=i))):=BV λ_ _ _ _=>.bl _
mutual
noncomputable def D.py:D->KF
 | .non=>.none|.bl b=>.bool b|.int i=>.int i|.str l=>.str (S l)|.ty _=>.none
 | .lst ds=>.list (D.pys ds)|.tup ds=>.tuple (D.pys ds)|.scr ns=>.list (ns.map .int)|.dic _ _=>.none|.obj _ _ _=>.none|.exc _ _ _=>.none
noncomputable def D.pys:List D->List KF
 | []=>[]
 | d::r=>d.py::D.pys r
end
mutual
noncomputable def D.plain:D->Bool
 | .non=>true|.bl _=>true|.int _=>true|.str _=>true|.ty _=>false
 | .lst ds=>D.plains ds|.tup ds=>D.plains ds|.scr _=>true|.dic _ _=>false|.obj _ _ _=>false|.exc _ _ _=>false
noncomputable def D.plains:List D->Bool
 | []=>true
 | d::r=>d.plain && D.plains r
end
mutual
theorem FV.dv{O:Addr->Prop}{H:Hp}:∀{v:V}{d:D},FV K O H v d->d.plain=true->DV K H v d.py
 | _,_,.non,_=>.non
 | _,_,.bl b,_=>.bl b
 | _,_,.int i,_=>.int i
 | _,_,.str l h,_=>.str (S l)
 | _,_,.ty n,p=>nomatch p
 | _,_,.scr s,_=>.lst s.sq (DVs.ints _)
 | _,_,.lst n e f,p=>.lst (SqL.of e) (FVs.dvs f p)
 | _,_,.tup n e f,p=>.tup (SqT.of e) (FVs.dvs f p)
 | _,_,.dic _ _ _ _,p=>nomatch p
 | _,_,.obj _ _ _ _,p=>nomatch p
 | _,_,.exc0 _ _,p=>nomatch p
 | _,_,.exc1 _ _ _ _ _ _,p=>nomatch p
theorem FVs.dvs{O:Addr->Prop}{H:Hp}:∀{vs:List V}{ds:List D},FVs K O H vs ds->D.plains ds=true->DVs K H vs (D.pys ds)
 | _,_,.nil,_=>.nil
 | _,_,.cons a b,p=>by
  have p:(_ && _)=true:=p;rw [and_eq_true] at p;exact .cons (FV.dv a p.1) (FVs.dvs b p.2)
end
def FVc.dv{O:Addr->Prop}{H:Hp}{v:V}{d:D}(h:FVc K O H v d)(p:d.plain=true):DV K H v d.py:=by
 rcases h with h|⟨a,xs,ds',rfl,rfl,e3,f⟩|⟨a,dx,c,fs,ns,ds',e1,rfl,_⟩
 .exact h.dv p
 .exact .lst (SqL.of e3) (f.dvs p)
 .cases p
noncomputable def Ei(K:a_)(neg:Bool):R2:=λx y H Q=>rI0 (λi j=>.bl (if neg then !decide (i=j) else decide (i=j))) x y H Q\/(∃i j,x=.str (S i)/\y=.str (S j)/\Q (.bl (if neg then !decide (i=j) else decide (i=j))) H)\/Gb K neg x y H Q
def Ig(K:a_)(e:X.K=K)(hu:X.A.units+64<cLine):OpR X (compareOp .Eq) (Ei K false):=by
 subst e;exact OpR.or D2 (OpR.or D0 (DX hu))
def Ih(K:a_)(e:X.K=K)(hu:X.A.units+64<cLine):OpR X (compareOp .NotEq) (Ei K true):=by
 subst e;exact OpR.or D3 (OpR.or D1 (DY hu))
noncomputable def rZ(a b:D):Prop:=a.plain=true/\b.plain=true/\JJ a.py=true/\JJ b.py=true
def deq(a b:D):Bool:=Ld a.py b.py
noncomputable def fEq:F2
 | .int i,.int j,Q=>Q (.dat (.bl (decide (i=j))))
 | .str i,.str j,Q=>Q (.dat (.bl (decide (i=j))))
 | a,b,Q=>rZ a b/\Q (.dat (.bl (deq a b)))
noncomputable def fNe:F2
 | .int i,.int j,Q=>Q (.dat (.bl (!decide (i=j))))
 | .str i,.str j,Q=>Q (.dat (.bl (!decide (i=j))))
 | a,b,Q=>rZ a b/\Q (.dat (.bl (!deq a b)))
def Gy:LO K (Ei K false) fEq:=by
 intro O H x y a b Q Q' dom fx fy q k;unfold fEq at q
 split at q
 .rename_i i j;exact .inl ⟨i,j,fx.int,fy.int,k _ H _ q (Gr.refl _) (.bl _)⟩
 .rename_i i j;exact .inr (.inl ⟨i,j,fx.str.1,fy.str.1,k _ H _ q (Gr.refl _) (.bl _)⟩)
 .exact .inr (.inr ⟨_,_,fx.dv q.1.1,fy.dv q.1.2.1,q.1.2.2.1,q.1.2.2.2,k _ H _ q.2 (Gr.refl _) (.bl _)⟩)
def Gz:LO K (Ei K true) fNe:=by
 intro O H x y a b Q Q' dom fx fy q k;unfold fNe at q
 split at q
 .rename_i i j;exact .inl ⟨i,j,fx.int,fy.int,k _ H _ q (Gr.refl _) (.bl _)⟩
 .rename_i i j;exact .inr (.inl ⟨i,j,fx.str.1,fy.str.1,k _ H _ q (Gr.refl _) (.bl _)⟩)
 .exact .inr (.inr ⟨_,_,fx.dv q.1.1,fy.dv q.1.2.1,q.1.2.2.1,q.1.2.2.2,k _ H _ q.2 (Gr.refl _) (.bl _)⟩)
noncomputable def D.fl:D->Bool
 | .non=>true|.bl _=>true|.int _=>true|.str _=>true
 | _=>false
noncomputable def eqF:D->D->Bool
 | .non,.non=>true
 | .bl a,.bl b=>a == b
 | .bl a,.int b=>(if a then 1 else 0) == b
 | .int a,.bl b=>a == (if b then 1 else 0)
 | .int a,.int b=>a == b
 | .str a,.str b=>a == b
 | _,_=>false
noncomputable def inD(x:D)(xs:List D):Bool:=xs.any λy=>eqF y x
def FV.fl{O:Addr->Prop}{H:Hp}{v:V}{d:D}(h:FV K O H v d)(f:d.fl=true):ml v=true:=by cases h <;> first|rfl|cases f
def Ej(a b:List Nat):(S a == S b)=(a == b):=by
 by_cases h:a=b
 .subst h;rw [beq_self_eq_true,beq_self_eq_true]
 .rw [beq_eq_false_iff_ne.mpr h,beq_eq_false_iff_ne.mpr (HY h)]
def FV.eqF{O:Addr->Prop}{H:Hp}{v w:V}{d e:D}(h:FV K O H v d)(f:d.fl=true)(h':FV K O H w e)(f':e.fl=true):eqV v w=L2.eqF d e:=by
 cases h <;> first|(cases f;done)|(cases h' <;> first|(cases f';done)|rfl|exact Ej _ _)
theorem FVs.inD{O:Addr->Prop}{H:Hp}{v:V}{d:D}(h:FV K O H v d)(f:d.fl=true):∀{xs:List V}{ds:List D},FVs K O H xs ds->ds.all D.fl=true->xs.all ml=true/\inV v xs=L2.inD d ds
 | _,_,.nil,_=>⟨rfl,rfl⟩
 | _,_,.cons a b,g=>by
  rw [all_cons,and_eq_true] at g;obtain⟨i1,i2⟩:=b.inD h f g.2;refine⟨by rw [all_cons,a.fl g.1,i1];rfl,?_⟩;unfold inV L2.inD at i2 ⊢;rw [any_cons,any_cons,i2,a.eqF g.1 h f]
noncomputable def fIn(neg:Bool):F2
 | a,.lst ds,Q=>(a.fl=true/\ds.all D.fl=true)/\Q (.dat (.bl (if neg then !inD a ds else inD a ds)))
 | a,.tup ds,Q=>(a.fl=true/\ds.all D.fl=true)/\Q (.dat (.bl (if neg then !inD a ds else inD a ds)))
 | _,_,_=>False
def FVc.fl{O:Addr->Prop}{H:Hp}{v:V}{d:D}(h:FVc K O H v d)(f:d.fl=true):FV K O H v d:=h.fv (λ_ z=>by rw [z] at f;cases f) (λ_ _ _ z=>by rw [z] at f;cases f)
def Ii(K:a_)(e:X.K=K):OpR X (compareOp .In) (rIn K false):=by subst e;exact wx
def B0(K:a_)(e:X.K=K):OpR X (compareOp .NotIn) (rIn K true):=by subst e;exact qk
def Ek{neg:Bool}:LO K (rIn K neg) (fIn neg):=by
 intro O H x y a b Q Q' dom fx fy q k;unfold fIn at q
 split at q
 .obtain⟨p,xs,rfl,e1,f1⟩:=fy.lst;obtain⟨g1,g2⟩:=f1.inD (fx.fl q.1.1) q.1.1 q.1.2;exact⟨p,xs,rfl,.inl (SqL.of e1),(fx.fl q.1.1).fl q.1.1,g1,by rw [g2];exact k _ H _ q.2 (Gr.refl _) (.bl _)⟩
 .obtain⟨p,xs,rfl,n1,e1,f1⟩:=fy.tup;obtain⟨g1,g2⟩:=f1.inD (fx.fl q.1.1) q.1.1 q.1.2;exact⟨p,xs,rfl,.inr (SqT.of e1),(fx.fl q.1.1).fl q.1.1,g1,by rw [g2];exact k _ H _ q.2 (Gr.refl _) (.bl _)⟩
 .exact q.elim
noncomputable def wW(K:a_):R2:=λx y H Q=>Hk K x y H Q\/Hl K x y H Q\/DZ x y H Q
def ef(K:a_)(e:X.K=K):IxR X (wW K):=by
 subst e;exact IxR.or BA (IxR.or DK BG)
noncomputable def fIx:F2
 | .lst ds,.int i,Q=>∃d,atI ds i=some d/\Q (.dat d)
 | .tup ds,.int i,Q=>∃d,atI ds i=some d/\Q (.dat d)
 | .scr ns,.int i,Q=>∃d,atI ns i=some d/\Q (.dat (.int d))
 | .str l,.int i,Q=>∃c,atI l i=some c/\Q (.dat (.str [c]))
 | _,_,_=>False
def FVs.atI{O:Addr->Prop}{H:Hp}{vs:List V}{ds:List D}{i:Int}{d:D}(f:FVs K O H vs ds)(h:L2.atI ds i=some d):∃v,L2.atI vs i=some v/\FV K O H v d:=by
 unfold L2.atI at h ⊢;rw [f.length]
 cases e:ixN ds.length i with
 | none=>rw [e] at h;cases h
 | some j=>rw [e] at h;exact f.getD h
def bz:LO K (wW K) fIx:=by
 intro O H x y a b Q Q' dom fx fy q k;unfold fIx at q
 split at q
 .obtain⟨d,hd,q⟩:=q;obtain⟨p,xs,rfl,e1,f1⟩:=fx.lst;obtain⟨v,hv,fv⟩:=f1.atI hd;exact .inl ⟨p,xs,_,v,rfl,fy.int,SqL.of e1,hv,k _ H _ q (Gr.refl _) fv⟩
 .obtain⟨d,hd,q⟩:=q;obtain⟨p,xs,rfl,n1,e1,f1⟩:=fx.tup;obtain⟨v,hv,fv⟩:=f1.atI hd;exact .inr (.inl ⟨p,xs,_,v,rfl,fy.int,SqT.of e1,hv,k _ H _ q (Gr.refl _) fv⟩)
 .obtain⟨d,hd,q⟩:=q;obtain⟨p,rfl,e1⟩:=fx.scr;exact .inl ⟨p,_,_,_,rfl,fy.int,e1,BI hd,k _ H _ q (Gr.refl _) (.int d)⟩
 .obtain⟨c,hc,q⟩:=q;exact .inr (.inr ⟨_,_,c,fx.str.1,fy.int,sz _ fx.str.2,hc,k _ H _ q (Gr.refl _) (.str _ (by show 1<=1000000;decide))⟩)
 .exact q.elim
end
end L2
namespace L2
open PySem PySem.Spec PyProof.Rows _root_.HT
section
variable {prog:pj}{w:World}{A:v_}{E:Value->cy->Prop}{s:cy}
def jC{t sl:Addr}{items:Array Value}{vl vu:Value}{lo hi:Option Int}{Q:Value->cy->Prop}(ht:IsTup s.heap t items)(hs:s.heap.IsSliceOf sl vl vu .none)(pl:MD vl lo)(pu:MD vu hi)
  (hw:sIx items.size 0 lo=0/\sIx items.size items.size hi=items.size)
  (h:Q (.ref t) s):wpAny (model prog w) A (getItem (.ref t) (.ref sl)) Q E s:=by
 obtain⟨os,hos,hcs,hds⟩:=id hs;have hTs:s.TypeIs (.ref sl) "slice":=⟨os,hos,hcs⟩
 unfold getItem
 try with_reducible refine G_ ?_
 first|refine b_ (f_ ?_)|skip
 refine b_ (wpAny_sequenceKey ht.typeIs (by decide) ?_)
 refine b_ (Ja (name:=Ks "__getitem__") ht.typeIs IQ
  (Jq IQ ht.typeIs entry_tuple_getitem ?_ (args_tuple_getitem _ _)))
 show wpAny _ _ (L0 (.ref t) >>= _) _ _ s;refine b_ (tupleItemsOf_ ht ?_);refine b_ (LL hTs ?_);rw [if_pos (by decide)];refine b_ (fV hs pl pu ?_)
 have hyes:(((sIx items.size 0 lo:Nat):Int) == 0 && (1:Int) == 1 && (sIx items.size items.size hi - sIx items.size 0 lo) == items.size)=true:=by
  rw [hw.1,hw.2,LN];simp
 show wpAny _ _ (if (((sIx items.size 0 lo:Nat):Int) == 0 && (1:Int) == 1 && (sIx items.size items.size hi - sIx items.size 0 lo) == items.size)=true then _ else _) _ _ s;rw [if_pos hyes];refine b_ (m:=Builtin.Tuple.tupleIsExact _) (b_ (LL ht.typeIs (f_ ?_)));rw [if_pos (by decide)]
 first
  | exact b_ (m:=rule _) (f_ (f_ ⟨_,rfl,f_ h⟩))
  | exact f_ ⟨_,rfl,f_ h⟩
  | exact b_ (L3 (f_ ⟨_,rfl,f_ h⟩))
noncomputable def El(K:a_):V->Option Int->Option Int->Hp->VK->Prop:=λx lo hi H Q=>∃a xs,x=.ref a/\SqT K H a xs/\(sIx xs.length 0 lo=0/\sIx xs.length xs.length hi=xs.length)/\Q (.ref a) H
def B1{X:Cx}:SlR X (El X.K):=by
 intro pins s σ H x v vl vu lo hi sl Q I rx hs pl pu h;obtain⟨a,xs,rfl,hx,hw,q⟩:=h;cases rx;obtain⟨its,r,ht,hz⟩:=I.tuple hx;have hlen:its.toArray.size=xs.length:=by rw [size_toArray];exact r.length.symm
 refine⟨"tuple",_,IQ.lookup,ht.typeIs,?_⟩;exact jC ht hs pl pu (by rw [hlen];exact hw) ⟨.ref a,H,I,rfl,q⟩
end
end L2
namespace L2
open PySem PySem.Spec PyProof.Rows
section
variable {K:a_}{X:Cx}{ta tb tc to:TE}{pa pb pc:PA1}{pe:PTE}{tr:TA}{pr:PTA}
noncomputable def wX(f f':F2)(pa pb pc:PA1):PTE:=λρ Q=>pa ρ λx ρ1=>pb ρ1 λy ρ2=>op2 f ρ2 x y λp ρ3=>match p with
 | .dat (.bl k)=>iX k (pc ρ3 λz ρ4=>op2 f' ρ4 y z Q) (Q (.dat (.bl false)) ρ3)
 | _=>False
def oh{r r':R2}{f f':F2}(o:LO K r f)(o':LO K r' f')(ha:LA1 K ta pa)(hb:LA1 K tb pb)(hc:LA1 K tc pc):LE K (ua r r' ta tb tc) (wX f f' pa pb pc):=λA ρ σ H Q Q' R q k =>
 ha A ρ σ H _ _ R q λv H1 a ρ1 q1 f1 R1 o1=>hb A ρ1 σ H1 _ _ R1 q1 λw H2 b ρ2 q2 f2 R2 o2=>by
  unfold op2 at q2
  split at q2
  .rename_i da db e1 e2;refine o _ H2 v w da db _ _ R2.dom2 (R2.cont (o1.keeps f2.keeps) e1) (R2.cont o2 e2) q2 λz H3 p q3 g ov=>?_;dsimp only at q3
   split at q3
   .rename_i c;cases ov;refine⟨c,rfl,?_⟩;have R3:=R2.gr g
    cases c with
    | true =>
     refine hc A ρ2 σ H3 _ _ R3 q3 λu H4 cc ρ4 q4 f4 R4 o4=>?_
     try unfold op2 at q4
     split at q4
     .rename_i dc dd e3 e4;have o2':AOk K (OO A ρ4 σ) σ H4 b w:=(o2.keeps (g.fr (ρ:=ρ2) (σ:=σ)).keeps).keeps f4.keeps;exact o' _ H4 w u _ _ _ _ R4.dom2 (R4.cont o2' e3) (R4.cont o4 e4) q4 λz H5 p q5 g5 ov=>k z H5 p ρ4 q5 ((((f1.trans f2).trans g.fr).trans f4).trans g5.fr) ((ov.out R4 g5).h0 λb z=>f4.dm b ((g.fr (ρ:=ρ2) (σ:=σ)).dm b (f2.dm b (f1.dm b z))))
     .exact q4.elim
    | false=>exact k _ H3 _ ρ2 q3 ((f1.trans f2).trans g.fr) ⟨R3,.bl false⟩
   .exact q3.elim
  .exact q2.elim
abbrev PTO:=PSt->(Option Int->PSt->Prop)->Prop
noncomputable def LPo(K:a_)(t:TO)(p:PTO):Prop:=∀(A:Addr->Prop) (ρ:PSt) (σ:St) (H:Hp) (Q:Option Int->PSt->Prop) (Q':Option Int->Hp->Prop),Rel K A ρ σ H->p ρ Q ->
 (∀b H' ρ',Q b ρ'->Fr ρ σ H ρ' H'->Rel K A ρ' σ H'->Q' b H')->t σ H Q'
def Em:PTO:=λρ Q=>Q none ρ
noncomputable def En(pe:PTE):PTO:=λρ Q=>pe ρ λp ρ1=>match p with
 | .dat (.int i)=>Q (some i) ρ1
 | _=>False
def aZ:LPo K rP Em:=λA ρ σ H Q Q' R q k=>k none H ρ q (Fr.refl _ _ _) R
def aO(h:LE K ta pe):LPo K (ww ta) (En pe):=λA ρ σ H Q Q' R q k=>h A ρ σ H _ _ R q λv H1 p ρ1 q1 f1 o1=>by
 split at q1
 .rename_i i;obtain⟨R1,f⟩:=o1;cases f;exact⟨i,rfl,k _ H1 ρ1 q1 f1 R1⟩
 .exact q1.elim
noncomputable def Ep(K:a_):V->Option Int->Option Int->Hp->VK->Prop:=λx lo hi H Q=>Hm K x lo hi H Q\/Ho x lo hi H Q\/Hj K x lo hi H Q\/El K x lo hi H Q
def kc(K:a_)(e:X.K=K):SlR X (Ep K):=by
 subst e;exact SlR.or BB (SlR.or DU (SlR.or DI B1))
noncomputable def fSl:D->Option Int->Option Int->(PV->Prop)->Prop
 | .lst ds,lo,hi,Q=>Q (.own (cQ ds lo hi))
 | .scr ns,lo,hi,Q=>Q (.own ((cQ ns lo hi).map .int))
 | .str l,lo,hi,Q=>Q (.dat (.str (cQ l lo hi)))
 | .tup ds,lo,hi,Q=>Q (.dat (.tup (cQ ds lo hi)))
 | _,_,_,_=>False
def FVs.cut{O:Addr->Prop}{H:Hp}{xs:List V}{ds:List D}(f:FVs K O H xs ds)(lo hi:Option Int):FVs K O H (cQ xs lo hi) (cQ ds lo hi):=by
 unfold cQ;rw [f.length];exact (f.drop _).take _
noncomputable def Es(pa:PA1)(pl ph:PTO):PTE:=λρ Q=>pa ρ λx ρ1=>pl ρ1 λlo ρ2=>ph ρ2 λhi ρ3=>match cont ρ3 x with
 | some d=>fSl d lo hi λp=>Q p ρ3
 | _=>False
def B2{α:Type}{ds:List α}{lo hi:Option Int}{n:Nat}(h:n=ds.length)(hw:HT.sIx n 0 lo=0/\HT.sIx n n hi=n):cQ ds lo hi=ds:=by
 subst h;unfold cQ;rw [hw.1,hw.2,drop_zero,LN,take_length]
def lsl{O:Addr->Prop}{H:Hp}{x:V}{d:D}{lo hi:Option Int}{Q:PV->Prop}{Q':VK}(dom:∀b,O b->H b≠none)(fx:FVc K O H x d)(q:fSl d lo hi Q)(k:∀v H' p,Q p->Gr H H'->ul K O H H' p v->Q' v H'):Ep K x lo hi H Q':=by
 unfold fSl at q
 split at q
 .obtain⟨a,xs,rfl,e1,f1⟩:=fx.lst;exact .inl ⟨a,xs,rfl,SqL.of e1,λp hp=>k _ _ _ q (Gr.new hp) (dw hp (f1.cut _ _))⟩
 .obtain⟨a,rfl,e1⟩:=fx.scr;exact .inl ⟨a,_,rfl,e1,λp hp=>k _ _ _ q (Gr.new hp) (dw hp (by rw [wC,yX];exact FVs.of_ints _))⟩
 .exact .inr (.inl ⟨_,fx.str.1,sz _ fx.str.2,k _ H _ q (Gr.refl _) (.str _ (IG (bd _ _ _) fx.str.2))⟩)
 .obtain⟨a,xs,rfl,n1,e1,f1⟩:=fx.tup
  by_cases hw:HT.sIx xs.length 0 lo=0/\HT.sIx xs.length xs.length hi=xs.length
  .refine .inr (.inr (.inr ⟨a,xs,rfl,SqT.of e1,hw,k _ H _ q (Gr.refl _) ?_⟩));rw [B2 f1.length hw];exact .tup n1 e1 f1
  .exact .inr (.inr (.inl ⟨a,xs,rfl,SqT.of e1,hw,λp hp=>k _ _ _ q (Gr.new hp) (n9 dom hp (f1.cut _ _))⟩))
 .exact q.elim
def aR{tl th:TO}{pl ph:PTO}(ha:LA1 K ta pa)(hl:LPo K tl pl)(hh:LPo K th ph):LE K (tSl (Ep K) ta tl th) (Es pa pl ph):=λA ρ σ H Q Q' R q k =>
 ha A ρ σ H _ _ R q λv H1 a ρ1 q1 f1 R1 o1=>hl A ρ1 σ H1 _ _ R1 q1 λlo H2 ρ2 q2 f2 R2=>hh A ρ2 σ H2 _ _ R2 q2 λhi H3 ρ3 q3 f3 R3=>by
  split at q3
  .rename_i d e1;exact lsl R3.dom2 (R3.cont (o1.keeps (f2.trans f3).keeps) e1) q3 λz H4 p q4 g ov=>k z H4 p ρ3 q4 (((f1.trans f2).trans f3).trans g.fr) ((ov.out R3 g).h0 λb z=>f3.dm b (f2.dm b (f1.dm b z)))
  .exact q3.elim
abbrev FN:=List D->(PV->Prop)->Prop
noncomputable def k8(K:a_):List V->Hp->VK->Prop:=λxs H Q=>(∃l,xs=[.str (S l)]/\l.length<=sizeLine/\Q (.int l.length) H)\/Gg K xs H Q\/Gh K xs H Q\/∃p kvs,xs=[.ref p]/\Rd H p (.dK kvs)/\Q (.int kvs.length) H
def bG(K:a_)(e:X.K=K):bo X (.builtin "len") (k8 K):=by
 subst e;exact bo.or wI (bo.or wJ (bo.or wK wP))
noncomputable def Dd:FN
 | [.str l],Q=>Q (.dat (.int l.length))
 | [.lst l],Q=>Q (.dat (.int l.length))
 | [.tup l],Q=>Q (.dat (.int l.length))
 | [.scr l],Q=>Q (.dat (.int l.length))
 | [.dic ks _],Q=>Q (.dat (.int ks.length))
 | _,_=>False
def aY:LC K (k8 K) Dd:=by
 intro O H xs as Q Q' dom fs q k;unfold Dd at q
 split at q
 .cases fs with|cons a b=>cases b;rw [a.str.1];exact .inl ⟨_,rfl,sz _ a.str.2,k _ H _ q (Gr.refl _) (.int _)⟩
 .cases fs with
  | cons a b =>
   cases b;obtain⟨p,ys,rfl,e1,f1⟩:=a.lst;exact .inr (.inl ⟨p,ys,rfl,SqL.of e1,by rw [f1.length];exact k _ H _ q (Gr.refl _) (.int _)⟩)
 .cases fs with
  | cons a b =>
   cases b;obtain⟨p,ys,rfl,n1,e1,f1⟩:=a.tup;exact .inr (.inr (.inl ⟨p,ys,rfl,SqT.of e1,by rw [f1.length];exact k _ H _ q (Gr.refl _) (.int _)⟩))
 .cases fs with
  | cons a b =>
   cases b;obtain⟨p,rfl,e1⟩:=a.scr;exact .inr (.inl ⟨p,_,rfl,e1,by rw [length_map];exact k _ H _ q (Gr.refl _) (.int _)⟩)
 .cases fs with
  | cons a b =>
   cases b
   cases a.fv nofun nofun with
   | dic n e m f=>subst m;exact .inr (.inr (.inr ⟨_,_,rfl,.inl e,k _ H _ q (Gr.refl _) (by rw [length_map];exact .int _)⟩))
 .exact q.elim
inductive Kd where
 | int|bool|str|list|tuple|dict
noncomputable def Kd.nm:Kd->String
 | .int=>"int"|.bool=>"bool"|.str=>"str"|.list=>"list"|.tuple=>"tuple"|.dict=>"dict"
noncomputable def isK:Kd->D->Bool
 | .int,.int _=>true
 | .int,.bl _=>true
 | .bool,.bl _=>true
 | .str,.str _=>true
 | .list,.lst _=>true
 | .tuple,.tup _=>true
 | .dict,.dic _ _=>true
 | _,_=>false
noncomputable def D.sort:D->Bool
 | .obj _ _ _=>false
 | .exc _ _ _=>false
 | .scr _=>false
 | .ty _=>false
 | _=>true
def FVc.ty{O:Addr->Prop}{H:Hp}{v:V}{d:D}(h:FVc K O H v d)(s:d.sort=true):∃t,p9 K H v t/\∀k:Kd,IK K t (.type k.nm)=some (isK k d):=by
 rcases h with h|⟨a,xs,ds',rfl,rfl,e3,f⟩|⟨a,dx,c,fs,ns,ds',rfl,rfl,_⟩
 .cases h with
  | non=>exact⟨_,.non,λk=>by cases k <;> rfl⟩
  | bl b=>exact⟨_,.bl b,λk=>by cases k <;> rfl⟩
  | int i=>exact⟨_,.int i,λk=>by cases k <;> rfl⟩
  | str l h=>exact⟨_,.str _,λk=>by cases k <;> rfl⟩
  | ty n=>cases s
  | scr _=>cases s
  | lst n e f=>exact⟨_,.lst e,λk=>by cases k <;> rfl⟩
  | tup n e f=>exact⟨_,.tup e,λk=>by cases k <;> rfl⟩
  | dic n e m f=>exact⟨_,.dK e,λk=>by cases k <;> rfl⟩
  | obj _ _ _ _=>cases s
  | exc0 _ _=>cases s
  | exc1 _ _ _ _ _ _=>cases s
 .exact⟨_,.lst e3,λk=>by cases k <;> rfl⟩
 .cases s
def r0(K:a_)(e:X.K=K):bo X (.builtin "isinstance") (Hr K):=by subst e;exact rS
noncomputable def Hs(k:Kd)(pa:PA1):PTE:=λρ Q=>pa ρ λx ρ1=>match cont ρ1 x with
 | some d=>iX d.sort (Q (.dat (.bl (isK k d))) ρ1) False
 | _=>False
def k9(k:Kd)(ha:LA1 K ta pa):LE K (tCB (Hr K) (aU ta (aU (tC (.ty k.nm)) dQ))) (Hs k pa):=λA ρ σ H Q Q' R q kk =>
 ha A ρ σ H _ _ R q λv H1 a ρ1 q1 f1 R1 o1=>by
  split at q1
  .rename_i d e1
   cases hs:d.sort with
   | false=>rw [hs] at q1;exact q1.elim
   | true =>
    rw [hs] at q1;obtain⟨t,ty,hk⟩:=(R1.cont o1 e1).ty hs;exact⟨v,k.nm,t,isK k d,rfl,ty,hk k,kk _ H1 _ ρ1 q1 f1 ⟨R1,.bl _⟩⟩
  .exact q1.elim
noncomputable def Ht(K:a_):List V->Hp->VK->Prop:=λxs H Q=>∃(x:V) (p:Addr) (ts:List String) (t:Value) (b:Bool),xs=[x,.ref p]/\p9 K H x t/\H p=some (.tup (ts.map V.ty))/\JQ K t (ts.map Jx)=some b/\Q (.bl b) H
def Et(K:a_)(e:X.K=K):bo X (.builtin "isinstance") (Ht K):=by subst e;exact qE
noncomputable def Ij(k l:Kd)(pa:PA1):PTE:=λρ Q=>pa ρ λx ρ1=>match cont ρ1 x with
 | some d=>iX d.sort (Q (.dat (.bl (isK k d || isK l d))) ρ1) False
 | _=>False
def FVc.keeps{O O':Addr->Prop}{H H':Hp}{v:V}{d:D}(k:aL O H O' H')(g:Gr H H')(h:FVc K O H v d):FVc K O' H' v d:=by
 rcases h with h|⟨a,xs,ds',e1,e2,e3,f⟩|⟨a,dx,c,fs,ns,ds',e1,e2,e3,m,f⟩
 .exact .inl (h.keeps k)
 .exact .inr (.inl ⟨a,xs,ds',e1,e2,g _ _ e3,f.keeps k⟩)
 .exact .inr (.inr ⟨a,dx,c,fs,ns,ds',e1,e2,g _ _ e3,m,f.keeps k⟩)
def Ag(k l:Kd)(hkl:∀t b c,IK K t (.type k.nm)=some b->IK K t (.type l.nm)=some c->JQ K t [.type k.nm,.type l.nm]=some (b || c))(ha:LA1 K ta pa):LE K (tCB (Ht K) (aU ta (aU (DG (aU (tC (.ty k.nm)) (aU (tC (.ty l.nm)) dQ))) dQ))) (Ij k l pa):=λA ρ σ H Q Q' R q kk =>
 ha A ρ σ H _ _ R q λv H1 a ρ1 q1 f1 R1 o1=>by
  split at q1
  .rename_i d e1
   cases hs:d.sort with
   | false=>rw [hs] at q1;exact q1.elim
   | true =>
    rw [hs] at q1;refine⟨by show 2<=sizeLine;decide,λp hp=>?_⟩;have g:Gr H1 (upd H1 p (.tup [V.ty k.nm,V.ty l.nm])):=Gr.new hp;obtain⟨t,ty,hk⟩:=((R1.cont o1 e1).keeps (g.fr (ρ:=ρ1) (σ:=σ)).keeps g).ty hs;exact⟨v,p,[k.nm,l.nm],t,_,rfl,ty,aB,hkl _ _ _ (hk k) (hk l),kk _ _ _ ρ1 q1 (f1.trans g.fr) ⟨R1.gr g,.bl _⟩⟩
  .exact q1.elim
end
structure zj where
 nx:PSt->Prop
 rt:PV->PSt->Prop
 bk:PSt->Prop:=λ_=>False
 ct:PSt->Prop:=λ_=>False
abbrev PTS:=zj->PSt->Prop
structure cw (fx:List (Nat×V)) (R:Addr->Prop) (H0:Hp) (ρ:PSt) (σ:St) (H:Hp):Prop where
 kp:∀b o,¬ R b->H0 b=some o->H b=some o
 dm:∀b,H0 b≠none->H b≠none
 ow:∀b,Wr ρ σ b->R b\/H0 b=none
 fx:∀p∈fx,σ[p.1]?=some (some p.2)
section
variable {K:a_}{fx:List (Nat×V)}{A R:Addr->Prop}{H0 H H':Hp}{ρ ρ':PSt}{σ:St}
def cw.fr(F:cw fx R H0 ρ σ H)(f:Fr ρ σ H ρ' H'):cw fx R H0 ρ' σ H' :=
 ⟨λb o n e=>f.kp b o (λw=>(F.ow b w).elim n (λz=>by rw [z] at e;cases e)) (F.kp b o n e),λb z=>f.dm b (F.dm b z),λb w=>F.ow b (f.ow b w),F.fx⟩
def cw.start(hfx:∀p∈fx,σ[p.1]?=some (some p.2)):cw fx (Wr ρ σ) H ρ σ H:=⟨λ_ _ _ h=>h,λ_ h=>h,λ_ h=>.inl h,hfx⟩
def cw.keepsR{ρ1:PSt}{σ1:St}{H1:Hp}(F:cw fx R H1 ρ σ H)(hR:∀b,R b->OO A ρ1 σ1 b):aL (OO A ρ1 σ1) H1 (OO A ρ σ) H:=λb o n e=>by
 refine⟨λz=>?_,F.kp b o (λz=>n (hR b z)) e⟩
 rcases z with z|z
 .exact n (.inl z)
 .rcases F.ow b z with z|z
  .exact n (hR b z)
  .rw [z] at e;cases e
def cw.keeps{ρ1:PSt}{σ1:St}{H1:Hp}(F:cw fx (Wr ρ1 σ1) H1 ρ σ H):aL (OO A ρ1 σ1) H1 (OO A ρ σ) H:=F.keepsR λb z=>.inr z
def cw.trans{fx':List (Nat×V)}{ρ1:PSt}{σ1:St}{H1:Hp}(F:cw fx R H0 ρ1 σ1 H1)(G:cw fx' (Wr ρ1 σ1) H1 ρ σ H)(hfx:∀p∈fx,σ[p.1]?=some (some p.2)):cw fx R H0 ρ σ H:=by
 refine⟨λb o n e=>G.kp b o (λw=>(F.ow b w).elim n (λz=>by rw [z] at e;cases e)) (F.kp b o n e),λb z=>G.dm b (F.dm b z),λb w=>?_,hfx⟩
 rcases G.ow b w with z|z
 .exact F.ow b z
 .refine .inr ?_
  cases e:H0 b with
  | none=>rfl
  | some o=>exact absurd z (F.dm b (by rw [e];exact nofun))
def Out.put{p:PV}{v:V}{i:Nat}(h:Out K A ρ σ H0 H p v):Rel K A (ρ.set i (some p)) (σ.set i (some v)) H/\∀b,Wr (ρ.set i (some p)) (σ.set i (some v)) b->Wr ρ σ b\/H0 b=none:=by
 have get:∀(j:Nat) (q:PV),(ρ.set i (some p))[j]?=some (some q)->(j=i/\q=p/\i<ρ.length)\/(j≠i/\ρ[j]?=some (some q)):=λj q e=>by
  by_cases z:i=j
  .subst z
   by_cases hi:i<ρ.length
   .rw [p_ hi] at e;cases e;exact .inl ⟨rfl,rfl,hi⟩
   .rw [we (by rw [Jc];omega)] at e;cases e
  .rw [n_ z] at e;exact .inr ⟨λq=>z q.symm,e⟩
 cases p with
 | dat d =>
  obtain⟨R1,f⟩:=h
  have ow:∀b,Wr (ρ.set i (some (.dat d))) (σ.set i (some v)) b->Wr ρ σ b:=λb ⟨j,r,e1,o1,s1⟩=>by
   rcases get j r e1 with ⟨_,rfl,_⟩|⟨n,e⟩
   .cases o1
   .rw [n_ (λz=>n z.symm)] at s1;exact⟨j,r,e,o1,s1⟩
  have k:aL (OO A ρ σ) H (OO A (ρ.set i (some (.dat d))) (σ.set i (some v))) H:=aL.less λb z=>z.imp id (ow b)
  refine⟨⟨by rw [Jc,Jc];exact R1.len,λj r e1=>?_,λj l p1 q1 v' e1 e2 o1 o2 s1 s2=>?_,R1.dom,λb z w=>R1.sep b z (ow b w)⟩,λb w=>.inl (ow b w)⟩
  .rcases get j r e1 with ⟨rfl,rfl,hi⟩|⟨n,e⟩
   .exact⟨v,p_ (by rw [<- R1.len];exact hi),f.keeps k⟩
   .obtain⟨u,s,r'⟩:=R1.get j r e;exact⟨u,by rw [n_ (λz=>n z.symm)];exact s,r'.keeps k λ_ _ _=>rfl⟩
  .rcases get j p1 e1 with ⟨_,rfl,_⟩|⟨n1,e1⟩
   .cases o1
   .rcases get l q1 e2 with ⟨_,rfl,_⟩|⟨n2,e2⟩
    .cases o2
    .rw [n_ (λz=>n1 z.symm)] at s1;rw [n_ (λz=>n2 z.symm)] at s2;exact R1.dj j l p1 q1 v' e1 e2 o1 o2 s1 s2
 | own ds =>
  obtain⟨a,xs,rfl,na,hn,e0,R1,f⟩:=h
  have ow:∀b,Wr (ρ.set i (some (.own ds))) (σ.set i (some (.ref a))) b->Wr ρ σ b\/b=a:=λb ⟨j,r,e1,o1,s1⟩=>by
   rcases get j r e1 with ⟨rfl,rfl,hi⟩|⟨n,e⟩
   .rw [p_ (by rw [<- R1.len];exact hi)] at s1;cases s1;exact .inr rfl
   .rw [n_ (λz=>n z.symm)] at s1;exact .inl ⟨j,r,e,o1,s1⟩
  have k:aL (OO (eQ A a) ρ σ) H (OO A (ρ.set i (some (.own ds))) (σ.set i (some (.ref a)))) H:=aL.less λb z=>by
   rcases z with z|z
   .exact .inl (.inl z)
   .rcases ow b z with z|z
    .exact .inr z
    .exact .inl (.inr z)
  refine⟨⟨by rw [Jc,Jc];exact R1.len,λj r e1=>?_,λj l p1 q1 v' e1 e2 o1 o2 s1 s2=>?_,λb z=>R1.dom b (.inl z),λb z w=>?_⟩,λb w=>(ow b w).imp id λz=>by rw [z];exact hn⟩
  .rcases get j r e1 with ⟨rfl,rfl,hi⟩|⟨n,e⟩
   .exact⟨_,p_ (by rw [<- R1.len];exact hi),a,xs,rfl,e0,f.keeps k⟩
   .obtain⟨u,s,r'⟩:=R1.get j r e;exact⟨u,by rw [n_ (λz=>n z.symm)];exact s,r'.keeps k λ_ _ _=>rfl⟩
  .rcases get j p1 e1 with ⟨rfl,rfl,hi⟩|⟨n1,e1'⟩
   .rw [p_ (by rw [<- R1.len];exact hi)] at s1;cases s1
    rcases get l q1 e2 with ⟨rfl,rfl,_⟩|⟨n2,e2⟩
    .rfl
    .rw [n_ (λz=>n2 z.symm)] at s2;exact absurd ⟨l,q1,e2,o2,s2⟩ (R1.sep a (.inr rfl))
   .rw [n_ (λz=>n1 z.symm)] at s1
    rcases get l q1 e2 with ⟨rfl,rfl,hi⟩|⟨n2,e2⟩
    .rw [p_ (by rw [<- R1.len];exact hi)] at s2;cases s2;exact absurd ⟨j,p1,e1',o1,s1⟩ (R1.sep a (.inr rfl))
    .rw [n_ (λz=>n2 z.symm)] at s2;exact R1.dj j l p1 q1 v' e1' e2 o1 o2 s1 s2
  .rcases ow b w with w|w
   .exact R1.sep b (.inl z) w
   .rw [w] at z;exact na z
 | ins c ns ds =>
  obtain⟨a,dx,fs,rfl,na,hn,e0,m,R1,f⟩:=h
  have ow:∀b,Wr (ρ.set i (some (.ins c ns ds))) (σ.set i (some (.ref a))) b->Wr ρ σ b\/b=a:=λb ⟨j,r,e1,o1,s1⟩=>by
   rcases get j r e1 with ⟨rfl,rfl,hi⟩|⟨n,e⟩
   .rw [p_ (by rw [<- R1.len];exact hi)] at s1;cases s1;exact .inr rfl
   .rw [n_ (λz=>n z.symm)] at s1;exact .inl ⟨j,r,e,o1,s1⟩
  have k:aL (OO (eQ A a) ρ σ) H (OO A (ρ.set i (some (.ins c ns ds))) (σ.set i (some (.ref a)))) H:=aL.less λb z=>by
   rcases z with z|z
   .exact .inl (.inl z)
   .rcases ow b z with z|z
    .exact .inr z
    .exact .inl (.inr z)
  refine⟨⟨by rw [Jc,Jc];exact R1.len,λj r e1=>?_,λj l p1 q1 v' e1 e2 o1 o2 s1 s2=>?_,λb z=>R1.dom b (.inl z),λb z w=>?_⟩,λb w=>(ow b w).imp id λz=>by rw [z];exact hn⟩
  .rcases get j r e1 with ⟨rfl,rfl,hi⟩|⟨n,e⟩
   .exact⟨_,p_ (by rw [<- R1.len];exact hi),a,dx,fs,rfl,e0,m,f.keeps k⟩
   .obtain⟨u,s,r'⟩:=R1.get j r e;exact⟨u,by rw [n_ (λz=>n z.symm)];exact s,r'.keeps k λ_ _ _=>rfl⟩
  .rcases get j p1 e1 with ⟨rfl,rfl,hi⟩|⟨n1,e1'⟩
   .rw [p_ (by rw [<- R1.len];exact hi)] at s1;cases s1
    rcases get l q1 e2 with ⟨rfl,rfl,_⟩|⟨n2,e2⟩
    .rfl
    .rw [n_ (λz=>n2 z.symm)] at s2;exact absurd ⟨l,q1,e2,o2,s2⟩ (R1.sep a (.inr rfl))
   .rw [n_ (λz=>n1 z.symm)] at s1
    rcases get l q1 e2 with ⟨rfl,rfl,hi⟩|⟨n2,e2⟩
    .rw [p_ (by rw [<- R1.len];exact hi)] at s2;cases s2;exact absurd ⟨j,p1,e1',o1,s1⟩ (R1.sep a (.inr rfl))
    .rw [n_ (λz=>n2 z.symm)] at s2;exact R1.dj j l p1 q1 v' e1' e2 o1 o2 s1 s2
  .rcases ow b w with w|w
   .exact R1.sep b (.inl z) w
   .rw [w] at z;exact na z
end
abbrev PTG:=PV->PSt->(PSt->Prop)->Prop
abbrev Ah:=List D->PSt->(PSt->Prop)->Prop
noncomputable def LG(K:a_)(fs:List Nat)(g:TG)(pg:PTG):Prop:=∀(fx:List (Nat×V)) (A R:Addr->Prop) (H0:Hp) (ρ:PSt) (σ:St) (H:Hp) (p:PV) (v:V) (Q:PSt->Prop) (Q':St->Hp->Prop),fx.map IX=fs->cw fx R H0 ρ σ H->Out K A ρ σ H0 H p v->pg p ρ Q ->
 (∀ρ' σ' H',Q ρ'->Rel K A ρ' σ' H'->cw fx R H0 ρ' σ' H'->Q' σ' H')->g v σ H Q'
noncomputable def LGs(K:a_)(fs:List Nat)(g:TGs)(pg:Ah):Prop:=∀(fx:List (Nat×V)) (A R:Addr->Prop) (H0:Hp) (ρ:PSt) (σ:St) (H:Hp) (ds:List D) (vs:List V) (Q:PSt->Prop) (Q':St->Hp->Prop),fx.map IX=fs->cw fx R H0 ρ σ H->Rel K A ρ σ H->FVs K (OO A ρ σ) H vs ds->pg ds ρ Q ->
 (∀ρ' σ',Q ρ'->Rel K A ρ' σ' H->cw fx R H0 ρ' σ' H->(∀b,Wr ρ' σ' b->Wr ρ σ b)->Q' σ' H)->g vs σ H Q'
noncomputable def LGd(K:a_)(fs:List Nat)(g:TG)(pg:PTG):Prop:=∀(fx:List (Nat×V)) (A R:Addr->Prop) (H0:Hp) (ρ:PSt) (σ:St) (H:Hp) (d:D) (v:V) (Q:PSt->Prop) (Q':St->Hp->Prop),fx.map IX=fs->cw fx R H0 ρ σ H->Rel K A ρ σ H->FV K (OO A ρ σ) H v d->pg (.dat d) ρ Q ->
 (∀ρ' σ',Q ρ'->Rel K A ρ' σ' H->cw fx R H0 ρ' σ' H->(∀b,Wr ρ' σ' b->Wr ρ σ b)->Q' σ' H)->g v σ H Q'
noncomputable def ib(i:Nat):PTG:=λp ρ Q=>Q (ρ.set i (some p))
noncomputable def B3:Ah:=λds ρ Q=>match ds with|[]=>Q ρ|_=>False
noncomputable def uq(g:PTG)(gs:Ah):Ah:=λds ρ Q=>match ds with|d::r=>g (.dat d) ρ λρ1=>gs r ρ1 Q|[]=>False
section
variable {K:a_}{fs:List Nat}
def cw.put{fx:List (Nat×V)}{R:Addr->Prop}{H0 H:Hp}{ρ:PSt}{σ:St}{i:Nat}{p:PV}{v:V}(hf:fx.map IX=fs)(hi:fs.contains i=false)(F:cw fx R H0 ρ σ H)(ow:∀b,Wr (ρ.set i (some p)) (σ.set i (some v)) b->Wr ρ σ b\/H0 b=none):cw fx R H0 (ρ.set i (some p)) (σ.set i (some v)) H :=
 ⟨F.kp,F.dm,λb w=>(ow b w).elim (F.ow b) .inr,λq hq=>by
  have:q.1≠i:=λz=>by
   have h1:i∈fs:=by rw [<- hf,<- z];exact MR hq
   rw [w_.mpr h1] at hi;cases hi
  rw [n_ (λz=>this z.symm)];exact F.fx q hq⟩
def aw{i:Nat}(hi:fs.contains i=false):LG K fs (bS i) (ib i):=λfx A R H0 ρ σ H p v Q Q' hf F o q k=>k _ _ _ q o.put.1 (F.put hf hi o.put.2)
def e9:LGs K fs Dy B3:=λfx A R H0 ρ σ H ds vs Q Q' hf F r fv q k=>by
 unfold B3 at q
 split at q
 .cases fv;exact⟨rfl,k _ _ q r F λ_ h=>h⟩
 .exact q.elim
def ay{i:Nat}(hi:fs.contains i=false):LGd K fs (bS i) (ib i):=λfx A R H0 ρ σ H d v Q Q' hf F r fv q k=>by
 have o:Out K A ρ σ H0 H (.dat d) v:=⟨r,fv⟩
 have ow:∀b,Wr (ρ.set i (some (.dat d))) (σ.set i (some v)) b->Wr ρ σ b:=λb ⟨j,p,e1,o1,s1⟩=>by
  by_cases z:i=j
  .subst z
   by_cases hl:i<ρ.length
   .rw [p_ hl] at e1;cases e1;cases o1
   .rw [we (by rw [Jc];omega)] at e1;cases e1
  .rw [n_ z] at e1 s1;exact⟨j,p,e1,o1,s1⟩
 exact k _ _ q o.put.1 (F.put hf hi o.put.2) ow
def bt{g:TG}{pg:PTG}{gs:TGs}{pgs:Ah}(hg:LGd K fs g pg)(h:LGs K fs gs pgs):LGs K fs (qb g gs) (uq pg pgs):=λfx A R H0 ρ σ H ds vs Q Q' hf F r fv q k=>by
 unfold uq at q
 split at q
 .cases fv with
  | cons a b =>
   exact⟨_,_,rfl,hg fx A R H0 ρ σ H _ _ _ _ hf F r a q λρ1 σ1 q1 r1 F1 w1=>h fx A R H0 ρ1 σ1 H _ _ _ _ hf F1 r1 (b.keeps (aL.less λb z=>z.imp id (w1 b))) q1 λρ2 σ2 q2 r2 F2 w2=>k ρ2 σ2 q2 r2 F2 λb z=>w1 b (w2 b z)⟩
 .exact q.elim
end
noncomputable def LS(K:a_)(fs:List Nat)(ts:TS)(ps:PTS):Prop:=∀(fx:List (Nat×V)) (A R:Addr->Prop) (H0:Hp) (ρ:PSt) (σ:St) (H:Hp) (D:zj) (D':yE),fx.map IX=fs->Rel K A ρ σ H->cw fx R H0 ρ σ H->ps D ρ ->
 (∀ρ' σ' H',D.nx ρ'->Rel K A ρ' σ' H'->cw fx R H0 ρ' σ' H'->D'.nx σ' H') ->
 (∀v p ρ' σ' H',D.rt p ρ'->Out K A ρ' σ' H0 H' p v->cw fx R H0 ρ' σ' H'->D'.rt v H') ->
 (∀ρ' σ' H',D.bk ρ'->Rel K A ρ' σ' H'->cw fx R H0 ρ' σ' H'->D'.bk σ' H') ->
 (∀ρ' σ' H',D.ct ρ'->Rel K A ρ' σ' H'->cw fx R H0 ρ' σ' H'->D'.ct σ' H')->ts D' σ H
def wY:PTS:=λD ρ=>D.nx ρ
noncomputable def mq(a b:PTS):PTS:=λD ρ=>a { D with nx:=b D } ρ
noncomputable def ur(pe:PTE):PTS:=λD ρ=>pe ρ λ_ ρ1=>D.nx ρ1
def B4(pe:PTE):PTS:=λD ρ=>pe ρ D.rt
noncomputable def FD(t:PTT)(a b:PTS):PTS:=λD ρ=>t ρ λc ρ1=>iX c (a D ρ1) (b D ρ1)
def wZ:PTS:=λ_ _=>False
noncomputable def GA(pe:PTE)(g:PTG):PTS:=λD ρ=>pe ρ λp ρ1=>g p ρ1 D.nx
noncomputable def Eu(a:PTS):PTS:=λD ρ=>∃J:PSt->Prop,a { D with nx:=J } ρ/\∀ρ',J ρ'->D.nx ρ'
section
variable {K:a_}{fs:List Nat}{ta tb:TS}{pa pb:PTS}{te:TE}{pe:PTE}{tt:TT}{pt:PTT}
def aP:LS K fs Bj wY:=λfx A R H0 ρ σ H D D' hf r F q k1 k2 k3 k4=>k1 _ _ _ q r F
def fb:LS K fs zX wZ:=λfx A R H0 ρ σ H D D' hf r F q k1 k2 k3 k4=>q
def aq(ha:LS K fs ta pa)(hb:LS K fs tb pb):LS K fs (Fx ta tb) (mq pa pb):=λfx A R H0 ρ σ H D D' hf r F q k1 k2 k3 k4 =>
 ha fx A R H0 ρ σ H _ _ hf r F q (λρ1 σ1 H1 q1 r1 F1=>hb fx A R H0 ρ1 σ1 H1 _ _ hf r1 F1 q1 k1 k2 k3 k4) k2 k3 k4
def fc(h:LE K te pe):LS K fs (Bk te) (ur pe):=λfx A R H0 ρ σ H D D' hf r F q k1 k2 k3 k4=>h A ρ σ H _ _ r q λv H1 p ρ1 q1 f1 o1=>k1 _ _ _ q1 o1.frz.1 (F.fr f1)
def aJ(h:LE K te pe):LS K fs (Hd te) (B4 pe):=λfx A R H0 ρ σ H D D' hf r F q k1 k2 k3 k4=>h A ρ σ H _ _ r q λv H1 p ρ1 q1 f1 o1=>k2 v p ρ1 σ H1 q1 (o1.h0 F.dm) (F.fr f1)
def bW(ht:LT K tt pt)(ha:LS K fs ta pa)(hb:LS K fs tb pb):LS K fs (FI tt ta tb) (FD pt pa pb):=λfx A R H0 ρ σ H D D' hf r F q k1 k2 k3 k4=>ht A ρ σ H _ _ r q λc H1 ρ1 q1 f1 r1=>by
 cases c with
 | true=>exact ha fx A R H0 ρ1 σ H1 D D' hf r1 (F.fr f1) q1 k1 k2 k3 k4
 | false=>exact hb fx A R H0 ρ1 σ H1 D D' hf r1 (F.fr f1) q1 k1 k2 k3 k4
def aD{g:TG}{pg:PTG}(h:LE K te pe)(hg:LG K fs g pg):LS K fs (Bl te g) (GA pe pg):=λfx A R H0 ρ σ H D D' hf r F q k1 k2 k3 k4=>h A ρ σ H _ _ r q λv H1 p ρ1 q1 f1 o1 =>
 hg fx A R H0 ρ1 σ H1 p v _ _ hf (F.fr f1) (o1.h0 F.dm) q1 k1
def iH(h:LS K fs ta pa):LS K fs (D7 ta) (Eu pa):=λfx A R H0 ρ σ H D D' hf r F q k1 k2 k3 k4=>by
 obtain⟨J,q1,q2⟩:=q;refine⟨λσ' H'=>∃ρ',J ρ'/\Rel K A ρ' σ' H'/\cw fx R H0 ρ' σ' H',?_,λσ' H' ⟨ρ',j,r',F'⟩=>k1 ρ' σ' H' (q2 ρ' j) r' F'⟩;exact h fx A R H0 ρ σ H _ _ hf r F q1 (λρ' σ' H' j r' F'=>⟨ρ',j,r',F'⟩) k2 k3 k4
end
noncomputable def oi(K:a_)(tl:TE):TI:=λσ H R=>tl σ H λx H1=>(∃k a xs,x=.ref a/\Sq k K H1 a xs/\R (Itk k K a) H1)\/∃l,x=.str (S l)/\R (Its (gc l)) H1
section
variable {X:Cx}{tg:Expr}
def B5{l:Expr}{tl:TE}(hl:PE X l tl):PI X tg l (oi X.K tl):=by
 intro pins s σ H R I h;refine thn (hl pins s σ H _ I h) λv s1 ⟨x,H1,I1,r1,q1⟩=>?_
 have fin:∀b∈[s1.heap.objs.size],rN X pins H1 b:=λb hb=>by
  have e:b=s1.heap.objs.size:=by simpa using hb
  subst e;exact I1.fpOk (pf _) (I1.hok.fresh (pf _))
 rcases q1 with ⟨k,a,xs,e,hq,q⟩|⟨l,e,q⟩
 .subst e;cases r1
  cases k with
  | false =>
   obtain⟨its,rv,p,hz⟩:=I1.list hq;refine Km p.isList ?_;exact⟨s1.heap.objs.size,[s1.heap.objs.size],_,_,H1,rfl,I1.kept (t':=s1.toks) λb o e=>e_ _ e,vX a _,⟨_,j_ _ rfl,rfl,rfl⟩,fin,q⟩
  | true =>
   obtain⟨its,rv,p,hz⟩:=I1.tuple hq;refine wpAny_pyIter_tuple (show s1.heap.IsTuple a its.toArray from p) ?_;exact⟨s1.heap.objs.size,[s1.heap.objs.size],_,_,H1,rfl,I1.kept (t':=s1.toks) λb o e=>e_ _ e,uX a _,⟨_,j_ _ rfl,rfl,rfl⟩,fin,q⟩
 .subst e;obtain⟨t,rfl⟩:=r1
  have hv:∀i v,i<(S l).cps.size->SignAt (S l) i v->∃x,(gc l)[i]?=some x/\cv x v:=λi v _ ⟨c,u,hc,e⟩=>by
   subst e;have hc':l[i]?=some c:=by simpa [S] using hc
   exact⟨.str (S [c]),by unfold gc;rw [k_,hc'];rfl,u,rfl⟩
  have hsc:∀i v,SignAt (S l) i v->∀a,v≠.ref a:=λi v ⟨c,u,hc,e⟩ a z=>by subst e;cases z
  have hn:(gc l).length=(S l).cps.size:=by rw [jB];simp [S]
  have hobj:∀ty i (h:Heap),h.IsStrIter s1.heap.objs.size ty (S l) t i->∃o,h.get? s1.heap.objs.size=some o/\∀v,o.data≠.cell v:=λty i h ⟨o,ho,_,hd⟩=>⟨o,ho,λv z=>by rw [hd] at z;cases z⟩
  have hfr:∀ty i (h h':Heap),h.IsStrIter s1.heap.objs.size ty (S l) t i->(∀b∈[s1.heap.objs.size],∀o,h.get? b=some o->h'.get? b=some o)->h'.IsStrIter s1.heap.objs.size ty (S l) t i:=λty i h h' ⟨o,ho,r⟩ k=>⟨o,k _ (by simp) o ho,r⟩
  cases ha:(S l).cps.all (·<128)
  .refine wpAny_pyIter_wide ha ⟨s1.heap.objs.size,[s1.heap.objs.size],_,Its (gc l),H1,rfl,I1.kept (t':=s1.toks) λb o e=>e_ _ e,
    kT (λA hA=>Walks.strWide hA _ (S l) t) hn hv hsc (hobj _) (hfr _) (λA i s Q E st q=>wpAny_pyIter_striter_wide st q),⟨_,j_ _ rfl,rfl,rfl⟩,fin,q⟩
  .refine wpAny_pyIter_ascii ha ⟨s1.heap.objs.size,[s1.heap.objs.size],_,Its (gc l),H1,rfl,I1.kept (t':=s1.toks) λb o e=>e_ _ e,
    kT (λA hA=>Walks.strAscii hA _ (S l) t) hn hv hsc (hobj _) (hfr _) (λA i s Q E st q=>wpAny_pyIter_striter_ascii st q),⟨_,j_ _ rfl,rfl,rfl⟩,fin,q⟩
def cA(K:a_)(e:X.K=K){l:Expr}{tl:TE}(hl:PE X l tl):PI X tg l (oi K tl):=by subst e;exact B5 hl
end
abbrev PTI:=PSt->(Nat->(Nat->D)->PSt->Prop)->Prop
noncomputable def Wlk(K:a_)(O:Addr->Prop)(H:Hp)(J:It)(n:Nat)(it:Nat->D):Prop:=∀(O':Addr->Prop) (H':Hp),aL O H O' H'->(∀b,O' b->H' b≠none) ->
 (∀k,k<n->J.go k H'/\∀x H'',J.yld k H' x H''->Gr H' H''/\FV K O' H'' x (it k))/\J.stop n H'
noncomputable def LI(K:a_)(wi:TI)(pi:PTI):Prop:=∀(A:Addr->Prop) (ρ:PSt) (σ:St) (H:Hp) (Q:Nat->(Nat->D)->PSt->Prop) (Q':It->Hp->Prop),Rel K A ρ σ H->pi ρ Q ->
 (∀J H' n it ρ',Q n it ρ'->Fr ρ σ H ρ' H'->Rel K A ρ' σ H'->Wlk K (OO A ρ' σ) H' J n it->Q' J H')->wi σ H Q'
noncomputable def itD(ds:List D)(k:Nat):D:=ds.getD k .non
def w4{ds:List D}{k:Nat}(h:k<ds.length):ds[k]?=some (itD ds k):=by unfold itD;rw [d_,c_ h];rfl
def qH{ds:List D}{k:Nat}{d:D}(h:ds[k]?=some d):itD ds k=d:=by unfold itD;rw [d_,h];rfl
noncomputable def GB:D->Option (Nat×(Nat->D))
 | .lst ds=>some (ds.length,itD ds)
 | .tup ds=>some (ds.length,itD ds)
 | .scr ns=>some (ns.length,λk=>.int (ns.getD k 0))
 | .str l=>some (l.length,λk=>.str [l.getD k 0])
 | _=>none
noncomputable def Ev(pe:PTE):PTI:=λρ Q=>pe ρ λp ρ1=>match GB p.d with
 | some (n,it)=>Q n it ρ1
 | none=>False
section
variable {K:a_}{te:TE}{pe:PTE}{ta:TA}{pa:PTA}
def FV.row{O:Addr->Prop}{H:Hp}{v:V}{d:D}{n:Nat}{it:Nat->D}(h:FV K O H v d)(e:GB d=some (n,it)) :
  (∃k a xs,v=.ref a/\xs.length=n/\(∀O' H',aL O H O' H'->Sq k K H' a xs/\∀j x,xs[j]?=some x->FV K O' H' x (it j)))\/∃l,v=.str (S l)/\l.length=n/\(∀k,it k=.str [l.getD k 0]):=by
 cases h with
 | lst nn e0 f =>
  cases e;refine .inl ⟨false,_,_,rfl,f.length,λO' H' k=>⟨SqL.of (k _ _ nn e0).2,λj x hx=>?_⟩⟩;obtain⟨d,hd,fd⟩:=f.get hx;rw [qH hd];exact fd.keeps k
 | tup nn e0 f =>
  cases e;refine .inl ⟨true,_,_,rfl,f.length,λO' H' k=>⟨SqT.of (k _ _ nn e0).2,λj x hx=>?_⟩⟩;obtain⟨d,hd,fd⟩:=f.get hx;rw [qH hd];exact fd.keeps k
 | scr s =>
  cases e;refine .inl ⟨false,_,_,rfl,length_map _,λO' H' k=>⟨(s.keeps k).sq,λj x hx=>?_⟩⟩;obtain⟨z,hz,rfl⟩:=yW hx;show FV K O' H' (V.int z) (D.int (List.getD _ j 0));rw [d_,hz];exact .int z
 | str l hl=>cases e;exact .inr ⟨l,rfl,rfl,λ_=>rfl⟩
 | non=>cases e
 | bl b=>cases e
 | int i=>cases e
 | ty n=>cases e
 | dic _ _ _ _=>cases e
 | obj _ _ _ _=>cases e
 | exc0 _ _=>cases e
 | exc1 _ _ _ _ _ _=>cases e
def cB(h:LE K te pe):LI K (oi K te) (Ev pe):=λA ρ σ H Q Q' R q k=>h A ρ σ H _ _ R q λv H1 p ρ1 q1 f1 o1=>by
 obtain⟨R1,fv⟩:=o1.frz
 split at q1
 .rename_i n it e
  rcases fv.row e with ⟨b,a,xs,rfl,hl,hr⟩|⟨l,rfl,hl,hi⟩
  .refine .inl ⟨b,a,xs,rfl,(hr _ H1 (λb o n h=>⟨n,h⟩)).1,k _ H1 n it ρ1 q1 f1 R1 λO' H' kk dom=>?_⟩;obtain⟨sq,hx⟩:=hr O' H' kk
   cases b with
   | false =>
    refine⟨λj hj=>⟨⟨xs,_,sq,c_ (by rw [hl];exact hj)⟩,λx H'' ⟨e,y⟩=>?_⟩,⟨xs,sq,by rw [hl];exact pf _⟩⟩;subst e;exact⟨Gr.refl _,hx j x (y xs sq)⟩
   | true =>
    refine⟨λj hj=>⟨⟨xs,_,sq,c_ (by rw [hl];exact hj)⟩,λx H'' ⟨e,y⟩=>?_⟩,⟨xs,sq,by rw [hl];exact pf _⟩⟩;subst e;exact⟨Gr.refl _,hx j x (y xs sq)⟩
  .refine .inr ⟨l,rfl,k _ H1 n it ρ1 q1 f1 R1 λO' H' kk dom=>?_⟩;refine⟨λj hj=>⟨by show j<(gc l).length;rw [jB,hl];exact hj,λx H'' ⟨e,y⟩=>?_⟩,by show (gc l).length=n;rw [jB,hl]⟩;subst e;obtain⟨c,hc,rfl⟩:=vg y;rw [hi,d_,hc];exact⟨Gr.refl _,.str _ (by show 1<=1000000;decide)⟩
 .exact q1.elim
noncomputable def Ik(pa:PTA):PTI:=λρ Q=>pa ρ λas ρ1=>match as with
 | [.v (.int j)]=>(-(2^60)<=j/\j<2^60)/\Q j.toNat (λk=>.int (k:Int)) ρ1
 | _=>False
noncomputable def Il(pa:PTA):PTI:=λρ Q=>pa ρ λas ρ1=>match as with
 | [.v (.int i),.v (.int j),.v (.int (-1))]=>(-(2^60)<=i/\i<2^60/\-(2^60)<=j/\j<2^60)/\Q (i - j).toNat (λk=>.int (i - (k:Int))) ρ1
 | _=>False
def GC{O:Addr->Prop}{H:Hp}{lo:Int}{n:Nat}{it:Nat->D}(h:∀k:Nat,it k=.int (lo+k)):Wlk K O H (Itr lo n) n it:=λO' H' _ _ =>
 ⟨λj hj=>⟨hj,λx H'' ⟨e,y⟩=>by subst e y;rw [h];exact⟨Gr.refl _,.int _⟩⟩,pf _⟩
def GD{O:Addr->Prop}{H:Hp}{lo:Int}{n:Nat}:Wlk K O H (Its (nX lo n)) n (λk=>.int (lo - (k:Int))):=λO' H' _ _ =>
 ⟨λj hj=>⟨by show j<(nX lo n).length;rw [kU];exact hj,λx H'' ⟨e,y⟩=>by subst e;rw [(wH y).2];exact⟨Gr.refl _,.int _⟩⟩,kU _ _⟩
def jD(h:LAs K ta pa):LI K (qc ta) (Ik pa):=λA ρ σ H Q Q' R q k=>h A ρ σ H _ _ R q λvs H1 as ρ1 q1 f1 R1 o1=>by
 split at q1
 .rename_i j
  cases o1 with
  | cons a b =>
   cases b;cases a;exact⟨j,rfl,by omega,by omega,k _ H1 _ _ ρ1 q1.2 f1 R1 (GC λk=>by rw [Int.zero_add])⟩
 .exact q1.elim
def Ew(h:LAs K ta pa):LI K (DW ta) (Il pa):=λA ρ σ H Q Q' R q k=>h A ρ σ H _ _ R q λvs H1 as ρ1 q1 f1 R1 o1=>by
 split at q1
 .rename_i i j
  cases o1 with
  | cons a b =>
   cases b with
   | cons c d =>
    cases d with
    | cons e f =>
     cases f;cases a;cases c;cases e;exact⟨i,j,rfl,q1.1,k _ H1 _ _ ρ1 q1.2 f1 R1 GD⟩
 .exact q1.elim
noncomputable def rowD:D->Option (List D)
 | .lst ds=>some ds
 | .tup ds=>some ds
 | .scr ns=>some (ns.map .int)
 | _=>none
def FV.rowD{O:Addr->Prop}{H:Hp}{v:V}{d:D}{ds:List D}(h:FV K O H v d)(e:L2.rowD d=some ds) :
  ∃k a xs,v=.ref a/\xs.length=ds.length/\(∀O' H',aL O H O' H'->Sq k K H' a xs/\FVs K O' H' xs ds):=by
 cases h with
 | lst nn e0 f=>cases e;exact⟨false,_,_,rfl,f.length,λO' H' k=>⟨SqL.of (k _ _ nn e0).2,f.keeps k⟩⟩
 | tup nn e0 f=>cases e;exact⟨true,_,_,rfl,f.length,λO' H' k=>⟨SqT.of (k _ _ nn e0).2,f.keeps k⟩⟩
 | scr s=>cases e;exact⟨false,_,_,rfl,by rw [length_map,length_map],λO' H' k=>⟨(s.keeps k).sq,FVs.of_ints _⟩⟩
 | str l hl=>cases e
 | non=>cases e
 | bl b=>cases e
 | int i=>cases e
 | ty n=>cases e
 | dic _ _ _ _=>cases e
 | obj _ _ _ _=>cases e
 | exc0 _ _=>cases e
 | exc1 _ _ _ _ _ _=>cases e
noncomputable def Ex(pa:PTA):PTI:=λρ Q=>pa ρ λas ρ1=>match as with
 | [.v a,.v b]=>(match rowD a,rowD b with
  | some xs,some ys=>Q (min xs.length ys.length) (λk=>.tup [itD xs k,itD ys k]) ρ1
  | _,_=>False)
 | _=>False
noncomputable def Ey(pa:PTA):PTI:=λρ Q=>pa ρ λas ρ1=>match as with
 | [.v a]=>(match rowD a with
  | some xs=>Q xs.length (λk=>.tup [.int (k:Int),itD xs k]) ρ1
  | _=>False)
 | _=>False
def w6(h:LAs K ta pa):LI K (zg K ta) (Ex pa):=λA ρ σ H Q Q' R q k=>h A ρ σ H _ _ R q λvs H1 as ρ1 q1 f1 R1 o1=>by
 split at q1
 .rename_i da db
  cases o1 with
  | cons o1 o2 =>
   cases o2 with
   | cons o2 o3 =>
    cases o3
    split at q1
    .rename_i xs ys ex ey;obtain⟨b1,a1,us,rfl,l1,w1⟩:=FV.rowD (show FV K _ H1 _ da from o1) ex;obtain⟨b2,a2,ws,rfl,l2,w2⟩:=FV.rowD (show FV K _ H1 _ db from o2) ey;have t1:=w1 _ H1 (λb o n h=>⟨n,h⟩);have t2:=w2 _ H1 (λb o n h=>⟨n,h⟩);refine⟨b1,b2,a1,a2,rfl,⟨us,ws,t1.1,t2.1⟩,k _ H1 _ _ ρ1 q1 f1 R1 λO' H' kk dom=>?_⟩;obtain⟨s1,g1⟩:=w1 O' H' kk;obtain⟨s2,g2⟩:=w2 O' H' kk;refine⟨λj hj=>?_,⟨us,ws,s1,s2,by omega⟩⟩
     have h1:j<us.length:=by omega
     have h2:j<ws.length:=by omega
     refine⟨⟨us,ws,_,_,s1,s2,c_ h1,c_ h2⟩,λx H'' ⟨T,u,w,hT,e,y1,y2,e2⟩=>?_⟩;subst e e2;obtain⟨d1,hd1,fd1⟩:=g1.get (y1 us s1);obtain⟨d2,hd2,fd2⟩:=g2.get (y2 ws s2);have e1:itD xs j=d1:=by unfold itD;rw [d_,hd1];rfl
     have e2:itD ys j=d2:=by unfold itD;rw [d_,hd2];rfl
     rw [e1,e2];have kk2:aL O' H' O' (upd H' T (.tup [u,w])):=λb o n e=>⟨n,by rw [au (aM e hT)];exact e⟩
     exact⟨Gr.new hT,.tup (λz=>dom T z hT) aB (.cons (fd1.keeps kk2) (.cons (fd2.keeps kk2) .nil))⟩
    .exact q1.elim
 .exact q1.elim
def oj(h:LAs K ta pa):LI K (zf K ta) (Ey pa):=λA ρ σ H Q Q' R q k=>h A ρ σ H _ _ R q λvs H1 as ρ1 q1 f1 R1 o1=>by
 split at q1
 .rename_i da
  cases o1 with
  | cons o1 o3 =>
   cases o3
   split at q1
   .rename_i xs ex;obtain⟨b1,a1,us,rfl,l1,w1⟩:=FV.rowD (show FV K _ H1 _ da from o1) ex;have t1:=w1 _ H1 (λb o n h=>⟨n,h⟩);refine⟨b1,a1,rfl,⟨us,t1.1⟩,k _ H1 _ _ ρ1 q1 f1 R1 λO' H' kk dom=>?_⟩;obtain⟨s1,g1⟩:=w1 O' H' kk;refine⟨λj hj=>?_,⟨us,s1,by omega⟩⟩;have h1:j<us.length:=by omega
    refine⟨⟨us,_,s1,c_ h1⟩,λx H'' ⟨T,u,hT,e,y1,e2⟩=>?_⟩;subst e e2;obtain⟨d1,hd1,fd1⟩:=g1.get (y1 us s1);have e1:itD xs j=d1:=by unfold itD;rw [d_,hd1];rfl
    rw [e1];have kk2:aL O' H' O' (upd H' T (.tup [.int (j:Int),u])):=λb o n e=>⟨n,by rw [au (aM e hT)];exact e⟩
    exact⟨Gr.new hT,.tup (λz=>dom T z hT) aB (.cons (.int _) (.cons (fd1.keeps kk2) .nil))⟩
   .exact q1.elim
 .exact q1.elim
end
noncomputable def Ez(pi:PTI)(g:PTG)(pb:PTS):PTS:=λD ρ=>pi ρ λn it ρ1=>∃I:Nat->PSt->Prop,I 0 ρ1/\(∀k ρ d,k<n->d=it k->I k ρ->g (.dat d) ρ λρ2=>pb { D with nx:=I (k+1),ct:=I (k+1),bk:=D.nx } ρ2)/\∀ρ,I n ρ->D.nx ρ
noncomputable def B6(pt:PTT)(pb:PTS):PTS:=λD ρ=>∃I:Nat->PSt->Prop,(∃m,I m ρ)/\∀m ρ,I m ρ->pt ρ λb ρ1=>iX b (pb { D with nx:=λρ'=>∃m',m'<m/\I m' ρ',ct:=λρ'=>∃m',m'<m/\I m' ρ',bk:=D.nx } ρ1) (D.nx ρ1)
section
variable {K:a_}{fs:List Nat}{wi:TI}{pi:PTI}{g:TG}{pg:PTG}{tb:TS}{pb:PTS}{tt:TT}{pt:PTT}
def c7(hi:LI K wi pi)(hg:LGd K fs g pg)(hb:LS K fs tb pb):LS K fs (FK wi g tb) (Ez pi pg pb):=λfx A R H0 ρ σ H D D' hf r F q k1 k2 k3 k4=>hi A ρ σ H _ _ r q λJ H1 n it ρ1 q1 f1 r1 W=>by
 obtain⟨I,i0,turn,after⟩:=q1;have F1:=F.fr f1;refine⟨λi m σ' H'=>i+m=n/\∃ρ',I i ρ'/\Rel K A ρ' σ' H'/\cw fx (Wr ρ1 σ) H1 ρ' σ' H',⟨n,K7 n,ρ1,i0,r1,cw.start F1.fx⟩,λi m σ' H' ⟨him,ρ',iv,r',F'⟩=>?_⟩;obtain⟨go,stop⟩:=W _ H' F'.keeps r'.dom2
 by_cases hk:i<n
 .obtain⟨g1,g2⟩:=go i hk;refine .inr ⟨g1,λσ'' H''=>∃ρ'',I (i+1) ρ''/\Rel K A ρ'' σ'' H''/\cw fx (Wr ρ1 σ) H1 ρ'' σ'' H'',λσ'' H'' z=>⟨m - 1,by omega,by omega,z⟩,λx H'' y=>?_⟩;obtain⟨gr,fv⟩:=g2 x H'' y;refine hg fx A (Wr ρ1 σ) H1 ρ' σ' H'' _ x _ _ hf (F'.fr gr.fr) (r'.gr gr) fv (turn i ρ' _ hk rfl iv) λρ2 σ2 q2 r2 F2 _=>?_;refine hb fx A (Wr ρ1 σ) H1 ρ2 σ2 H'' _ _ hf r2 F2 q2 (λρ3 σ3 H3 q3 r3 F3=>⟨ρ3,q3,r3,F3⟩) (λv p ρ3 σ3 H3 q3 o3 F3=>k2 v p ρ3 σ3 H3 q3 (o3.h0 F1.dm) (F1.trans F3 F3.fx)) (λρ3 σ3 H3 q3 r3 F3=>k1 ρ3 σ3 H3 q3 r3 (F1.trans F3 F3.fx)) (λρ3 σ3 H3 q3 r3 F3=>⟨ρ3,q3,r3,F3⟩)
 .have e:i=n:=by omega
  subst e;exact .inl ⟨stop,k1 ρ' σ' H' (after ρ' iv) r' (F1.trans F' F'.fx)⟩
def om(ht:LT K tt pt)(hb:LS K fs tb pb):LS K fs (zZ tt tb) (B6 pt pb):=λfx A R H0 ρ σ H D D' hf r F q k1 k2 k3 k4=>by
 obtain⟨I,⟨m0,i0⟩,turn⟩:=q;refine⟨λm σ' H'=>∃ρ',I m ρ'/\Rel K A ρ' σ' H'/\cw fx R H0 ρ' σ' H',⟨m0,ρ,i0,r,F⟩,λm σ' H' ⟨ρ',iv,r',F'⟩=>?_⟩;refine ht A ρ' σ' H' _ _ r' (turn m ρ' iv) λb H1 ρ1 q1 f1 r1=>?_
 cases b with
 | true =>
  refine⟨λσ'' H''=>∃ρ'' m',m'<m/\I m' ρ''/\Rel K A ρ'' σ'' H''/\cw fx R H0 ρ'' σ'' H'',λσ'' H'' ⟨ρ'',m',h1,h2⟩=>⟨m',h1,ρ'',h2⟩,?_⟩;exact hb fx A R H0 ρ1 σ' H1 _ _ hf r1 (F'.fr f1) q1 (λρ3 σ3 H3 ⟨m',h1,h2⟩ r3 F3=>⟨ρ3,m',h1,h2,r3,F3⟩) k2 k1 (λρ3 σ3 H3 ⟨m',h1,h2⟩ r3 F3=>⟨ρ3,m',h1,h2,r3,F3⟩)
 | false=>exact k1 ρ1 σ' H1 q1 r1 (F'.fr f1)
end
noncomputable def bw(ix:List (Option Nat))(ρ:PSt):PSt:=ix.map λo=>match o with
 | none=>none
 | some j=>match ρ[j]? with
  | some v=>v
  | none=>none
noncomputable def dP:List (Option Nat)->PSt->PSt->PSt
 | some j::ix,ρ,t::τ=>dP ix (ρ.set j t) τ
 | none::ix,ρ,_::τ=>dP ix ρ τ
 | _,ρ,_=>ρ
noncomputable def Aj:List (Option Nat)->Bool
 | []=>true
 | none::r=>Aj r
 | some j::r=>!r.contains (some j) && Aj r
theorem kC:∀(ix:List (Option Nat)) (ρ τ:PSt),(dP ix ρ τ).length=ρ.length
 | [],ρ,τ=>by unfold dP;rfl
 | some j::ix,ρ,t::τ=>by show (dP ix (ρ.set j t) τ).length=_;rw [kC ix,Jc]
 | none::ix,ρ,t::τ=>by show (dP ix ρ τ).length=_;exact kC ix ρ τ
 | some j::ix,ρ,[]=>by unfold dP;rfl
 | none::ix,ρ,[]=>by unfold dP;rfl
theorem i6:∀(ix:List (Option Nat)) (ρ τ:PSt) (j:Nat),some j∉ix->(dP ix ρ τ)[j]?=ρ[j]?
 | [],ρ,τ,j,_=>by unfold dP;rfl
 | some i::ix,ρ,t::τ,j,h=>by
  show (dP ix (ρ.set i t) τ)[j]?=_;rw [i6 ix _ τ j (λz=>h (q_ _ z)),n_ (λz=>h (by rw [z];exact mem_cons_self ..))]
 | none::ix,ρ,t::τ,j,h=>by show (dP ix ρ τ)[j]?=_;exact i6 ix ρ τ j λz=>h (q_ _ z)
 | some i::ix,ρ,[],j,_=>by unfold dP;rfl
 | none::ix,ρ,[],j,_=>by unfold dP;rfl
theorem oq:∀(ix:List (Option Nat)) (ρ τ:PSt) (j k:Nat),Aj ix=true->ix[k]?=some (some j)->k<τ.length->j<ρ.length->(dP ix ρ τ)[j]?=τ[k]?
 | some i::ix,ρ,t::τ,j,k,h,e,hk,hj=>by
  have h:(!ix.contains (some i) && Aj ix)=true:=h;rw [and_eq_true] at h;show (dP ix (ρ.set i t) τ)[j]?=_
  cases k with
  | zero =>
   have e:some (some i)=some (some j):=e;cases e
   have hn:some i∉ix:=λz=>by
    have:=h.1;rw [w_.mpr z] at this;cases this
   rw [i6 ix _ τ i hn,p_ hj];rfl
  | succ k =>
   have e:ix[k]?=some (some j):=by simpa using e
   rw [oq ix _ τ j k h.2 e (by simpa using hk) (by rw [Jc];exact hj)];simp
 | none::ix,ρ,t::τ,j,k,h,e,hk,hj=>by
  show (dP ix ρ τ)[j]?=_
  cases k with
  | zero=>cases e
  | succ k =>
   have e:ix[k]?=some (some j):=by simpa using e
   rw [oq ix _ τ j k h e (by simpa using hk) hj];simp
 | [],ρ,τ,j,k,h,e,hk,hj=>by simp at e
 | some i::ix,ρ,[],j,k,h,e,hk,hj=>absurd hk (Lw _)
 | none::ix,ρ,[],j,k,h,e,hk,hj=>absurd hk (Lw _)
theorem kE:∀{ix:List (Option Nat)}{k l j:Nat},Aj ix=true->ix[k]?=some (some j)->ix[l]?=some (some j)->k=l
 | some i::ix,k,l,j,h,e1,e2=>by
  have h:(!ix.contains (some i) && Aj ix)=true:=h;rw [and_eq_true] at h
  have no:∀m,ix[m]?≠some (some i):=λm z=>by
   have:=h.1;rw [w_.mpr (IH z)] at this;cases this
  cases k with
  | zero =>
   have e1:some (some i)=some (some j):=e1;cases e1
   cases l with
   | zero=>rfl
   | succ l=>exact absurd (by simpa using e2) (no l)
  | succ k =>
   cases l with
   | zero =>
    have e2:some (some i)=some (some j):=e2;cases e2;exact absurd (by simpa using e1) (no k)
   | succ l=>rw [kE (k:=k) (l:=l) h.2 (by simpa using e1) (by simpa using e2)]
 | none::ix,k,l,j,h,e1,e2=>by
  cases k with
  | zero=>cases e1
  | succ k =>
   cases l with
   | zero=>cases e2
   | succ l=>rw [kE (ix:=ix) (k:=k) (l:=l) (j:=j) h (by simpa using e1) (by simpa using e2)]
 | [],k,l,j,h,e1,e2=>by simp at e1
def bZ{ix:List (Option Nat)}{ρ:PSt}{k:Nat}{p:PV}(h:(bw ix ρ)[k]?=some (some p)):∃j,ix[k]?=some (some j)/\ρ[j]?=some (some p):=by
 unfold bw at h;rw [k_] at h
 cases e:ix[k]? with
 | none=>rw [e] at h;cases h
 | some o =>
  rw [e] at h
  cases o with
  | none=>cases h
  | some j =>
   refine⟨j,rfl,?_⟩;have h:some (match ρ[j]? with|some v=>v|none=>none)=some (some p):=h
   cases e2:ρ[j]? with
   | none=>rw [e2] at h;cases h
   | some v=>rw [e2] at h;exact h
def cj{ix:List (Option Nat)}{σ:St}{k j:Nat}{v:V}(h:ix[k]?=some (some j))(e:σ[j]?=some (some v)):(qx ix σ)[k]?=some (some v):=by
 unfold qx;rw [k_,h];show some (match σ[j]? with|some v=>v|none=>none)=some (some v);rw [e]
def Rel.amb{K:a_}{A:Addr->Prop}{ρ:PSt}{σ:St}{H:Hp}{a:Addr}{o:HO}(R:Rel K A ρ σ H)(ha:A a):Rel K A ρ σ (upd H a o):=by
 have k:aL (OO A ρ σ) H (OO A ρ σ) (upd H a o):=λb u n e=>⟨n,by rw [au (λz=>n (by rw [z];exact .inl ha))];exact e⟩
 refine⟨R.len,λi q e=>?_,R.dj,λb z=>?_,R.sep⟩
 .obtain⟨v,s,r⟩:=R.get i q e;refine⟨v,s,r.keeps k λow b eb=>?_⟩;rw [au];intro z;subst z eb;exact R.sep b ha ⟨i,q,e,ow,s⟩
 .by_cases z':b=a
  .rw [z',aB];exact nofun
  .rw [au z'];exact R.dom b z
noncomputable def EA(ix:List (Option Nat))(ρ:PSt):Bool:=ix.all λo=>match o with|none=>true|some j=>(match ρ[j]? with|some (some _)=>true|_=>false)
structure mr (ix:List (Option Nat)) (ρ1:PSt) (n:Nat) (it:Nat->D) (g:PTG) (pt:PTT) (pe:PTE) (Q:PKt):Prop where
 ex:∃I:Nat->List D->PSt->Prop,I 0 [] (bw ix ρ1) /\
  (∀k ys τ d,k<n->d=it k->I k ys τ->g (.dat d) τ λτ2=>pt τ2 λok τ3=>iX ok (pe τ3 λp τ4=>I (k+1) (ys++[p.d]) τ4) (I (k+1) ys τ3))/\∀ys τ,I n ys τ->Q (.own ys) (dP ix ρ1 τ)
noncomputable def B7(ix:List (Option Nat))(pi:PTI)(g:PTG)(pt:PTT)(pe:PTE):PTE:=λρ Q=>pi ρ λn it ρ1=>EA ix ρ1=true/\n<=1000000/\mr ix ρ1 n it g pt pe Q
def Ak:PTT:=λρ Q=>Q true ρ
def cM{K:a_}:LT K mm Ak:=λA ρ σ H Q Q' R q k=>k true H ρ q (Fr.refl _ _ _) R
noncomputable def xb(ix:List (Option Nat)):List Nat:=(g_ ix.length).filter λk=>(ix.getD k none).isSome
def bA{K:a_}{ix:List (Option Nat)}{wi:TI}{pi:PTI}{g:TG}{pg:PTG}{tts:TT}{pt:PTT}{te:TE}{pe:PTE}(hix:Aj ix=true)(hi:LI K wi pi)(hg:∀fs:List Nat,(∀k∈fs,k∈xb ix)->LGd K fs g pg)(ht:LT K tts pt)(he:LE K te pe) :
  LE K (wM ix wi g tts te) (B7 ix pi pg pt pe):=λA ρ σ H Q Q' R q k=>hi A ρ σ H _ _ R q λJ H1 n it ρ1 q1 f1 R1 W D hD=>by
 obtain⟨hcap,hn,⟨I,i0,turn,after⟩⟩:=q1
 let τρ0:=bw ix ρ1
 let τσ0:=qx ix σ
 let Ai:Addr->Prop:=λb=>A b\/b=D\/(Wr ρ1 σ b/\¬ Wr τρ0 τσ0 b)
 let H0':=upd H1 D (.lst [])
 have wsub:∀b,Wr τρ0 τσ0 b->Wr ρ1 σ b:=λb ⟨m,p,e,o,s⟩=>by
  obtain⟨j,h1,h2⟩:=bZ e;obtain⟨v,hv,_⟩:=R1.get j p h2;have:=cj h1 hv;rw [s] at this;cases this;exact⟨j,p,h2,o,hv⟩
 have nD:¬ Wr ρ1 σ D:=λz=>R1.wr z hD
 have oosub:∀b,OO Ai τρ0 τσ0 b->OO A ρ1 σ b\/b=D:=λb z=>by
  rcases z with (z|z|z)|z
  .exact .inl (.inl z)
  .exact .inr z
  .exact .inl (.inr z.1)
  .exact .inl (.inr (wsub b z))
 have kD:aL (OO A ρ1 σ) H1 (OO Ai τρ0 τσ0) H0':=λb o nn e=>by
  refine⟨λz=>?_,?_⟩
  .rcases oosub b z with z|z
   .exact nn z
   .rw [z,hD] at e;cases e
  .rw [show H0' b=H1 b from au (aM e hD)];exact e
 have Ri:Rel K Ai τρ0 τσ0 H0':=by
  refine⟨by show (bw ix ρ1).length=(qx ix σ).length;unfold bw qx;rw [length_map,length_map],λm p e=>?_,λm l p q v e1 e2 o1 o2 s1 s2=>?_,λb z=>?_,λb z w=>?_⟩
  .obtain⟨j,h1,h2⟩:=bZ e;obtain⟨v,hv,r⟩:=R1.get j p h2;refine⟨v,cj h1 hv,r.keeps kD λow a ea=>?_⟩;subst ea;exact au (λz=>nD (by rw [<- z];exact⟨j,p,h2,ow,hv⟩))
  .obtain⟨j,h1,h2⟩:=bZ e1;obtain⟨j',h3,h4⟩:=bZ e2;obtain⟨v1,hv1,_⟩:=R1.get j p h2;obtain⟨v2,hv2,_⟩:=R1.get j' q h4;have t1:=cj h1 hv1;have t2:=cj h3 hv2;rw [s1] at t1;rw [s2] at t2;cases t1;cases t2;have:=R1.dj j j' p q _ h2 h4 o1 o2 hv1 hv2;subst this;exact kE hix h1 h3
  .rcases z with z|z|z
   .intro e
    by_cases zz:b=D
    .exact R1.dom b z (by rw [zz];exact hD)
    .rw [show H0' b=H1 b from au zz] at e;exact R1.dom b z e
   .rw [z];show upd H1 D _ D≠none;rw [aB];exact nofun
   .intro e;rw [show H0' b=H1 b from au (λzz=>nD (by rw [<- zz];exact z.1))] at e;exact R1.wr z.1 e
  .rcases z with z|z|z
   .exact R1.sep b z (wsub b w)
   .rw [z] at w;exact nD (wsub D w)
   .exact z.2 w
 let fxi:List (Nat×V):=(xb ix).filterMap λm=>match (τσ0[m]?) with|some (some v)=>some (m,v)|_=>none
 have hfx:∀p∈fxi,τσ0[p.1]?=some (some p.2):=λp hp=>by
  obtain⟨m,hm,e⟩:=JK.mp hp
  split at e
  .rename_i v ev;cases e;exact ev
  .cases e
 have hfs:∀m∈fxi.map IX,m∈xb ix:=λm hm=>by
  obtain⟨p,hp,rfl⟩:=Ju.mp hm;obtain⟨m',hm',e⟩:=JK.mp hp
  split at e
  .cases e;exact hm'
  .cases e
 have hgi:=hg (fxi.map IX) hfs
 have fxget:∀(m j:Nat) (v:V),ix[m]?=some (some j)->σ[j]?=some (some v)->(m,v)∈fxi:=λm j v h1 h2=>by
  refine JK.mpr ⟨m,?_,?_⟩
  .unfold xb;refine Jy.mpr ⟨IZ.mpr (i_.mp h1).1,?_⟩;rw [d_,h1];rfl
  .show (match (qx ix σ)[m]? with|some (some v)=>some (m,v)|_=>none)=_;rw [cj h1 h2]
 let Rr:Addr->Prop:=λb=>Wr τρ0 τσ0 b\/b=D
 have hRr:∀b,Rr b->OO Ai τρ0 τσ0 b:=λb z=>z.elim (λz=>.inr z) (λz=>.inl (.inr (.inl z)));have F0:cw fxi Rr H0' τρ0 τσ0 H0':=⟨λ_ _ _ h=>h,λ_ h=>h,λb w=>.inl (.inl w),hfx⟩
 refine⟨λi m τ H2=>i+m=n/\∃ys τρ xs,I i ys τρ/\ys.length<=i/\Rel K Ai τρ τ H2/\cw fxi Rr H0' τρ τ H2/\H2 D=some (.lst xs)/\FVs K (OO Ai τρ τ) H2 xs ys/\∀b,Wr τρ τ b->Wr τρ0 τσ0 b,
  ⟨n,K7 n,[],τρ0,[],i0,pf _,Ri,F0,aB,.nil,λ_ h=>h⟩,λi m τ H2 ⟨him,ys,τρ,xs,iv,hy,r2,F2,eD,fD,hw⟩=>?_⟩
 have kk:aL (OO A ρ1 σ) H1 (OO Ai τρ τ) H2:=λb o nn e=>(F2.keepsR hRr) b o (kD b o nn e).1 (kD b o nn e).2;obtain⟨go,stop⟩:=W _ H2 kk r2.dom2
 by_cases hk:i<n
 .obtain⟨g1,g2⟩:=go i hk;refine .inr ⟨g1,λx H3 y=>?_⟩;obtain⟨gr,fv⟩:=g2 x H3 y;have AiD:Ai D:=.inr (.inl rfl);refine hgi fxi Ai Rr H0' τρ τ H3 _ x _ _ rfl (F2.fr gr.fr) (r2.gr gr) fv (turn i ys τρ _ hk rfl iv) λτρ2 τ2 q2 r3 F3 w3=>?_;refine ht Ai τρ2 τ2 H3 _ _ r3 q2 λok H5 τρ3 q3 f5 r5=>?_;have F5:=F3.fr f5;have fD5:FVs K (OO Ai τρ3 τ2) H5 xs ys:=((fD.keeps (gr.fr (ρ:=τρ) (σ:=τ)).keeps).keeps (aL.less λb z=>z.imp id (w3 b))).keeps f5.keeps
  have eD5:H5 D=some (.lst xs):=f5.kp D _ (r3.sep D AiD) (gr D _ eD)
  cases ok with
  | true =>
   refine he Ai τρ3 τ2 H5 _ _ r5 q3 λv H6 p τρ4 q4 f6 o6=>?_;obtain⟨r6,fv6⟩:=o6.frz;have F6:=F5.fr f6;have eD6:H6 D=some (.lst xs):=f6.kp D _ (r5.sep D AiD) eD5;have kw:aL (OO Ai τρ4 τ2) H6 (OO Ai τρ4 τ2) (upd H6 D (.lst (xs++[v]))):=λb o nn e=>⟨nn,by rw [au (λz=>nn (by rw [z];exact .inl AiD))];exact e⟩
   refine⟨xs,eD6,?_,m - 1,by omega,by omega,ys++[p.d],τρ4,xs++[v],q4,by rw [length_append];show _+1<=_;omega,r6.amb AiD,⟨λb o nn e=>?_,λb z=>?_,F6.ow,F6.fx⟩,aB,((fD5.keeps f6.keeps).append (.cons fv6 .nil)).keeps kw,λb z=>hw b (w3 b (f5.ow b (f6.ow b z)))⟩
   .have:xs.length=ys.length:=fD.length;exact tj (by omega:xs.length<1000000) (sz _ (pf _))
   .rw [au (λz=>nn (.inr z))];exact F6.kp b o nn e
   .by_cases zz:b=D
    .rw [zz,aB];exact nofun
    .rw [au zz];exact F6.dm b z
  | false=>exact⟨m - 1,by omega,by omega,ys,τρ3,xs,q3,by omega,r5,F5,eD5,fD5,λb z=>hw b (w3 b (f5.ow b z))⟩
 .have e:i=n:=by omega
  subst e;refine .inl ⟨stop,?_⟩;have q':=after ys τρ iv
  have cap:∀(m j:Nat),ix[m]?=some (some j)->∃p v,ρ1[j]?=some (some p)/\σ[j]?=some (some v)/\τ[m]?=some (some v):=λm j e=>by
   have h1:=Jw.mp hcap _ (IH e);have h1:(match ρ1[j]? with|some (some _)=>true|_=>false)=true:=h1
   split at h1
   .rename_i p ep;obtain⟨v,hv,_⟩:=R1.get j p ep;exact⟨p,v,ep,hv,F2.fx _ (fxget m j v e hv)⟩
   .cases h1
  have get':∀(j:Nat) (p:PV),(dP ix ρ1 τρ)[j]?=some (some p)->(∃m v,ix[m]?=some (some j)/\σ[j]?=some (some v)/\τ[m]?=some (some v)/\τρ[m]?=some (some p))\/(some j∉ix/\ρ1[j]?=some (some p)):=λj p e=>by
   by_cases hj:some j∈ix
   .obtain⟨m,hm,em⟩:=getElem_of_mem hj;have em':ix[m]?=some (some j):=by rw [c_ hm,em]
    obtain⟨p0,v,h1,h2,h3⟩:=cap m j em';rw [oq ix ρ1 τρ j m hix em' (by rw [r2.len];exact (i_.mp h3).1) (i_.mp h1).1] at e;exact .inl ⟨m,v,em',h2,h3,e⟩
   .rw [i6 ix ρ1 τρ j hj] at e;exact .inr ⟨hj,e⟩
  have nocap:∀(j:Nat) (p:PV) (b:Addr),some j∉ix->ρ1[j]?=some (some p)->p.isOwn=true->σ[j]?=some (some (.ref b))->¬ Wr τρ0 τσ0 b:=λj p b hj e o s ⟨m,q,e1,o1,s1⟩=>by
   obtain⟨j',h1,h2⟩:=bZ e1;obtain⟨v,hv,_⟩:=R1.get j' q h2;have:=cj h1 hv;rw [s1] at this;cases this;have:=R1.dj j j' p q _ e h2 o o1 s hv;subst this;exact hj (IH h1)
  have w':∀b,Wr (dP ix ρ1 τρ) σ b->Wr τρ τ b\/(Wr ρ1 σ b/\¬ Wr τρ0 τσ0 b):=λb ⟨j,p,e,o,s⟩=>by
   rcases get' j p e with ⟨m,v,h1,h2,h3,h4⟩|⟨hj,h1⟩
   .rw [s] at h2;cases h2;exact .inl ⟨m,p,h4,o,h3⟩
   .exact .inr ⟨⟨j,p,h1,o,s⟩,nocap j p b hj h1 o s⟩
  have oo':∀b,OO (eQ A D) (dP ix ρ1 τρ) σ b->OO Ai τρ τ b:=λb z=>by
   rcases z with (z|z)|z
   .exact .inl (.inl z)
   .exact .inl (.inr (.inl z))
   .rcases w' b z with z|z
    .exact .inr z
    .exact .inl (.inr (.inr z))
  have kp1:∀b o,¬ Wr τρ0 τσ0 b->b≠D->H1 b=some o->H2 b=some o:=λb o n1 n2 e=>F2.kp b o (λz=>z.elim n1 n2) (by rw [show H0' b=H1 b from au n2];exact e);have k1:aL (OO A ρ1 σ) H1 (OO (eQ A D) (dP ix ρ1 τρ) σ) H2:=λb o nn e=>⟨λz=>(kk b o nn e).1 (oo' b z),(kk b o nn e).2⟩
  have AiD:Ai D:=.inr (.inl rfl)
  have R':Rel K (eQ A D) (dP ix ρ1 τρ) σ H2:=by
   refine⟨by rw [kC];exact R1.len,λj p e=>?_,λj l p q v e1 e2 o1 o2 s1 s2=>?_,λb z=>?_,λb z w=>?_⟩
   .rcases get' j p e with ⟨m,v,h1,h2,h3,h4⟩|⟨hj,h1⟩
    .obtain⟨v',hv',r⟩:=r2.get m p h4;rw [h3] at hv';cases hv';exact⟨v,h2,r.keeps (aL.less oo') λ_ _ _=>rfl⟩
    .obtain⟨v,hv,r⟩:=R1.get j p h1;refine⟨v,hv,r.keeps k1 λow a ea=>?_⟩;subst ea;obtain⟨a',u,e1,e2⟩:=r.ref ow;cases e1;rw [e2];exact kp1 a u (nocap j p a hj h1 ow hv) (λz=>by rw [z,hD] at e2;cases e2) e2
   .rcases get' j p e1 with ⟨m,v1,h1,h2,h3,h4⟩|⟨hj,h1⟩
    .rw [s1] at h2;cases h2
     rcases get' l q e2 with ⟨m',v2,g1,g2,g3,g4⟩|⟨hl,g1⟩
     .rw [s2] at g2;cases g2;have:=r2.dj m m' p q _ h4 g4 o1 o2 h3 g3;subst this;rw [h1] at g1;cases g1;rfl
     .exfalso;obtain⟨v',hv',r⟩:=r2.get m p h4;rw [h3] at hv';cases hv';obtain⟨a,u,ea,_⟩:=r.ref o1;subst ea;exact nocap l q a hl g1 o2 s2 (hw a ⟨m,p,h4,o1,h3⟩)
    .rcases get' l q e2 with ⟨m',v2,g1,g2,g3,g4⟩|⟨hl,g1⟩
     .rw [s2] at g2;cases g2;exfalso;obtain⟨v',hv',r⟩:=r2.get m' q g4;rw [g3] at hv';cases hv';obtain⟨a,u,ea,_⟩:=r.ref o2;subst ea;exact nocap j p a hj h1 o1 s1 (hw a ⟨m',q,g4,o2,g3⟩)
     .exact R1.dj j l p q v h1 g1 o1 o2 s1 s2
   .rcases z with z|z
    .exact r2.dom b (.inl z)
    .rw [z,eD];exact nofun
   .rcases w' b w with w|w
    .rcases z with z|z
     .exact r2.sep b (.inl z) w
     .rw [z] at w;exact r2.sep D AiD w
    .rcases z with z|z
     .exact R1.sep b z w.1
     .rw [z] at w;exact nD w.1
  have f2:Fr ρ1 σ H1 (dP ix ρ1 τρ) H2:=by
   refine⟨λb o nn e=>kp1 b o (λz=>nn (wsub b z)) (λz=>by rw [z,hD] at e;cases e) e,λb z=>F2.dm b ?_,λb z=>?_⟩
   .intro e
    by_cases zz:b=D
    .exact z (by rw [zz];exact hD)
    .rw [show H0' b=H1 b from au zz] at e;exact z e
   .rcases w' b z with z|z
    .exact wsub b (hw b z)
    .exact z.1
  have hD0:H D=none:=by
   cases e:H D with
   | none=>rfl
   | some o=>exact absurd hD (f1.dm D (by rw [e];exact nofun))
  exact k _ H2 (.own ys) _ q' (f1.trans f2) ⟨D,xs,rfl,λz=>R1.dom D z hD,hD0,eD,R',fD.keeps (aL.less oo')⟩
section
variable {K:a_}{A A':Addr->Prop}{ρ:PSt}{σ:St}{H H':Hp}
def Rel.step(R:Rel K A ρ σ H){i:Nat}{p q:PV}{a:Addr}(e:ρ[i]?=some (some p))(ow:p.isOwn=true)(ow':q.isOwn=true)(es:σ[i]?=some (some (.ref a)))
  (kp:∀b o,b≠a->H b=some o->H' b=some o) (ha:H' a≠none) (h1:∀b,A b->A' b) (h2:∀b,A' b->A b\/H b=none) (dom':∀b,A' b->H' b≠none)
  (new:RS K (OO A' ρ σ) H' q (.ref a)):Rel K A' (ρ.set i (some q)) σ H'/\Fr ρ σ H (ρ.set i (some q)) H':=by
 have hi:i<ρ.length:=(i_.mp e).1;have wa:Wr ρ σ a:=⟨i,p,e,ow,es⟩
 have weq:∀b,Wr (ρ.set i (some q)) σ b ↔ Wr ρ σ b:=λb=>by
  constructor
  .rintro⟨j,r,e1,o1,s1⟩
   by_cases z:i=j
   .subst z;exact⟨i,p,e,ow,s1⟩
   .rw [n_ z] at e1;exact⟨j,r,e1,o1,s1⟩
  .rintro⟨j,r,e1,o1,s1⟩
   by_cases z:i=j
   .subst z;exact⟨i,q,p_ hi,ow',s1⟩
   .exact⟨j,r,by rw [n_ z];exact e1,o1,s1⟩
 have oeq:OO A' (ρ.set i (some q)) σ=OO A' ρ σ:=funext λb=>propext (or_congr Iff.rfl (weq b));have kp1:∀b u,¬ Wr ρ σ b->H b=some u->H' b=some u:=λb u n h=>kp b u (λz=>n (by rw [z];exact wa)) h
 have k:aL (OO A ρ σ) H (OO A' ρ σ) H':=λb u n h=>by
  refine⟨λz=>?_,kp1 b u (λz=>n (.inr z)) h⟩
  rcases z with z|z
  .rcases h2 b z with z|z
   .exact n (.inl z)
   .rw [z] at h;cases h
  .exact n (.inr z)
 have dm:∀b,H b≠none->H' b≠none:=λb n=>by
  by_cases z:b=a
  .rw [z];exact ha
  .cases eb:H b with
   | none=>exact absurd eb n
   | some o=>rw [kp b o z eb];exact nofun
 refine⟨⟨by rw [Jc];exact R.len,λj r e1=>?_,λj l p1 q1 v e1 e2 o1 o2 s1 s2=>?_,dom',λb z w=>?_⟩,⟨kp1,dm,λb w=>(weq b).mp w⟩⟩
 .rw [oeq]
  by_cases z:i=j
  .subst z;rw [p_ hi] at e1;cases e1;exact⟨_,es,new⟩
  .rw [n_ z] at e1;obtain⟨v,s,rr⟩:=R.get j r e1;refine⟨v,s,rr.keeps k λow2 b eb=>?_⟩;obtain⟨b',u,e3,e4⟩:=rr.ref ow2;rw [eb] at e3;cases e3;rw [e4];refine kp b u (λzz=>?_) e4;subst zz;rw [eb] at s;exact z (R.dj i j p r _ e e1 ow ow2 es s)
 .have ex:∀(m:Nat) (x:PV),(ρ.set i (some q))[m]?=some (some x)->x.isOwn=true->∃y:PV,ρ[m]?=some (some y)/\y.isOwn=true:=λm x em ox=>by
   by_cases z:i=m
   .subst z;exact⟨p,e,ow⟩
   .rw [n_ z] at em;exact⟨x,em,ox⟩
  obtain⟨y1,g1,g2⟩:=ex j p1 e1 o1;obtain⟨y2,g3,g4⟩:=ex l q1 e2 o2;exact R.dj j l y1 y2 v g1 g3 g2 g4 s1 s2
 .rcases h2 b z with z|z
  .exact R.sep b z ((weq b).mp w)
  .exact R.wr ((weq b).mp w) z
def Rel.lstw(R:Rel K A ρ σ H){i:Nat}{ds es:List D}{a:Addr}{ys:List V}(e:ρ[i]?=some (some (.own ds)))(es':σ[i]?=some (some (.ref a)))(f:FVs K (OO A ρ σ) H ys es) :
  Rel K A (ρ.set i (some (.own es))) σ (upd H a (.lst ys))/\Fr ρ σ H (ρ.set i (some (.own es))) (upd H a (.lst ys)):=by
 have wa:OO A ρ σ a:=.inr ⟨i,_,e,rfl,es'⟩;exact R.write (q:=.own es) e rfl rfl es' ⟨a,ys,rfl,aB,f.keeps λb u n h=>⟨n,by rw [au (λz=>n (by rw [z];exact wa))];exact h⟩⟩
def Rel.ownAt(R:Rel K A ρ σ H){i:Nat}{ds:List D}(e:ρ[i]?=some (some (.own ds))):∃a xs,σ[i]?=some (some (.ref a))/\H a=some (.lst xs)/\FVs K (OO A ρ σ) H xs ds:=by
 obtain⟨v,s,a,xs,rfl,g,f⟩:=R.get i _ e;exact⟨a,xs,s,g,f⟩
end
noncomputable def Hu(i:Nat)(pe:PTE):PTE:=λρ Q=>match ρ[i]? with
 | some (some (.own _))=>pe ρ λp ρ1=>(match ρ1[i]? with
  | some (some (.own ds))=>ds.length<1000000/\Q (.dat .non) (ρ1.set i (some (.own (ds++[p.d]))))
  | _=>False)
 | _=>False
noncomputable def EB(i:Nat)(pe pk:PTE):PTS:=λD ρ=>pe ρ λp ρ1=>(match ρ1[i]? with
 | some (some (.own _))=>pk ρ1 λkp ρ2=>(match ρ2[i]?,kp with
  | some (some (.own ds)),.dat (.int k)=>∃j,ixN ds.length k=some j/\D.nx (ρ2.set i (some (.own (ds.set j p.d))))
  | _,_=>False)
 | _=>False)
section
variable {K:a_}{te tk:TE}{pe pk:PTE}{fs:List Nat}
def ut{i:Nat}(h:LE K te pe):LE K (tBM K "list" wy (bv i) (aU te dQ)) (Hu i pe):=λA ρ σ H Q Q' R q k=>by
 unfold Hu at q
 split at q
 .rename_i ds0 e0;obtain⟨a0,xs0,s0,g0,f0⟩:=R.ownAt e0;refine⟨_,s0,.inl ⟨rfl,xs0,SqL.of g0⟩,h A ρ σ H _ _ R q λv H1 p ρ1 q1 f1 o1=>?_⟩;obtain⟨R1,fv⟩:=o1.frz
  split at q1
  .rename_i ds e1;obtain⟨a,xs,s,g,f⟩:=R1.ownAt e1;rw [s0] at s;cases s;obtain⟨R2,f2⟩:=R1.lstw e1 s0 (f.append (.cons fv .nil));exact⟨a0,xs,v,rfl,rfl,g,tj (by rw [f.length];exact q1.1) (sz _ (pf _)),k _ _ _ _ q1.2 (f1.trans f2) ⟨R2,.non⟩⟩
  .exact q1.elim
 .exact q.elim
def r8{i:Nat}(h:LE K te pe)(hk:LE K tk pk):LS K fs (Bl te (Hf (bv i) tk DM)) (EB i pe pk):=λfx A R H0 ρ σ H D D' hf r F q k1 k2 k3 k4=>h A ρ σ H _ _ r q λv H1 p ρ1 q1 f1 o1=>by
 obtain⟨R1,fv⟩:=o1.frz
 split at q1
 .rename_i ds0 e0;obtain⟨a0,xs0,s0,g0,f0⟩:=R1.ownAt e0;refine⟨_,s0,hk A ρ1 σ H1 _ _ R1 q1 λw H2 kp ρ2 q2 f2 o2=>?_⟩
  split at q2
  .rename_i ds j e2;obtain⟨n,hn,q2⟩:=q2;obtain⟨R2,fw⟩:=o2;cases fw;obtain⟨a,xs,s,g,f⟩:=R2.ownAt e2;rw [s0] at s;cases s;obtain⟨R3,f3⟩:=R2.lstw e2 s0 (FVs.set (fv.keeps f2.keeps) n f);exact⟨a0,xs,j,n,rfl,rfl,g,by rw [f.length];exact hn,k1 _ _ _ q2 R3 (((F.fr f1).fr f2).fr f3)⟩
  .exact q2.elim
 .exact q1.elim
end
noncomputable def spP(K:a_)(c:FN):Sp:=λvs H Q _=>∃(O:Addr->Prop) (ds:List D) (Qc:PV->Prop),(∀b,O b->H b≠none)/\FVs K O H vs ds/\c ds Qc/\∀r,Qc r->∀v H',Gr H H'->ul K O H H' r v->Q v H'
noncomputable def lb(c:FN)(pr:PTA):PTE:=λρ Q=>pr ρ λas ρ1=>match avD as with
 | some ds=>c ds λr=>Q r ρ1
 | none=>False
def i7{N:List Str}{vs:List V}{i:Nat}{v:V}(h:vs[i]?=some v):(start N vs)[i]?=some (some v):=by
 unfold start;rw [Kn (by rw [length_map];exact (i_.mp h).1),k_,h];rfl
noncomputable def b9(n:Nat)(ps:List PV):PSt:=ps.map some++so (n - ps.length) none
def cC{n:Nat}{ps:List PV}{i:Nat}{p:PV}(h:(b9 n ps)[i]?=some (some p)):ps[i]?=some p:=by
 unfold b9 at h
 by_cases hi:i<ps.length
 .rw [Kn (by rw [length_map];exact hi),k_] at h
  cases e:ps[i]? with
  | none=>rw [e] at h;cases h
  | some q=>rw [e] at h;cases h;rfl
 .rw [JS (by rw [length_map];omega)] at h;have:=IH h;rw [Lk] at this;cases this.2
section
variable {K:a_}{tr:TA}{pr:PTA}{ts:TS}{ps:PTS}
def aF{c:FN}(h:LAs K tr pr):LE K (eM (spP K c) [] E0 tr) (lb c pr):=λA ρ σ H Q Q' R q k=>h A ρ σ H _ _ R q λvs H1 as ρ1 q1 f1 R1 o1=>by
 split at q1
 .rename_i ds e;rw [IL];exact⟨OO A ρ1 σ,ds,_,R1.dom2,o1.avD e,q1,λr qr v H' g ov=>k v H' r ρ1 qr (f1.trans g.fr) ((ov.out R1 g).h0 f1.dm)⟩
 .exact q1.elim
def Out.outV{O:Addr->Prop}{ρ:PSt}{σ:St}{H H':Hp}{p:PV}{v:V}(h:Out K O ρ σ H H' p v):ul K O H H' p v:=by
 cases p with
 | dat d=>exact h.2.keeps (aL.less λb z=>.inl z)
 | own ds =>
  obtain⟨a,xs,e1,na,e2,e3,R,f⟩:=h;exact⟨a,xs,e1,e2,e3,f.keeps (aL.less λb z=>.inl z)⟩
 | ins c ns ds =>
  obtain⟨a,dx,fs,e1,na,e2,e3,m,R,f⟩:=h;exact⟨a,dx,fs,e1,e2,e3,m,f.keeps (aL.less λb z=>.inl z)⟩
def fnP{c:FN}{N:List Str}(hl:LS K [] ts ps)(hn:∀ds Q,c ds Q->ds.length<=N.length)(hc:∀ds Q,c ds Q->ps { nx:=λ_=>Q (.dat .non),rt:=λp _=>Q p } (b9 N.length (ds.map .dat)))
  {vs:List V}{H:Hp}{Q:VK}{E:XK} (h:spP K c vs H Q E):ts { nx:=λ_ H'=>Q .non H',rt:=Q } (start N vs) H:=by
 obtain⟨O,ds,Qc,dom,fv,hq,k⟩:=h
 have nw:∀(ρ:PSt) (b:Addr),ρ=b9 N.length (ds.map .dat)->¬ Wr ρ (start N vs) b:=λρ b e ⟨i,p,e1,o1,s1⟩=>by
  rw [e] at e1;have:=cC e1;rw [k_] at this
  cases e2:ds[i]? with
  | none=>rw [e2] at this;cases this
  | some d=>rw [e2] at this;cases this;cases o1
 have lenv:=fv.length;have hle:=hn ds Qc hq
 have R0:Rel K O (b9 N.length (ds.map .dat)) (start N vs) H:=by
  refine⟨?_,λi p e=>?_,λi j p q v e1 e2 o1 o2 s1 s2=>?_,dom,λb _ w=>nw _ b rfl w⟩
  .unfold b9 start;rw [length_append,length_append,length_map,length_map,length_map,length_replicate,length_replicate,lenv]
  .have:=cC e;rw [k_] at this
   cases e2:ds[i]? with
   | none=>rw [e2] at this;cases this
   | some d =>
    rw [e2] at this;cases this;obtain⟨v,hv,f⟩:=fv.getD e2;exact⟨v,i7 hv,f.keeps (aL.less λb z=>z.elim id λw=>absurd w (nw _ b rfl))⟩
  .have:=cC e1;rw [k_] at this
   cases e3:ds[i]? with
   | none=>rw [e3] at this;cases this
   | some d=>rw [e3] at this;cases this;cases o1
 refine hl [] O (λ_=>False) H _ _ H _ _ rfl R0 ⟨λ_ _ _ h=>h,λ_ h=>h,λb w=>absurd w (nw _ b rfl),λp hp=>nomatch hp⟩ (hc ds Qc hq) (λρ' σ' H' q r F=>?_) (λv p ρ' σ' H' q o F=>?_) (λ_ _ _ z=>z.elim) (λ_ _ _ z=>z.elim)
 .exact k _ q .non H' (λb o e=>F.kp b o id e) .non
 .exact k _ q v H' (λb o e=>F.kp b o id e) o.outV
abbrev FR:=PV->List D->(PV->PV->Prop)->Prop
noncomputable def spR(K:a_)(c:FR):Sp:=λvs H Q _=>∃(A:Addr->Prop) (a:Addr) (p:PV) (ws:List V) (ds:List D) (Qc:PV->PV->Prop),vs=.ref a::ws/\p.isOwn=true/\(∀b,A b->H b≠none)/\¬ A a/\RS K (eQ A a) H p (.ref a)/\FVs K (eQ A a) H ws ds/\c p ds Qc /\
 ∀r p',Qc r p'->p'.isOwn=true->∀v H',(∀b o,b≠a->H b=some o->H' b=some o)->H' a≠none->RS K (eQ A a) H' p' (.ref a)->ul K (eQ A a) H H' r v->(∀a',v=.ref a'->r.isOwn=true->RS K (eQ (eQ A a) a') H' p' (.ref a))->Q v H'
noncomputable def Al(c:FR)(i:Nat)(pr:PTA):PTE:=λρ Q=>match ρ[i]? with
 | some (some _)=>pr ρ λas ρ1=>(match ρ1[i]?,avD as with
  | some (some p),some ds=>p.isOwn=true/\c p ds λr p'=>Q r (ρ1.set i (some p'))
  | _,_=>False)
 | _=>False
def aE{c:FR}{i:Nat}(h:LAs K tr pr):LE K (eM (spR K c) [] E0 (aU (bv i) tr)) (Al c i pr):=λA ρ σ H Q Q' R q k=>by
 unfold Al at q
 split at q
 .rename_i p0 e0;obtain⟨v0,s0,_⟩:=R.get i p0 e0;refine⟨v0,s0,h A ρ σ H _ _ R q λvs H1 as ρ1 q1 f1 R1 o1=>?_⟩
  split at q1
  .rename_i p ds e1 ed;obtain⟨ow,q1⟩:=q1;obtain⟨v1,s1,rs⟩:=R1.get i p e1;rw [s0] at s1;cases s1;obtain⟨a,u,rfl,ea⟩:=rs.ref ow;rw [IL];have wa:Wr ρ1 σ a:=⟨i,p,e1,ow,s0⟩
   have oeq:eQ (λb=>(OO A ρ1 σ b)/\b≠a) a=OO A ρ1 σ:=funext λb=>propext ⟨λz=>z.elim (λz=>z.1) (λz=>by rw [z];exact .inr wa),λz=>by
    by_cases e:b=a
    .exact .inr e
    .exact .inl ⟨z,e⟩⟩
   refine⟨λb=>(OO A ρ1 σ b)/\b≠a,a,p,vs,ds,_,rfl,ow,λb z=>R1.dom2 b z.1,λz=>z.2 rfl,by rw [oeq];exact rs,by rw [oeq];exact o1.avD ed,q1,λr p' qr ow' v H' kp ha rs' ov hx=>?_⟩;rw [oeq] at rs' ov hx
   have domA:∀b,A b->H' b≠none:=λb z=>by
    have:b≠a:=λe=>R1.sep b z (by rw [e];exact wa)
    cases eb:H1 b with
    | none=>exact absurd eb (R1.dom b z)
    | some o=>rw [kp b o this eb];exact nofun
   cases r with
   | dat d =>
    obtain⟨R2,f2⟩:=R1.step (A':=A) e1 ow ow' s0 kp ha (λ_ h=>h) (λ_ h=>.inl h) domA rs';exact k v H' _ _ qr (f1.trans f2) ⟨R2,FV.keeps (aL.less λb z=>z.imp id (f2.ow b)) ov⟩
   | own es =>
    obtain⟨a',xs,rfl,n1,e2,f⟩:=ov;have hx:=hx a' rfl rfl;have na:a'≠a:=λe=>by rw [e,ea] at n1;cases n1
    have oo2:∀b,OO (eQ A a') ρ1 σ b ↔ eQ (OO A ρ1 σ) a' b:=λb=>⟨λz=>by
     rcases z with (z|z)|z
     .exact .inl (.inl z)
     .exact .inr z
     .exact .inl (.inr z),λz=>by
     rcases z with (z|z)|z
     .exact .inl (.inl z)
     .exact .inr z
     .exact .inl (.inr z)⟩
    have oo2':OO (eQ A a') ρ1 σ=eQ (OO A ρ1 σ) a':=funext λb=>propext (oo2 b)
    obtain⟨R2,f2⟩:=R1.step (A':=eQ A a') e1 ow ow' s0 kp ha (λ_ h=>.inl h) (λb z=>z.imp id λz=>by rw [z];exact n1) (λb z=>z.elim (domA b) λz=>by rw [z,e2];exact nofun) (by rw [oo2'];exact hx)
    .refine k _ H' (.own es) _ qr (f1.trans f2) ⟨a',xs,rfl,λz=>R1.dom a' z n1,?_,e2,R2,f.keeps (aL.less λb z=>?_)⟩
     .cases eb:H a' with
      | none=>rfl
      | some o=>exact absurd n1 (f1.dm a' (by rw [eb];exact nofun))
     .rw [<- oo2'];exact z.imp id (f2.ow b)
   | ins c ns es =>
    obtain⟨a',dx,fs,rfl,n1,e2,m,f⟩:=ov;have hx:=hx a' rfl rfl
    have oo2':OO (eQ A a') ρ1 σ=eQ (OO A ρ1 σ) a':=funext λb=>propext ⟨λz=>by
     rcases z with (z|z)|z
     .exact .inl (.inl z)
     .exact .inr z
     .exact .inl (.inr z),λz=>by
     rcases z with (z|z)|z
     .exact .inl (.inl z)
     .exact .inr z
     .exact .inl (.inr z)⟩
    obtain⟨R2,f2⟩:=R1.step (A':=eQ A a') e1 ow ow' s0 kp ha (λ_ h=>.inl h) (λb z=>z.imp id λz=>by rw [z];exact n1) (λb z=>z.elim (domA b) λz=>by rw [z,e2];exact nofun) (by rw [oo2'];exact hx)
    .refine k _ H' (.ins c ns es) _ qr (f1.trans f2) ⟨a',dx,fs,rfl,λz=>R1.dom a' z n1,?_,e2,m,R2,f.keeps (aL.less λb z=>?_)⟩
     .cases eb:H a' with
      | none=>rfl
      | some o=>exact absurd n1 (f1.dm a' (by rw [eb];exact nofun))
     .rw [<- oo2'];exact z.imp id (f2.ow b)
  .exact q1.elim
 .exact q.elim
noncomputable def De(Q:PV->PV->Prop)(r:PV)(ρ:PSt):Prop:=match ρ[0]? with
 | some (some p)=>p.isOwn=true/\Q r p
 | _=>False
def fnR{c:FR}{N:List Str}(hl:LS K [0] ts ps)(hn:∀p ds Q,c p ds Q->ds.length+1<=N.length)(hc:∀p ds Q,p.isOwn=true->c p ds Q->ps { nx:=De Q (.dat .non),rt:=De Q } (b9 N.length (p::ds.map .dat)))
  {vs:List V}{H:Hp}{Q:VK}{E:XK} (h:spR K c vs H Q E):ts { nx:=λ_ H'=>Q .non H',rt:=Q } (start N vs) H:=by
 obtain⟨A,a,p,ws,ds,Qc,rfl,ow,dom,na,rs,fv,hq,k⟩:=h;have s0:(start N (V.ref a::ws))[0]?=some (some (.ref a)):=i7 rfl;have b0:(b9 N.length (p::ds.map .dat))[0]?=some (some p):=rfl
 have wr:∀b,Wr (b9 N.length (p::ds.map .dat)) (start N (.ref a::ws)) b->b=a:=λb ⟨i,q,e1,o1,s1⟩=>by
  have:=cC e1
  cases i with
  | zero=>rw [s0] at s1;cases s1;rfl
  | succ i =>
   rw [KI,k_] at this
   cases e2:ds[i]? with
   | none=>rw [e2] at this;cases this
   | some d=>rw [e2] at this;cases this;cases o1
 have wa:Wr (b9 N.length (p::ds.map .dat)) (start N (.ref a::ws)) a:=⟨0,p,b0,ow,s0⟩
 have oeq:OO A (b9 N.length (p::ds.map .dat)) (start N (.ref a::ws))=eQ A a:=funext λb=>propext ⟨λz=>z.imp id (wr b),λz=>z.imp id λz=>by rw [z];exact wa⟩;have lenv:=fv.length;have hle:=hn p ds Qc hq
 have R0:Rel K A (b9 N.length (p::ds.map .dat)) (start N (.ref a::ws)) H:=by
  refine⟨?_,λi q e=>?_,λi j q1 q2 v e1 e2 o1 o2 s1 s2=>?_,dom,λb z w=>?_⟩
  .unfold b9 start;simp only [length_append,length_map,length_replicate,length_cons,lenv]
  .have:=cC e;rw [oeq]
   cases i with
   | zero=>cases this;exact⟨_,s0,rs⟩
   | succ i =>
    rw [KI,k_] at this
    cases e2:ds[i]? with
    | none=>rw [e2] at this;cases this
    | some d =>
     rw [e2] at this;cases this;obtain⟨v,hv,f⟩:=fv.getD e2;exact⟨v,i7 (by rw [KI];exact hv),f⟩
  .have own0:∀(i:Nat) (q:PV),(b9 N.length (p::ds.map .dat))[i]?=some (some q)->q.isOwn=true->i=0:=λi q e o=>by
    have:=cC e
    cases i with
    | zero=>rfl
    | succ i =>
     rw [KI,k_] at this
     cases e2:ds[i]? with
     | none=>rw [e2] at this;cases this
     | some d=>rw [e2] at this;cases this;cases o
   rw [own0 i q1 e1 o1,own0 j q2 e2 o2]
  .rw [wr b w] at z;exact na z
 have fin:∀(v:V) (r:PV) (ρ':PSt) (σ':St) (H':Hp),De Qc r ρ'->Out K A ρ' σ' H H' r v->cw [(0,.ref a)] (λb=>b=a) H ρ' σ' H'->Q v H':=λv r ρ' σ' H' q o F=>by
  unfold De at q
  split at q
  .rename_i p' e';obtain⟨ow',q⟩:=q;have sa:=F.fx (0,.ref a) (JL.mpr rfl);have wa':Wr ρ' σ' a:=⟨0,p',e',ow',sa⟩
   have kpa:∀b o,b≠a->H b=some o->H' b=some o:=λb o n e=>F.kp b o n e
   cases r with
   | dat d =>
    obtain⟨R1,f1⟩:=o;obtain⟨v1,s1,rs1⟩:=R1.get 0 p' e';rw [sa] at s1;cases s1;have less:∀b,eQ A a b->OO A ρ' σ' b:=λb z=>z.imp id λz=>by rw [z];exact wa'
    exact k _ p' q ow' v H' kpa (R1.wr wa') (rs1.keeps (aL.less less) λ_ _ _=>rfl) (f1.keeps (aL.less less)) (λ_ _ z=>nomatch z)
   | own es =>
    obtain⟨a',xs,rfl,n1,n2,e3,R1,f1⟩:=o;obtain⟨v1,s1,rs1⟩:=R1.get 0 p' e';rw [sa] at s1;cases s1
    have less:∀b,eQ (eQ A a) a' b->OO (eQ A a') ρ' σ' b:=λb z=>by
     rcases z with (z|z)|z
     .exact .inl (.inl z)
     .exact .inr (by rw [z];exact wa')
     .exact .inl (.inr z)
    exact k _ p' q ow' _ H' kpa (R1.wr wa') (rs1.keeps (aL.less λb z=>less b (.inl z)) λ_ _ _=>rfl) ⟨a',xs,rfl,n2,e3,f1.keeps (aL.less less)⟩ (λa'' e _=>by cases e;exact rs1.keeps (aL.less less) λ_ _ _=>rfl)
   | ins c ns es =>
    obtain⟨a',dx,fs,rfl,n1,n2,e3,m,R1,f1⟩:=o;obtain⟨v1,s1,rs1⟩:=R1.get 0 p' e';rw [sa] at s1;cases s1
    have less:∀b,eQ (eQ A a) a' b->OO (eQ A a') ρ' σ' b:=λb z=>by
     rcases z with (z|z)|z
     .exact .inl (.inl z)
     .exact .inr (by rw [z];exact wa')
     .exact .inl (.inr z)
    exact k _ p' q ow' _ H' kpa (R1.wr wa') (rs1.keeps (aL.less λb z=>less b (.inl z)) λ_ _ _=>rfl) ⟨a',dx,fs,rfl,n2,e3,m,f1.keeps (aL.less less)⟩ (λa'' e _=>by cases e;exact rs1.keeps (aL.less less) λ_ _ _=>rfl)
  .exact q.elim
 refine hl [(0,.ref a)] A (λb=>b=a) H _ _ H _ _ rfl R0 ⟨λ_ _ _ h=>h,λ_ h=>h,λb w=>.inl (wr b w),λq hq=>by rw [JL.mp hq];exact s0⟩ (hc p ds Qc ow hq) (λρ' σ' H' q r F=>fin .non (.dat .non) ρ' σ' H' q ⟨r,.non⟩ F) (λv p ρ' σ' H' q o F=>fin v p ρ' σ' H' q o F) (λ_ _ _ z=>z.elim) (λ_ _ _ z=>z.elim)
end
noncomputable def Hv:FN:=λas Q=>∃ns:List Int,as=[.scr ns]/\ns.length<=63/\Q (.dat (.bl true))
def B8{K:a_}{vs:List V}{H:Hp}{Q:VK}{E:XK}(h:vh K vs H Q E):spP K Hv vs H Q E:=by
 obtain⟨a,ns,rfl,hS,h63,q⟩:=h
 refine⟨λ_=>False,[.scr ns],λr=>r=.dat (.bl true),nofun,.cons (.scr ?_) .nil,⟨ns,rfl,h63,rfl⟩,λr e v H' g o=>?_⟩
 .rcases hS with h|h
  .exact .inl ⟨id,h⟩
  .exact .inr h
 .subst e;cases o;exact q H'
section
variable {K:a_}{X:Cx}
noncomputable def Hw:List V->Hp->VK->Prop:=λxs H Q=>∃i,xs=[.int i]/\Q (.int (if i<0 then -i else i)) H
noncomputable def EC:List V->Hp->VK->Prop:=λxs H Q=>∃i j,xs=[.int i,.int j]/\Q (.int (if j<i then j else i)) H
noncomputable def ED:List V->Hp->VK->Prop:=λxs H Q=>∃i j,xs=[.int i,.int j]/\Q (.int (if j > i then j else i)) H
def GE:bo X (.builtin "abs") Hw:=yN
def xc(hc:X.calm=true):bo X (.builtin "min") EC:=wg hc
def EE(hc:X.calm=true):bo X (.builtin "max") ED:=wf hc
noncomputable def Hx:FN
 | [.int i],Q=>Q (.dat (.int (if i<0 then -i else i)))
 | _,_=>False
noncomputable def EF:FN
 | [.int i,.int j],Q=>Q (.dat (.int (if j<i then j else i)))
 | _,_=>False
noncomputable def EG:FN
 | [.int i,.int j],Q=>Q (.dat (.int (if j > i then j else i)))
 | _,_=>False
def EH:LC K Hw Hx:=by
 intro O H xs as Q Q' dom fs q k;unfold Hx at q
 split at q
 .cases fs with|cons a b=>cases b;rw [a.int];exact⟨_,rfl,k _ H _ q (Gr.refl _) (.int _)⟩
 .exact q.elim
def sd:LC K EC EF:=by
 intro O H xs as Q Q' dom fs q k;unfold EF at q
 split at q
 .cases fs with
  | cons a b=>cases b with|cons b c=>cases c;rw [a.int,b.int];exact⟨_,_,rfl,k _ H _ q (Gr.refl _) (.int _)⟩
 .exact q.elim
def B9:LC K ED EG:=by
 intro O H xs as Q Q' dom fs q k;unfold EG at q
 split at q
 .cases fs with
  | cons a b=>cases b with|cons b c=>cases c;rw [a.int,b.int];exact⟨_,_,rfl,k _ H _ q (Gr.refl _) (.int _)⟩
 .exact q.elim
noncomputable def EI(K:a_):List V->Hp->VK->Prop:=λxs H Q=>∃(p:Addr) (ns:List Int),xs=[.ref p]/\SqL K H p (ns.map V.int)/\Q (.int ns.sum) H
noncomputable def Hy(K:a_):List V->Hp->VK->Prop:=λxs H Q=>∃(p:Addr) (bs:List Bool),xs=[.ref p]/\SqL K H p (bs.map V.bl)/\Q (.bl (bs.all id)) H
noncomputable def Hz(K:a_):List V->Hp->VK->Prop:=λxs H Q=>∃(p:Addr) (bs:List Bool),xs=[.ref p]/\SqL K H p (bs.map V.bl)/\Q (.bl (bs.any id)) H
def EJ(K:a_)(e:X.K=K)(hc:X.calm=true):bo X (.builtin "sum") (EI K):=by subst e;exact wS hc
def EK(K:a_)(e:X.K=K)(hc:X.calm=true):bo X (.builtin "all") (Hy K):=by subst e;exact zb hc
def GF(K:a_)(e:X.K=K)(hc:X.calm=true):bo X (.builtin "any") (Hz K):=by subst e;exact zc hc
noncomputable def Ca:FN
 | [.lst ds],Q=>∃ns:List Int,ds=ns.map .int/\Q (.dat (.int ns.sum))
 | _,_=>False
noncomputable def GG:FN
 | [.lst ds],Q=>∃bs:List Bool,ds=bs.map .bl/\Q (.dat (.bl (bs.all id)))
 | _,_=>False
noncomputable def HA:FN
 | [.lst ds],Q=>∃bs:List Bool,ds=bs.map .bl/\Q (.dat (.bl (bs.any id)))
 | _,_=>False
def Cb:LC K (EI K) Ca:=by
 intro O H xs as Q Q' dom fs q k;unfold Ca at q
 split at q
 .obtain⟨ns,rfl,q⟩:=q
  cases fs with
  | cons a b =>
   cases b;obtain⟨p,ys,rfl,e1,f1⟩:=a.lst;rw [f1.ints] at e1;exact⟨p,ns,rfl,SqL.of e1,k _ H _ q (Gr.refl _) (.int _)⟩
 .exact q.elim
def Am:LC K (Hy K) GG:=by
 intro O H xs as Q Q' dom fs q k;unfold GG at q
 split at q
 .obtain⟨ns,rfl,q⟩:=q
  cases fs with
  | cons a b =>
   cases b;obtain⟨p,ys,rfl,e1,f1⟩:=a.lst;rw [f1.bls] at e1;exact⟨p,ns,rfl,SqL.of e1,k _ H _ q (Gr.refl _) (.bl _)⟩
 .exact q.elim
def EL:LC K (Hz K) HA:=by
 intro O H xs as Q Q' dom fs q k;unfold HA at q
 split at q
 .obtain⟨ns,rfl,q⟩:=q
  cases fs with
  | cons a b =>
   cases b;obtain⟨p,ys,rfl,e1,f1⟩:=a.lst;rw [f1.bls] at e1;exact⟨p,ns,rfl,SqL.of e1,k _ H _ q (Gr.refl _) (.bl _)⟩
 .exact q.elim
noncomputable def Cc(K:a_):List V->Hp->VK->Prop:=λxs H Q=>∃p ys,xs=[.ref p]/\((SqL K H p ys/\∀l,H l=none->Q (.ref l) (upd H l (.tup ys)))\/(SqT K H p ys/\Q (.ref p) H))
def gi(K:a_)(e:X.K=K):bo X (.type "tuple") (Cc K):=by subst e;exact nS
def xf(K:a_)(e:X.K=K):bo X (.type "list") (wU K):=by subst e;exact qm
noncomputable def uu:FN
 | [.lst ds],Q=>Q (.dat (.tup ds))
 | [.tup ds],Q=>Q (.dat (.tup ds))
 | [.scr ns],Q=>Q (.dat (.tup (ns.map .int)))
 | _,_=>False
noncomputable def Cd:FN
 | [.lst ds],Q=>Q (.own ds)
 | [.tup ds],Q=>Q (.own ds)
 | [.scr ns],Q=>Q (.own (ns.map .int))
 | _,_=>False
def dW:LC K (Cc K) uu:=by
 intro O H xs as Q Q' dom fs q k;unfold uu at q
 split at q
 .cases fs with
  | cons a b =>
   cases b;obtain⟨p,ys,rfl,e1,f1⟩:=a.lst;exact⟨p,ys,rfl,.inl ⟨SqL.of e1,λl hl=>k _ _ _ q (Gr.new hl) (n9 dom hl f1)⟩⟩
 .cases fs with
  | cons a b =>
   cases b;obtain⟨p,ys,rfl,n1,e1,f1⟩:=a.tup;exact⟨p,ys,rfl,.inr ⟨SqT.of e1,k _ H _ q (Gr.refl _) (.tup n1 e1 f1)⟩⟩
 .cases fs with
  | cons a b =>
   cases b;obtain⟨p,rfl,e1⟩:=a.scr;exact⟨p,_,rfl,.inl ⟨e1,λl hl=>k _ _ _ q (Gr.new hl) (n9 dom hl (FVs.of_ints _))⟩⟩
 .exact q.elim
def se:LC K (wU K) Cd:=by
 intro O H xs as Q Q' dom fs q k;unfold Cd at q
 split at q
 .cases fs with
  | cons a b =>
   cases b;obtain⟨p,ys,rfl,e1,f1⟩:=a.lst;exact⟨p,ys,rfl,.inl (SqL.of e1),λl hl=>k _ _ _ q (Gr.new hl) (dw hl f1)⟩
 .cases fs with
  | cons a b =>
   cases b;obtain⟨p,ys,rfl,n1,e1,f1⟩:=a.tup;exact⟨p,ys,rfl,.inr (SqT.of e1),λl hl=>k _ _ _ q (Gr.new hl) (dw hl f1)⟩
 .cases fs with
  | cons a b =>
   cases b;obtain⟨p,rfl,e1⟩:=a.scr;exact⟨p,_,rfl,.inl e1,λl hl=>k _ _ _ q (Gr.new hl) (dw hl (FVs.of_ints _))⟩
 .exact q.elim
variable {ta:TE}{pa:PA1}{tr:TA}{pr:PTA}{pe:PTE}
noncomputable def mkL(tup:Bool)(ds:List D):PV:=match tup with|true=>.dat (.tup ds)|false=>.own ds
abbrev FM:=List Nat->List D->(PV->Prop)->Prop
noncomputable def LM(K:a_)(r:V->List V->Hp->VK->Prop)(f:FM):Prop:=∀(O:Addr->Prop) (H:Hp) (l:List Nat) (xs:List V) (as:List D) (Q:PV->Prop) (Q':VK),(∀b,O b->H b≠none)->l.length<=1000000->Dc K O H xs as->f l as Q ->
 (∀v H' p,Q p->Gr H H'->ul K O H H' p v->Q' v H')->r (.str (S l)) xs H Q'
noncomputable def pSM(f:FM)(pe:PTE)(pr:PTA):PTE:=λρ Q=>pe ρ λp ρ1=>match p with
 | .dat (.str l)=>pr ρ1 λas ρ2=>(match conts ρ2 as with
  | some ds=>f l ds λr=>Q r ρ2
  | none=>False)
 | _=>False
def sf{r:V->List V->Hp->VK->Prop}{f:FM}(o:LM K r f)(he:LE K ta pe)(hr:LAs K tr pr):LE K (tBM K "str" r ta tr) (pSM f pe pr):=λA ρ σ H Q Q' R q k=>he A ρ σ H _ _ R q λv H1 p ρ1 q1 f1 o1=>by
 split at q1
 .rename_i l;obtain⟨R1,fv⟩:=o1
  cases fv with
  | str _ hl =>
   refine⟨rfl,hr A ρ1 σ H1 _ _ R1 q1 λvs H2 as ρ2 q2 f2 R2 o2=>?_⟩
   split at q2
   .rename_i ds e;exact o _ H2 l vs ds _ _ R2.dom2 hl (R2.conts o2 e) q2 λz H3 p q3 g ov=>k z H3 p ρ2 q3 ((f1.trans f2).trans g.fr) ((ov.out R2 g).h0 λb z=>f2.dm b (f1.dm b z))
   .exact q2.elim
 .exact q1.elim
noncomputable def EM:V->List V->Hp->VK->Prop:=λx xs H Q=>∃a b,x=.str (S a)/\xs=[.str (S b)]/\Q (.bl (decide (b <:+ a))) H
noncomputable def An:V->List V->Hp->VK->Prop:=λx xs H Q=>∃a b,x=.str (S a)/\xs=[.str (S b)]/\Q (.int (fnd a b 0)) H
noncomputable def Ao:V->List V->Hp->VK->Prop:=λx xs H Q=>∃a b i,x=.str (S a)/\xs=[.str (S b),.int i]/\0<=i/\Q (.int (fnd a b i.toNat)) H
def Ce:MtR X "str.endswith" EM:=rT
def ou:MtR X "str.find" An:=y0
def zk:MtR X "str.find" Ao:=y6
noncomputable def EN:FM
 | a,[.str b],Q=>Q (.dat (.bl (decide (b <:+ a))))
 | _,_,_=>False
noncomputable def Ap:FM
 | a,[.str b],Q=>Q (.dat (.int (fnd a b 0)))
 | _,_,_=>False
noncomputable def Aq:FM
 | a,[.str b,.int i],Q=>0<=i/\Q (.dat (.int (fnd a b i.toNat)))
 | _,_,_=>False
def Cf:LM K EM EN:=by
 intro O H l xs as Q Q' dom hl fs q k;unfold EN at q
 split at q
 .cases fs with|cons a b=>cases b;rw [a.str.1];exact⟨_,_,rfl,rfl,k _ H _ q (Gr.refl _) (.bl _)⟩
 .exact q.elim
def oy:LM K An Ap:=by
 intro O H l xs as Q Q' dom hl fs q k;unfold Ap at q
 split at q
 .cases fs with|cons a b=>cases b;rw [a.str.1];exact⟨_,_,rfl,rfl,k _ H _ q (Gr.refl _) (.int _)⟩
 .exact q.elim
def zl:LM K Ao Aq:=by
 intro O H l xs as Q Q' dom hl fs q k;unfold Aq at q
 split at q
 .cases fs with|cons a b=>cases b with|cons b c=>cases c;rw [a.str.1,b.int];exact⟨_,_,_,rfl,rfl,q.1,k _ H _ q.2 (Gr.refl _) (.int _)⟩
 .exact q.elim
noncomputable def gj(f:Str):List Str->Option Nat
 | []=>none
 | n::r=>if n=f then some 0 else (gj f r).map (·+1)
theorem lc{f:Str}:∀{fs:List (Str×V)}{k:Nat},gj f (fs.map IX)=some k->fs.lookup f=(fs.map Lv)[k]?
 | [],k,h=>by cases h
 | (n,v)::r,k,h=>by
  unfold gj at h;rw [map_cons] at h;simp only at h;rw [JE]
  by_cases e:n=f
  .rw [if_pos e] at h;cases h;rw [show (f == n)=true by rw [e];exact beq_self_eq_true _];rfl
  .rw [if_neg e] at h;rw [show (f == n)=false from beq_eq_false_iff_ne.mpr λz=>e z.symm]
   cases e2:gj f (r.map IX) with
   | none=>rw [e2] at h;cases h
   | some j=>rw [e2] at h;cases h;show JD f r=_;rw [lc e2];simp
theorem oz{f:Str}{v:V}:∀{fs:List (Str×V)},gj f (fs.map IX)=none->mY f v fs=fs++[(f,v)]
 | [],h=>rfl
 | (n,x)::r,h=>by
  unfold gj at h;rw [map_cons] at h;simp only at h
  by_cases e:n=f
  .rw [if_pos e] at h;cases h
  .rw [if_neg e] at h
   cases e2:gj f (r.map IX) with
   | none=>unfold mY;rw [if_neg e,oz e2];rfl
   | some j=>rw [e2] at h;cases h
def FVc.obj{O:Addr->Prop}{H:Hp}{v:V}{c:Str}{ns:List Str}{ds:List D}(h:FVc K O H v (.obj c ns ds)):∃a dx fs,v=.ref a/\H a=some (.ins (aK K c) dx fs)/\fs.map IX=ns/\FVs K O H (fs.map Lv) ds:=by
 rcases h with h|⟨a,xs,ds',e1,e2,e3,f⟩|⟨a,dx,c,fs,ns,ds',e1,e2,e3,m,f⟩
 .cases h with
  | obj n e m f=>exact⟨_,_,_,rfl,e,m,f⟩
 .cases e2
 .cases e2;exact⟨a,dx,fs,e1,e3,m,f⟩
noncomputable def FE(c0:Str)(ns0:List Str)(k:Nat)(pa:PA1):PTE:=λρ Q=>pa ρ λx ρ1=>match cont ρ1 x with
 | some (.obj c ns ds)=>(c=c0/\ns=ns0)/\∃d,ds[k]?=some d/\Q (.dat d) ρ1
 | _=>False
def i8{c0 f:Str}{ns0:List Str}{i:Nat}(hc:Cls K (aK K c0))(hn:fU K (aK K c0) f)(hk:gj f ns0=some i)(h:LA1 K ta pa):LE K (C9 K ta f) (FE c0 ns0 i pa):=λA ρ σ H Q Q' R q k=>h A ρ σ H _ _ R q λv H1 a ρ1 q1 f1 R1 o1=>by
 split at q1
 .rename_i c ns ds e;obtain⟨⟨rfl,rfl⟩,d,hd,q1⟩:=q1;obtain⟨a,dx,fs,rfl,e1,m,f⟩:=(R1.cont o1 e).obj;obtain⟨v,hv,fv⟩:=f.getD hd;exact⟨a,_,dx,fs,v,rfl,e1,hc,hn,by rw [lc (k:=i) (by rw [m];exact hk)];exact hv,k v H1 _ ρ1 q1 f1 ⟨R1,fv⟩⟩
 .exact q1.elim
noncomputable def qI(c0:Str)(ns0:List Str)(f:Str)(i:Nat)(pe:PTE):PTS:=λD ρ=>pe ρ λp ρ1=>match ρ1[i]? with
 | some (some (.ins c ns ds))=>(c=c0/\ns=ns0/\ns0.length<1000)/\D.nx (ρ1.set i (some (.ins c0 (ns0++[f]) (ds++[p.d]))))
 | _=>False
def oA{fs':List Nat}{c0 f:Str}{ns0:List Str}{i:Nat}(hc:Cls K (aK K c0))(hn:fU K (aK K c0) f)(hk:gj f ns0=none)(h:LE K ta pe):LS K fs' (Hh K (bv i) ta f) (qI c0 ns0 f i pe):=λfx A R H0 ρ σ H D D' hf r F q k1 k2 k3 k4=>h A ρ σ H _ _ r q λv H1 p ρ1 q1 f1 o1=>by
 obtain⟨R1,fv⟩:=o1.frz
 split at q1
 .rename_i c ns ds e;obtain⟨⟨rfl,rfl,hl⟩,q1⟩:=q1;obtain⟨w,s,a,dx,fs,rfl,g,m,ff⟩:=R1.get i _ e;have hk':gj f (fs.map IX)=none:=by rw [m];exact hk
  have wa:OO A ρ1 σ a:=.inr ⟨i,_,e,rfl,s⟩;have kw:∀o,aL (OO A ρ1 σ) H1 (OO A ρ1 σ) (upd H1 a o):=λo b u n h=>⟨n,by rw [au (λz=>n (by rw [z];exact wa))];exact h⟩
  obtain⟨R2,f2⟩:=R1.write (o:=.ins (aK K c) dx (mY f v fs)) (q:=.ins c (ns++[f]) (ds++[p.d])) e rfl rfl s ⟨a,dx,mY f v fs,rfl,aB,by rw [oz hk',map_append,m];rfl,by rw [oz hk',map_append];exact (ff.append (.cons fv .nil)).keeps (kw _)⟩;refine⟨_,s,a,_,dx,fs,rfl,g,hc,hn,?_,k1 _ _ _ q1 R2 ((F.fr f1).fr f2)⟩;have:fs.length=ns.length:=by rw [<- m,length_map]
  omega
 .exact q1.elim
noncomputable def GH(c0:Str)(c:FR)(pr:PTA):PTE:=λρ Q=>pr ρ λas ρ1=>match avD as with
 | some ds=>c (.ins c0 [] []) ds λr p'=>(match r,p' with
  | .dat .non,.ins c1 ns es=>c1=c0/\Q (.ins c1 ns es) ρ1
  | _,_=>False)
 | none=>False
def xg{c0:Str}{c:FR}(h:LAs K tr pr):LE K (yP (aK K c0) (spR K c) [] E0 tr) (GH c0 c pr):=λA ρ σ H Q Q' R q k=>h A ρ σ H _ _ R q λvs H1 as ρ1 q1 f1 R1 o1=>by
 split at q1
 .rename_i ds e;intro x dx hx hdx hne;rw [IL]
  let H2:=upd (upd H1 dx (.own x)) x (.ins (aK K c0) dx [])
  have g2:Gr H1 H2:=λb o z=>by
   show upd (upd H1 dx (.own x)) x _ b=_;rw [au (aM z hx),au (aM z hdx)];exact z
  have nx:¬ OO A ρ1 σ x:=R1.oo hx
  have keep2:aL (OO A ρ1 σ) H1 (eQ (OO A ρ1 σ) x) H2:=λb o n z=>by
   refine⟨λy=>?_,g2 b o z⟩
   rcases y with y|y
   .exact n y
   .rw [y,hx] at z;cases z
  refine⟨OO A ρ1 σ,x,.ins c0 [] [],vs,ds,_,rfl,rfl,λb z=>(g2.fr (ρ:=ρ1) (σ:=σ)).dm b (R1.dom2 b z),nx,⟨x,dx,[],rfl,aB,rfl,.nil⟩,(o1.avD e).keeps keep2,q1,λr p' qr ow' v H' kp ha rs ov _=>?_⟩
  split at qr
  .obtain⟨rfl,qr⟩:=qr;cases ov;refine⟨rfl,?_⟩;obtain⟨a',dx',fs,ea,e2,m,f⟩:=rs;cases ea;have g:Gr H1 H':=λb o z=>kp b o (aM z hx) (g2 b o z)
   have hx0:H x=none:=by
    cases eb:H x with
    | none=>rfl
    | some o=>exact absurd hx (f1.dm x (by rw [eb];exact nofun))
   refine k _ H' _ ρ1 qr (f1.trans g.fr) ⟨x,dx',fs,rfl,λz=>nx (.inl z),hx0,e2,m,R1.grA g hx (by rw [e2];exact nofun),f.keeps (aL.less λb z=>?_)⟩
   rcases z with (z|z)|z
   .exact .inl (.inl z)
   .exact .inr z
   .exact .inl (.inr z)
  .exact qr.elim
 .exact q1.elim
end
abbrev GI:R2:=rI0 λi j=>.int (i - j)
abbrev GJ:R2:=rI (λ_ j=>0<j) λi j=>.int (i % j)
abbrev GK:R2:=rI FP λi j=>.int (i / j)
abbrev GL:R2:=rI FQ λi j=>.int (i^j.toNat)
abbrev HB:R2:=rI0 λi j=>.bl (decide (j<i))
abbrev Im:R2:=rI0 λi j=>.bl (decide (j<=i))
abbrev GM:V->Hp->VK->Prop:=rU λi=>.int (-i)
abbrev fGt:F2:=fI0 λi j=>.bl (decide (j<i))
noncomputable def HC:D->(PV->Prop)->Prop
 | .int i,Q=>Q (.dat (.int (-i)))
 | _,_=>False
section
variable {K:a_}{X:Cx}{ta:TE}{tr:TA}{pr:PTA}{ts:TS}{ps:PTS}
def vj:OpR X (binaryOp .Sub) GI:=DB
def sg:OpR X (binaryOp .Mod) GJ:=DD
def uv:OpR X (binaryOp .FloorDiv) GK:=Bo
def GN:OpR X (binaryOp .Pow) GL:=DE
def zm:OpR X (compareOp .Gt) HB:=FY
def GO:OpR X (compareOp .GtE) Im:=FZ
def uw:LU K GM HC:=by
 intro O H x a Q Q' dom fx q k;unfold HC at q
 split at q
 .rename_i i;exact⟨i,fx.int,k _ H _ q (Gr.refl _) (.int _)⟩
 .exact q.elim
def kF{es:List Expr}{ct:Nat}{tp:Pos}(K:a_)(e:X.K=K){a:Expr}{ta:TA}{p pos:Pos}(hg:Gl X "enumerate")(hm:X.mg "enumerate"=none)(ha:PA X [a] ta)(hs:starEach [a] X.env=[(false,eval a X.env)]:=by rfl) :
  PI X (.Tuple es ct tp) (.Call (.Name "enumerate" p) [a] [] pos) (zf K ta):=by subst e;exact BQ hg hm ha hs
def si{es:List Expr}{ct:Nat}{tp:Pos}(K:a_)(e:X.K=K){a b:Expr}{ta:TA}{p pos:Pos}(hg:Gl X "zip")(hm:X.mg "zip"=none)(ha:PA X [a,b] ta)
  (hs:starEach [a,b] X.env=[(false,eval a X.env),(false,eval b X.env)]:=by rfl) (hs2:starEach [b] X.env=[(false,eval b X.env)]:=by rfl) :
  PI X (.Tuple es ct tp) (.Call (.Name "zip" p) [a,b] [] pos) (zg K ta):=by subst e;exact BR hg hm ha hs hs2
def kd{ix:List (Option Nat)}{fs:List Nat}{i:Nat}(h:∀k∈fs,k∈xb ix)(hi:(xb ix).contains i=false):fs.contains i=false:=by
 cases e:fs.contains i with
 | false=>rfl
 | true =>
  have:=h i (w_.mp e);rw [w_.mpr this] at hi;cases hi
def ic(t:Value)(b c:Bool)(h1:IK K t (.type "list")=some b)(h2:IK K t (.type "tuple")=some c):JQ K t [.type "list",.type "tuple"]=some (b || c):=by
 simp only [JQ,h1,h2];cases b <;> cases c <;> rfl
noncomputable def EO(c:FN)(es:List D)(pr:PTA):PTE:=λρ Q=>pr ρ λas ρ1=>match avD as with
 | some ds=>c (ds++es) λr=>Q r ρ1
 | none=>False
def zn{c:FN}{vs0:List V}{ds:List D}(hd:∀{O:Addr->Prop}{H:Hp},FVs K O H vs0 ds)(h:LAs K tr pr):LE K (eM (spP K c) vs0 E0 tr) (EO c ds pr):=λA ρ σ H Q Q' R q k=>h A ρ σ H _ _ R q λvs H1 as ρ1 q1 f1 R1 o1=>by
 split at q1
 .rename_i es e;exact⟨OO A ρ1 σ,_,_,R1.dom2,(o1.avD e).append hd,q1,λr qr v H' g ov=>k v H' r ρ1 qr (f1.trans g.fr) ((ov.out R1 g).h0 f1.dm)⟩
 .exact q1.elim
def HD{c:FN}{n:Nat}(hn:∀ds Q,c ds Q->ds.length=n){vs:List V}{H:Hp}{Q:VK}{E:XK}(h:spP K c vs H Q E):vs.length=n:=by
 obtain⟨O,ds,Qc,_,f,hq,_⟩:=h;rw [f.length];exact hn ds Qc hq
def HE{c:FR}{n:Nat}(hn:∀p ds Q,c p ds Q->ds.length+1=n){vs:List V}{H:Hp}{Q:VK}{E:XK}(h:spR K c vs H Q E):vs.length=n:=by
 obtain⟨A,a,p,ws,ds,Qc,rfl,_,_,_,_,f,hq,_⟩:=h;rw [length_cons,f.length];exact hn p ds Qc hq
abbrev FF(pp:PTS)(n:Nat)(ds:List D)(Q:PV->Prop):Prop:=pp { nx:=λ_=>Q (.dat .non),rt:=λp _=>Q p } (b9 n (ds.map .dat))
abbrev GP(pp:PTS)(n:Nat)(p:PV)(ds:List D)(Q:PV->PV->Prop):Prop:=pp { nx:=De Q (.dat .non),rt:=De Q } (b9 n (p::ds.map .dat))
end
end L2
namespace L2
def Cal.imp{P:PySem.Program}{w:PySem.World}{K:a_}{mg:PySem.Str->Option PySem.Value}{base:PySem.Heap}{k:Nat}{x:PySem.Str}{ps:List PySem.Str}{sp sp':Sp}(C:Cal P w K mg base k x ps sp)(h:∀vs H Q E,sp' vs H Q E->sp vs H Q E):Cal P w K mg base k x ps sp':=by
 obtain⟨f,fd,F,r⟩:=C.ex;exact⟨f,fd,F.imp h,r⟩
end L2
namespace L2
open PySem PySem.Spec PyProof.Rows
def cfm{ix:List (Option Nat)}{ρ1:PSt}{n:Nat}{it:Nat->D}{g:PTG}{pt:PTT}{pe:PTE}{Q:PKt}(T:PSt->Prop)(f:Nat->Option D)(h0:T (bw ix ρ1))
  (hs:∀k τ d,k<n->d=it k->T τ->∀(K1:D->PSt->Prop) (K2:PSt->Prop),(∀d τ',f k=some d->T τ'->K1 d τ')->(∀τ',f k=none->T τ'->K2 τ')->g (.dat d) τ λτ2=>pt τ2 λok τ3=>iX ok (pe τ3 λp τ4=>K1 p.d τ4) (K2 τ3))
  (hq:∀τ,T τ->Q (.own ((g_ n).filterMap f)) (dP ix ρ1 τ)) :
  mr ix ρ1 n it g pt pe Q:=by
 refine⟨λk ys τ=>ys=(g_ k).filterMap f/\T τ,⟨rfl,h0⟩,λk ys τ dd hk ed ⟨e,t⟩=>?_,λys τ ⟨e,t⟩=>by rw [e];exact hq τ t⟩
 have r:(g_ (k+1)).filterMap f=(g_ k).filterMap f++(f k).toList:=by
  rw [range_succ,filterMap_append]
  cases e:f k with
  | none=>rw [show [k].filterMap f=[] by simp [e]];rfl
  | some d=>rw [show [k].filterMap f=[d] by simp [e]];rfl
 refine hs k τ dd hk ed t (λd τ'=>(ys++[d]=(g_ (k+1)).filterMap f/\T τ')) (λτ'=>(ys=(g_ (k+1)).filterMap f/\T τ')) (λd τ' h t'=>⟨?_,t'⟩) (λτ' h t'=>⟨?_,t'⟩)
 .rw [r,e,h];rfl
 .rw [r,e,h];simp
def Ar{ix:List (Option Nat)}{ρ1:PSt}{n:Nat}{it:Nat->D}{g:PTG}{pe:PTE}{Q:PKt}(T:PSt->Prop)(f:Nat->D)(h0:T (bw ix ρ1))
  (hs:∀k τ d,k<n->d=it k->T τ->∀K1:D->PSt->Prop,(∀τ',T τ'->K1 (f k) τ')->g (.dat d) τ λτ2=>pe τ2 λp τ4=>K1 p.d τ4)
  (hq:∀τ,T τ->Q (.own ((g_ n).map f)) (dP ix ρ1 τ)) :
  mr ix ρ1 n it g Ak pe Q:=by
 refine cfm T (λk=>some (f k)) h0 (λk τ d hk ed t K1 K2 k1 k2=>?_) λτ t=>?_
 .exact hs k τ d hk ed t K1 λτ' t'=>k1 _ τ' rfl t'
 .have:(g_ n).filterMap (λk=>some (f k))=(g_ n).map f:=by rw [<- filterMap_eq_map];rfl
  rw [this];exact hq τ t
def qJ{β:Type}(f:D->β)(ds:List D):(g_ ds.length).map (λk=>f (itD ds k))=ds.map f:=by
 apply Kt;intro i;rw [k_,k_]
 by_cases h:i<ds.length
 .rw [IU h,w4 h];rfl
 .rw [we (by rw [IF];omega),we (by omega)];rfl
def sj{β:Type}(f:Nat->β)(l:List Nat):(g_ l.length).map (λk=>f (l.getD k 0))=l.map f:=by
 apply Kt;intro i;rw [k_,k_]
 by_cases h:i<l.length
 .rw [IU h];show some (f (l.getD i 0))=_;rw [d_,c_ h];rfl
 .rw [we (by rw [IF];omega),we (by omega)];rfl
noncomputable def pw(ws:List (List Nat))(k:Nat):List Nat:=ws.getD k []
def c9{ws:List (List Nat)}{k:Nat}(h:k<ws.length):ws[k]?=some (pw ws k):=by unfold pw;rw [d_,c_ h];rfl
def cf{ws:List (List Nat)}{k:Nat}(h:k<ws.length):pw ws k∈ws:=IH (c9 h)
def iI{ws:List (List Nat)}{k:Nat}(h:k<(ws.map D.str).length):itD (ws.map D.str) k=.str (pw ws k):=qH (by rw [k_,c9 (by rwa [length_map] at h)];rfl)
def cm{ws:List (List Nat)}{i:Int}{k:Nat}(h:k<ws.length)(e:i=(k:Int)):atI (ws.map D.str) i=some (.str (pw ws k)):=dR (j:=k) (by rw [k_,c9 h];rfl) e
def qK{l:List Nat}{k:Nat}(h:k<l.length):l.take (k+1)=l.take k++[l.getD k 0]:=by
 rw [M2,d_,c_ h];rfl
noncomputable def Pc(m:Nat)(w:List Nat):Prop:=0<w.length/\w.length<=m/\Lts w
noncomputable def Pcs(m:Nat)(ws:List (List Nat)):Prop:=∀w∈ws,Pc m w
noncomputable def ltB(c:Nat):Bool:=decide (97<=c) && decide (c<=122)
noncomputable def zo:D->Int->Int->Bool
 | .str l,a,b=>(decide (a<=(l.length:Int)) && decide ((l.length:Int)<=b)) && l.all ltB
 | _,_,_=>false
def oB(l:List Nat)(a b:Int):zo (.str l) a b=((decide (a<=(l.length:Int)) && decide ((l.length:Int)<=b)) && l.all ltB):=rfl
noncomputable def GQ:D->Nat
 | .str l=>l.length
 | _=>0
def xh{l:List Nat}:l.all ltB=true ↔ Lts l:=by
 rw [Jw];unfold Lts ltB
 constructor
 .intro h c hc;have:=h c hc;rw [and_eq_true,decide_eq_true_eq,decide_eq_true_eq] at this;exact this
 .intro h c hc;rw [and_eq_true,decide_eq_true_eq,decide_eq_true_eq];exact h c hc
def xi{w:List Nat}:zo (.str w) 1 60=true ↔ Pc 60 w:=by
 unfold zo Pc;rw [and_eq_true,and_eq_true,decide_eq_true_eq,decide_eq_true_eq,xh]
 constructor
 .rintro⟨⟨h1,h2⟩,h3⟩;exact⟨by omega,by omega,h3⟩
 .rintro⟨h1,h2,h3⟩;exact⟨⟨by omega,by omega⟩,h3⟩
def ke(ls:List Nat):(ls.map λc=>[c]).flatten=ls:=by
 induction ls with
 | nil=>rfl
 | cons c r ih=>rw [map_cons,flatten_cons,ih];rfl
def zp(ls:List Nat):ls.map (λc=>D.str [c])=(ls.map λc=>[c]).map D.str:=by rw [map_map];rfl
def sk(i j:Nat):(!decide (([j]:List Nat)<[i]))=decide (i<=j):=by
 by_cases h:i<=j
 .rw [decide_eq_true h]
  have:¬ ([j]:List Nat)<[i]:=by
   rw [cons_lt_cons_iff]
   rintro (z|⟨_,z⟩)
   .omega
   .exact absurd z (List.lt_irrefl _)
  rw [decide_eq_false this];rfl
 .rw [decide_eq_false h]
  have:([j]:List Nat)<[i]:=by
   rw [cons_lt_cons_iff];exact .inl (by omega)
  rw [decide_eq_true this];rfl
theorem lf:∀ns:List Int,D.pys (ns.map .int)=ns.map MF
 | []=>rfl
 | n::r=>by rw [map_cons,map_cons,<- lf r];rfl
theorem jF:∀ns:List Int,D.plains (ns.map .int)=true
 | []=>rfl
 | n::r=>by rw [map_cons];show (true && D.plains (r.map .int))=true;rw [jF r];rfl
noncomputable def Sh(d:D):Prop:=d.plain=true/\JJ d.py=true
def rZ.of{a b:D}(h:Sh a)(h':Sh b):rZ a b:=⟨h.1,h'.1,h.2,h'.2⟩
def Sh.lstI(ns:List Int):Sh (.lst (ns.map .int)):=⟨jF ns,by show JJ (.list (D.pys _))=true;rw [lf];exact (mn.list (qD ns)).shaped (by decide)⟩
def Sh.tupI(ns:List Int):Sh (.tup (ns.map .int)):=⟨jF ns,by show JJ (.tuple (D.pys _))=true;rw [lf];exact (mn.tuple (qD ns)).shaped (by decide)⟩
def uz{d:D}(h:Sh d):deq d d=true:=y8 h.2
def oE{α:Type}(c:α)(n:Nat):nW [c] (n:Int)=so n c:=by
 unfold nW;rw [B_]
 induction n with
 | zero=>rfl
 | succ n ih=>rw [replicate_succ,flatten_cons,ih];rfl
noncomputable def mw(sep:List Nat):List (List Nat)->List Nat
 | []=>[]
 | [w]=>w
 | w::v::r=>w++sep++mw sep (v::r)
theorem xj(sep:List Nat):∀ws:List (List Nat),PySem.Str.join (S sep) (ws.map S)=S (mw sep ws)
 | []=>rfl
 | [w]=>rfl
 | w::v::r=>by
  show S w++S sep++PySem.Str.join (S sep) ((v::r).map S)=S (w++sep++mw sep (v::r));rw [xj sep (v::r),yV,yV]
theorem qL(sep:List Nat):∀ws:List (List Nat),(mw sep ws).length<=ws.flatten.length+ws.length*sep.length
 | []=>IE _
 | [w]=>by show w.length<=_;rw [flatten_cons,flatten_nil,IL];omega
 | w::v::r=>by
  have ih:=qL sep (v::r);show (w++sep++mw sep (v::r)).length<=_;rw [flatten_cons,length_append,length_append,length_append];rw [length_cons (as:=v::r),succ_mul];omega
section
variable {K:a_}{X:Cx}
noncomputable def As(K:a_):V->List V->Hp->VK->Prop:=λx xs H Q=>∃(p:Addr) (sep:List Nat) (ws:List (List Nat)),x=.str (S sep)/\xs=[.ref p]/\SqL K H p (ws.map tx)/\ws.flatten.length+ws.length*sep.length<=1000000/\Q (.str (S (mw sep ws))) H
def uA(K:a_)(e:X.K=K):MtR X "str.join" (As K):=by
 subst e;intro pins s σ H x xs v us Q I rx rs h;obtain⟨p,sep,ws,rfl,rfl,hS,hz,q⟩:=h;obtain⟨t,rfl⟩:=rx;obtain⟨u,rfl,ru⟩:=iC rs;cases (show u=gV p from ru);obtain⟨its,rv,pl,_⟩:=I.list hS
 refine join_list pl.isList (by simpa using wT rv) ?_ λt' k=>?_
 .rw [map_map,eO]
  have e1:(ws.map ((λy:Str=>y.length) ∘ S)).sum=ws.flatten.length:=by
   rw [length_flatten];exact congrArg List.sum (JN λw _=>eO w)
  rw [e1];simp only [length_map];omega
 .refine⟨.str (S (mw sep ws)),H,I.tok _,⟨t',?_⟩,q⟩;rw [<- xj];exact congrArg (λz=>Kr z t') (StrLaws.glued_eq_join _ _)
noncomputable def At:FM
 | [],[.lst ds],Q=>∃ws:List (List Nat),ds=ws.map .str/\ws.flatten.length<=1000000/\Q (.dat (.str ws.flatten))
 | c::sep,[.lst ds],Q=>∃ws:List (List Nat),ds=ws.map .str/\ws.flatten.length+ws.length*(c::sep).length<=1000000/\Q (.dat (.str (mw (c::sep) ws)))
 | _,_,_=>False
theorem qM:∀ws:List (List Nat),mw [] ws=ws.flatten
 | []=>rfl
 | [w]=>by show w=w++[];rw [IL]
 | w::v::r=>by show w++[]++mw [] (v::r)=_;rw [qM (v::r),IL];rfl
def uB:LM K (As K) At:=by
 intro O H l xs as Q Q' dom hl fs q k;unfold At at q
 split at q
 .obtain⟨ws,rfl,hw,q⟩:=q
  cases fs with
  | cons a b =>
   cases b;obtain⟨p,ys,rfl,e1,f1⟩:=a.lst;rw [f1.strs] at e1;refine⟨p,[],ws,rfl,rfl,SqL.of e1,by rw [length_nil,mul_zero];exact hw,?_⟩;rw [qM];exact k _ H _ q (Gr.refl _) (.str _ hw)
 .obtain⟨ws,rfl,hw,q⟩:=q
  cases fs with
  | cons a b =>
   cases b;obtain⟨p,ys,rfl,e1,f1⟩:=a.lst;rw [f1.strs] at e1;exact⟨p,_,ws,rfl,rfl,SqL.of e1,hw,k _ H _ q (Gr.refl _) (.str _ (IG (qL _ _) hw))⟩
 .exact q.elim
end
section
variable {X:Cx}{K:a_}
noncomputable def GR:PTE:=λρ Q=>Q (.dat (.dic [] [])) ρ
def Cg:LE K Ad GR:=λA ρ σ H Q Q' R q k=>λp hp =>
 k _ _ (.dat (.dic [] [])) ρ q (Fr.new hp) ⟨R.grow hp,.dic (R.oo hp) aB rfl .nil⟩
noncomputable def xk(neg:Bool):R2:=λx y H Q=>∃a b,x=.ref a/\y=.ref b/\H a=some (.dK [])/\H b=some (.dK [])/\Q (.bl (!neg)) H
def zq(hu:X.A.units+64<cLine):OpR X (compareOp .Eq) (xk false):=by
 intro pins s σ H x y v u Q I rx ry ⟨a,b,e1,e2,h1,h2,q⟩;subst e1 e2;cases rx;cases ry;obtain⟨_,y1,vs,r1,p1⟩:=(show bn X.prog X.w H s.heap a (.dK []) from I.hok a _ h1)
 obtain⟨_,y2,ws,r2,p2⟩:=(show bn X.prog X.w H s.heap b (.dK []) from I.hok b _ h2)
 cases r1;cases r2;exact PySem.W.keq_eq (r:=true) y1 y2 p1 p2 (by omega) (λ_=>.nil) ⟨.bl true,H,I,rfl,q⟩
def zr(hu:X.A.units+64<cLine):OpR X (compareOp .NotEq) (xk true):=by
 intro pins s σ H x y v u Q I rx ry ⟨a,b,e1,e2,h1,h2,q⟩;subst e1 e2;cases rx;cases ry;obtain⟨_,y1,vs,r1,p1⟩:=(show bn X.prog X.w H s.heap a (.dK []) from I.hok a _ h1)
 obtain⟨_,y2,ws,r2,p2⟩:=(show bn X.prog X.w H s.heap b (.dK []) from I.hok b _ h2)
 cases r1;cases r2;exact PySem.W.keq_ne (r:=true) y1 y2 p1 p2 (by omega) (λ_=>.nil) ⟨.bl false,H,I,rfl,q⟩
noncomputable def xm(K:a_)(neg:Bool):R2:=λx y H Q=>Ei K neg x y H Q\/xk neg x y H Q
def g9(K:a_)(e:X.K=K)(hu:X.A.units+64<cLine):OpR X (compareOp .Eq) (xm K false):=OpR.or (Ig K e hu) (zq hu)
def sm(K:a_)(e:X.K=K)(hu:X.A.units+64<cLine):OpR X (compareOp .NotEq) (xm K true):=OpR.or (Ih K e hu) (zr hu)
noncomputable def HF:F2
 | .dic [] [],.dic [] [],Q=>Q (.dat (.bl true))
 | a,b,Q=>fEq a b Q
noncomputable def HG:F2
 | .dic [] [],.dic [] [],Q=>Q (.dat (.bl false))
 | a,b,Q=>fNe a b Q
def FVc.dic0{O:Addr->Prop}{H:Hp}{v:V}(h:FVc K O H v (.dic [] [])):∃a,v=.ref a/\H a=some (.dK []):=by
 cases h.fv nofun nofun with
 | dic n e m f =>
  rename_i a kvs
  cases kvs with
  | nil=>exact⟨a,rfl,e⟩
  | cons x r=>cases m
def de:LO K (xm K false) HF:=by
 intro O H x y a b Q Q' dom fx fy q k;unfold HF at q
 split at q
 .obtain⟨a,rfl,e1⟩:=fx.dic0;obtain⟨b,rfl,e2⟩:=fy.dic0;exact .inr ⟨a,b,rfl,rfl,e1,e2,k _ H _ q (Gr.refl _) (.bl _)⟩
 .exact .inl (Gy O H x y _ _ Q Q' dom fx fy q k)
def lg:LO K (xm K true) HG:=by
 intro O H x y a b Q Q' dom fx fy q k;unfold HG at q
 split at q
 .obtain⟨a,rfl,e1⟩:=fx.dic0;obtain⟨b,rfl,e2⟩:=fy.dic0;exact .inr ⟨a,b,rfl,rfl,e1,e2,k _ H _ q (Gr.refl _) (.bl _)⟩
 .exact .inl (Gz O H x y _ _ Q Q' dom fx fy q k)
end
theorem su:∀ds:List D,D.pys ds=ds.map D.py
 | []=>rfl
 | d::r=>by rw [map_cons,<- su r];rfl
theorem jG:∀ds:List D,D.plains ds=ds.all D.plain
 | []=>rfl
 | d::r=>by rw [all_cons,<- jG r];rfl
noncomputable def Fl(n:Nat)(d:D):Prop:=d.plain=true/\mn n d.py
def Fl.sh{n:Nat}{d:D}(h:Fl n d)(hn:n<=64):Sh d:=⟨h.1,h.2.shaped hn⟩
def Fl.mono{n m:Nat}{d:D}(h:Fl n d)(hn:n<=m):Fl m d:=⟨h.1,h.2.1,IG h.2.2 hn⟩
def Fl.int{n:Nat}(i:Int):Fl n (.int i):=(show Fl 0 (.int i) from ⟨rfl,mn.int i⟩).mono (IE _)
def Fl.bl{n:Nat}(b:Bool):Fl n (.bl b):=⟨rfl,by simp [D.py,Ko],by simp [D.py,K6]⟩
def Fl.non{n:Nat}:Fl n .non:=⟨rfl,by simp [D.py,Ko],by simp [D.py,K6]⟩
def Fl.str{n:Nat}{l:List Nat}(h:∀c∈l,c<128):Fl n (.str l):=by
 refine⟨rfl,?_,by simp [D.py,K6]⟩;simp only [D.py,Ko,PyData.strOk,S];rw [Array.all_eq_true];intro i hi;have:=h l[i] (IY _);simp only [getElem_toArray,decide_eq_true_eq];omega
def Fl.lst{n:Nat}{ds:List D}(h:∀d∈ds,Fl n d):Fl (n+1) (.lst ds):=by
 refine⟨?_,?_⟩
 .show D.plains ds=true;rw [jG,Jw];exact λd hd=>(h d hd).1
 .show mn (n+1) (.list (D.pys ds));rw [su];refine mn.list λd hd=>?_;obtain⟨x,hx,rfl⟩:=Ju.mp hd;exact (h x hx).2
def Fl.tup{n:Nat}{ds:List D}(h:∀d∈ds,Fl n d):Fl (n+1) (.tup ds):=by
 refine⟨?_,?_⟩
 .show D.plains ds=true;rw [jG,Jw];exact λd hd=>(h d hd).1
 .show mn (n+1) (.tuple (D.pys ds));rw [su];refine mn.tuple λd hd=>?_;obtain⟨x,hx,rfl⟩:=Ju.mp hd;exact (h x hx).2
def Fl.ints{n:Nat}(zs:List Int):∀d∈zs.map D.int,Fl n d:=λd hd=>by
 obtain⟨i,_,rfl⟩:=Ju.mp hd;exact Fl.int i
noncomputable def eh:D->Bool
 | .int _=>true
 | _=>false
noncomputable def sv:D->Bool
 | .lst _=>true
 | .tup _=>true
 | _=>false
noncomputable def bj:D->List D
 | .lst ds=>ds
 | .tup ds=>ds
 | _=>[]
def toI:D->Int
 | .int i=>i
 | _=>0
noncomputable def cU(d:D)(m:Int):Bool:=sv d && (decide (((bj d).length:Int)=m) && (bj d).all eh)
noncomputable def Srt(d:D):Prop:=d.sort=true/\∀x∈bj d,x.sort=true
def zt(zs:List Int):(zs.map D.int).all eh=true:=by rw [all_map];exact Jw.mpr λ_ _=>rfl
theorem lh:∀{ds:List D},ds.all eh=true->ds=(ds.map toI).map D.int
 | [],_=>rfl
 | d::r,h=>by
  rw [all_cons,and_eq_true] at h;rw [map_cons,map_cons,<- lh h.2];cases d <;> first|rfl|cases h.1
def ll{ds:List D}{k:Nat}(h:k<ds.length):itD ds k∈ds:=IH (w4 h)
section
variable {X:Cx}{K:a_}{te:TE}{pe:PTE}
noncomputable def EQ(K:a_):List V->Hp->VK->Prop:=λxs H Q=>∃(p:Addr) (ns:List Int),xs=[.ref p]/\SqL K H p (ns.map V.int)/\ns.length<64/\∀ns':List Int,ns'.Perm ns->ns'.Pairwise (·<=·)->∀q,H q=none->Q (.ref q) (upd H q (.lst (ns'.map V.int)))
def Ch(K:a_)(e:X.K=K):bo X (.builtin "sorted") (EQ K):=by
 subst e;intro pins s σ H xs us Q I r h;obtain⟨p,ns,rfl,hS,hne,q⟩:=h;obtain⟨u,rfl,ru⟩:=iC r;cases (show u=gV p from ru);obtain⟨its,rv,pl,hz⟩:=I.list hS;have hi:=gU rv;have hlen:its.length=ns.length:=by have:=rv.length;rw [length_map] at this;exact this.symm
 refine sorted_ints pl.isList hi (by omega) λout ns' ho hp hs=>?_;obtain⟨e,he⟩:=sortedAll_at s.heap its out;have hle:s.heap.objs.size<=s.heap.objs.size+1:=M1 _;refine⟨.ref (s.heap.objs.size+1),_,I.laid (a:=s.heap.objs.size+1) (o:=.lst (ns'.map V.int)) (t':=s.toks) (λb o z=>sortedAll_old z) hle ?_,rfl,q ns' hp hs _ (I.hok.fresh hle)⟩;refine⟨?_,out.toList,e,i4 ho,he⟩;rw [length_map,hp.length_eq]
 exact sz _ (by omega)
noncomputable def Au(i:Nat)(pe:PTE):PTE:=λρ Q=>match ρ[i]? with
 | some (some (.own _))=>pe ρ λp ρ1=>(match ρ1[i]?,p with
  | some (some (.own ds)),.dat (.int j)=>∃k d,(ixN ds.length j=some k/\ds.length<=1000000)/\ds[k]?=some d/\Q (.dat d) (ρ1.set i (some (.own (ds.eraseIdx k))))
  | _,_=>False)
 | _=>False
theorem FVs.eraseIdx{O:Addr->Prop}{H:Hp}:∀{xs:List V}{ds:List D} (k:Nat),FVs K O H xs ds->FVs K O H (xs.eraseIdx k) (ds.eraseIdx k)
 | _,_,_,.nil=>.nil
 | _,_,0,.cons a b=>b
 | _,_,k+1,.cons a b=>.cons a (FVs.eraseIdx k b)
def zu{i:Nat}(h:LE K te pe):LE K (tBM K "list" Ac (bv i) (aU te dQ)) (Au i pe):=λA ρ σ H Q Q' R q k=>by
 unfold Au at q
 split at q
 .rename_i ds0 e0;obtain⟨a0,xs0,s0,g0,f0⟩:=R.ownAt e0;refine⟨_,s0,.inl ⟨rfl,xs0,SqL.of g0⟩,h A ρ σ H _ _ R q λv H1 p ρ1 q1 f1 o1=>?_⟩;obtain⟨R1,fv⟩:=o1.frz
  split at q1
  .rename_i ds j e1;obtain⟨a,xs,s,g,f⟩:=R1.ownAt e1;rw [s0] at s;cases s;obtain⟨m,d,⟨hm,hl⟩,hd,q1⟩:=q1;obtain⟨w,hw,fw⟩:=f.getD hd;cases (show FV K _ H1 v (.int j) from fv);obtain⟨t1,t2,t3,t4⟩:=rQ hm;obtain⟨R2,f2⟩:=R1.lstw (es:=ds.eraseIdx m) (ys:=xs.eraseIdx m) e1 s0 (f.eraseIdx m);have hx:xs.length=ds.length:=f.length;exact⟨a0,xs,j,m,w,rfl,rfl,g,by omega,by omega,by rw [hx];exact t1,hw,k _ _ _ _ q1 (f1.trans f2) ⟨R2,(fw.keeps f2.keeps)⟩⟩
  .exact q1.elim
 .exact q.elim
end
abbrev lc2(elt t1 i1:Expr)(f1:List Expr)(t2 i2:Expr)(f2:List Expr)(scope:Scope)(pos:Pos):Expr:=.ListComp elt [⟨t1,i1,f1,0⟩,⟨t2,i2,f2,0⟩] scope pos
noncomputable def vk(e i2:Expr)(acc:Value)(env:Env):Sem Unit:=do
 let x <- eval i2 env
 standAt i2.pos
 let x <- foldedSetIterable i2 env x
 let _ <- runOwn (.compStart e 1 (<- holding [x] (pyIter x)) acc env) env
noncomputable def xn(elt:Expr)(acc:Value)(env:Env):Sem Unit:=do let _ <- call (.builtin "list.append") [acc,<- eval elt env]
theorem vm(elt t1 i1:Expr)(f1:List Expr)(t2 i2:Expr)(f2:List Expr)(scope:Scope)(pos:Pos)(it acc:Value)(env:Env) :
  compTurn (lc2 elt t1 i1 f1 t2 i2 f2 scope pos) 0 it acc env=(do
   standAt i1.pos
   match <- pyNext it with
   | none=>pure (.done .next)
   | some v =>
    letOwnedTupleGo t1 it v
    assign t1 env v
    let mut ok:=true
    for c in f1 do
     if ok then ok <- isTrue c env (eval c env)
    if ok then
     let x <- eval i2 env
     standAt i2.pos
     let x <- foldedSetIterable i2 env x
     let _ <- runOwn (.compStart (lc2 elt t1 i1 f1 t2 i2 f2 scope pos) 1 (<- holding [x] (pyIter x)) acc env) env
    again (.compLoop (lc2 elt t1 i1 f1 t2 i2 f2 scope pos) 0 it acc env)):=by rfl
def vn{α:Type}(e i2:Expr)(acc:Value)(env:Env)(k:Sem α):(eval i2 env >>= λx=>standAt i2.pos >>= λ_=>foldedSetIterable i2 env x >>= λx=>holding [x] (pyIter x) >>= λit=>runOwn (.compStart e 1 it acc env) env >>= λ_=>k)=(vk e i2 acc env >>= λ_=>k):=by
 unfold vk;simp only [bind_assoc,pure_bind]
theorem vo(elt t1 i1:Expr)(f1:List Expr)(t2 i2:Expr)(f2:List Expr)(scope:Scope)(pos:Pos)(it acc:Value)(env:Env) :
  compTurn (lc2 elt t1 i1 f1 t2 i2 f2 scope pos) 1 it acc env=(do
   standAt i2.pos
   match <- pyNext it with
   | none=>pure (.done .next)
   | some v =>
    letOwnedTupleGo t2 it v
    assign t2 env v
    let mut ok:=true
    for c in f2 do
     if ok then ok <- isTrue c env (eval c env)
    if ok then
     (xn elt acc env)
    again (.compLoop (lc2 elt t1 i1 f1 t2 i2 f2 scope pos) 1 it acc env)):=by rfl
section
variable {prog:pj}{w:World}{A:v_}{R:Result->cy->Prop}{s:cy}
theorem mx{elt t1 i1 t2 i2:Expr}{f1 f2:List Expr}{scope:Scope}{pos:Pos}{it acc:Value}{env:Env}(I:Nat->cy->Prop)
  (turn:∀n s,I n s->wpAny (model prog w) A (pyNext it) (λr s₁=>match r with
   | none=>R (.ok .next) s₁
   | some v=>wpAny (model prog w) A (letOwnedTupleGo t1 it v) (λ_ s₂=>wpAny (model prog w) A (assign t1 env v) (λ_ s₃ =>
     wpAny (model prog w) A (forIn f1 true λc r=>if r=true then do let ok <- isTrue c env (eval c env);pure (Jm ok) else pure (Jm r)) (λok s₄ =>
      if ok=true then wpAny (model prog w) A (vk (lc2 elt t1 i1 f1 t2 i2 f2 scope pos) i2 acc env) (λ_ s₆=>∃m,m<n/\I m s₆) (λ_ _=>False) s₄
      else ∃m,m<n/\I m s₄) (λ_ _=>False) s₃) (λ_ _=>False) s₂) (λ_ _=>False) s₁) (λ_ _=>False) s)
  (n:Nat) (h:I n s) :
  codeAny (model prog w) A (.compLoop (lc2 elt t1 i1 f1 t2 i2 f2 scope pos) 0 it acc env) R s:=by
 refine codeAny_loop rfl I (λn s hI=>?_) n h;show wpAny _ A ((compTurn (lc2 elt t1 i1 f1 t2 i2 f2 scope pos) 0 it acc env).onRaise (λx=>do noteFrame x env;theTreesLotGoes x)) _ _ s;refine wpAny_noted ?_;rw [vm];refine b_ (Jd (b_ (D_ (turn n s hI) (λr s₁ h₁=>?_) λ_ _ h'=>h'.elim)))
 cases r with
 | none=>exact f_ h₁
 | some v =>
  refine b_ (D_ h₁ (λ_ s₂ h₂=>?_) λ_ _ h'=>h'.elim);refine b_ (D_ h₂ (λ_ s₃ h₃=>b_ (D_ h₃ (λok s₄ h₄=>?_) λ_ _ h'=>h'.elim)) λ_ _ h'=>h'.elim)
  cases ok with
  | false=>exact f_ ⟨rfl,h₄⟩
  | true =>
   have e:=vn (lc2 elt t1 i1 f1 t2 i2 f2 scope pos) i2 acc env (again (.compLoop (lc2 elt t1 i1 f1 t2 i2 f2 scope pos) 0 it acc env));show wpAny _ _ (eval i2 env >>= λx=>standAt i2.pos >>= λ_=>foldedSetIterable i2 env x >>= λx=>holding [x] (pyIter x) >>= λit'=>runOwn (.compStart (lc2 elt t1 i1 f1 t2 i2 f2 scope pos) 1 it' acc env) env >>= λ_=>again (.compLoop (lc2 elt t1 i1 f1 t2 i2 f2 scope pos) 0 it acc env)) _ _ _
   rw [e];exact b_ (D_ h₄ (λ_ s₆ h₆=>f_ ⟨rfl,h₆⟩) λ_ _ h'=>h'.elim)
theorem my{elt t1 i1 t2 i2:Expr}{f1 f2:List Expr}{scope:Scope}{pos:Pos}{it acc:Value}{env:Env}(I:Nat->cy->Prop)
  (turn:∀n s,I n s->wpAny (model prog w) A (pyNext it) (λr s₁=>match r with
   | none=>R (.ok .next) s₁
   | some v=>wpAny (model prog w) A (letOwnedTupleGo t2 it v) (λ_ s₂=>wpAny (model prog w) A (assign t2 env v) (λ_ s₃ =>
     wpAny (model prog w) A (forIn f2 true λc r=>if r=true then do let ok <- isTrue c env (eval c env);pure (Jm ok) else pure (Jm r)) (λok s₄ =>
      if ok=true then wpAny (model prog w) A (xn elt acc env) (λ_ s₆=>∃m,m<n/\I m s₆) (λ_ _=>False) s₄
      else ∃m,m<n/\I m s₄) (λ_ _=>False) s₃) (λ_ _=>False) s₂) (λ_ _=>False) s₁) (λ_ _=>False) s)
  (n:Nat) (h:I n s) :
  codeAny (model prog w) A (.compLoop (lc2 elt t1 i1 f1 t2 i2 f2 scope pos) 1 it acc env) R s:=by
 refine codeAny_loop rfl I (λn s hI=>?_) n h;show wpAny _ A ((compTurn (lc2 elt t1 i1 f1 t2 i2 f2 scope pos) 1 it acc env).onRaise (λx=>do noteFrame x env;theTreesLotGoes x)) _ _ s;refine wpAny_noted ?_;rw [vo];refine b_ (Jd (b_ (D_ (turn n s hI) (λr s₁ h₁=>?_) λ_ _ h'=>h'.elim)))
 cases r with
 | none=>exact f_ h₁
 | some v =>
  refine b_ (D_ h₁ (λ_ s₂ h₂=>?_) λ_ _ h'=>h'.elim);refine b_ (D_ h₂ (λ_ s₃ h₃=>b_ (D_ h₃ (λok s₄ h₄=>?_) λ_ _ h'=>h'.elim)) λ_ _ h'=>h'.elim)
  cases ok with
  | false=>exact f_ ⟨rfl,h₄⟩
  | true=>exact b_ (D_ h₄ (λ_ s₆ h₆=>f_ ⟨rfl,h₆⟩) λ_ _ h'=>h'.elim)
def i9{elt t1 i1 t2 i2:Expr}{f1 f2:List Expr}{scope:Scope}{pos:Pos}{it acc:Value}{env:Env}
  (h0:codeAny (model prog w) A (.compLoop (lc2 elt t1 i1 f1 t2 i2 f2 scope pos) 1 it acc env) R s)
  (h:wpAny (model prog w) A (pyIter it) (λit' s'=>codeAny (model prog w) A (.compLoop (lc2 elt t1 i1 f1 t2 i2 f2 scope pos) 1 it' acc env) R s')
   (notedBy (model prog w) A env λx s'=>R (.error x) s') s) :
  codeAny (model prog w) A (.compStart (lc2 elt t1 i1 f1 t2 i2 f2 scope pos) 1 it acc env) R s:=by
 refine codeAny_of_tree ?_;show wpAny _ _ ((compStart (lc2 elt t1 i1 f1 t2 i2 f2 scope pos) 1 it acc env).onRaise (λx=>do noteFrame x env;standAt theWindowsPlace)) _ _ s;refine wpAny_notedAt ?_;unfold compStart;show wpAny _ _ (ask >>= _) _ _ s;refine b_ (wpAny_askSetting (wpAny_ite ?_))
 split
 .first
   | exact b_ (f_ (f_ (s_ rfl h0)))
   | exact f_ (s_ rfl h0)
 .first
   | exact b_ (L3 (b_ (Jd (b_ (D_ h (λit' s' h'=>f_ (s_ rfl h')) λ_ _ x=>x)))))
end
abbrev TB:=St->Hp->(St->Hp->Prop)->Prop
noncomputable def PB(Y:Cx)(emit:Sem Unit)(tb:TB):Prop:=∀(pins:List (Addr×Obj)) (s:cy) (τ:St) (H:Hp) (N:St->Hp->Prop),Inv Y pins τ H s->tb τ H N ->
 wpAny (model Y.prog Y.w) Y.A emit (λ_ s'=>∃τ' H',Inv Y pins τ' H' s'/\N τ' H') (λ_ _=>False) s
noncomputable def Ci(te:TE)(D:Addr):TB:=λτ H N=>te τ H λv H6=>∃ys,H6 D=some (.lst ys)/\ys.length<sizeLine/\N τ (upd H6 D (.lst (ys++[v])))
noncomputable def Cj(wi:TI)(g:TG)(tts:TT)(tb:TB):TB:=λτ H N=>wi τ H λJ H6=>∃W:Nat->Nat->St->Hp->Prop,(∃n,W 0 n τ H6)/\∀j n τ3 H7,W j n τ3 H7 ->
 (J.stop j H7/\N τ3 H7)\/(J.go j H7/\∀y H8,J.yld j H7 y H8->g y τ3 H8 λτ4 H9=>tts τ4 H9 λok H10=>if ok=true then tb τ4 H10 (λτ5 H11=>∃n',n'<n/\W (j+1) n' τ5 H11) else ∃n',n'<n/\W (j+1) n' τ4 H10)
noncomputable def xp(ix:List (Option Nat))(wi:TI)(g:TG)(tts:TT)(tb:Addr->TB):TE:=λσ H Q=>wi σ H λJ H1=>∀D,H1 D=none->∃W:Nat->Nat->St->Hp->Prop,(∃m,W 0 m (qx ix σ) (upd H1 D (.lst [])))/\∀i m τ H2,W i m τ H2 ->
 (J.stop i H2/\Q (.ref D) H2)\/(J.go i H2/\∀x H3,J.yld i H2 x H3->g x τ H3 λτ2 H4=>tts τ2 H4 λok H5=>if ok=true then tb D τ2 H5 (λτ6 H6=>∃m',m'<m/\W (i+1) m' τ6 H6)
  else ∃m',m'<m/\W (i+1) m' τ2 H5)
section
variable {Y:Cx}{elt t1 i1 t2 i2:Expr}{f1 f2:List Expr}{scope:Scope}{pos:Pos}{te:TE}{D:Addr}{wi:TI}{g:TG}{tts:TT}{tb:TB}
def Ck(hx:Y.xe=λ_ _=>False)(he:PE Y elt te):PB Y (xn elt (.ref D) Y.env) (Ci te D):=by
 intro pins s τ H N I h;have h1:=he pins s τ H _ I h;rw [hx] at h1;unfold xn;refine b_ (thn h1 λv s1 ⟨x,H1,I1,r1,ys,hD,hz,q⟩=>?_);have h2:=eN (X:=Y) pins s1 τ H1 (.ref D) [x] (.ref D) [v] (λ_ H'=>N τ H') I1 rfl (.cons r1 .nil) ⟨D,ys,x,rfl,rfl,hD,hz,q⟩;rw [hx] at h2;exact b_ (thn h2 λ_ s2 ⟨_,H2,I2,_,q2⟩=>f_ ⟨τ,H2,I2,q2⟩)
def Cm(hx:Y.xe=λ_ _=>False)(hc:Y.calm=true)(hi:PI Y t2 i2 wi)(hg:PG Y t2 g)(ht:PIf Y f2 tts)(hb:PB Y (xn elt (.ref D) Y.env) tb)(hs:∀x,foldedSetIterable i2 Y.env x=pure x:=by intro _;rfl) :
  PB Y (vk (lc2 elt t1 i1 f1 t2 i2 f2 scope pos) i2 (.ref D) Y.env) (Cj wi g tts tb):=by
 intro pins s τ H N I h;have h1:=hi pins s τ H _ I h;rw [hx] at h1;unfold vk;refine b_ (thn h1 λv s1 h1=>b_ (Jd (b_ (Ls (hs v) (b_ (G_ (thn h1 λitv s2 h2=>b_ (wpAny_runOwn ?_))))))));obtain⟨it,fp,tn,J,H2,e,I2,T,st2,f2',W,⟨m0,w0⟩,turn⟩:=h2;subst e;have stat:∀{H':Hp},(∀b∈fp,H' b=none)->∀b∈fp,rN Y pins H' b:=λhn b hb=>⟨hn b hb,(f2' b hb).2⟩
 have loop:∀s3:cy,Inv Y pins τ H2 s3->tn 0 s3.heap->codeAny (model Y.prog Y.w) Y.A (.compLoop (lc2 elt t1 i1 f1 t2 i2 f2 scope pos) 1 (.ref it) (.ref D) Y.env)
   (λr s'=>match r with|.ok f=>wpAny (model Y.prog Y.w) Y.A (pure ()) (λ_ s'=>∃τ' H',Inv Y pins τ' H' s'/\N τ' H') (λ_ _=>False) s'|.error e=>cameBackBy (model Y.prog Y.w) Y.A Y.env (λ_ _=>False) e s') s3:=by
  intro s3 I3 st3;refine my (λn s'=>∃i τ' H',Inv Y pins τ' H' s'/\tn i s'.heap/\(∀b∈fp,H' b=none)/\W i n τ' H') ?_ m0 ⟨0,τ,H2,I3,st3,λb hb=>(f2' b hb).1,w0⟩;rintro n s5 ⟨i,τ5,H5,I5,st5,fr5,w5⟩
  rcases turn i n τ5 H5 w5 with ⟨stop,qn⟩|⟨go,step⟩
  .refine thn (T.done Y rfl rfl rfl hc i pins s5 τ5 H5 (λ_ _=>False) I5 (stat fr5) st5 stop) λr s6 ⟨hr,I6⟩=>?_;subst hr;exact f_ ⟨τ5,H5,I6,qn⟩
  .refine thn (T.item Y rfl rfl rfl hc i pins s5 τ5 H5 (λ_ _=>False) I5 (stat fr5) st5 go) λr s6 ⟨u,hr,h6⟩=>?_;subst hr;refine thn h6 λ_ s7 ⟨x,H7,I7,r7,y7,st7,fr7⟩=>?_;have I7':=I7.pinned (stat fr7) (T.obj _ _ st7)
   have again:∀{s8:cy}{τ8:St}{H8:Hp},Inv Y (pins++kM fp s7.heap) τ8 H8 s8->(∃m',m'<n/\W (i+1) m' τ8 H8) ->
     ∃m,m<n/\∃i τ' H',Inv Y pins τ' H' s8/\tn i s8.heap/\(∀b∈fp,H' b=none)/\W i m τ' H':=λ{s8 τ8 H8} I8 ⟨m',hm,w8⟩=>by
    refine⟨m',hm,i+1,τ8,H8,I8.unpinned,T.keep _ _ _ st7 λb hb o e=>(I8.pin (b,o) (t_ _ (t_ _ (cr hb e)))).1,λb hb=>?_,w8⟩;obtain⟨o,e,d⟩:=T.obj _ _ st7 b hb;exact (I8.pin (b,o) (t_ _ (t_ _ (cr hb e)))).2.1
   have h8:=hg _ s7 τ5 H7 x u _ I7' r7 (step x H7 y7);rw [hx] at h8;refine thn h8 λ_ s8 ⟨τ8,H8,I8,q8⟩=>?_;have h9:=ht _ s8 τ8 H8 _ I8 q8;rw [hx] at h9;refine thn h9 λokb s9 ⟨H9,I9,q9⟩=>?_
   cases okb with
   | false =>
    rw [if_neg l_] at q9;rw [if_neg l_];exact again I9 q9
   | true =>
    rw [if_pos rfl] at q9;rw [if_pos rfl];exact thn (hb _ s9 τ8 H9 _ I9 q9) λ_ s10 ⟨τ10,H10,I10,q10⟩=>again I10 q10
 exact i9 (loop _ I2 st2) (T.self Y.A 0 _ _ _ st2 (loop _ I2 st2))
end
section
variable {X:Cx}{elt t1 i1 t2 i2:Expr}{f1 f2:List Expr}{scope:Scope}{N':List Str}{ix:List (Option Nat)}{wi:TI}{g:TG}{tts:TT}{tb:Addr->TB}
def vp{use:Option (Value->Sem Unit)}{Qf:Value->cy->Prop}{pos p':Pos}{pins:List (Addr×Obj)}{σ:St}{H:Hp}{s:cy}{Q:VK}(hc:X.calm=true)(ok:ue X.env X.N scope N' ix)(hi:PI X t1 i1 wi)
  (blk:∀s H fp pn D,PG (bb X N' scope s H fp pn) t1 g/\PIf (bb X N' scope s H fp pn) f1 tts/\PB (bb X N' scope s H fp pn) (vk (lc2 elt t1 i1 f1 t2 i2 f2 scope pos) i2 (.ref D) (nY scope s.heap.objs.size X.env)) (tb D))
  (hs:∀x,foldedSetIterable i1 X.env x=pure x) (I:Inv X pins σ H s) (hw:xp ix wi g tts tb σ H Q)
  (fin:∀D C H' s',Inv X pins σ H' s'->Q (.ref D) H'->(∃m,s'.heap.Ns C m)->H' C=none->X.s₀.heap.objs.size<=C->C≠X.env.locals->(∀x c,X.env.cells.lookup x=some c->c≠C)->C∉X.fs->(∀p∈X.pn++pins,p.1≠C) ->
   compPost (model X.prog X.w) X.A X.xe use Qf (.ref D) C (.ok .next) s') :
  wpAny (model X.prog X.w) X.A (comprehension (lc2 elt t1 i1 f1 t2 i2 f2 scope pos) scope X.env p' (newList []) false (eval i1 X.env) use) Qf X.xe s:=by
 have hclos:closureFor scope X.env=pure (iF X.env scope.names []):=fW λy hy e=>I.ok.has y.1 (ok.free y hy e).1;refine wpAny_comprehension_free (use:=use) rfl hs hclos ok.kind ok.loc (thn (hi pins s σ H _ I hw) λv s1 h1=>thn h1 λitv s2 h2=>?_);obtain⟨it,fp,tn,J,H2,e,I2,T,st2,fq2,hW⟩:=h2;subst e;obtain⟨W,⟨m0,w0⟩,turn⟩:=hW s2.heap.objs.size (I2.hok.fresh (pf _))
 have hfl:∀b∈fp,b<s2.heap.objs.size:=λb hb=>by
  obtain⟨o,e,_⟩:=T.obj 0 _ st2 b hb;exact m_ e
 refine Ji ?_
 have I3:Inv X pins σ (upd H2 s2.heap.objs.size (.lst [])) { s2 with heap:=s2.heap.push { cls:=.type "list",dict:=none,data:=.seq ([]:List Value).toArray } } :=
  I2.laid (t':=s2.toks) (λb o e=>e_ _ e) (pf _) (show bn X.prog X.w _ _ _ (.lst []) from ⟨IE _,[],0,.nil,j_ _ rfl⟩)
 have st3:tn 0 (s2.heap.push { cls:=.type "list",dict:=none,data:=.seq ([]:List Value).toArray }):=T.keep 0 _ _ st2 λb _ o e=>e_ _ e;have f3:∀b∈fp,rN X pins (upd H2 s2.heap.objs.size (.lst [])) b:=λb hb=>⟨by rw [au (A_ (hfl b hb))];exact (fq2 b hb).1,(fq2 b hb).2⟩
 have hfl3:∀b∈fp,b<(s2.heap.push { cls:=.type "list",dict:=none,data:=.seq ([]:List Value).toArray }).objs.size:=λb hb=>by rw [IT];exact Ki (hfl b hb)
 generalize hs3:({ s2 with heap:=s2.heap.push { cls:=.type "list",dict:=none,data:=.seq ([]:List Value).toArray } }:cy)=s3 at I3 ⊢;have eh3:s3.heap=s2.heap.push { cls:=.type "list",dict:=none,data:=.seq ([]:List Value).toArray }:=by rw [<- hs3]
 rw [<- eh3] at st3 hfl3;generalize hH3:upd H2 s2.heap.objs.size (.lst [])=H3 at I3 f3 w0;generalize hD:s2.heap.objs.size=D at *;refine du ?_;have I4:=ug ok I3 f3 hfl3;obtain⟨hg,ht,he⟩:=blk s3 H3 fp pins D;have st4:tn 0 (pushCells (s3.heap.push { cls:=.type "dict",data:=.dict #[] }) scope.names):=T.keep 0 _ _ st3 λb _ o e=>LA _ _ b o (e_ _ e)
 have stat:∀{H':Hp},(∀b∈fp,H' b=none)->∀b∈fp,rN (bb X N' scope s3 H3 fp pins) [] H' b:=λhn b hb=>by
  refine⟨hn b hb,A_ (hfl3 b hb),I4.ok.exfs b hb,.inl hb,(I4.ok.exf b hb).2,λp hp=>?_⟩;have hp':p∈X.pn++pins:=by simpa [bb] using hp
  exact (fq2 b hb).2.2.2.2.2 p hp'
 have loop:∀(s4:cy),Inv (bb X N' scope s3 H3 fp pins) [] (qx ix σ) H3 s4->tn 0 s4.heap ->
   codeAny (model X.prog X.w) X.A (.compLoop (lc2 elt t1 i1 f1 t2 i2 f2 scope pos) 0 (.ref it) (.ref D) (nY scope s3.heap.objs.size X.env)) (compPost (model X.prog X.w) X.A X.xe use Qf (.ref D) s3.heap.objs.size) s4:=by
  intro s4 I4 st4;refine mx (λn s'=>∃i τ H',Inv (bb X N' scope s3 H3 fp pins) [] τ H' s'/\tn i s'.heap/\(∀b∈fp,H' b=none)/\W i n τ H') ?_ m0 ⟨0,_,H3,I4,st4,λb hb=>(f3 b hb).1,w0⟩;rintro n s5 ⟨i,τ,H5,I5,st5,fr5,w5⟩
  rcases turn i n τ H5 w5 with ⟨stop,qn⟩|⟨go,step⟩
  .refine thn (T.done (bb X N' scope s3 H3 fp pins) rfl rfl rfl hc i [] s5 τ H5 (λ_ _=>False) I5 (stat fr5) st5 stop) λr s6 ⟨hr,I6⟩=>?_;subst hr;have I7:Inv X pins σ H5 s6:=I3.call' (ch:=fp) I6.os I6.base I6.hok I6.bare λb hb=>⟨(fq2 b hb).2.2.2.1,(fq2 b hb).2.1,(fq2 b hb).2.2.2.2.1,(fq2 b hb).2.2.2.2.2⟩
   obtain⟨m6,hn6,_⟩:=I6.loc
   refine fin D s3.heap.objs.size H5 s6 I7 qn ⟨m6,hn6⟩ I6.free ?_ ?_ ?_ ?_ ?_
   .exact I3.sz
   .exact Lp I3.lt
   .intro x c e z;obtain⟨v,q⟩:=I3.cell x c e;have:=q.lt;rw [z] at this;exact IV _ this
   .exact I3.nofs (pf _)
   .intro p hp z;have:=m_ (I3.pin p hp).1;rw [z] at this;exact IV _ this
  .refine thn (T.item (bb X N' scope s3 H3 fp pins) rfl rfl rfl hc i [] s5 τ H5 (λ_ _=>False) I5 (stat fr5) st5 go) λr s6 ⟨u,hr,h6⟩=>?_;subst hr;refine thn h6 λ_ s7 ⟨x,H7,I7,r7,y7,st7,fr7⟩=>?_;have I7':=I7.pinned (stat fr7) (T.obj _ _ st7)
   have again:∀{s8:cy}{τ8:St}{H8:Hp},Inv (bb X N' scope s3 H3 fp pins) ([]++kM fp s7.heap) τ8 H8 s8->(∃m',m'<n/\W (i+1) m' τ8 H8) ->
     ∃m,m<n/\∃i τ H',Inv (bb X N' scope s3 H3 fp pins) [] τ H' s8/\tn i s8.heap/\(∀b∈fp,H' b=none)/\W i m τ H':=λ{s8 τ8 H8} I8 ⟨m',hm,w8⟩=>by
    refine⟨m',hm,i+1,τ8,H8,I8.unpinned,T.keep _ _ _ st7 λb hb o e=>(I8.pin (b,o) (t_ _ (t_ _ (cr hb e)))).1,λb hb=>?_,w8⟩;obtain⟨o,e,d⟩:=T.obj _ _ st7 b hb;exact (I8.pin (b,o) (t_ _ (t_ _ (cr hb e)))).2.1
   refine thn (hg _ s7 τ H7 x u _ I7' r7 (step x H7 y7)) λ_ s8 ⟨τ8,H8,I8,q8⟩=>?_;refine thn (ht _ s8 τ8 H8 _ I8 q8) λokb s9 ⟨H9,I9,q9⟩=>?_
   cases okb with
   | false =>
    rw [if_neg l_] at q9;rw [if_neg l_];exact again I9 q9
   | true =>
    rw [if_pos rfl] at q9;rw [if_pos rfl];refine thn (he _ s9 τ8 H9 _ I9 q9) λ_ s10 ⟨τ10,H10,I10,q10⟩=>?_;exact again I10 q10
 exact codeAny_compStart_list (loop _ I4 st4) (T.self X.A 0 _ _ _ st4 (loop _ I4 st4))
end
def kpt{O O1 O2:Addr->Prop}{H H1 H2:Hp}(a:aL O H O1 H1)(b:aL O1 H1 O2 H2):aL O H O2 H2:=λc o n e=>b c o (a c o n e).1 (a c o n e).2
structure ER (ix:List (Option Nat)) (ρ1:PSt) (n:Nat) (it:Nat->D) (g:PTG) (pt:PTT) (pi2:PTI) (g2:PTG) (pt2:PTT) (pe:PTE) (Q:PKt):Prop where
 ex:∃I:Nat->List D->PSt->Prop,I 0 [] (bw ix ρ1) /\
  (∀k ys τ d,k<n->d=it k->I k ys τ->g (.dat d) τ λτ2=>pt τ2 λok τ3=>iX ok (pi2 τ3 λn2 it2 τ4=>∃I2:Nat->List D->PSt->Prop,I2 0 ys τ4 /\
   (∀j zs τ d,j<n2->d=it2 j->I2 j zs τ->g2 (.dat d) τ λτ5=>pt2 τ5 λok τ6=>iX ok (pe τ6 λp τ7=>zs.length<1000000/\I2 (j+1) (zs++[p.d]) τ7) (I2 (j+1) zs τ6))/\∀zs τ,I2 n2 zs τ->I (k+1) zs τ) (I (k+1) ys τ3)) /\
  ∀ys τ,I n ys τ->Q (.own ys) (dP ix ρ1 τ)
noncomputable def ES(ix:List (Option Nat))(pi:PTI)(g:PTG)(pt:PTT)(pi2:PTI)(g2:PTG)(pt2:PTT)(pe:PTE):PTE:=λρ Q=>pi ρ λn it ρ1=>EA ix ρ1=true/\ER ix ρ1 n it g pt pi2 g2 pt2 pe Q
def zw{K:a_}{ix:List (Option Nat)}{wi wi2:TI}{pi pi2:PTI}{g g2:TG}{pg pg2:PTG}{tts tts2:TT}{pt pt2:PTT}{te:TE}{pe:PTE}(hix:Aj ix=true)(hi:LI K wi pi)(hg:∀fs:List Nat,(∀k∈fs,k∈xb ix)->LGd K fs g pg)(ht:LT K tts pt)
  (hi2:LI K wi2 pi2) (hg2:∀fs:List Nat,(∀k∈fs,k∈xb ix)->LGd K fs g2 pg2) (ht2:LT K tts2 pt2) (he:LE K te pe) :
  LE K (xp ix wi g tts λD=>Cj wi2 g2 tts2 (Ci te D)) (ES ix pi pg pt pi2 pg2 pt2 pe):=λA ρ σ H Q Q' R q k=>hi A ρ σ H _ _ R q λJ H1 n it ρ1 q1 f1 R1 W D hD=>by
 obtain⟨hcap,⟨I,i0,turn,after⟩⟩:=q1
 let τρ0:=bw ix ρ1
 let τσ0:=qx ix σ
 let Ai:Addr->Prop:=λb=>A b\/b=D\/(Wr ρ1 σ b/\¬ Wr τρ0 τσ0 b)
 let H0':=upd H1 D (.lst [])
 have wsub:∀b,Wr τρ0 τσ0 b->Wr ρ1 σ b:=λb ⟨m,p,e,o,s⟩=>by
  obtain⟨j,h1,h2⟩:=bZ e;obtain⟨v,hv,_⟩:=R1.get j p h2;have:=cj h1 hv;rw [s] at this;cases this;exact⟨j,p,h2,o,hv⟩
 have nD:¬ Wr ρ1 σ D:=λz=>R1.wr z hD
 have oosub:∀b,OO Ai τρ0 τσ0 b->OO A ρ1 σ b\/b=D:=λb z=>by
  rcases z with (z|z|z)|z
  .exact .inl (.inl z)
  .exact .inr z
  .exact .inl (.inr z.1)
  .exact .inl (.inr (wsub b z))
 have kD:aL (OO A ρ1 σ) H1 (OO Ai τρ0 τσ0) H0':=λb o nn e=>by
  refine⟨λz=>?_,?_⟩
  .rcases oosub b z with z|z
   .exact nn z
   .rw [z,hD] at e;cases e
  .rw [show H0' b=H1 b from au (aM e hD)];exact e
 have Ri:Rel K Ai τρ0 τσ0 H0':=by
  refine⟨by show (bw ix ρ1).length=(qx ix σ).length;unfold bw qx;rw [length_map,length_map],λm p e=>?_,λm l p q v e1 e2 o1 o2 s1 s2=>?_,λb z=>?_,λb z w=>?_⟩
  .obtain⟨j,h1,h2⟩:=bZ e;obtain⟨v,hv,r⟩:=R1.get j p h2;refine⟨v,cj h1 hv,r.keeps kD λow a ea=>?_⟩;subst ea;exact au (λz=>nD (by rw [<- z];exact⟨j,p,h2,ow,hv⟩))
  .obtain⟨j,h1,h2⟩:=bZ e1;obtain⟨j',h3,h4⟩:=bZ e2;obtain⟨v1,hv1,_⟩:=R1.get j p h2;obtain⟨v2,hv2,_⟩:=R1.get j' q h4;have t1:=cj h1 hv1;have t2:=cj h3 hv2;rw [s1] at t1;rw [s2] at t2;cases t1;cases t2;have:=R1.dj j j' p q _ h2 h4 o1 o2 hv1 hv2;subst this;exact kE hix h1 h3
  .rcases z with z|z|z
   .intro e
    by_cases zz:b=D
    .exact R1.dom b z (by rw [zz];exact hD)
    .rw [show H0' b=H1 b from au zz] at e;exact R1.dom b z e
   .rw [z];show upd H1 D _ D≠none;rw [aB];exact nofun
   .intro e;rw [show H0' b=H1 b from au (λzz=>nD (by rw [<- zz];exact z.1))] at e;exact R1.wr z.1 e
  .rcases z with z|z|z
   .exact R1.sep b z (wsub b w)
   .rw [z] at w;exact nD (wsub D w)
   .exact z.2 w
 let fxi:List (Nat×V):=(xb ix).filterMap λm=>match (τσ0[m]?) with|some (some v)=>some (m,v)|_=>none
 have hfx:∀p∈fxi,τσ0[p.1]?=some (some p.2):=λp hp=>by
  obtain⟨m,hm,e⟩:=JK.mp hp
  split at e
  .rename_i v ev;cases e;exact ev
  .cases e
 have hfs:∀m∈fxi.map IX,m∈xb ix:=λm hm=>by
  obtain⟨p,hp,rfl⟩:=Ju.mp hm;obtain⟨m',hm',e⟩:=JK.mp hp
  split at e
  .cases e;exact hm'
  .cases e
 have hgi:=hg (fxi.map IX) hfs;have hgi2:=hg2 (fxi.map IX) hfs
 have fxget:∀(m j:Nat) (v:V),ix[m]?=some (some j)->σ[j]?=some (some v)->(m,v)∈fxi:=λm j v h1 h2=>by
  refine JK.mpr ⟨m,?_,?_⟩
  .unfold xb;refine Jy.mpr ⟨IZ.mpr (i_.mp h1).1,?_⟩;rw [d_,h1];rfl
  .show (match (qx ix σ)[m]? with|some (some v)=>some (m,v)|_=>none)=_;rw [cj h1 h2]
 let Rr:Addr->Prop:=λb=>Wr τρ0 τσ0 b\/b=D
 have hRr:∀b,Rr b->OO Ai τρ0 τσ0 b:=λb z=>z.elim (λz=>.inr z) (λz=>.inl (.inr (.inl z)));have F0:cw fxi Rr H0' τρ0 τσ0 H0':=⟨λ_ _ _ h=>h,λ_ h=>h,λb w=>.inl (.inl w),hfx⟩
 refine⟨λi m τ H2=>i+m=n/\∃ys τρ xs,I i ys τρ/\Rel K Ai τρ τ H2/\cw fxi Rr H0' τρ τ H2/\H2 D=some (.lst xs)/\FVs K (OO Ai τρ τ) H2 xs ys/\∀b,Wr τρ τ b->Wr τρ0 τσ0 b,
  ⟨n,K7 n,[],τρ0,[],i0,Ri,F0,aB,.nil,λ_ h=>h⟩,λi m τ H2 ⟨him,ys,τρ,xs,iv,r2,F2,eD,fD,hw⟩=>?_⟩
 have kk:aL (OO A ρ1 σ) H1 (OO Ai τρ τ) H2:=λb o nn e=>(F2.keepsR hRr) b o (kD b o nn e).1 (kD b o nn e).2;obtain⟨go,stop⟩:=W _ H2 kk r2.dom2
 by_cases hk:i<n
 .obtain⟨g1,g2⟩:=go i hk;refine .inr ⟨g1,λx H3 y=>?_⟩;obtain⟨gr,fv⟩:=g2 x H3 y;have AiD:Ai D:=.inr (.inl rfl);refine hgi fxi Ai Rr H0' τρ τ H3 _ x _ _ rfl (F2.fr gr.fr) (r2.gr gr) fv (turn i ys τρ _ hk rfl iv) λτρ2 τ2 q2 r3 F3 w3=>?_;refine ht Ai τρ2 τ2 H3 _ _ r3 q2 λok H5 τρ3 q3 f5 r5=>?_;have F5:=F3.fr f5;have fD5:FVs K (OO Ai τρ3 τ2) H5 xs ys:=((fD.keeps (gr.fr (ρ:=τρ) (σ:=τ)).keeps).keeps (aL.less λb z=>z.imp id (w3 b))).keeps f5.keeps
  have eD5:H5 D=some (.lst xs):=f5.kp D _ (r3.sep D AiD) (gr D _ eD)
  cases ok with
  | true =>
   refine hi2 Ai τρ3 τ2 H5 _ _ r5 q3 λJ2 H6 n2 it2 τρ4 q4 f6 r6 W2=>?_;obtain⟨I2,j0,turn2,after2⟩:=q4;have F6:=F5.fr f6;have eD6:H6 D=some (.lst xs):=f6.kp D _ (r5.sep D AiD) eD5;have fD6:=fD5.keeps (f6.keeps (A:=Ai));have hw6:∀b,Wr τρ4 τ2 b->Wr τρ0 τσ0 b:=λb z=>hw b (w3 b (f5.ow b (f6.ow b z)))
   refine⟨λj l τ' H'=>j+l=n2/\∃zs τρ' xs',I2 j zs τρ'/\Rel K Ai τρ' τ' H'/\cw fxi Rr H0' τρ' τ' H'/\H' D=some (.lst xs')/\FVs K (OO Ai τρ' τ') H' xs' zs/\(∀b,Wr τρ' τ' b->Wr τρ0 τσ0 b)/\aL (OO Ai τρ4 τ2) H6 (OO Ai τρ' τ') H',
    ⟨n2,K7 n2,ys,τρ4,xs,j0,r6,F6,eD6,fD6,hw6,λb o n e=>⟨n,e⟩⟩,λj l τ' H7 ⟨hjl,zs,τρ',xs',jv,r7,F7,eD7,fD7,hw7,kk7⟩=>?_⟩
   obtain⟨go2,stop2⟩:=W2 _ H7 kk7 r7.dom2
   by_cases hj:j<n2
   .obtain⟨g1',g2'⟩:=go2 j hj;refine .inr ⟨g1',λy H8 yy=>?_⟩;obtain⟨gr8,fv8⟩:=g2' y H8 yy;refine hgi2 fxi Ai Rr H0' τρ' τ' H8 _ y _ _ rfl (F7.fr gr8.fr) (r7.gr gr8) fv8 (turn2 j zs τρ' _ hj rfl jv) λτρ9 τ9 q9 r9 F9 w9=>?_;refine ht2 Ai τρ9 τ9 H8 _ _ r9 q9 λok2 H10 τρ10 q10 f10 r10=>?_;have F10:=F9.fr f10;have k1:=(gr8.fr (ρ:=τρ') (σ:=τ')).keeps (A:=Ai);have k2:aL (OO Ai τρ' τ') H8 (OO Ai τρ9 τ9) H8:=aL.less λb z=>z.imp id (w9 b)
    have k3:=f10.keeps (A:=Ai);have fD10:FVs K (OO Ai τρ10 τ9) H10 xs' zs:=fD7.keeps (kpt k1 (kpt k2 k3));have eD10:H10 D=some (.lst xs'):=f10.kp D _ (r9.sep D AiD) (gr8 D _ eD7)
    cases ok2 with
    | true =>
     refine he Ai τρ10 τ9 H10 _ _ r10 q10 λv H11 p τρ11 q11 f11 o11=>?_;obtain⟨r11,fv11⟩:=o11.frz;have F11:=F10.fr f11;have eD11:H11 D=some (.lst xs'):=f11.kp D _ (r10.sep D AiD) eD10;have kw:aL (OO Ai τρ11 τ9) H11 (OO Ai τρ11 τ9) (upd H11 D (.lst (xs'++[v]))):=λb o nn e=>⟨nn,by rw [au (λz=>nn (by rw [z];exact .inl AiD))];exact e⟩
     refine⟨xs',eD11,?_,l - 1,by omega,by omega,zs++[p.d],τρ11,xs'++[v],q11.2,r11.amb AiD,⟨λb o nn e=>?_,λb z=>?_,F11.ow,F11.fx⟩,aB,((fD10.keeps f11.keeps).append (.cons fv11 .nil)).keeps kw,λb z=>hw7 b (w9 b (f10.ow b (f11.ow b z))),kpt kk7 (kpt k1 (kpt k2 (kpt k3 (kpt f11.keeps kw))))⟩
     .have:xs'.length=zs.length:=fD10.length;have:=q11.1;exact tj (by omega:xs'.length<1000000) (sz _ (pf _))
     .rw [au (λz=>nn (.inr z))];exact F11.kp b o nn e
     .by_cases zz:b=D
      .rw [zz,aB];exact nofun
      .rw [au zz];exact F11.dm b z
    | false=>exact⟨l - 1,by omega,by omega,zs,τρ10,xs',q10,r10,F10,eD10,fD10,λb z=>hw7 b (w9 b (f10.ow b z)),kpt kk7 (kpt k1 (kpt k2 k3))⟩
   .have e:j=n2:=by omega
    subst e;exact .inl ⟨stop2,m - 1,by omega,by omega,zs,τρ',xs',after2 zs τρ' jv,r7,F7,eD7,fD7,hw7⟩
  | false=>exact⟨m - 1,by omega,by omega,ys,τρ3,xs,q3,r5,F5,eD5,fD5,λb z=>hw b (w3 b (f5.ow b z))⟩
 .have e:i=n:=by omega
  subst e;refine .inl ⟨stop,?_⟩;have q':=after ys τρ iv
  have cap:∀(m j:Nat),ix[m]?=some (some j)->∃p v,ρ1[j]?=some (some p)/\σ[j]?=some (some v)/\τ[m]?=some (some v):=λm j e=>by
   have h1:=Jw.mp hcap _ (IH e);have h1:(match ρ1[j]? with|some (some _)=>true|_=>false)=true:=h1
   split at h1
   .rename_i p ep;obtain⟨v,hv,_⟩:=R1.get j p ep;exact⟨p,v,ep,hv,F2.fx _ (fxget m j v e hv)⟩
   .cases h1
  have get':∀(j:Nat) (p:PV),(dP ix ρ1 τρ)[j]?=some (some p)->(∃m v,ix[m]?=some (some j)/\σ[j]?=some (some v)/\τ[m]?=some (some v)/\τρ[m]?=some (some p))\/(some j∉ix/\ρ1[j]?=some (some p)):=λj p e=>by
   by_cases hj:some j∈ix
   .obtain⟨m,hm,em⟩:=getElem_of_mem hj;have em':ix[m]?=some (some j):=by rw [c_ hm,em]
    obtain⟨p0,v,h1,h2,h3⟩:=cap m j em';rw [oq ix ρ1 τρ j m hix em' (by rw [r2.len];exact (i_.mp h3).1) (i_.mp h1).1] at e;exact .inl ⟨m,v,em',h2,h3,e⟩
   .rw [i6 ix ρ1 τρ j hj] at e;exact .inr ⟨hj,e⟩
  have nocap:∀(j:Nat) (p:PV) (b:Addr),some j∉ix->ρ1[j]?=some (some p)->p.isOwn=true->σ[j]?=some (some (.ref b))->¬ Wr τρ0 τσ0 b:=λj p b hj e o s ⟨m,q,e1,o1,s1⟩=>by
   obtain⟨j',h1,h2⟩:=bZ e1;obtain⟨v,hv,_⟩:=R1.get j' q h2;have:=cj h1 hv;rw [s1] at this;cases this;have:=R1.dj j j' p q _ e h2 o o1 s hv;subst this;exact hj (IH h1)
  have w':∀b,Wr (dP ix ρ1 τρ) σ b->Wr τρ τ b\/(Wr ρ1 σ b/\¬ Wr τρ0 τσ0 b):=λb ⟨j,p,e,o,s⟩=>by
   rcases get' j p e with ⟨m,v,h1,h2,h3,h4⟩|⟨hj,h1⟩
   .rw [s] at h2;cases h2;exact .inl ⟨m,p,h4,o,h3⟩
   .exact .inr ⟨⟨j,p,h1,o,s⟩,nocap j p b hj h1 o s⟩
  have oo':∀b,OO (eQ A D) (dP ix ρ1 τρ) σ b->OO Ai τρ τ b:=λb z=>by
   rcases z with (z|z)|z
   .exact .inl (.inl z)
   .exact .inl (.inr (.inl z))
   .rcases w' b z with z|z
    .exact .inr z
    .exact .inl (.inr (.inr z))
  have kp1:∀b o,¬ Wr τρ0 τσ0 b->b≠D->H1 b=some o->H2 b=some o:=λb o n1 n2 e=>F2.kp b o (λz=>z.elim n1 n2) (by rw [show H0' b=H1 b from au n2];exact e);have k1:aL (OO A ρ1 σ) H1 (OO (eQ A D) (dP ix ρ1 τρ) σ) H2:=λb o nn e=>⟨λz=>(kk b o nn e).1 (oo' b z),(kk b o nn e).2⟩
  have AiD:Ai D:=.inr (.inl rfl)
  have R':Rel K (eQ A D) (dP ix ρ1 τρ) σ H2:=by
   refine⟨by rw [kC];exact R1.len,λj p e=>?_,λj l p q v e1 e2 o1 o2 s1 s2=>?_,λb z=>?_,λb z w=>?_⟩
   .rcases get' j p e with ⟨m,v,h1,h2,h3,h4⟩|⟨hj,h1⟩
    .obtain⟨v',hv',r⟩:=r2.get m p h4;rw [h3] at hv';cases hv';exact⟨v,h2,r.keeps (aL.less oo') λ_ _ _=>rfl⟩
    .obtain⟨v,hv,r⟩:=R1.get j p h1;refine⟨v,hv,r.keeps k1 λow a ea=>?_⟩;subst ea;obtain⟨a',u,e1,e2⟩:=r.ref ow;cases e1;rw [e2];exact kp1 a u (nocap j p a hj h1 ow hv) (λz=>by rw [z,hD] at e2;cases e2) e2
   .rcases get' j p e1 with ⟨m,v1,h1,h2,h3,h4⟩|⟨hj,h1⟩
    .rw [s1] at h2;cases h2
     rcases get' l q e2 with ⟨m',v2,g1,g2,g3,g4⟩|⟨hl,g1⟩
     .rw [s2] at g2;cases g2;have:=r2.dj m m' p q _ h4 g4 o1 o2 h3 g3;subst this;rw [h1] at g1;cases g1;rfl
     .exfalso;obtain⟨v',hv',r⟩:=r2.get m p h4;rw [h3] at hv';cases hv';obtain⟨a,u,ea,_⟩:=r.ref o1;subst ea;exact nocap l q a hl g1 o2 s2 (hw a ⟨m,p,h4,o1,h3⟩)
    .rcases get' l q e2 with ⟨m',v2,g1,g2,g3,g4⟩|⟨hl,g1⟩
     .rw [s2] at g2;cases g2;exfalso;obtain⟨v',hv',r⟩:=r2.get m' q g4;rw [g3] at hv';cases hv';obtain⟨a,u,ea,_⟩:=r.ref o2;subst ea;exact nocap j p a hj h1 o1 s1 (hw a ⟨m',q,g4,o2,g3⟩)
     .exact R1.dj j l p q v h1 g1 o1 o2 s1 s2
   .rcases z with z|z
    .exact r2.dom b (.inl z)
    .rw [z,eD];exact nofun
   .rcases w' b w with w|w
    .rcases z with z|z
     .exact r2.sep b (.inl z) w
     .rw [z] at w;exact r2.sep D AiD w
    .rcases z with z|z
     .exact R1.sep b z w.1
     .rw [z] at w;exact nD w.1
  have f2:Fr ρ1 σ H1 (dP ix ρ1 τρ) H2:=by
   refine⟨λb o nn e=>kp1 b o (λz=>nn (wsub b z)) (λz=>by rw [z,hD] at e;cases e) e,λb z=>F2.dm b ?_,λb z=>?_⟩
   .intro e
    by_cases zz:b=D
    .exact z (by rw [zz];exact hD)
    .rw [show H0' b=H1 b from au zz] at e;exact z e
   .rcases w' b z with z|z
    .exact wsub b (hw b z)
    .exact z.1
  have hD0:H D=none:=by
   cases e:H D with
   | none=>rfl
   | some o=>exact absurd hD (f1.dm D (by rw [e];exact nofun))
  exact k _ H2 (.own ys) _ q' (f1.trans f2) ⟨D,xs,rfl,λz=>R1.dom D z hD,hD0,eD,R',fD.keeps (aL.less oo')⟩
section
variable {X:Cx}{K:a_}{te:TE}{pe:PTE}{fs:List Nat}
noncomputable def Av:TIp:=λx y H Q=>rI0 (λi j=>.int (i+j)) x y H Q\/∃a b,x=.str (S a)/\y=.str (S b)/\a.length+b.length<=1000000/\Q (.str (S (a++b))) H
def Cn:PIp X .Add Av:=by
 intro pins s σ H x y v u Q I rx ry q
 rcases q with q|⟨a,b,rfl,rfl,hl,q⟩
 .exact Bp pins s σ H x y v u Q I rx ry q
 .obtain⟨t,rfl⟩:=rx;obtain⟨t',rfl⟩:=ry;refine PyProof.Rows.iadd_str (λt2 k=>⟨.str (S (a++b)),H,I.tok k,⟨t2,by rw [yV]⟩,q⟩) ?_;rw [eO,eO];exact IG hl (sz _ (pf _))
noncomputable def ipD:D->D->(D->Prop)->Prop
 | .int a,.int b,Q=>Q (.int (a+b))
 | .str a,.str b,Q=>a.length+b.length<=1000000/\Q (.str (a++b))
 | _,_,_=>False
noncomputable def ET(i:Nat)(pe:PTE):PTS:=λE ρ=>match ρ[i]? with
 | some (some (.dat d))=>pe ρ λp ρ1=>(match ρ1[i]? with
  | some (some (.dat d'))=>d'=d/\ipD d p.d λr=>ib i (.dat r) ρ1 E.nx
  | _=>False)
 | _=>False
def EU{i:Nat}(hi:LG K fs (bS i) (ib i))(h:LE K te pe):LS K fs (Fy i te Av) (ET i pe):=λfx A R H0 ρ σ H E E' hf r F q k1 k2 k3 k4=>by
 unfold ET at q
 split at q
 .rename_i d e;obtain⟨v0,s0,rs0⟩:=r.get i _ e;refine⟨v0,s0,h A ρ σ H _ _ r q λv H1 p ρ1 q1 f1 o1=>?_⟩;obtain⟨R1,fv⟩:=o1.frz
  split at q1
  .rename_i d' e1;obtain⟨rfl,q1⟩:=q1;obtain⟨v1,s1,rs1⟩:=R1.get i _ e1;rw [s0] at s1;cases s1;have fv1:FV K (OO A ρ1 σ) H1 v0 d':=rs1;unfold ipD at q1
   split at q1
   .rename_i a b ep;rw [ep] at fv;cases fv1;cases fv;exact .inl ⟨a,b,rfl,rfl,hi fx A R H0 ρ1 σ H1 (.dat (.int (a+b))) _ _ _ hf (F.fr f1) ⟨R1,.int _⟩ q1 k1⟩
   .rename_i a b ep;rw [ep] at fv;cases fv1;cases fv;exact .inr ⟨a,b,rfl,rfl,q1.1,hi fx A R H0 ρ1 σ H1 (.dat (.str (a++b))) _ _ _ hf (F.fr f1) ⟨R1,.str _ (by rw [length_append];exact q1.1)⟩ q1.2 k1⟩
   .exact q1.elim
  .exact q1.elim
 .exact q.elim
end
section
variable {prog:pj}{w:World}{A:v_}{E:Value->cy->Prop}{s:cy}
def oF{l:Addr}{vs:List Value}{Q:List Value->cy->Prop}(hl:IsTup s.heap l vs.toArray)
  (h:Q vs { s with heap:=(s.heap.push (seqObj "list" #[] 0)).update s.heap.objs.size (IP (·++vs.toArray)) }) (hsz:vs.length<=sizeLine:=by size_fits) :
  wpAny (model prog w) A (collect (.ref l)) Q E s:=by
 obtain⟨o,ho,hc,n,hd⟩:=id hl;unfold collect;refine b_ (wpAny_runValue (ML entry_proto_collect' ?_));show wpAny _ _ (do again (.builtin "list.__iadd__" ⟨[<- newList [],.ref l],[]⟩)) _ _ s;refine b_ (Mj (f_ ⟨KJ _ (by decide +kernel),ML entry_list_iadd' ?_⟩));show wpAny _ _ (LR (.ref s.heap.objs.size) (.ref l) (.ref s.heap.objs.size)) _ _ { s with heap:=s.heap.push (seqObj "list" #[] 0) }
 unfold LR;have ho':(s.heap.push (seqObj "list" #[] 0)).get? l=some o:=e_ _ ho;refine b_ (LL (T:="tuple") ⟨o,ho',hc⟩ ?_);have ht:(Jx "tuple" == Jx "tuple")=true:=by rfl
 rw [if_pos (by rw [ht];simp)];refine b_ (listItems_at ho' hd ?_);refine b_ (listItems_at (xs:=#[]) (n:=0) (j_ _ rfl) rfl ?_);rw [if_neg (by simp)];refine b_ (Ml (xs:=#[]) (n:=0) (j_ _ rfl) rfl ?_ (IE _) (by show (#[]++vs.toArray).size<=sizeLine+1;simp only [Array.size_append,size_toArray,length_nil];omega));refine f_ ?_
 show wpAny (model prog w) A (do
   let o <- load s.heap.objs.size
   match o.data with
   | .seq xs _=>pure xs.toList
   | _=>unsupported "internal:collect") Q E { s with heap:=(s.heap.push (seqObj "list" #[] 0)).update s.heap.objs.size (IP (·++vs.toArray)) }
 refine b_ (wpAny_load (get?_update_seq (j_ _ rfl) _) ?_);show wpAny _ _ (pure ((#[]:Array Value)++vs.toArray).toList) Q E _;rw [show ((#[]:Array Value)++vs.toArray).toList=vs by simp];exact f_ h
def qN{l:Addr}{vs:List Value}{ns:List Int}{Q:Value->cy->Prop}(hl:IsTup s.heap l vs.toArray)(hI:KC vs ns)(h64:vs.length<64)
  (h:∀(out:Array Value) (ns':List Int),KC out.toList ns'->ns'.Perm ns->ns'.Pairwise (·<=·)->Q (.ref (s.heap.objs.size+1)) { s with heap:=sortedAll s.heap vs out }) :
  wpAny (model prog w) A (call (.builtin "sorted") [.ref l]) Q E s:=by
 refine Calls.call_function_entry kind_sorted plain_sorted entry_sorted (args_sorted1 _) ?_;unfold JW.«sorted»;refine b_ (m:=checkCount "sorted" 1 1 _) (f_ ?_);refine b_ (oF hl ?_);refine b_ (Mj ?_)
 have hsz:((s.heap.push (seqObj "list" #[] 0)).update s.heap.objs.size (IP (·++vs.toArray))).objs.size=s.heap.objs.size+1:=by
  rw [Ka,size_push']
 have hoL:(((s.heap.push (seqObj "list" #[] 0)).update s.heap.objs.size (IP (·++vs.toArray))).push (seqObj "list" vs.toArray 0)).get? (s.heap.objs.size+1)=some (seqObj "list" vs.toArray 0):=by
  rw [<- hsz];exact j_ _ rfl
 show wpAny _ _ _ _ _ { s with heap:=((s.heap.push (seqObj "list" #[] 0)).update s.heap.objs.size (IP (·++vs.toArray))).push (seqObj "list" vs.toArray 0) };rw [hsz];refine b_ (G_ (Jq slot_list_sort ⟨_,hoL,rfl⟩ entry_list_sort (list_sort_tree hoL hI h64 λout ns' a1 a2 a3=>⟨_,rfl,?_⟩) (args_list_sort _)));exact f_ ⟨_,rfl,h out ns' a1 a2 a3⟩
end
section
variable {X:Cx}{K:a_}
noncomputable def Aw(K:a_):List V->Hp->VK->Prop:=λxs H Q=>∃(b:Bool) (p:Addr) (ns:List Int),xs=[.ref p]/\Sq b K H p (ns.map V.int)/\ns.length<64/\∀ns':List Int,ns'.Perm ns->ns'.Pairwise (·<=·)->∀q,H q=none->Q (.ref q) (upd H q (.lst (ns'.map V.int)))
def xq(K:a_)(e:X.K=K):bo X (.builtin "sorted") (Aw K):=by
 subst e;intro pins s σ H xs us Q I r h;obtain⟨b,p,ns,rfl,hS,hne,q⟩:=h;obtain⟨u,rfl,ru⟩:=iC r;cases (show u=gV p from ru)
 cases b with
 | false=>exact Ch X.K rfl pins s σ H _ _ Q I r ⟨p,ns,rfl,hS,hne,q⟩
 | true =>
  obtain⟨its,rv,pl,hz⟩:=I.tuple hS;have hi:=gU rv;have hlen:its.length=ns.length:=by have:=rv.length;rw [length_map] at this;exact this.symm
  refine qN pl hi (by omega) λout ns' ho hp hs=>?_;obtain⟨e,he⟩:=sortedAll_at s.heap its out;have hle:s.heap.objs.size<=s.heap.objs.size+1:=M1 _;refine⟨.ref (s.heap.objs.size+1),_,I.laid (a:=s.heap.objs.size+1) (o:=.lst (ns'.map V.int)) (t':=s.toks) (λb o z=>sortedAll_old z) hle ?_,rfl,q ns' hp hs _ (I.hok.fresh hle)⟩;refine⟨?_,out.toList,e,i4 ho,he⟩;rw [length_map,hp.length_eq];exact sz _ (by omega)
noncomputable def Ax:FN
 | [.lst ds],Q=>∃ns:List Int,ds=ns.map .int/\ns.length<64/\∀ns':List Int,ns'.Perm ns->ns'.Pairwise (·<=·)->Q (.own (ns'.map .int))
 | [.tup ds],Q=>∃ns:List Int,ds=ns.map .int/\ns.length<64/\∀ns':List Int,ns'.Perm ns->ns'.Pairwise (·<=·)->Q (.own (ns'.map .int))
 | _,_=>False
def uC:LC K (Aw K) Ax:=by
 intro O H xs as Q Q' dom fs q k;unfold Ax at q
 split at q
 .obtain⟨ns,rfl,h0,q⟩:=q
  cases fs with
  | cons a b =>
   cases b;obtain⟨p,ys,rfl,e1,f1⟩:=a.lst;rw [f1.ints] at e1;exact⟨false,p,ns,rfl,SqL.of e1,h0,λns' h1 h2 p' hp'=>k _ _ _ (q ns' h1 h2) (Gr.new hp') (dw hp' (FVs.of_ints _))⟩
 .obtain⟨ns,rfl,h0,q⟩:=q
  cases fs with
  | cons a b =>
   cases b;obtain⟨p,ys,rfl,_,e1,f1⟩:=a.tup;rw [f1.ints] at e1;exact⟨true,p,ns,rfl,SqT.of e1,h0,λns' h1 h2 p' hp'=>k _ _ _ (q ns' h1 h2) (Gr.new hp') (dw hp' (FVs.of_ints _))⟩
 .exact q.elim
end
section
variable {prog:pj}{w:World}{A:v_}{E:Value->cy->Prop}{s:cy}
theorem qO{it t:Addr}{items:Array Value}(hne:t≠it):∀(n i:Nat) (s:cy) (Q:List Value->cy->Prop),s.heap.IsListIter it t i->s.heap.IsList t items->i+n<=items.size ->
  (∀h',h'.IsListIter it t (i+n)->KS it s.heap h'->Q ((items.toList.drop i).take n) { s with heap:=h' })->wpAny (model prog w) A (draw (.ref it) n) Q E s
 | 0,i,s,Q,hit,_,_,hQ=>by
  show wpAny _ _ (pure []) Q E s;exact f_ (by simpa using hQ s.heap hit (Heap.SameBut.refl ..))
 | n+1,i,s,Q,hit,ht,hle,hQ=>by
  have hlt:i<items.size:=by omega
  show wpAny _ _ (pyNext (.ref it) >>= _) Q E s;refine b_ (wpAny_pyNext_list_item hit ht (x:=items[i]) (by simp [hlt]) λh₁ hit₁ hs₁=>?_);refine b_ (G_ (qO hne n (i+1) _ _ hit₁ (ht.extBut hs₁.extBut hne) (by omega) λh₂ hit₂ hs₂=>f_ ?_));have hd:items.toList.drop i=items[i]::items.toList.drop (i+1):=by simp [Lr,hlt]
  have:=hQ h₂ (by rw [show i+(n+1)=i+1+n by omega];exact hit₂) (hs₁.trans hs₂);rw [hd,take_succ_cons] at this;exact this
def kq{t:Addr}{items:Array Value}{Q:List Value->cy->Prop}(hh:A.handled=none)(ht:s.heap.IsList t items)
  (hQ:∀h',MQ s.heap.objs.size s.heap h'->Q items.toList { s with heap:=h' }):wpAny (model prog w) A (unpackItems (.ref t) items.size none) Q E s:=by
 have hlt:t≠s.heap.objs.size:=by obtain⟨o,ho,_⟩:=ht;exact A_ (m_ ho)
 unfold unpackItems
 refine b_ ?_
 .unfold notIterableAtAll;refine b_ (wpAny_specialOf ht.typeIs PySem.F.slot_list_iter.lookup ?_);refine f_ ?_;simp only [false_eq_true,if_false];refine b_ (G_ (Km ht ?_));refine b_ (G_ (qO hlt items.size 0 _ _ ⟨_,j_ _ rfl,rfl,rfl⟩ (ht.push _) (by omega) λh₁ hit₁ hs₁=>?_))
  have hall:List.take items.size (List.drop 0 items.toList)=items.toList:=by
   rw [drop_zero];exact Jj (by simp)
  rw [hall];rw [if_neg (by simp)];have ht₁:h₁.IsList t items:=(ht.push _).extBut hs₁.extBut hlt;refine b_ (G_ (wpAny_pyNext_list_end hh hit₁ ht₁ (by simp) λh₂ he₂=>?_));simp only [Option.isSome_none,false_eq_true,if_false];refine f_ (hQ h₂ λb o hb e=>he₂ b o hb (hs₁.extBut b o hb (e_ _ e)))
def jH{env:Env}{elts:List Expr}{x1}{pos:Pos}{t:Addr}{items:Array Value}{Q:Unit->cy->Prop}(hh:A.handled=none)(ht:s.heap.IsList t items)
  (hn:(assignEach elts env).length=items.size) (hstar:(assignEach elts env).findIdx? (·.1)=none)
  (h:∀h',MQ s.heap.objs.size s.heap h'->wpAny (model prog w) A (assignInOrder ((assignEach elts env).map (·.2)) items.toList) Q E { s with heap:=h' }) :
  wpAny (model prog w) A (assign (.Tuple elts x1 pos) env (.ref t)) Q E s:=by
 rw [assign_Tuple];refine b_ (Jd ?_);unfold unpack;rw [hn,hstar];exact b_ (G_ (kq hh ht h))
end
noncomputable def Df(K:a_)(n:Nat)(t:TGs):TG:=λv σ H Q=>∃b a xs,v=.ref a/\Sq b K H a xs/\xs.length=n/\t xs σ H Q
section
variable {X:Cx}
def ja(K:a_)(eK:X.K=K){es:List Expr}{k:Nat}{t:TGs}{n:Nat}{pos:Pos}(hc:X.calm=true)(h:PGs X es t)
  (hn:(assignEach es X.env).length=n:=by rfl) (hst:(assignEach es X.env).findIdx? (·.1)=none:=by rfl):PG X (.Tuple es k pos) (Df K n t):=by
 subst eK;intro pins s σ H v u Q I r hw;obtain⟨b,a,xs,e1,hq,hl,hw⟩:=hw
 cases b with
 | true=>exact Dz hc h hn hst pins s σ H v u Q I r ⟨a,xs,e1,hq,hl,hw⟩
 | false =>
  subst e1;cases r;obtain⟨its,rv,ht,hz⟩:=I.list hq;refine jH (I.ok.hd hc) ht.isList (by simp [hn,<- hl,rv.length]) hst λh' hx=>?_;have I1:Inv X pins σ H { s with heap:=h' }:=I.kept (t':=s.toks) λb o e=>hx b o (A_ (m_ e)) e;exact h pins _ σ H xs _ Q I1 (by simpa using rv) hw
noncomputable def xr(n:Nat)(gs:Ah):PTG:=λp ρ Q=>match p with|.dat (.tup ds)=>ds.length=n/\gs ds ρ Q|.dat (.lst ds)=>ds.length=n/\gs ds ρ Q|.own ds=>ds.length=n/\gs ds ρ Q|_=>False
end
section
variable {K:a_}{fs:List Nat}
def gq{n:Nat}{gs:TGs}{pgs:Ah}(h:LGs K fs gs pgs):LGd K fs (Df K n gs) (xr n pgs):=λfx A R H0 ρ σ H d v Q Q' hf F r fv q k=>by
 unfold xr at q
 split at q
 .rename_i e;cases e
  cases fv with
  | tup nn e f=>exact⟨true,_,_,rfl,SqT.of e,by rw [f.length];exact q.1,h fx A R H0 ρ σ H _ _ Q Q' hf F r f q.2 k⟩
 .rename_i e;cases e
  cases fv with
  | lst nn e f=>exact⟨false,_,_,rfl,SqL.of e,by rw [f.length];exact q.1,h fx A R H0 ρ σ H _ _ Q Q' hf F r f q.2 k⟩
 .rename_i e;cases e
 .exact q.elim
def EV{n:Nat}{gs:TGs}{pgs:Ah}(h:LGs K fs gs pgs):LG K fs (Df K n gs) (xr n pgs):=λfx A R H0 ρ σ H p v Q Q' hf F o q k=>by
 unfold xr at q
 split at q
 .obtain⟨r,fv⟩:=o
  cases fv with
  | tup nn e f=>exact⟨true,_,_,rfl,SqT.of e,by rw [f.length];exact q.1,h fx A R H0 ρ σ H _ _ Q Q' hf F r f q.2 λρ' σ' q' r' F' _=>k ρ' σ' H q' r' F'⟩
 .obtain⟨r,fv⟩:=o
  cases fv with
  | lst nn e f=>exact⟨false,_,_,rfl,SqL.of e,by rw [f.length];exact q.1,h fx A R H0 ρ σ H _ _ Q Q' hf F r f q.2 λρ' σ' q' r' F' _=>k ρ' σ' H q' r' F'⟩
 .obtain⟨r,fv⟩:=o.frz
  cases fv with
  | lst nn e f=>exact⟨false,_,_,rfl,SqL.of e,by rw [f.length];exact q.1,h fx A R H0 ρ σ H _ _ Q Q' hf F r f q.2 λρ' σ' q' r' F' _=>k ρ' σ' H q' r' F'⟩
 .exact q.elim
end
noncomputable def iJ(d:D)(xs:List D):Prop:=d=.lst xs\/d=.tup xs
def Ay{d:D}{xs:List D}{Q:PV->Prop}(h:iJ d xs)(q:Q (.dat (.int xs.length))):Dd [d] Q:=by
 rcases h with rfl|rfl <;> exact q
def Co{d:D}{xs:List D}{Q:PV->Prop}(h:iJ d xs)(q:Q (.own xs)):Cd [d] Q:=by
 rcases h with rfl|rfl <;> exact q
theorem EW{d:D}{xs:List D}{F:Nat->(Nat->D)->Prop}(h:iJ d xs)(q:F xs.length (itD xs)):(match GB d with|some (n,it)=>F n it|none=>False):=by
 rcases h with rfl|rfl <;> exact q
def iJ.lst(xs:List D):iJ (.lst xs) xs:=.inl rfl
def iJ.tup(xs:List D):iJ (.tup xs) xs:=.inr rfl
def iJ.items{d:D}{xs:List D}(h:iJ d xs):bj d=xs:=by rcases h with rfl|rfl <;> rfl
noncomputable def nSt:Expr->Bool
 | .Starred _ _=>false
 | _=>true
def fe{e:Expr}{es:List Expr}{env:Env}(h:nSt e=true):starEach (e::es) env=(false,eval e env)::starEach es env:=by
 cases e <;> first|rfl|cases h
theorem dX{env:Env}{pos:Pos}:∀{es:List Expr},es.all nSt=true->(backTo pos (starEach es env)).any (·.1)=false
 | [],_=>rfl
 | e::es,h=>by
  rw [all_cons,and_eq_true] at h;rw [fe h.1];show (false || (backTo pos (starEach es env)).any (·.1))=false;rw [dX h.2];rfl
section
variable {X:Cx}{k:Nat}{x:Str}{ps:List Str}{sp:Sp}{e:Expr}{es:List Expr}{te:TE}{t:TA}{p pos:Pos}{dvs:List V}{C:Addr}{id T:String}{r:List V->Hp->VK->Prop}
def paC(ha:PE X e te)(hr:PA X es t)(hn:nSt e=true:=by rfl):PA X (e::es) (aU te t):=Bs ha hr (fe hn)
def ao(C:Cal X.prog X.w X.K X.mg X.base k x ps sp)(hr:dO k X.A)(ha:PA X (e::es) t)(hg:Gl X x:=by rfl)(hdb:(x == ("__debug__":Str))=false:=by decide)(hn:nSt e=true:=by rfl)(hp:es.all nSt=true:=by rfl) :
  PE X (.Call (.Name x p) (e::es) [] pos) (eM sp [] E0 t):=D4 C hr ha hg hdb (fe hn) (dX hp)
def zx(j:Nat)(C:Ea X.prog X.w X.K X.mg X.base k x ps dvs sp)(hr:dO k X.A)(hj:j<=dvs.length)(ha:PA X (e::es) t)(hg:Gl X x:=by rfl)(hdb:(x == ("__debug__":Str))=false:=by decide)(hn:nSt e=true:=by rfl)(hp:es.all nSt=true:=by rfl) :
  PE X (.Call (.Name x p) (e::es) [] pos) (eM sp (dvs.drop j) E0 t):=BO j C hr hj ha hg hdb (fe hn) (dX hp)
def uD(M:Ed X.prog X.w X.K X.mg X.base k C x ps sp)(hr:dO (k+1) X.A)(ha:PA X (e::es) t)(hg:Gl X x:=by rfl)(hdb:(x == ("__debug__":Str))=false:=by decide)(hn:nSt e=true:=by rfl)(hp:es.all nSt=true:=by rfl) :
  PE X (.Call (.Name x p) (e::es) [] pos) (yP C sp [] E0 t):=BP M hr ha hg hdb (fe hn) (dX hp)
def am(hc:bo X (.builtin id) r)(hg:Gl X x)(hm:X.mg x=none)(hv:bootBuiltins x=some (.builtin id))(ha:PA X (e::es) t)(hnn:x≠"__name__":=by decide)(hdb:(x == ("__debug__":Str))=false:=by decide)(hn:nSt e=true:=by rfl)(hp:es.all nSt=true:=by rfl) :
  PE X (.Call (.Name x p) (e::es) [] pos) (tCB r t):=yR hc hg hm hv ha hnn hdb (fe hn) (dX hp)
def bH(hc:bo X (.type T) r)(hg:Gl X x)(hm:X.mg x=none)(hv:bootBuiltins x=some (.type T))(ha:PA X (e::es) t)(hnn:x≠"__name__":=by decide)(hdb:(x == ("__debug__":Str))=false:=by decide)(hn:nSt e=true:=by rfl)(hp:es.all nSt=true:=by rfl) :
  PE X (.Call (.Name x p) (e::es) [] pos) (tCB r t):=wv hc hg hm hv ha hnn hdb (fe hn) (dX hp)
end
noncomputable def plT:Expr->Bool
 | .Call _ _ _ _=>true
 | .Name _ _=>true
 | .Subscript _ _ _=>true
 | .Attribute _ _ _=>true
 | _=>false
def Cp{e:Expr}{env:Env}(h:plT e=true):∀whole,isTrue e env whole=(do let v <- whole;standAt e.pos;holding [v] (truthy v)):=by
 cases e <;> first|(intro _;rfl)|cases h
def bf{X:Cx}{e:Expr}{t:TE}(h:PE X e t)(hp:plT e=true:=by rfl):PT X e (tB t):=Dv h (Cp hp)
noncomputable def hG(a b:List Nat):Bool:=decide (0<=fnd b a 0)
noncomputable def bC(ps:List (List Nat))(i:Nat):Bool:=!decide (pw ps i∈ps.take i) && !(ps.filter λo=>decide ((pw ps i).length<o.length)).any λo=>hG (pw ps i) o
def lm{a b:List Nat}:hG a b=true ↔ ∃k,stA b a k=true:=by
 unfold hG
 constructor
 .intro h;have h0:fnd b a 0≠-1:=λz=>by rw [z] at h;exact absurd (of_decide_eq_true h) (by decide)
  obtain⟨k,_,_,h1,_⟩:=kA h0;exact⟨k,h1⟩
 .rintro⟨k,hk⟩
  by_cases h0:fnd b a 0=-1
  .rw [uh h0 k (IE _)] at hk;cases hk
  .obtain⟨j,e,_⟩:=kA h0;rw [e];exact decide_eq_true (by omega)
def zy(a:List Nat):hG a a=true:=lm.mpr ⟨0,decide_eq_true ⟨by omega,by rw [drop_zero,take_length]⟩⟩
def xt{a b c:List Nat}(h1:hG a b=true)(h2:hG b c=true):hG a c=true:=by
 obtain⟨k1,e1⟩:=lm.mp h1;obtain⟨k2,e2⟩:=lm.mp h2;obtain⟨l1,t1⟩:=of_decide_eq_true e1;obtain⟨l2,t2⟩:=of_decide_eq_true e2;refine lm.mpr ⟨k2+k1,decide_eq_true ⟨by omega,?_⟩⟩
 have hb:b.drop k1=(c.drop (k2+k1)).take (b.length - k1):=by
  rw [<- t2,drop_take,drop_drop,t2]
 have ha:a=((c.drop (k2+k1)).take (b.length - k1)).take a.length:=by rw [<- hb,t1]
 rw [take_take,show min a.length (b.length - k1)=a.length by omega] at ha;exact ha.symm
def fg{ps:List (List Nat)}{i:Nat}:bC ps i=true ↔ pw ps i∉ps.take i/\∀o∈ps,(pw ps i).length<o.length->hG (pw ps i) o=false:=by
 unfold bC;rw [and_eq_true,Md,Md,decide_eq_false_iff_not,any_eq_false]
 constructor
 .rintro⟨h1,h2⟩;refine⟨h1,λo ho hl=>?_⟩;have:=h2 o (Jy.mpr ⟨ho,decide_eq_true hl⟩);simpa using this
 .rintro⟨h1,h2⟩;refine⟨h1,λo ho=>?_⟩;obtain⟨m1,m2⟩:=Jy.mp ho;rw [h2 o m1 (of_decide_eq_true m2)];decide
def xu{ps:List (List Nat)}(hw:∀w∈ps,w.length<=60):∀(m i:Nat),i<ps.length->(61 - (pw ps i).length)*(ps.length+1)+i<=m->∃j,j<ps.length/\bC ps j=true/\hG (pw ps i) (pw ps j)=true:=by
 intro m
 induction m with
 | zero =>
  intro i hi h;have hl:=hw _ (IH (c9 hi));have:0<(61 - (pw ps i).length)*(ps.length+1):=mul_pos (by omega) (by omega);omega
 | succ m ih =>
  intro i hi h;have hl:=hw _ (IH (c9 hi))
  by_cases hk:bC ps i=true
  .exact⟨i,hi,hk,zy _⟩
  .by_cases h1:pw ps i∈ps.take i
   .obtain⟨i',hi'⟩:=Le.mp h1
    have hlt:i'<i:=by
     have:=(i_.mp hi').1;rw [length_take] at this;omega
    have he:pw ps i'=pw ps i:=by
     rw [Mm,if_pos hlt] at hi';have:=c9 (ws:=ps) (k:=i') (by omega);rw [hi'] at this;exact (r_ this).symm
    obtain⟨j,a1,a2,a3⟩:=ih i' (by omega) (by rw [he];omega);exact⟨j,a1,a2,by rw [<- he];exact a3⟩
   .have h2:∃o∈ps,(pw ps i).length<o.length/\hG (pw ps i) o=true:=by
     apply Classical.byContradiction;intro z;refine hk (fg.mpr ⟨h1,λo ho hlo=>?_⟩)
     cases hs:hG (pw ps i) o with
     | false=>rfl
     | true=>exact absurd ⟨o,ho,hlo,hs⟩ z
    obtain⟨o,ho,hlo,hs⟩:=h2;obtain⟨i',hi'⟩:=Le.mp ho;have hlt:i'<ps.length:=(i_.mp hi').1
    have he:pw ps i'=o:=by
     have:=c9 hlt;rw [hi'] at this;exact (r_ this).symm
    have hm:(61 - o.length+1)*(ps.length+1)<=(61 - (pw ps i).length)*(ps.length+1):=mul_le_mul_right _ (by have:=hw o ho;omega);rw [add_mul,one_mul] at hm;obtain⟨j,a1,a2,a3⟩:=ih i' hlt (by rw [he];omega);rw [he] at a3;exact⟨j,a1,a2,xt hs a3⟩
noncomputable def qP(a b:List Nat)(k:Nat):Prop:=k<min a.length b.length/\b.take k <:+ a/\∀j,j<min a.length b.length->b.take j <:+ a->j<=k
def qP.uniq{a b:List Nat}{j k:Nat}(x:qP a b j)(y:qP a b k):j=k:=le_antisymm (y.2.2 j x.1 x.2.1) (x.2.2 k y.1 y.2.1)
noncomputable def dM(a b:List Nat):Nat:=open Classical in if h:∃k,qP a b k then Classical.choose h else 0
def lp{a b:List Nat}(ha:0<a.length)(hb:0<b.length):qP a b (dM a b):=by
 obtain⟨k,h1,h2,h3⟩:=k6 (λk=>b.take k <:+ a) (by rw [take_zero];exact nil_suffix) (min a.length b.length) (by omega);have h:∃k,qP a b k:=⟨k,h1,h2,h3⟩
 unfold dM;rw [dif_pos h];exact Classical.choose_spec h
def oG{a b:List Nat}{k:Nat}(h:qP a b k):dM a b=k:=(lp (by have:=h.1;omega) (by have:=h.1;omega)).uniq h
noncomputable def ie(ps:List (List Nat)):List Nat:=(g_ ps.length).filter (bC ps)
noncomputable def bI(ps:List (List Nat)):List (List Nat):=(ie ps).map (pw ps)
def qQ{ps:List (List Nat)}{i:Nat}(h:i∈ie ps):i<ps.length:=IZ.mp (Jy.mp h).1
def vq(ps:List (List Nat)):(ie ps).length<=ps.length:=IG (Mw ..) (by rw [IF];omega)
def vt{m:Nat}{ps:List (List Nat)}(h:Pcs m ps):Pcs m (bI ps):=λw hw=>by
 obtain⟨i,hi,rfl⟩:=Ju.mp hw;exact h _ (cf (qQ hi))
def vv(ps:List (List Nat)):(bI ps).length<=ps.length:=by unfold bI;rw [length_map];exact vq ps
def qR(ps:List (List Nat)):(ie ps).Pairwise (·<·):=Me.filter _
noncomputable def zA(ws:List (List Nat)):D:=.tup (ws.map λw=>.tup (ws.map λv=>.int (dM w v:Int)))
def nD(k:Nat):D:=.int (k:Int)
def Az{ks:List Nat}{k:Nat}(h:k<(ks.map nD).length):itD (ks.map nD) k=.int ((ks.getD k 0:Nat):Int):=qH (by
 have h:k<ks.length:=by rwa [length_map] at h
 rw [k_,d_,c_ h];rfl)
theorem oH(w:List Nat):∀ws:List (List Nat),inD (.str w) (ws.map .str)=decide (w∈ws)
 | []=>by simp [inD]
 | v::r=>by
  have ih:=oH w r;unfold inD at ih ⊢;rw [map_cons,any_cons,ih];show ((v == w) || decide (w∈r))=_
  by_cases h:v=w
  .subst h;simp
  .rw [beq_eq_false_iff_ne.mpr h,Mn]
   by_cases h2:w∈r
   .rw [decide_eq_true h2,decide_eq_true (q_ _ h2)]
   .rw [decide_eq_false h2,decide_eq_false (λz=>(mem_cons.mp z).elim (λe=>h e.symm) h2)]
def xv(ws:List (List Nat)):(ws.map D.str).all D.fl=true:=by rw [all_map];exact Jw.mpr λ_ _=>rfl
def AA(ws:List (List Nat)):(g_ ws.length).map (pw ws)=ws:=by
 apply Kt;intro k;rw [k_]
 by_cases hk:k<ws.length
 .rw [IU hk,c9 hk];rfl
 .rw [we (by rw [IF];omega),we (by omega)];rfl
def zB{β:Type}(f:List Nat->Option β)(ws:List (List Nat)):(g_ ws.length).filterMap (λk=>f (pw ws k))=ws.filterMap f:=by
 conv=>rhs;rw [<- AA ws]
 rw [Mg];rfl
theorem jb{α β:Type}(p:α->Bool)(g:α->β):∀l:List α,l.filterMap (λa=>if p a=true then some (g a) else none)=(l.filter p).map g
 | []=>rfl
 | a::r=>by
  rw [J9,filter_cons]
  cases h:p a with
  | true=>simp [jb p g r]
  | false=>simp [jb p g r]
def oJ(a b:List Int):deq (.lst (a.map .int)) (.lst (b.map .int))=decide (a=b):=by
 unfold deq;show Ld (.list (D.pys _)) (.list (D.pys _))=_;rw [lf,lf];simp only [Ld];exact kW a b
abbrev vmB:List Value:=[.type "ValueError",.type "Exception",.type "BaseException",.type "object"]
section
variable {prog:pj}{w:World}{A:v_}{E:Value->cy->Prop}{K:a_}{h:Heap}{g:Array KR}{d:Drawn}{t:Nat}{os:J6}
variable {nm q:Str}{C N:Addr}{bs bm:List Value}{sn:List Str}{sub:List Value}{ab:Bool}{col:Option Bool}{k0 k1 k2 k3 k5:Option Value}
def sw{rest:List Value}{fI:Addr}{Q:Fin->cy->Prop}(X:K.In h)(hC:h.get? C=some (excClassObj nm q C N bs bm true sn sub ab col none k0 k1 k2 k3 k5 "ValueError.__new__"))(T:OwnTail h vmB bm)
  (hi:h_ K (.ref C) "__init__"=some (some (.ref fI))) (hf:JC K (.ref fI)=some (.type "function")) (hrest:rest.length<=sizeLine)
  (hq:∀h',Heap.MadeExcOf h h' (h.objs.size+1) (.ref C) rest->wpAny (model prog w) A (call (.ref fI) (.ref (h.objs.size+1)::rest)) (λr s'=>r=.none/\Q (.done (.ret (.ref (h.objs.size+1)))) s') E ⟨h',g,d,t,os⟩) :
  wpAny (model prog w) A (JW.«type.__call__» ⟨.ref C::rest,[]⟩) Q E ⟨h,g,d,t,os⟩:=by
 have FV:=L4
 repeat (first
  | with_reducible refine C_ hC ?_
  | with_reducible refine wpAny_madeBy_exc hC ?_
  | wp_step)
 refine codeAny_call_builtin_code (KJ _ FV.quiet) (wpAny_check_new_subT FV T hC ?_);refine codeAny_exc_new_subT FV T hC ?_ hrest;show wpAny _ _ _ _ _ _;generalize hh1:(h.push { cls:=.type "tuple",data:=.seq rest.toArray })=h1;generalize hh2:(h1.push { cls:=.ref C,data:=.fields #[.ref h.objs.size,.none,.none,.none,.bool false,.none] })=h2
 have kp:∀b o,h.get? b=some o->h2.get? b=some o:=λb o e=>by
  rw [<- hh2,<- hh1];exact e_ _ (e_ _ e)
 have hC2:=kp _ _ hC;have X2:K.In h2:=X.keeps kp;have sz:h1.objs.size=h.objs.size+1:=by rw [<- hh1];exact IT ..
 have ge:h2.get? (h.objs.size+1)=some { cls:=.ref C,data:=.fields #[.ref h.objs.size,.none,.none,.none,.bool false,.none] }:=by
  rw [<- hh2,<- sz];exact j_ _ rfl
 have gt:h2.get? h.objs.size=some { cls:=.type "tuple",data:=.seq rest.toArray }:=by
  rw [<- hh2,<- hh1];exact e_ _ (j_ _ rfl)
 have cc:(gV C::bm).contains (.ref C)=true:=by simp
 unfold isInstance
 repeat (first
  | with_reducible refine C_ ge ?_
  | (with_reducible refine Jv hC2 ?_;rw [cc])
  | wp_step)
 show wpAny _ _ (typeLookup (.ref C) _) _ _ _;refine (Jo X2 hi).at ?_;refine G_ (b_ ((PySem.W.bind_fn X2 _ hf).at ?_));refine b_ (D_ (hq h2 ⟨kp,JX (M1 _),h.objs.size,ge,JX (pf _),gt⟩) (λr s' hr=>?_) λ_ _ x=>x);obtain⟨rfl,hQ⟩:=hr
 wp_walk
 exact hQ
def Cq{rest:List Value}{fI:Addr}{Q:Value->cy->Prop}(X:K.In h)(hC:h.get? C=some (excClassObj nm q C N bs bm true sn sub ab col none k0 k1 k2 k3 k5 "ValueError.__new__"))(T:OwnTail h vmB bm)
  (hi:h_ K (.ref C) "__init__"=some (some (.ref fI))) (hf:JC K (.ref fI)=some (.type "function")) (hrest:rest.length<=sizeLine)
  (hq:∀h',Heap.MadeExcOf h h' (h.objs.size+1) (.ref C) rest->wpAny (model prog w) (A.under (.builtin "type.__call__" ⟨.ref C::rest,[]⟩)) (call (.ref fI) (.ref (h.objs.size+1)::rest)) (λr s'=>r=.none/\Q (.ref (h.objs.size+1)) s') E ⟨h',g,d,t,os⟩) :
  wpAny (model prog w) A (call (.ref C) rest) Q E ⟨h,g,d,t,os⟩:=by
 have u1:=tc_lookup;have u2:=tc_bind (.ref C);have hT:(⟨h,g,d,t,os⟩:cy).TypeIs (.ref C) "type":=⟨_,hC,rfl⟩
 refine Lc (codeAny_of_tree ?_);show wpAny _ _ (callAny (.ref C) _) _ _ _
 repeat (any_goals (first
  | assumption
  | with_reducible refine C_ hC ?_
  | wp_step))
 refine⟨rfl,?_⟩;refine codeAny_call_builtin_at (KJ _ (by decide +kernel)) entry_typeCall ?_;refine wpAny_check_type_call_sub hC (sw X hC T hi hf hrest λh' hm=>?_);exact hq h' hm
end
open PySem.Builtin PySem.Builtin.ObjectAttr
section
variable {prog:pj}{w:World}{A:v_}{E:Value->cy->Prop}{K:a_}{h:Heap}{g:Array KR}{d:Drawn}{t:Nat}{os:J6}
variable {nm q:Str}{C G N x:Addr}{bs:List Value}{sn:List Str}{sub:List Value}{ab:Bool}{col:Option Bool}{k0 k1 k2 k3 k5:Option Value}{name:Str}{v:Value}{o:Obj}{vs:Array Value}
noncomputable def HH(h h':Heap)(x:Addr)(o:Obj)(name:Str)(v:Value)(dx:Addr):Prop :=
 h'.get? x=some { o with dict:=some dx }/\h.objs.size<=dx/\dx≠x/\h'.Ns1 dx (λy=>if y=name then some v else none)/\∀b ob,b≠x->h.get? b=some ob->h'.get? b=some ob
def oK{tk:Tok}{Q:Fin->cy->Prop}(X:K.In h)(hC:h.get? C=some (excClassObj nm q C N bs (.ref G::vmB) true sn sub ab col none k0 k1 k2 k3 k5 "ValueError.__new__"))
  (hna:h_ K (.ref C) name=some none) (hx:h.get? x=some o) (hc:o.cls=.ref C) (hd:o.data=.fields vs) (hdn:o.dict=none)
  (hq:∀h' tk' dx,HH h h' x o name v dx->Q (.done (.ret .none)) ⟨h',g,d,tk',os⟩) :
  wpAny (model prog w) A (JW.«object.__setattr__» ⟨[.ref x,.str name tk,v],[]⟩) Q E ⟨h,g,d,t,os⟩:=by
 have hpass:=Mo.passes (.ref x);unfold JW.«object.__setattr__»
 repeat (first
  | rw [refuse_eq]
  | (rw [refuseLoop_ref,refuseLoop_ref,hpass])
  | (with_reducible refine C_ hx ?_;rw [hc])
  | with_reducible refine wpAny_mroOf_exc hC ?_
  | (with_reducible refine (Jo X hna).at ?_)
  | wp_step)
 rw [hdn,if_neg (by simp [typeHasDict])]
 split
 .rename_i hcd;cases hcd
 split
 .rename_i c hcd;rw [hd] at hcd;cases hcd
 .have hx1:(h.push { cls:=.type "dict",data:=.dict #[] }).get? x=some o:=e_ _ hx;have hxs:x≠h.objs.size:=A_ (m_ hx);refine b_ (wpAny_alloc' ?_);refine b_ (wpAny_update' hx1 ?_);refine f_ ?_;generalize hg2:((h.push { cls:=.type "dict",data:=.dict #[] }).update x λo=>{ cls:=o.cls,dict:=some h.objs.size,data:=o.data,slots:=o.slots })=h2
  have gd:h2.get? h.objs.size=some { cls:=.type "dict",data:=.dict #[] }:=by
   rw [<- hg2];exact (Jf _ _ _ _ hxs.symm).trans (Heap.get?_push_at rfl rfl)
  have gx:h2.get? x=some { o with dict:=some h.objs.size }:=by
   rw [<- hg2];refine JT _ hx1 ?_;have hfr:=(Heap.get?_some_iff.mp hx).2;obtain⟨oc,od,odt,osl⟩:=o;cases odt <;> first|rfl|exact hfr
  have kp:∀b ob,b≠x->h.get? b=some ob->h2.get? b=some ob:=λb ob hb e=>by
   rw [<- hg2];exact (Jf _ _ _ _ hb).trans (e_ _ e)
  have hnd:h2.Ns h.objs.size (λ_=>none):=⟨_,#[],_,gd,rfl,λe he=>absurd he (by simp),λ_=>rfl⟩
  show wpAny _ _ (storeInDict h.objs.size (.str name tk) name v) _ _ _;unfold storeInDict newKeyGuard;refine b_ (f_ (b_ (wpAny_nsSet1 (Heap.Ns1.of_empty hnd) λh' hn' hs=>?_)));obtain⟨oD,esD,epD,hoD,hdD,hcD⟩:=hn'.count (Within.cons name v Within.nil)
  refine b_ (wpAny_lookBehind hoD (by
   rw [hdD];exact pastItsLine_dict (IG hcD (by rw [length_cons,length_nil,JB];omega))) ?_)
  wp_walk
  exact hq h' _ h.objs.size ⟨(hs.2 x hxs).trans gx,pf _,hxs.symm,hn',λb ob hb e=>(hs.2 b (A_ (m_ e))).trans (kp b ob hb e)⟩
def Cr{Q:Unit->cy->Prop}(X:K.In h)(hC:h.get? C=some (excClassObj nm q C N bs (.ref G::vmB) true sn sub ab col none k0 k1 k2 k3 k5 "ValueError.__new__"))
  (hsa:h_ K (.ref C) "__setattr__"=some (some (.builtin "object.__setattr__"))) (hna:h_ K (.ref C) name=some none)
  (hx:h.get? x=some o) (hc:o.cls=.ref C) (hd:o.data=.fields vs) (hdn:o.dict=none)
  (hq:∀h' tk' dx,HH h h' x o name v dx->Q () ⟨h',g,d,tk',os⟩) :
  wpAny (model prog w) A (setAttr (.ref x) name v) Q E ⟨h,g,d,t,os⟩:=by
 have SF:=Mo;have u3:=SF.slot.bind (.ref x);unfold setAttr callSpecial? specialOf;refine b_ (wpAny_mkText (b_ (b_ (b_ (Lf hx ?_)))));rw [hc];refine (Jo X hsa).at ?_;refine G_ (b_ (Ls u3 (b_ (Lc ?_))))
 have own:(gV C::.ref G::vmB).contains (.type "object")=true:=by
  rw [contains_cons,contains_cons,SF.hasOwner,MG,MG]
 refine Lx SF.slot.plain SF.entry ?_;simp only [checkBuiltinCall,SF.kind,SF.split];have ha:=SF.args (.ref x) (.str name t) v;show wpAny _ _ (isInstance (.ref x) (.type "object") >>= _) _ _ _;refine b_ ?_;unfold isInstance;refine b_ (Lf hx ?_);rw [hc];refine Jv hC ?_;rw [own]
 have step:∀{Q':Fin->cy->Prop},(∀s',Q () s'->Q' (.done (.ret .none)) s')->wpAny (model prog w) A.in1 (JW.«object.__setattr__» ⟨[.ref x,.str name t,v],[]⟩) Q' E ⟨h,g,d,t+1,os⟩:=λk =>
  oK X hC hna hx hc hd hdn λh' tk' dx z=>k _ (hq h' tk' dx z)
 show wpAny _ _ (match Kx "object.__setattr__" with|some sig=>Kp "object.__setattr__" sig { pos:=[gV x]++[Kr name t,v] }|x=>pure ()) _ _ _
 cases hsig:Kx "object.__setattr__" with
 | none=>exact f_ (step λs' z=>f_ (f_ z))
 | some sig =>
  simp only [argsOk,hsig] at ha;have h2:Kp "object.__setattr__" sig ⟨[.ref x,.str name t,v],[]⟩=pure ():=ha;show wpAny _ _ (Kp "object.__setattr__" sig ⟨[.ref x,.str name t,v],[]⟩) _ _ _;rw [h2];exact f_ (step λs' z=>f_ (f_ z))
end
open PySem.Builtin PySem.Builtin.ObjectAttr
section
variable {prog:pj}{w:World}{A:v_}{E:Value->cy->Prop}{K:a_}{h:Heap}{g:Array KR}{d:Drawn}{t:Nat}{os:J6}
variable {nm q:Str}{C G N x dx:Addr}{bs:List Value}{sn:List Str}{sub:List Value}{ab:Bool}{col:Option Bool}{k0 k1 k2 k3 k5:Option Value}{name:Str}{v:Value}{o:Obj}{vs:Array Value}{mA:Str->Option Value}
def qS{tk:Tok}{Q:Fin->cy->Prop}(X:K.In h)(hC:h.get? C=some (excClassObj nm q C N bs (.ref G::vmB) true sn sub ab col none k0 k1 k2 k3 k5 "ValueError.__new__"))
  (hna:h_ K (.ref C) name=some none) (hx:h.get? x=some o) (hc:o.cls=.ref C) (hd:o.data=.fields vs) (hdx:o.dict=some dx) (hns:h.Ns dx mA) (hv:mA name=some v)
  (hq:Q (.done (.ret v)) ⟨h,g,d,t,os⟩):wpAny (model prog w) A (JW.«object.__getattribute__» ⟨[.ref x,.str name tk],[]⟩) Q E ⟨h,g,d,t,os⟩:=by
 unfold JW.«object.__getattribute__»
 repeat (first
  | (with_reducible refine C_ hx ?_;rw [hc])
  | (with_reducible refine (Jo X hna).at ?_)
  | wp_step)
 rw [hd];show wpAny _ _ (instanceDict x false) _ _ _;unfold instanceDict
 repeat (first
  | (with_reducible refine C_ hx ?_;rw [hc])
  | with_reducible refine C_ hC ?_
  | wp_step)
 rw [hdx]
 repeat (first
  | (with_reducible refine wpAny_nsGet hns ?_;rw [hv])
  | wp_step)
 exact hq
end
open PySem.Builtin PySem.Builtin.ObjectAttr
section
variable {prog:pj}{w:World}{A:v_}{E:Value->cy->Prop}{K:a_}{h:Heap}{g:Array KR}{d:Drawn}{t:Nat}{os:J6}
variable {nm q:Str}{C G N x dx:Addr}{bs:List Value}{sn:List Str}{sub:List Value}{ab:Bool}{col:Option Bool}{k0 k1 k2 k3 k5:Option Value}{name:Str}{v:Value}{o:Obj}{vs:Array Value}{mA:Str->Option Value}
def xw{R:Result->cy->Prop}(hC:h.get? C=some (excClassObj nm q C N bs (.ref G::vmB) true sn sub ab col none k0 k1 k2 k3 k5 "ValueError.__new__"))(hx:h.get? x=some o)(hc:o.cls=.ref C)
  (hq:R (.ok (.ret (.ref C))) ⟨h,g,d,t,os⟩):codeAny (model prog w) A (.call (.builtin "getset_descriptor.__get__") ⟨[.builtin "object.__class__",.ref x,.ref C],[]⟩) R ⟨h,g,d,t,os⟩:=by
 have hT5:(⟨h,g,d,t,os⟩:cy).TypeIs (.builtin "object.__class__") "getset_descriptor":=LV
 have own:(gV C::.ref G::vmB).contains (.type (".".intercalate ("object.__class__".cutAt '.').dropLast))=true:=by
  rw [PySem.F.owner_object_class];rfl
 refine Lx LJ.plain PySem.F.entry_gs_get ?_;refine LJ.check _ _ _ _ _ _ _ _ hT5 (PySem.F.args_gs_get _ _ _) ?_
 repeat (any_goals (first
  | assumption
  | (with_reducible refine C_ hx ?_;rw [hc])
  | (with_reducible refine Jv hC ?_;rw [own])
  | wp_step))
 refine⟨KJ _ (by decide +kernel),ML PySem.F.entry_object_class ?_⟩
 repeat (any_goals (first
  | assumption
  | (with_reducible refine C_ hx ?_;rw [hc])
  | wp_step))
def sx{tk:Tok}{Q:Fin->cy->Prop}(X:K.In h)(hC:h.get? C=some (excClassObj nm q C N bs (.ref G::vmB) true sn sub ab col none k0 k1 k2 k3 k5 "ValueError.__new__"))(hx:h.get? x=some o)(hc:o.cls=.ref C)
  (hcl:h_ K (.ref C) "__class__"=some (some (.builtin "object.__class__"))) (hq:Q (.done (.ret (.ref C))) ⟨h,g,d,t,os⟩) :
  wpAny (model prog w) A (JW.«object.__getattribute__» ⟨[.ref x,.str "__class__" tk],[]⟩) Q E ⟨h,g,d,t,os⟩:=by
 have u5:=LV;have u6:=LJ.lookup;have u7:=PySem.F.slot_gs_set.lookup;unfold JW.«object.__getattribute__»
 repeat (any_goals (first
  | assumption
  | (with_reducible refine C_ hx ?_;rw [hc])
  | (with_reducible refine (Jo X hcl).at ?_)
  | wp_step))
 refine xw hC hx hc ?_
 repeat (any_goals (first
  | assumption
  | wp_step))
end
open PySem.Builtin PySem.Builtin.ObjectAttr
section
variable {prog:pj}{w:World}{A:v_}{E:Value->cy->Prop}{K:a_}{h:Heap}{g:Array KR}{d:Drawn}{t:Nat}{os:J6}
variable {nm q:Str}{C G N x dx:Addr}{bs:List Value}{sn:List Str}{sub:List Value}{ab:Bool}{col:Option Bool}{k0 k1 k2 k3 k5:Option Value}{name:Str}{v:Value}{o:Obj}{vs:Array Value}{mA:Str->Option Value}
def HI{fill expr:Bool}{tk:Tok}{Q:Value->cy->Prop}(X:K.In h)(hC:h.get? C=some (excClassObj nm q C N bs (.ref G::vmB) true sn sub ab col none k0 k1 k2 k3 k5 "ValueError.__new__"))
  (hga:h_ K (.ref C) "__getattribute__"=some (some (.builtin "BaseException.__getattribute__"))) (hgh:h_ K (.ref C) "__getattr__"=some none)
  (hx:h.get? x=some o) (hc:o.cls=.ref C) (hh:handedOut v=pure v)
  (step:∀{Q':Fin->cy->Prop}{E':Value->cy->Prop},Q' (.done (.ret v)) ⟨h,g,d,t,os⟩->wpAny (model prog w) A.in1 (JW.«object.__getattribute__» ⟨[.ref x,.str name tk],[]⟩) Q' E' ⟨h,g,d,t,os⟩)
  (hq:Q v ⟨h,g,d,t,os⟩):wpAny (model prog w) A (getAttrBy (.ref x) (.str name tk) fill expr) Q E ⟨h,g,d,t,os⟩:=by
 unfold getAttrBy;refine G_ (b_ (Lf hx ?_));rw [hc];refine b_ ((Jo X hga).at ?_);have hx2:(Mp "BaseException.__getattribute__" == Mp "object.__getattribute__")=false:=by decide +kernel
 show wpAny _ _ (if (onTheHeap (.ref C) && (Mp "BaseException.__getattribute__" == Mp "object.__getattribute__"))=true then _ else _) _ _ _;rw [hx2,J_,if_neg (by decide)];unfold getAttrByItsOwn;refine b_ ((PySem.W.looks_hook X (r:=none) (by rw [if_pos (by rfl)];exact hgh)).at ?_);refine b_ (Lj ?_);unfold callGetattribute;refine G_ ?_
 rw [if_neg (by cases expr <;> decide)];unfold boundAndCalled;have FB:=PySem.F.attrBase_ValueError
 have own:(gV C::.ref G::vmB).contains (.type "BaseException")=true:=by
  rw [contains_cons,contains_cons,FB.hasBase,MG,MG]
 have ha:=PySem.F.args_bexc_ga (.ref x) (.str name tk);have hk:builtinKind "BaseException.__getattribute__"=some .slot:=by decide +kernel
 have hsp:splitId "BaseException.__getattribute__"=some ("BaseException","__getattribute__"):=by decide +kernel
 refine b_ (Ls (FB.ga.bind (.ref x)) ?_);refine Lc (Lx FB.ga.plain PySem.F.entry_bexc_ga ?_);simp only [checkBuiltinCall,hk,hsp];show wpAny _ _ (isInstance (.ref x) (.type "BaseException") >>= _) _ _ _;refine b_ ?_;unfold isInstance;refine b_ (Lf hx ?_);rw [hc];refine Jv hC ?_;rw [own];have done:wpAny (model prog w) A (handedOut v) Q E ⟨h,g,d,t,os⟩:=by rw [hh];exact f_ hq
 show wpAny _ _ (match Kx "BaseException.__getattribute__" with|some sig=>Kp "BaseException.__getattribute__" sig { pos:=[gV x]++[Kr name tk] }|x=>pure ()) _ _ _
 cases hsig:Kx "BaseException.__getattribute__" with
 | none=>exact f_ (step done)
 | some sig =>
  simp only [argsOk,hsig] at ha;have h2:Kp "BaseException.__getattribute__" sig ⟨[.ref x,.str name tk],[]⟩=pure ():=ha;show wpAny _ _ (Kp "BaseException.__getattribute__" sig ⟨[.ref x,.str name tk],[]⟩) _ _ _;rw [h2];exact f_ (step done)
def Cs{Q:Option Value->cy->Prop}(X:K.In h)(hC:h.get? C=some (excClassObj nm q C N bs (.ref G::vmB) true sn sub ab col none k0 k1 k2 k3 k5 "ValueError.__new__"))
  (hga:h_ K (.ref C) "__getattribute__"=some (some (.builtin "BaseException.__getattribute__"))) (hgh:h_ K (.ref C) "__getattr__"=some none)
  (hcl:h_ K (.ref C) "__class__"=some (some (.builtin "object.__class__"))) (hx:h.get? x=some o) (hc:o.cls=.ref C) (hq:Q (some (.ref C)) ⟨h,g,d,t+1,os⟩) :
  wpAny (model prog w) A (getAttr? (.ref x) "__class__") Q E ⟨h,g,d,t,os⟩:=by
 unfold getAttr? getAttrBy?;refine b_ (wpAny_mkText (b_ (Lj ?_)));exact HI X hC hga hgh hx hc rfl (λk=>sx X hC hx hc hcl k) (f_ hq)
structure XC (K:a_) (C G:Addr):Prop where
 obj:∃nm q N bs sn sub ab col k0 k1 k2 k3 k5,K.lookup C=some (excClassObj nm q C N bs (.ref G::vmB) true sn sub ab col none k0 k1 k2 k3 k5 "ValueError.__new__")
 ga:h_ K (.ref C) "__getattribute__"=some (some (.builtin "BaseException.__getattribute__"))
 gh:h_ K (.ref C) "__getattr__"=some none
 sa:h_ K (.ref C) "__setattr__"=some (some (.builtin "object.__setattr__"))
 cl:h_ K (.ref C) "__class__"=some (some (.builtin "object.__class__"))
def oM{dd:Option Addr}{new:Bool}(c:XC K C G):PySem.W.KitX K (.ref x) (.ref C) (XAt x C dd new) where
 ty:=λM h X p=>by
  obtain⟨o,vs,h1,h2,_⟩:=p;exact h2 ▸ (PySem.W.Looks.ld h1).andThen .now
 it:=λM h X p=>by
  obtain⟨nm,q,N,bs,sn,sub,ab,col,k0,k1,k2,k3,k5,e⟩:=c.obj;intro A' Q' E' s' k q;unfold isType loadHead;exact b_ (wpAny_loadPart (k _ _ (X _ _ e)) (f_ q))
 ne:=λh tp dd its n sl X htp=>by
  obtain⟨nm,q,N,bs,sn,sub,ab,col,k0,k1,k2,k3,k5,e⟩:=c.obj;refine eq_false_iff.mpr λz=>?_;have e2:C=tp:=Ll (beq_iff_eq.mp z);subst e2;have e3:=congrArg Obj.data (r_ ((X _ _ e).symm.trans htp));cases e3
 ca:=λ{prog w A E Q s} X p k=>by
  obtain⟨h,g,d,t,os⟩:=s;obtain⟨o,vs,h1,h2,_⟩:=p;obtain⟨nm,q,N,bs,sn,sub,ab,col,k0,k1,k2,k3,k5,e⟩:=c.obj;exact Cs X (X _ _ e) c.ga c.gh c.cl h1 h2 k
end
def xx{v:V}{u:Value}(r:cv v u):handedOut u=pure u:=by
 cases v with
 | non=>cases (show u=IJ from r);rfl
 | bl b=>cases (show u=JM b from r);rfl
 | int i=>obtain⟨t,e⟩:=(show ∃t,u=La i t from r);subst e;rfl
 | str x=>obtain⟨t,e⟩:=(show ∃t,u=Kr x t from r);subst e;rfl
 | flt x=>obtain⟨t,e⟩:=(show ∃t,u=L_ x t from r);subst e;rfl
 | ty n=>cases (show u=Jx n from r);rfl
 | byt b=>obtain⟨t,e⟩:=(show ∃t,u=Value.bytes b t from r);subst e;rfl
 | ref a=>cases (show u=gV a from r);rfl
def XAt.ok{P:pj}{w:World}{H:Hp}{h:Heap}{x C:Addr}{dd:Option Addr}{new:Bool}(p:XAt x C dd new h):bn P w H h x (.ext (XAt x C dd new)):=by
 obtain⟨o,vs,h1,h2,h3,h4⟩:=id p;exact⟨p,⟨o,h1⟩,λg1 g2 ⟨o',vs',a1,a2⟩ k=>⟨o',vs',k _ a1,a2⟩⟩
section
variable {X:Cx}{pins:List (Addr×Obj)}{σ:St}{H:Hp}{s:cy}{a dx C G:Addr}{f:Str}{v:V}{fs:List (Str×V)}{A:v_}{E:Value->cy->Prop}
def Io{b new:Bool}{Q:Value->cy->Prop}(I:Inv X pins σ H s)(ea:H a=some (.ext (XAt a C (some dx) new)))(ed:H dx=some (.xd fs))(c:XC X.K C G)(n:h_ X.K (.ref C) f=some none)(l:fs.lookup f=some v)
  (h:∀u s',Inv X pins σ H s'->cv v u->Q u s'):wpAny (model X.prog X.w) A (getAttr (.ref a) f b) Q E s:=by
 obtain⟨⟨o,vs,h1,h2,h3,h4,h5⟩,_,_⟩:=(show bn X.prog X.w H s.heap a (.ext (XAt a C (some dx) new)) from I.hok a _ ea)
 obtain⟨mA,hns,r⟩:=(show bn X.prog X.w H s.heap dx (.xd fs) from I.hok dx _ ed)
 obtain⟨u,hu,ru⟩:=yD.some_of (v:=v) (o:=mA f) (by rw [<- l];exact r f);obtain⟨nm,q,N,bs,sn,sub,ab,col,k0,k1,k2,k3,k5,e⟩:=c.obj;have I2:=I.tok (s.toks+1);have X2:=I.kIn;obtain⟨hh,g,d,t,os⟩:=s;unfold getAttr;refine b_ (wpAny_mkText ?_);exact HI X2 (X2 _ _ e) c.ga c.gh h1 h2 (xx ru) (λk=>qS X2 (X2 _ _ e) n h1 h2 h4 h3 hns.ns hu k) (h u _ I2 ru)
def Un.setX{h h':Heap}{fs ex:List Addr}{o:HO}{o2:HO}(mu:Mut (H a))(hx:H dx=none)(hd:h.get? dx=none)(k:∀b ob,b≠a->h.get? b=some ob->h'.get? b=some ob)(ha:∃o,h'.get? a=some o):Un fs ex H (upd (upd H dx o) a o2) h h':=by
 have na:∀b,H b=none->b≠a:=λb n z=>by subst z;rw [n] at mu;exact mu
 have nd:∀b ob,h.get? b=some ob->b≠dx:=λb ob e z=>by rw [z,hd] at e;cases e
 have hm:∀b u,H b=some u->¬ Mut (some u)->b≠a/\b≠dx:=λb u q nm=>⟨λz=>by subst z;rw [q] at mu;exact nm mu,λz=>by subst z;rw [hx] at q;cases q⟩
 refine⟨λb u q n _ _=>k b u (na b n) q,λb u q n _ _=>⟨u.slots,k b u (na b n) q⟩,λb u q n _=>by rw [au (na b n),au (nd b u q)];exact n,λb u q _=>?_,
  λb xs q=>by rw [au (hm b _ q λz=>z).1,au (hm b _ q λz=>z).2];exact q,λb u xs q=>by rw [au (hm b _ q λz=>z).1,au (hm b _ q λz=>z).2];exact q,
  λb ps q=>⟨#[],by rw [au (hm b _ q λz=>z).1,au (hm b _ q λz=>z).2,q];simp⟩⟩
 by_cases hb:b=a
 .subst hb;exact ha
 .exact⟨u,k b u hb q⟩
def setX{new:Bool}{y:V}{u:Value}{Q:Unit->cy->Prop}(I:Inv X pins σ H s)(ea:H a=some (.ext (XAt a C none new)))(c:XC X.K C G)(n:h_ X.K (.ref C) f=some none)(ry:cv y u)
  (h:∀dx s',H dx=none->Inv X pins σ (upd (upd H dx (.xd [(f,y)])) a (.ext (XAt a C (some dx) new))) s'->Q () s'):wpAny (model X.prog X.w) A (setAttr (.ref a) f u) Q E s:=by
 obtain⟨⟨o,vs,h1,h2,h3,h4,h5⟩,_,_⟩:=(show bn X.prog X.w H s.heap a (.ext (XAt a C none new)) from I.hok a _ ea)
 obtain⟨nm,q,N,bs,sn,sub,ab,col,k0,k1,k2,k3,k5,e⟩:=c.obj;have X2:=I.kIn;obtain⟨hh,g,d,t,os⟩:=s;refine Cr X2 (X2 _ _ e) c.sa n h1 h2 h4 h3 λh' tk' dx z=>?_;obtain⟨z1,z2,z3,z4,z5⟩:=z;have hdx:H dx=none:=I.hok.fresh z2;have hg0:hh.get? dx=none:=JX z2;have hne:dx≠a:=z3;have mu:Mut (H a):=by rw [ea];exact JH
 refine h dx _ hdx (I.un (t':=tk') (Un.setX mu hdx hg0 z5 ⟨_,z1⟩) λb ob eb=>?_)
 by_cases hb:b=a
 .subst hb;rw [aB] at eb;cases eb;exact XAt.ok ⟨_,vs,z1,h2,rfl,h4,h5⟩
 .rw [au hb] at eb
  by_cases hb2:b=dx
  .subst hb2;rw [aB] at eb;cases eb;refine⟨_,z4,λy'=>?_⟩;show yD (JD y' [(f,y)]) _
   by_cases q:y'=f
   .subst q;rw [if_pos rfl];have e1:JD y' [(y',y)]=some y:=by simp [JD]
    rw [e1];exact ry
   .rw [if_neg q];have:(y' == f)=false:=beq_eq_false_iff_ne.mpr q;simp [JD,this,yD]
  .rw [au hb2] at eb
   refine (I.hok b ob eb).stay (λc w hc e=>?_) (λc e=>?_) λc xs e=>?_
   .refine z5 c w ?_ e;rintro rfl
    rcases hc with hc|hc
    .exact hb hc.symm
    .rw [ea] at hc;cases hc
   .rw [au,au]
    .exact e
    .rintro rfl;rw [hdx] at e;cases e
    .rintro rfl;rw [ea] at e;cases e
   .rw [au,au]
    .exact e
    .rintro rfl;rw [hdx] at e;cases e
    .rintro rfl;rw [ea] at e;cases e
end
section
variable {X:Cx}{o e value:Expr}{f:Str}{pos pos':Pos}{ta tv:TE}
noncomputable def Ct(K:a_)(ta:TE)(f:Str):TE:=λσ H Q=>ta σ H λx H1=>∃a C G dx new fs v,x=.ref a/\H1 a=some (.ext (XAt a C (some dx) new))/\H1 dx=some (.xd fs)/\XC K C G/\h_ K (.ref C) f=some none/\fs.lookup f=some v/\Q v H1
def Cu(he:PE X e ta)(hb:attributeBase e f X.env (eval e X.env)=eval e X.env):PE X (.Attribute e f pos) (Ct X.K ta f):=by
 intro pins s σ H Q I h;refine wo hb (thn (he pins s σ H _ I h) λu s1 z=>?_);obtain⟨x,H1,I1,rx,a,C,G,dx,new,fs,v,ex,ea,ed,c,n,l,q⟩:=z;subst ex;obtain rfl:u=gV a:=rx;exact Io I1 ea ed c n l λu' s2 I2 ru=>⟨v,H1,I2,ru,q⟩
noncomputable def Cv(K:a_)(ta tv:TE)(f:Str):TS:=λD σ H=>tv σ H λy H1=>ta σ H1 λx H2=>∃a C G new,x=.ref a/\H2 a=some (.ext (XAt a C none new))/\XC K C G/\h_ K (.ref C) f=some none /\
 ∀dx,H2 dx=none->D.nx σ (upd (upd H2 dx (.xd [(f,y)])) a (.ext (XAt a C (some dx) new)))
def Cw(ha:PE X o ta)(hv:PE X value tv)(hs:swapsWith value (some (.Attribute o f pos')) pos.line X.env=pure false):PS X (.Assign [.Attribute o f pos'] value pos) (Cv X.K ta tv f):=by
 intro pins s σ H D I h;refine K9 (thn (hv pins s σ H _ I h) λu s1 z=>?_) hs;obtain⟨y,H1,I1,ry,q⟩:=z;refine thn (ha pins s1 σ H1 _ I1 q) λov s2 z=>?_;obtain⟨x,H2,I2,rx,a,C,G,new,ex,ea,c,n,q2⟩:=z;subst ex;obtain rfl:ov=gV a:=rx;exact setX I2 ea c n ry λdx s3 hdx I3=>⟨σ,_,I3,q2 dx hdx⟩
end
def bn.there{P:pj}{w:World}{H:Hp}{h:Heap}{a:Addr}{o:HO}(x:bn P w H h a o):∃ob,h.get? a=some ob:=by
 cases o with
 | lst xs=>obtain⟨_,_,_,_,e⟩:=x;exact⟨_,e⟩
 | tup xs=>obtain⟨_,_,_,ob,e,_⟩:=x;exact⟨ob,e⟩
 | dK kvs=>obtain⟨_,_,_,_,o,_,_,e,_⟩:=x;exact⟨o,e⟩
 | dT kvs=>obtain⟨_,_,_,_,o,_,_,e,_⟩:=x;exact⟨o,e⟩
 | set S n=>obtain⟨o,_,_,_,e,_⟩:=x;exact⟨o,e⟩
 | ins C dx fs=>obtain⟨_,_,_,e,_⟩:=x;exact⟨_,e⟩
 | own y=>exact x
 | xd fs=>obtain⟨_,⟨o,_,_,e,_⟩,_⟩:=x;exact⟨o,e⟩
 | rng lo hi=>obtain⟨_,_,_,e⟩:=x;exact⟨_,e⟩
 | frz ob u=>obtain⟨e,_⟩:=x;exact⟨ob,e⟩
 | tbl ps=>exact⟨_,(show h.get? a=some _ from x)⟩
 | met f y=>exact⟨_,(show h.get? a=some _ from x)⟩
 | ext φ=>exact x.2.1
def HOk.not{P:pj}{w:World}{H:Hp}{h:Heap}{a:Addr}(x:HOk P w H h)(e:h.get? a=none):H a=none:=by
 cases q:H a with
 | none=>rfl
 | some u=>obtain⟨ob,e2⟩:=(x a u q).there;rw [e] at e2;cases e2
section
variable {X:Cx}{pins:List (Addr×Obj)}{σ:St}{H:Hp}{s:cy}{h':Heap}{a:Addr}{o:HO}
def Inv.news{t':Nat}(I:Inv X pins σ H s)(k:∀b u,s.heap.get? b=some u->h'.get? b=some u)(hn:s.heap.get? a=none)(new:bn X.prog X.w (upd H a o) h' a o):Inv X pins σ (upd H a o) { s with heap:=h',toks:=t' }:=by
 have ha:=I.hok.not hn
 refine I.un ⟨λb u q _ _ _=>k b u q,λb u q _ _ _=>⟨u.slots,k b u q⟩,λb u q n _=>?_,λb u q _=>⟨u,k b u q⟩,λb xs q=>?_,λb u xs q=>?_,λb ps q=>⟨#[],?_⟩⟩ λb u q=>?_
 .rw [au (λz=>by rw [z,hn] at q;cases q)];exact n
 .rw [au (aM q ha)];exact q
 .rw [au (aM q ha)];exact q
 .rw [au (aM q ha),q];simp
 .by_cases hb:b=a
  .subst hb;rw [aB] at q;cases q;exact new
  .rw [au hb] at q;exact (I.hok b u q).stay (λc v _ e=>k c v e) (λc e=>by rw [au (aM e ha)];exact e) λc xs e=>by rw [au (aM e ha)];exact e
end
structure XM (K:a_) (C G fI:Addr):Prop where
 c:XC K C G
 tail:∀h:Heap,K.In h->OwnTail h vmB (.ref G::vmB)
 init:h_ K (.ref C) "__init__"=some (some (.ref fI))
 fn:JC K (.ref fI)=some (.type "function")
 kp:z_ K (.ref C)=true
noncomputable def AB(K:a_)(f:Str):Sp:=λvs H Q _=>∃a C G new v,vs=[.ref a,v]/\H a=some (.ext (XAt a C none new))/\XC K C G/\h_ K (.ref C) f=some none/\∀dx,H dx=none->Q .non (upd (upd H dx (.xd [(f,v)])) a (.ext (XAt a C (some dx) new)))
structure Cy (P:pj) (w:World) (K:a_) (mg:Str->Option Value) (base:Heap) (k:Nat) (C:Addr) (x f:Str):Prop where
 ex:∃(G fI:Addr) (fd:Jp) (ps:List Str),nP P w K mg base CX0 k fI fd ps (AB K f)/\km K fd ps []/\XM K C G fI/\h_ K (.ref C) f=some none/\mg x=some (.ref C)
noncomputable def EX(C:Addr)(f:Str)(t:TA):TE:=λσ H Q=>t σ H λvs H1=>∃v,vs=[v]/\∀e dx,H1 e=none->H1 dx=none->dx≠e->Q (.ref e) (upd (upd H1 dx (.xd [(f,v)])) e (.ext (XAt e C (some dx) true)))
section
variable {X:Cx}{k:Nat}{C:Addr}{x f:Str}{p pos:Pos}{e:Expr}{es:List Expr}{t:TA}
def zC{pins:List (Addr×Obj)}{σ:St}{H:Hp}{s:cy}{Q:VK}{u:Value}{v:V}(M:Cy X.prog X.w X.K X.mg X.base k C x f)(hr:dO (k+1) X.A)(I:Inv X pins σ H s)(r:cv v u)
  (h:∀e dx,H e=none->H dx=none->dx≠e->Q (.ref e) (upd (upd H dx (.xd [(f,v)])) e (.ext (XAt e C (some dx) true)))):wpAny (model X.prog X.w) X.A (call (.ref C) [u]) (EP X pins σ Q) X.xe s:=by
 obtain⟨G,fI,fd,ps,F,hb,m,na,hm⟩:=M.ex;obtain⟨nm,q,N,bs,sn,sub,ab,col,k0,k1,k2,k3,k5,ob⟩:=m.c.obj;have X2:=I.kIn;have I0:=I;have hz:s.heap.get? (s.heap.objs.size+1)=none:=JX (M1 _);have he0:=I.hok.not hz;obtain⟨hh,g,d,tk,os⟩:=s;refine Cq X2 (X2 _ _ ob) (m.tail hh X2) m.init m.fn (by show 1<=sizeLine;decide) λh' made=>?_;obtain⟨tt,m1,m2,m3⟩:=made.there;have new:XAt (hh.objs.size+1) C none true h':=⟨_,_,m1,rfl,rfl,rfl,(by show 1<6;decide),λ_=>rfl⟩
 have I2:Inv X pins σ (upd H (hh.objs.size+1) (.ext (XAt (hh.objs.size+1) C none true))) { heap:=h',gens:=g,drawn:=d,toks:=tk,os:=os }:=I0.news (t':=tk) made.keeps hz new.ok
 have hsp:AB X.K f [V.ref (hh.objs.size+1),v] (upd H (hh.objs.size+1) (.ext (XAt (hh.objs.size+1) C none true))) (λy H2=>y=.non/\Q (.ref (hh.objs.size+1)) H2) E0:=by
  refine⟨_,C,G,true,v,rfl,aB,m.c,na,λdx hdx=>⟨rfl,?_⟩⟩;have hne:dx≠hh.objs.size+1:=λz=>by rw [z,aB] at hdx;cases hdx
  rw [au hne] at hdx
  have e1:upd (upd (upd H (hh.objs.size+1) (.ext (XAt (hh.objs.size+1) C none true))) dx (.xd [(f,v)])) (hh.objs.size+1) (.ext (XAt (hh.objs.size+1) C (some dx) true))=upd (upd H dx (.xd [(f,v)])) (hh.objs.size+1) (.ext (XAt (hh.objs.size+1) C (some dx) true)):=by
   funext b;unfold upd
   by_cases z:b=hh.objs.size+1
   .rw [if_pos z,if_pos z]
   .rw [if_neg z,if_neg z,if_neg z]
  rw [e1];exact h _ dx he0 hdx hne
 have hl:[gV (hh.objs.size+1),u].length=ps.length:=(F.len _ _ _ E0 hsp).symm ▸ rfl;refine Lc (KZ (F.run _ X.stack _ _ ⟨[gV (hh.objs.size+1),u],[]⟩ [gV (hh.objs.size+1),u] [V.ref (hh.objs.size+1),v] _ E0 (hr.make C [u] []) (I2.env0.make C [u] []) (hb _ [gV (hh.objs.size+1),u] I2.kIn (by rw [IL];exact hl)) (.cons rfl (.cons r .nil)) hsp) λr s' hq=>?_)
 cases r with
 | error e=>exact hq.elim
 | ok fl =>
  cases fl with
  | ret w =>
   obtain⟨y,H',I3,rv,ev,q3⟩:=I2.after hq;subst ev;exact⟨rv,V.ref (hh.objs.size+1),H',I3,rfl,q3⟩
  | next=>exact IS hq
  | brk=>exact IS hq
  | cont=>exact IS hq
def Cz(M:Cy X.prog X.w X.K X.mg X.base k C x f)(hr:dO (k+1) X.A)(ha:PA X (e::es) t)(hg:Gl X x:=by rfl)(hdb:(x == ("__debug__":Str))=false:=by decide)(hn:nSt e=true:=by rfl)(hp:es.all nSt=true:=by rfl) :
  PE X (.Call (.Name x p) (e::es) [] pos) (EX C f t):=by
 intro pins s σ H Q I h;obtain⟨G,fI,fd,ps,F,hb,m,na,hm⟩:=id M.ex;refine Jz (f9 I hg hm ?_ hdb);refine KE (h₀:=X.base) I.ok.mod.kin m.kp (thn (ha pos pins s σ H _ I h) λus s1 ⟨vs,H1,I1,r,q⟩=>⟨I1.kIn,?_⟩) (fe hn) (dX hp);obtain⟨v,rfl,q⟩:=q
 cases r with
 | cons r rr =>
  cases rr;exact zC M hr I1 r q
end
noncomputable def X0(K:a_)(C:Addr):Prop:=∀h:Heap,K.In h->∃bm N nm q bs hd sn sub ab col dd k0 k1 k2 k3 k5 mN,
 h.get? C=some (excClassObj nm q C N bs bm hd sn sub ab col dd k0 k1 k2 k3 k5 "ValueError.__new__")/\h.Ns N mN/\mN "__init__"=none/\OwnTail h vmB bm
def EY{K:a_}{C:Addr}(q:Lm K C vmB "ValueError.__new__"=true):X0 K C:=λh X=>by
 unfold Lm at q;split at q
 case h_2=>cases q
 case h_1 dd cd sl ho =>
  split at q
  case h_2=>cases q
  case h_1 C' bm k0 k1 k2 k3 n k5 hm hs =>
   simp only [and_eq_true,beq_iff_eq,Md] at q;obtain⟨⟨⟨⟨⟨e1,e2⟩,hdel⟩,ht⟩,hok⟩,hni⟩:=q;subst e1 e2
   cases cd with
   | mk nm bs mro ns qn hd sn sub ab col del =>
    cases sl with
    | mk l =>
     have hs:l=[k0,k1,k2,k3,some (.builtin "ValueError.__new__"),k5]:=hs;have hm:mro=.ref C'::bm:=hm;have hdel:del=false:=hdel;subst hs hm hdel;refine⟨bm,ns,nm,qn,bs,hd,sn,sub,ab,col,dd,k0,k1,k2,k3,k5,_,X _ _ ho,.of_isNs (PySem.W.isNs_of_in X hok),PySem.W.nsMap_none_of_in X hok hni,PySem.W.tail_of_in X ht⟩
def CA{K:a_}{G:Addr}(q:Lm K G vmB "ValueError.__new__"=true)(hg:∃nm q N bs sn sub ab col k0 k1 k2 k3 k5,K.lookup G=some (excClassObj nm q G N bs vmB true sn sub ab col none k0 k1 k2 k3 k5 "ValueError.__new__")) :
  ∀h:Heap,K.In h->OwnTail h vmB (.ref G::vmB):=λh X=>by
 obtain⟨bm,N,nm,qn,bs,hd,sn,sub,ab,col,dd,k0,k1,k2,k3,k5,mN,h1,h2,h3,_⟩:=EY q h X;exact .own h1 h2 h3 .base
noncomputable def EZ(C:Addr):TE:=λσ H Q=>∀e,H e=none->Q (.ref e) (upd H e (.ext (XAt e C none true)))
section
variable {X:Cx}{C:Addr}{x:Str}{p pos:Pos}
def CB(z:X0 X.K C)(kp:z_ X.K (.ref C)=true)(hm:X.mg x=some (.ref C))(hg:Gl X x:=by rfl)(hdb:(x == ("__debug__":Str))=false:=by decide):PE X (.Call (.Name x p) [] [] pos) (EZ C):=by
 intro pins s σ H Q I h;refine Jz (f9 I hg hm ?_ hdb);refine PySem.W.callWith_K0 I.kIn kp ?_;obtain⟨bm,N,nm,qn,bs,hd,sn,sub,ab,col,dd,k0,k1,k2,k3,k5,mN,h1,h2,h3,h4⟩:=z s.heap I.kIn;have I0:=I;obtain⟨hh,g,d,tk,os⟩:=s;refine wpAny_call_exc_subT L4 h4 h1 h2 h3 (λh' e made=>?_) (by show 0<=sizeLine;exact IE _);obtain⟨tt,m1,m2,m3⟩:=made.there;have new:XAt e C none true h':=⟨_,_,m1,rfl,rfl,rfl,(by show 1<6;decide),λ_=>rfl⟩
 exact⟨V.ref e,_,I0.news (t':=tk) made.keeps made.new new.ok,rfl,h e (I0.hok.not made.new)⟩
noncomputable def GS(K:a_)(D:Addr):List V->Hp->VK->Prop:=λxs H Q=>∃a C G dd new b,xs=[.ref a,.ref D]/\H a=some (.ext (XAt a C dd new))/\XC K C G/\IK K (.ref C) (.ref D)=some b/\Q (.bl b) H
def zD{D:Addr}:bo X (.builtin "isinstance") (GS X.K D):=by
 intro pins s σ H xs us Q I r h;obtain⟨a,C,G,dd,new,b,rfl,ea,c,e,q⟩:=h;obtain⟨u,w',rfl,rx,ry⟩:=rO r;cases (show u=gV a from rx);cases (show w'=gV D from ry);have ok:=(show bn X.prog X.w H s.heap a (.ext (XAt a C dd new)) from I.hok a _ ea)
 exact IR (oM c) I.kIn ok.1 e (λz=>nomatch z) λtk=>⟨.bl b,H,I.tok _,rfl,q⟩
noncomputable def CC(K:a_):List V->Hp->VK->Prop:=λxs H Q=>∃a C G dd new n b,xs=[.ref a,.ty n]/\H a=some (.ext (XAt a C dd new))/\XC K C G/\IK K (.ref C) (.type n)=some b/\Q (.bl b) H
def xy:bo X (.builtin "isinstance") (CC X.K):=by
 intro pins s σ H xs us Q I r h;obtain⟨a,C,G,dd,new,n,b,rfl,ea,c,e,q⟩:=h;obtain⟨u,w',rfl,rx,ry⟩:=rO r;cases (show u=gV a from rx);cases (show w'=Jx n from ry);have ok:=(show bn X.prog X.w H s.heap a (.ext (XAt a C dd new)) from I.hok a _ ea)
 exact IR (oM c) I.kIn ok.1 e (λz=>nomatch z) λtk=>⟨.bl b,H,I.tok _,rfl,q⟩
end
noncomputable def XCl(K:a_)(c:Str):Prop:=∃dd cd sl,K.lookup (aK K c)=some ⟨.type "type",dd,.cls cd,sl⟩/\cd.name=c
structure xz (K:a_) (cs:List Str):Prop where
 g:XCl K "GlueError"
 n:∀c∈cs,XCl K c
 c:∀c∈cs,XC K (aK K c) (aK K "GlueError")
section
variable {K:a_}{C G D:Addr}{c d:Str}
def XCl.ne(h1:XCl K c)(h2:XCl K d)(n:c≠d):aK K c≠aK K d:=λe=>by
 obtain⟨_,cd,_,l1,n1⟩:=h1;obtain⟨_,cd2,_,l2,n2⟩:=h2;rw [e,l2] at l1;cases l1;exact n (n1.symm.trans n2)
def xA(x:XC K C G)(base:Value):M6 K (.ref C) base=some ((gV C::.ref G::vmB).contains base):=by
 obtain⟨nm,q,N,bs,sn,sub,ab,col,k0,k1,k2,k3,k5,e⟩:=x.obj;show M4 K C base=_;unfold M4 Ln;rw [e];rfl
def CD(x:XC K C G)(y:∃dd cd sl,K.lookup D=some ⟨.type "type",dd,.cls cd,sl⟩):IK K (.ref C) (.ref D)=some (decide (C=D) || decide (D=G)):=by
 obtain⟨dd,cd,sl,e⟩:=y;unfold IK
 by_cases h:C=D
 .subst h;simp
 .rw [if_neg (λz=>h (Ll (beq_iff_eq.mp z)))];unfold PySem.W.kitCls
  have e1:((Ln K D).isSome && JC K (.ref D) == some (.type "type"))=true:=by
   have e2:Ln K D=some cd:=by unfold Ln;rw [e]
   have e3:JC K (.ref D)=some (.type "type"):=by show (K.lookup D).map (·.cls)=_;rw [e];rfl
   rw [e2,e3];rfl
  show (if ((Ln K D).isSome && JC K (.ref D) == some (.type "type"))=true then M6 K (.ref C) (.ref D) else none)=_;rw [if_pos e1,xA x,decide_eq_false h,Mn];congr 1;rw [contains_cons,contains_cons];have t1:(gV D == gV C)=false:=beq_eq_false_iff_ne.mpr λz=>h (Ll z).symm;have t2:vmB.contains (gV D)=false:=rfl;rw [t1,t2,Mn,M5]
  by_cases g:D=G
  .subst g;simp
  .rw [decide_eq_false g];exact beq_eq_false_iff_ne.mpr λz=>g (Ll z)
def CF(x:XC K C G):IK K (.ref C) (.type "ValueError")=some true:=by
 unfold IK;rw [if_neg (by intro z;cases beq_iff_eq.mp z)];unfold PySem.W.kitCls;show (if PySem.W.kitMeta "ValueError"=true then M6 K (.ref C) (.type "ValueError") else none)=_;rw [if_pos (by decide +kernel),xA x];rfl
end
noncomputable def rK(c d:Str):Bool:=decide (c=d) || decide (d="GlueError")
def xB{K:a_}{cs:List Str}(X:xz K cs){c d:Str}(hc:c∈cs)(hd:d∈cs\/d="GlueError"):IK K (.ref (aK K c)) (.ref (aK K d))=some (rK c d):=by
 have yd:XCl K d:=hd.elim (X.n d) λe=>by rw [e];exact X.g
 obtain⟨dd,cd,sl,e1,e2⟩:=id yd;rw [CD (X.c c hc) ⟨dd,cd,sl,e1⟩];unfold rK
 congr 2
 .by_cases h:c=d
  .subst h;rw [decide_eq_true rfl,decide_eq_true rfl]
  .rw [decide_eq_false h,decide_eq_false ((X.n c hc).ne yd h)]
 .by_cases h:d="GlueError"
  .subst h;rw [decide_eq_true rfl,decide_eq_true rfl]
  .rw [decide_eq_false h,decide_eq_false (yd.ne X.g h)]
section
variable {K:a_}{ta:TA}{te:TE}{pa:PTA}{pe:PA1}{cs:List Str}
def FVc.exc{O:Addr->Prop}{H:Hp}{v:V}{c:Str}{ns:List Str}{ds:List D}(h:FVc K O H v (.exc c ns ds)):FV K O H v (.exc c ns ds):=h.fv nofun nofun
noncomputable def GT(c f:Str)(pa:PTA):PTE:=λρ Q=>pa ρ λas ρ1=>match avD as with
 | some [d]=>Q (.dat (.exc c [f] [d])) ρ1
 | _=>False
noncomputable def GU(c:Str):PTE:=λρ Q=>Q (.dat (.exc c [] [])) ρ
noncomputable def GV(cs:List Str)(ats:List (Str×Str))(f:Str)(pa:PA1):PTE:=λρ Q=>pa ρ λx ρ1=>match cont ρ1 x with
 | some (.exc c ns ds)=>(cs.contains c=true/\ats.contains (c,f)=true)/\∃i,gj f ns=some i/\∃d,ds[i]?=some d/\Q (.dat d) ρ1
 | _=>False
def xC{ats:List (Str×Str)}{f:Str}(X:xz K cs)(hat:∀c g,(c,g)∈ats->h_ K (.ref (aK K c)) g=some none)(h:LA1 K te pe):LE K (Ct K te f) (GV cs ats f pe):=λA ρ σ H Q Q' R q k=>h A ρ σ H _ _ R q λv H1 a ρ1 q1 f1 R1 o1=>by
 split at q1
 .rename_i c ns ds e;obtain⟨⟨hc,ha⟩,i,hi,d,hd,q1⟩:=q1;have hc:c∈cs:=w_.mp hc
  cases (R1.cont o1 e).exc with
  | exc0 n1 e1=>cases hd
  | exc1 n1 n2 e1 e2 m f =>
   obtain⟨v,hv,fv⟩:=f.getD hd;exact⟨_,_,_,_,_,_,v,rfl,e1,e2,X.c c hc,hat c _ (w_.mp ha),by rw [lc (k:=i) (by rw [m];exact hi)];exact hv,k v H1 _ ρ1 q1 f1 ⟨R1,fv⟩⟩
 .exact q1.elim
noncomputable def Iq(cs:List Str)(d:Str)(pa:PA1):PTE:=λρ Q=>pa ρ λx ρ1=>match cont ρ1 x with
 | some (.exc c ns ds)=>cs.contains c=true/\Q (.dat (.bl (rK c d))) ρ1
 | _=>False
def AC{d:Str}(X:xz K cs)(hd:d∈cs\/d="GlueError")(h:LA1 K te pe):LE K (tCB (GS K (aK K d)) (aU te (aU (tC (.ref (aK K d))) dQ))) (Iq cs d pe):=λA ρ σ H Q Q' R q k=>h A ρ σ H _ _ R q λv H1 a ρ1 q1 f1 R1 o1=>by
 split at q1
 .rename_i c ns ds e;obtain⟨hc,q1⟩:=q1;have hc:c∈cs:=w_.mp hc;have ek:=xB X hc hd
  cases (R1.cont o1 e).exc with
  | exc0 n1 e1=>exact⟨_,_,_,_,_,_,rfl,e1,X.c c hc,ek,k _ H1 _ ρ1 q1 f1 ⟨R1,.bl _⟩⟩
  | exc1 n1 n2 e1 e2 m f=>exact⟨_,_,_,_,_,_,rfl,e1,X.c c hc,ek,k _ H1 _ ρ1 q1 f1 ⟨R1,.bl _⟩⟩
 .exact q1.elim
noncomputable def Ir(cs:List Str)(pa:PA1):PTE:=λρ Q=>pa ρ λx ρ1=>match cont ρ1 x with
 | some (.exc c ns ds)=>cs.contains c=true/\Q (.dat (.bl true)) ρ1
 | _=>False
def AD(X:xz K cs)(h:LA1 K te pe):LE K (tCB (CC K) (aU te (aU (tC (.ty "ValueError")) dQ))) (Ir cs pe):=λA ρ σ H Q Q' R q k=>h A ρ σ H _ _ R q λv H1 a ρ1 q1 f1 R1 o1=>by
 split at q1
 .rename_i c ns ds e;obtain⟨hc,q1⟩:=q1;have hc:c∈cs:=w_.mp hc;have ek:=CF (X.c c hc)
  cases (R1.cont o1 e).exc with
  | exc0 n1 e1=>exact⟨_,_,_,_,_,_,_,rfl,e1,X.c c hc,ek,k _ H1 _ ρ1 q1 f1 ⟨R1,.bl _⟩⟩
  | exc1 n1 n2 e1 e2 m f=>exact⟨_,_,_,_,_,_,_,rfl,e1,X.c c hc,ek,k _ H1 _ ρ1 q1 f1 ⟨R1,.bl _⟩⟩
 .exact q1.elim
end
section
variable {X:Cx}
def E2(K:a_)(e:X.K=K){D:Addr}:bo X (.builtin "isinstance") (GS K D):=by subst e;exact zD
def E3(K:a_)(e:X.K=K):bo X (.builtin "isinstance") (CC K):=by subst e;exact xy
def gu{x:Str}{C:Addr}{p:Pos}(hm:X.mg x=some (.ref C))(hg:Gl X x:=by rfl)(hdb:(x == ("__debug__":Str))=false:=by decide):PE X (.Name x p) (tC (.ref C)):=by
 intro pins s σ H Q I h;exact f9 I hg hm ⟨.ref C,H,I,rfl,h⟩ hdb
end
section
variable {P:pj}{w:World}{K:a_}{mg:Str->Option Value}{base:Heap}{x qual nm:Str}{C G fI:Addr}{st:Stmt}{fd:Jp}{N ps:List Str}
def sy(F:Fun K "__init__" qual st fI fd)(S:aA N ps (aj st))(hl:ps.length=2)
  (hb:∀(kV doc pm:Value) (an:Option Addr) (cdv ct:Value) (us:List Value),us.length=ps.length->bindArgs (F_ "__init__" qual (bK st) (aX st) (aj st) .none kV doc pm an cdv ct) ⟨us,[]⟩=pure (ps.zip us))
  (hp:∀(cdv:Value) (A:v_) (outer:List Env) (s:cy) (H:Hp) (E:XK),PSs (mZ CX0 P w K mg base N qual (aj st) fI cdv A outer s H E).nox (aX st) (Cv K (bv 0) (bv 1) nm))
  (m:XM K C G fI) (na:h_ K (.ref C) nm=some none) (hm:mg x=some (.ref C)):Cy P w K mg base 1 C x nm:=by
 refine⟨G,fI,fd,ps,F.ok (k:=0) S (λvs H Q E h=>?_) (λcdv A outer s H vs Q E hr h=>⟨_,hp cdv A outer s H E,?_⟩),F.binds hb,m,na,hm⟩
 .obtain⟨a,C,G,new,v,rfl,_⟩:=h;exact hl.symm
 .obtain⟨a,C,G,new,v,rfl,ea,c,n,q⟩:=h;exact⟨v,rfl,.ref a,rfl,a,C,G,new,rfl,ea,c,n,λdx hdx=>q dx hdx⟩
end
section
variable {X:Cx}{e:Expr}{f:Str}{pos:Pos}{ta:TE}
def uE(K:a_)(ek:X.K=K)(he:PE X e ta)(hb:attributeBase e f X.env (eval e X.env)=eval e X.env):PE X (.Attribute e f pos) (Ct K ta f):=by subst ek;exact Cu he hb
def oN(K:a_)(ek:X.K=K){o value:Expr}{pos':Pos}{tv:TE}(ha:PE X o ta)(hv:PE X value tv)(hs:swapsWith value (some (.Attribute o f pos')) pos.line X.env=pure false):PS X (.Assign [.Attribute o f pos'] value pos) (Cv K ta tv f):=by subst ek;exact Cw ha hv hs
end
noncomputable def yF(h:Heap)(e T:Addr)(fl:Value):Prop:=∃oe vs oT ts,h.get? e=some oe/\oe.data=.fields vs/\vs[1]?=some (.ref T)/\T≠e/\h.get? T=some oT/\oT.data=.fields ts/\ts[3]?=some fl
structure xD (fs:List Addr) (e:Addr) (T0:Option Addr) (h h':Heap):Prop where
 kp:∀b o,b∉fs->b≠e->T0≠some b->h.get? b=some o->h'.get? b=some o
 sl:∀b o,b∈fs->h.get? b=some o->∃sl,h'.get? b=some { o with slots:=sl }
 ex:∀oe vs,h.get? e=some oe->oe.data=.fields vs->∃oe' vs',h'.get? e=some oe'/\oe'.cls=oe.cls/\oe'.dict=oe.dict/\oe'.data=.fields vs'/\vs'.size=vs.size
section
variable {M:Model}{A:v_}{E:Value->cy->Prop}{s:cy}{base:Heap}{env:Env}{outer:List Env}{L e T0:Addr}{oe:Obj}{vs:Array Value}
def xE{head:Value}{hadNext:Bool}{Q:Unit->cy->Prop}(hfr:A.frames=some (env::outer))(hl:s.heap.FunFrames base (env::outer))(hf:env.frame=some L)
  (he:s.heap.get? e=some oe) (hd:oe.data=.fields vs) (hsz:1<vs.size)
  (h:∀h' T,s.heap.objs.size<=T->xD (frs (env::outer)) e none s.heap h'->yF h' e T (rawInt L)->Q () { s with heap:=h' }) :
  wpAny M A (do let a <- frameOf env;let pl <- entryPlaceOf L hadNext;let b <- EntryCells.newEntry head a .none (rawInt L) .none pl;setField (.ref e) 1 b) Q E s:=by
 have nf:e∉frs (env::outer):=λhm=>by
  obtain⟨_,o,ho,hn⟩:=hl.mem hm;rw [he] at ho;cases ho;exact hn vs hd
 refine b_ (wpAny_frameOf_fun hfr hl hf λg1 hs1=>?_);refine b_ (wpAny_entryPlaceOf λpl hpl=>?_);have e1:g1.get? e=some oe:=(hs1.2.1 e nf).trans he;unfold EntryCells.newEntry newFields;refine b_ (Ji ?_ (hpl.sizeOk5 _ _ _ _ _))
 have hts:∃ts:Array Value,([head,.ref L,.none,rawInt L,.none]++(if pl.isEmpty then so 6 IJ else pl)).toArray=ts/\ts[3]?=some (rawInt L):=⟨_,rfl,by
  rcases hpl with rfl|⟨_,_,_,_,_,_,_,rfl⟩ <;> simp⟩
 obtain⟨ts,ets,t3⟩:=hts;rw [ets];generalize hg2:g1.push { cls:=.type "traceback",dict:=none,data:=.fields ts }=g2;have sz1:g1.objs.size=s.heap.objs.size:=hs1.1;have k2:∀b o,g1.get? b=some o->g2.get? b=some o:=λb o q=>by rw [<- hg2];exact e_ _ q
 have gT:g2.get? g1.objs.size=some { cls:=.type "traceback",dict:=none,data:=.fields ts }:=by rw [<- hg2];exact j_ _ rfl
 refine K5 (k2 _ _ e1) hd hsz ?_;have ne:g1.objs.size≠e:=Lp (m_ e1);generalize hg3:g2.update e (Mq (·.setIfInBounds 1 (gV g1.objs.size)))=g3;have d3:=KG hd (·.setIfInBounds 1 (gV g1.objs.size));have e3:g3.get? e=some (oe.mapFields (·.setIfInBounds 1 (gV g1.objs.size))):=by rw [<- hg3];exact JT _ (k2 _ _ e1) (K_ d3)
 have k3:∀b o,b≠e->g2.get? b=some o->g3.get? b=some o:=λb o hb q=>by rw [<- hg3];exact (Jf _ _ _ _ hb).trans q
 refine h g3 g1.objs.size (by rw [sz1];exact pf _) ⟨λb o hb hbe _ q=>k3 b o hbe (k2 b o ((hs1.2.1 b hb).trans q)),λb o hb q=>?_,λoe' vs' q1 q2=>?_⟩ ⟨_,_,_,ts,e3,d3,by simp [hsz],ne,k3 _ _ ne gT,rfl,t3⟩
 .obtain⟨sl,q'⟩:=hs1.2.2 b o q;exact⟨sl,k3 b _ (λz=>nf (by rw [<- z];exact hb)) (k2 b _ q')⟩
 .rw [he] at q1;cases q1;rw [hd] at q2;cases q2;obtain⟨c,dc,dt,sl⟩:=oe;cases hd;exact⟨_,_,e3,rfl,rfl,d3,by simp⟩
def CG{Q:Unit->cy->Prop}(hfr:A.frames=some (env::outer))(hl:s.heap.FunFrames base (env::outer))(hf:env.frame=some L)
  (he:s.heap.get? e=some oe) (hd:oe.data=.fields vs) (h1:vs[1]?=some .none)
  (h:∀h' T,s.heap.objs.size<=T->xD (frs (env::outer)) e none s.heap h'->yF h' e T (rawInt L)->Q () { s with heap:=h' }):wpAny M A (noteFrame (.ref e) env) Q E s:=by
 unfold noteFrame;simp only [hf];refine b_ (IM he hd h1 ?_);rw [if_neg (by decide)];exact xE hfr hl hf he hd (JR.mp h1).1 h
def CH{Q:Unit->cy->Prop}(hfr:A.frames=some (env::outer))(hl:s.heap.FunFrames base (env::outer))(hf:env.frame=some L)(fly:yF s.heap e T0 .none)(nT:T0∉frs (env::outer))
  (h:∀h' T,s.heap.objs.size<=T->xD (frs (env::outer)) e (some T0) s.heap h'->yF h' e T (rawInt L)->Q () { s with heap:=h' }):wpAny M A (noteFrame (.ref e) env) Q E s:=by
 obtain⟨oe,vs,oT,ts,he,hd,h1,ne,hT,hdT,h3⟩:=fly;have hsz:1<vs.size:=(JR.mp h1).1;unfold noteFrame;simp only [hf];refine b_ (IM he hd h1 ?_);rw [if_pos (show (gV T0 != IJ)=true by simp)];refine b_ (IM hT hdT h3 ?_);rw [if_neg (show ¬ ((IJ == rawInt L)=true) by simp [rawInt])];refine b_ (K5 hT hdT (JR.mp h3).1 ?_)
 have ot:∀b,b≠T0->(s.heap.update T0 (Mq (·.setIfInBounds 3 IJ))).get? b=s.heap.get? b:=λb hb=>Jf _ _ _ _ hb;have sz:(s.heap.update T0 (Mq (·.setIfInBounds 3 IJ))).objs.size=s.heap.objs.size:=by simp [Heap.update]
 have hl2:(s.heap.update T0 (Mq (·.setIfInBounds 3 IJ))).FunFrames base (env::outer):=hl.of_keeps λb o q nf=>⟨o,(ot b (λz=>by rw [z,hT] at q;cases q;exact nf ts hdT)).trans q,rfl⟩
 refine xE hfr hl2 hf ((ot e (J7 ne)).trans he) hd hsz λh' T hT' mv fly=>h h' T (by rw [<- sz];exact hT') ⟨λb o h1 h2 h3 q=>mv.kp b o h1 h2 (by simp) ((ot b (λz=>h3 (by rw [z]))).trans q),λb o h1 q=>mv.sl b o h1 ((ot b (λz=>nT (by rw [<- z];exact h1))).trans q),λoe' vs' q1 q2=>mv.ex oe' vs' ((ot e (J7 ne)).trans q1) q2⟩ fly
def sA{fl:Value}{T:Addr}{Q:Unit->cy->Prop}(fly:yF s.heap e T fl)(h:∀h',(∀b o,b≠T->s.heap.get? b=some o->h'.get? b=some o)->yF h' e T .none->Q () { s with heap:=h' }):wpAny M A (setFlight (.ref e) none) Q E s:=by
 obtain⟨oe,vs,oT,ts,he,hd,h1,ne,hT,hdT,h3⟩:=fly;unfold setFlight;refine b_ (IM he hd h1 ?_);rw [if_pos (show (gV T != IJ)=true by simp)];have hs3:3<ts.size:=(JR.mp h3).1;refine K5 hT hdT hs3 (h _ (λb o hb q=>(Jf _ _ _ _ hb).trans q) ?_);have dT:=KG hdT (·.setIfInBounds 3 ((none:Option Addr).elim IJ λf=>rawInt f))
 exact⟨oe,vs,_,_,(Jf _ _ _ _ (J7 ne)).trans he,hd,h1,ne,JT _ hT (K_ dT),dT,by simp [hs3]⟩
end
noncomputable def CXe(P:pj)(w:World):CXT:=λouter H s E e s'=>∃(ea C:Addr) (dd:Option Addr) (H':Hp) (T:Addr),e=.ref ea/\s'.os=s.os/\LK s'.gens/\Un (frs outer) [] H H' s.heap s'.heap/\HOk P w H' s'.heap /\
 H' ea=some (.ext (XAt ea C dd false))/\yF s'.heap ea T .none/\s.heap.get? T=none/\H' T=none/\E (.ref ea) dd H'
def xF{l:List Env}{h base:Heap}(hl:h.FunFrames base l){b:Addr}(hb:b∈frs l):∃o,h.get? b=some o:=by
 obtain⟨_,o,ho,_⟩:=hl.mem hb;exact⟨o,ho⟩
def XAt.moved{fs:List Addr}{ea C:Addr}{dd:Option Addr}{new:Bool}{T0:Option Addr}{h h':Heap}(x:XAt ea C dd new h)(mv:xD fs ea T0 h h'):XAt ea C dd false h':=by
 obtain⟨o,vs,h1,h2,h3,h4,h5,_⟩:=x;obtain⟨o',vs',q1,q2,q3,q4,q5⟩:=mv.ex o vs h1 h4;exact⟨o',vs',q1,q2.trans h2,q3.trans h3,q4,by rw [q5];exact h5,nofun⟩
def HOk.moved{P:pj}{w:World}{H H':Hp}{h h1 h2:Heap}{fs:List Addr}{ea C T:Addr}{dd:Option Addr}{new:Bool}{T0:Option Addr}(ok:HOk P w H h)(hea:H ea=some (.ext (XAt ea C dd new)))(mv:xD fs ea T0 h h1)(hT:h.objs.size<=T)(un:∀b o,b≠T->h1.get? b=some o->h2.get? b=some o)
  (hfs:∀b∈fs,H b=none) (hT0:∀b,T0=some b->H b=none) (fly:yF h2 ea T .none) (hH:H'=upd H ea (.ext (XAt ea C dd false))):HOk P w H' h2:=λb o eb=>by
 subst hH;have ne:∀c u,H c=some u->c≠T:=λc u q=>A_ (tj (ok.lt q) hT);have kp:∀c u,c≠ea->H c=some u->∀v,h.get? c=some v->h2.get? c=some v:=λc u hc q v z=>un c v (ne c u q) (mv.kp c v (λm=>by rw [hfs c m] at q;cases q) hc (λe=>by rw [hT0 c e] at q;cases q) z)
 by_cases hb:b=ea
 .subst hb;rw [aB] at eb;cases eb;have x:XAt b C dd new h:=(ok b _ hea).1;obtain⟨o',vs',q1,q2,q3,q4,q5,q6⟩:=x.moved mv;exact XAt.ok ⟨o',vs',un b o' (ne b _ hea) q1,q2,q3,q4,q5,q6⟩
 .rw [au hb] at eb
  refine (ok b o eb).stay (λc v hc q=>?_) (λc q=>?_) λc xs q=>?_
  .rcases hc with rfl|hc
   .exact kp c o hb eb v q
   .exact kp c _ (λz=>by rw [z,hea] at hc;cases hc) hc v q
  .rw [au (λz=>by rw [z,hea] at q;cases q)];exact q
  .rw [au (λz=>by rw [z,hea] at q;cases q)];exact q
section
variable {P:pj}{w:World}{K:a_}{mg:Str->Option Value}{base:Heap}{N:List Str}{qual:Str}{scope:Scope}{f:Addr}{cd:Value}{A:v_}{outer:List Env}{s0:cy}{H0:Hp}{E:XK}{pins:List (Addr×Obj)}{σ:St}{H:Hp}{s:cy}
def xG{ea C:Addr}{dd:Option Addr}(I:Inv (mZ (CXe P w) P w K mg base N qual scope f cd A outer s0 H0 E) pins σ H s)(hea:H ea=some (.ext (XAt ea C dd true)))(hE:E (.ref ea) dd (upd H ea (.ext (XAt ea C dd false)))) :
  (mZ (CXe P w) P w K mg base N qual scope f cd A outer s0 H0 E).xe (.ref ea) s:=by
 obtain⟨⟨o,vs,h1,h2,h3,h4,h5,h6⟩,_,_⟩:=(show bn P w H s.heap ea (.ext (XAt ea C dd true)) from I.hok ea _ hea)
 show wpAny (model P w) _ (leaving _ (.ref ea)) _ _ s;unfold leaving;refine b_ (CG I.ok.frames I.stack rfl h1 h4 (h6 rfl) λg1 T hT mv fly=>?_);refine sA fly λg2 un fly2=>?_;have hf2:∀b∈frs (envOfC qual scope s0.heap.objs.size f cd::outer),H b=none:=I.stkFree;have hok:=I.hok.moved hea mv hT un hf2 (λb e=>nomatch e) fly2 rfl;have old:∀b o,s0.heap.get? b=some o->b≠s0.heap.objs.size:=λb o q=>A_ (m_ q)
 have bT:∀b o,s.heap.get? b=some o->b≠T:=λb o q=>A_ (tj (m_ q) hT);have nea:∀b,H b=none->b≠ea:=λb n z=>by rw [z,hea] at n;cases n
 have sub:∀b,b∈frs outer->b∈frs (envOfC qual scope s0.heap.objs.size f cd::outer):=λb hb=>q_ _ hb
 have nsub:∀b o,s0.heap.get? b=some o->b∉frs outer->b∉frs (envOfC qual scope s0.heap.objs.size f cd::outer):=λb o q hb z=>by
  rcases mem_cons.mp (show b∈s0.heap.objs.size::frs outer from z) with z|z
  .exact old b o q z
  .exact hb z
 have un0:Un (frs outer) [] H0 (upd H ea (.ext (XAt ea C dd false))) s0.heap g2:=by
  refine⟨λb ob q n hb hx=>?_,λb ob q n hb hx=>?_,λb ob q n hx=>?_,λb ob q hx=>?_,λb xs q=>?_,λb ob u q=>?_,λb ps q=>?_⟩
  .have q1:=I.base.keep b ob q n hb hx;have n1:=I.base.free b ob q n hx;exact un b ob (bT b ob q1) (mv.kp b ob (nsub b ob q hb) (nea b n1) (by simp) q1)
  .obtain⟨sl,q1⟩:=I.base.slot b ob q n hb hx;obtain⟨sl2,q2⟩:=mv.sl b _ (sub b hb) q1;exact⟨sl2,un b _ (bT b _ q1) q2⟩
  .have n1:=I.base.free b ob q n hx;rw [au (nea b n1)];exact n1
  .obtain⟨o1,q1⟩:=I.base.there b ob q hx
   by_cases hbe:b=ea
   .subst hbe;obtain⟨o2,vs2,q2,_⟩:=mv.ex o vs h1 h4;exact⟨o2,un b o2 (bT b _ q1) q2⟩
   .by_cases hb:b∈frs (envOfC qual scope s0.heap.objs.size f cd::outer)
    .obtain⟨sl2,q2⟩:=mv.sl b _ hb q1;exact⟨_,un b _ (bT b _ q1) q2⟩
    .exact⟨o1,un b o1 (bT b _ q1) (mv.kp b o1 hb hbe (by simp) q1)⟩
  .have q1:=I.base.tups b xs q;rw [au (λz=>by rw [z,hea] at q1;cases q1)];exact q1
  .have q1:=I.base.frzs b ob u q;rw [au (λz=>by rw [z,hea] at q1;cases q1)];exact q1
  .obtain⟨m,q1⟩:=I.base.tbls b ps q;exact⟨m,by rw [au (λz=>by rw [z,hea] at q1;cases q1)];exact q1⟩
 refine⟨ea,C,dd,_,T,rfl,I.os,I.bare,un0,hok,aB,fly2,?_,?_,hE⟩
 .cases q:s0.heap.get? T with
  | none=>rfl
  | some ob =>
   obtain⟨o1,q1⟩:=I.base.there T ob q (show T∉([]:List Addr) by simp);exact absurd rfl (bT T o1 q1)
 .rw [au (λz=>by
   have:=I.hok.lt hea;rw [<- z] at this;exact absurd (tj this hT) (IV _))]
  exact I.hok.fresh hT
end
section
variable {prog:pj}{w:World}{A:v_}{E:Value->cy->Prop}{K:a_}{env:Env}
def CI{Q:Flow->cy->Prop}{x:Sem Value}{s:cy}(hh:A.handled=none)
  (hx:wpAny (model prog w) A x (λv s₁=>∃ea C G dd,v=.ref ea/\K.In s₁.heap/\XC K C G/\XAt ea C dd true s₁.heap/\E (.ref ea) s₁) E s):wpAny (model prog w) A (raiseStmt env (some x) none) Q E s:=by
 unfold raiseStmt;refine b_ (D_ hx (λv s1 h1=>?_) λ_ _ z=>z);obtain⟨ea,C,G,dd,rfl,X,c,⟨o,vs,q1,q2,q3,q4,q5,q6⟩,hE⟩:=h1;obtain⟨nm,q,N,bs,sn,sub,ab,col,k0,k1,k2,k3,k5,e⟩:=c.obj;have hC:=X _ _ e;obtain⟨hp,g,d,tk,os⟩:=s1;have own:(gV C::.ref G::vmB).contains (.type "BaseException")=true:=rfl;have qn:=q6 rfl
 repeat (first
  | (with_reducible refine C_ q1 ?_;first | rw [q2] | rw [q4] | skip)
  | with_reducible refine C_ hC ?_
  | (with_reducible refine Jv hC ?_;rw [own])
  | with_reducible refine IM q1 q4 qn ?_
  | wp_step)
 exact wpAny_raiseNew_none hh hE
end
noncomputable def RX(X:Cx)(J:St->XK):Prop:=∀(pins:List (Addr×Obj)) (σ:St) (H:Hp) (s:cy) (ea C:Addr) (dd:Option Addr),Inv X pins σ H s->H ea=some (.ext (XAt ea C dd true))->J σ (.ref ea) dd (upd H ea (.ext (XAt ea C dd false)))->X.xe (.ref ea) s
noncomputable def xH(K:a_)(te:TE)(J:St->XK):TS:=λD σ H=>te σ H λv H1=>∃ea C G dd,v=.ref ea/\H1 ea=some (.ext (XAt ea C dd true))/\XC K C G/\J σ (.ref ea) dd (upd H1 ea (.ext (XAt ea C dd false)))
section
variable {X:Cx}{J:St->XK}{x:Expr}{pos:Pos}{te:TE}
def uF(K:a_)(ek:X.K=K)(hc:X.calm=true)(hx:RX X J)(he:PE X x te):PS X (.Raise (some x) none pos) (xH K te J):=by
 subst ek;intro pins s σ H D I h
 have key:wpAny (model X.prog X.w) X.A (raiseStmt X.env (some (do let v <- eval x X.env;standAt pos;pure v)) none) (SP X pins D) X.xe s:=by
  refine CI (K:=X.K) (I.ok.hd hc) (b_ (D_ (he pins s σ H _ I h) (λu s1 ⟨v,H1,I1,rv,ea,C,G,dd,ev,hea,c,hj⟩=>b_ (Jd (f_ ?_))) λ_ _ z=>z));subst ev;obtain rfl:u=gV ea:=rv;have ok:=(show bn X.prog X.w H1 s1.heap ea (.ext (XAt ea C dd true)) from I1.hok ea _ hea)
  exact⟨ea,C,G,dd,rfl,I1.kIn,c,ok.1,hx pins σ H1 s1 ea C dd I1 hea hj⟩
 rw [arm_exec_Raise]
 first
  | exact b_ (Jd key)
  | (simp only [evalOpt,Option.map];exact b_ (Jd key))
  | (show wpAny _ _ (do standAt pos;raiseStmt X.env (some (do let v <- eval x X.env;standAt pos;pure v)) none) _ _ s;exact b_ (Jd key))
def AE{P:pj}{w:World}{K:a_}{mg:Str->Option Value}{base:Heap}{N:List Str}{qual:Str}{scope:Scope}{f:Addr}{cd:Value}{A:v_}{outer:List Env}{s0:cy}{H0:Hp}{E:XK} :
  RX (mZ (CXe P w) P w K mg base N qual scope f cd A outer s0 H0 E) (λ_=>E):=λpins σ H s ea C dd I hea hj=>xG I hea hj
end
noncomputable def PX(CX:CXT)(X:Cx)(J:St->XK):Prop:=∀(pins:List (Addr×Obj)) (σ:St) (H:Hp) (s:cy) (e:Value) (s':cy),Inv X pins σ H s->CX X.stack H s (J σ) e s'->X.xe e s'
noncomputable def xI(sp:Sp)(J:St->XK)(t:TA):TE:=λσ H Q=>t σ H λvs H1=>sp vs H1 Q (J σ)
structure Dg (P:pj) (w:World) (K:a_) (mg:Str->Option Value) (base:Heap) (k:Nat) (x:Str) (ps:List Str) (sp:Sp):Prop where
 ex:∃(f:Addr) (fd:Jp),nP P w K mg base (CXe P w) k f fd ps sp/\km K fd ps []/\z_ K (.ref f)=true/\mg x=some (.ref f)
section
variable {X:Cx}{k:Nat}{x:Str}{ps:List Str}{sp:Sp}{p pos:Pos}{e:Expr}{es:List Expr}{t:TA}{J:St->XK}
def jI(C:Dg X.prog X.w X.K X.mg X.base k x ps sp)(hr:dO k X.A)(hx:PX (CXe X.prog X.w) X J)(ha:PA X (e::es) t)(hg:Gl X x:=by rfl)(hdb:(x == ("__debug__":Str))=false:=by decide)(hn:nSt e=true:=by rfl)(hp:es.all nSt=true:=by rfl) :
  PE X (.Call (.Name x p) (e::es) [] pos) (xI sp J t):=by
 obtain⟨f,fd,F,hb,hk,hm⟩:=C.ex;intro pins s σ H Q I h;refine Jz (f9 I hg hm ?_ hdb);refine KE (h₀:=X.base) I.ok.mod.kin hk (thn (ha pos pins s σ H _ I h) λus s1 ⟨vs,H1,I1,r,q⟩=>⟨I1.kIn,?_⟩) (fe hn) (dX hp);have hl:us.length=ps.length:=by rw [<- r.length];exact F.len _ _ _ _ q
 refine Lc (KZ (F.run X.A X.stack s1 H1 ⟨us,[]⟩ us vs Q (J σ) hr I1.env0 ?_ r q) λr s' hq=>?_)
 .have:=hb s1 us I1.kIn (by rw [IL];exact hl);rw [IL] at this;exact this
 .cases r with
  | error e=>exact hx pins σ H1 s1 e s' I1 hq
  | ok fl =>
   cases fl with
   | ret u=>exact I1.after hq
   | next=>exact IS hq
   | brk=>exact IS hq
   | cont=>exact IS hq
end
section
variable {X:Cx}{pins:List (Addr×Obj)}{σ:St}{H:Hp}{s:cy}
abbrev Cx.mk'(X:Cx)(e:Value):Cx:={ X with A:=X.A.mark (some e),calm:=false }
def Inv.mark(I:Inv X pins σ H s)(e:Value):Inv (X.mk' e) pins σ H s :=
 ⟨⟨I.ok.mod,I.ok.kind,I.ok.glob,I.ok.blt,I.ok.above,I.ok.inj,I.ok.has,I.ok.cab,nofun,I.ok.frames,I.ok.stk,I.ok.exf,I.ok.bs,I.ok.bsz,I.ok.noex,I.ok.exfs,I.ok.funs,I.ok.frf⟩,I.os,I.bare,I.base,I.loc,I.cell,I.free,I.freeC,I.pin,I.hok,I.len⟩
def Inv.unmark{e:Value}(I:Inv (X.mk' e) pins σ H s)(hd:X.calm=true->X.A.handled=none):Inv X pins σ H s :=
 ⟨⟨I.ok.mod,I.ok.kind,I.ok.glob,I.ok.blt,I.ok.above,I.ok.inj,I.ok.has,I.ok.cab,hd,I.ok.frames,I.ok.stk,I.ok.exf,I.ok.bs,I.ok.bsz,I.ok.noex,I.ok.exfs,I.ok.funs,I.ok.frf⟩,I.os,I.bare,I.base,I.loc,I.cell,I.free,I.freeC,I.pin,I.hok,I.len⟩
def jc{M:Model}{A:v_}{E:Value->cy->Prop}{i:Nat}{x:Str}{pos:Pos}{Q:Unit->cy->Prop}(I:Inv X pins σ H s)(hN:X.N.Nodup)(hi:X.N[i]?=some x)(hk:X.env.scope.names.lookup x=some .local)
  (h:∀s',Inv X pins (σ.set i none) H s'->Q () s'):wpAny M A (do bindName X.env x .none;unbindBehindTheSuite X.env x pos) Q E s:=by
 refine b_ (wpAny_bindName (eV I hN hi (.inl hk) (v:=.non) rfl (λs1 I1=>?_) (.inr hk)));have hiσ:i<σ.length:=by rw [I.len];exact (i_.mp hi).1
 obtain⟨m,hn,hl⟩:=id I1.loc;obtain⟨u,ru,lk⟩:=hl i x .non hi (p_ hiσ) (.inl hk)
 have hm:m x=some u:=by
  rcases lk with ⟨_,z⟩|⟨z,_⟩
  .exact z
  .have z':X.env.scope.names.lookup x=some .cell\/X.env.scope.names.lookup x=some .free:=z;rw [hk] at z';rcases z' with z'|z' <;> cases z'
 unfold unbindBehindTheSuite;refine KA (wpAny_unbindName_local hk hn hm (by rw [I.ok.kind];rfl) λh' u' hn' hs=>?_);have cne:=I1.cne;obtain⟨oL,_,_,hoL,_⟩:=id hn;have big:∀b o,X.s₀.heap.get? b=some o->b≠X.env.locals:=λb o q=>A_ (tj (m_ q) I.ok.above)
 refine h _ ⟨I1.ok,I1.os,I1.bare,⟨λb o q n hb hx=>(hs.2 b (big b o q)).trans (I1.base.keep b o q n hb hx),λb o q n hb hx=>?_,I1.base.free,λb o q hx=>?_,I1.base.tups,I1.base.frzs,I1.base.tbls⟩,⟨_,hn',λj y v' e1 e2 e3=>?_⟩,λy c q=>?_,I1.free,I1.freeC,λp hp=>?_,λb ob q=>?_,by simpa using I.len⟩
 .obtain⟨sl,q1⟩:=I1.base.slot b o q n hb hx;exact⟨sl,(hs.2 b (big b o q)).trans q1⟩
 .obtain⟨o',q1⟩:=I1.base.there b o q hx;exact⟨o',(hs.2 b (big b o q)).trans q1⟩
 .by_cases hj:j=i
  .subst hj;rw [p_ hiσ] at e2;cases e2
  .rw [n_ (J7 hj)] at e2;obtain⟨u2,r2,q⟩:=hl j y v' e1 (by rw [n_ (J7 hj)];exact e2) e3;refine⟨u2,r2,?_⟩
   rcases q with ⟨k,z⟩|⟨k,c,z1,z2⟩
   .have:y≠x:=λz=>hj (nL hN e1 (z ▸ hi));exact .inl ⟨k,by simp [this,z]⟩
   .exact .inr ⟨k,c,z1,z2.sameBut hs (cne y c z1)⟩
 .obtain⟨w',z⟩:=I1.cell y c q;exact⟨w',z.sameBut hs (cne y c q)⟩
 .obtain⟨q,n,ne,nf,dd⟩:=I1.pin p hp;exact⟨(hs.2 p.1 ne).trans q,n,ne,nf,dd⟩
 .refine (I1.hok b ob q).stay (λc w' hc z=>(hs.2 c ?_).trans z) (λ_ z=>z) λ_ _ z=>z;rintro rfl
  rcases hc with hc|hc
  .rw [<- hc,I1.free] at q;cases q
  .rw [I1.free] at hc;cases hc
end
section
variable {M:Model}{A:v_}{E:Value->cy->Prop}{K:a_}{C G D:Addr}
def xJ{h:Heap}{g:Array KR}{d:Drawn}{t:Nat}{os:J6}{ea:Addr}{dd:Option Addr}{new:Bool}{Q:Bool->cy->Prop}(X:K.In h)(c:XC K C G)(x:XAt ea C dd new h)
  (hD:∃nm q N bs bm hd sn sub ab col d0 k0 k1 k2 k3 k5 nw,K.lookup D=some (excClassObj nm q D N bs bm hd sn sub ab col d0 k0 k1 k2 k3 k5 nw)/\(gV D::bm).contains (.type "BaseException")=true)
  (hq:Q ((gV C::.ref G::vmB).contains (.ref D)) ⟨h,g,d,t,os⟩):wpAny M A (excMatches (.ref ea) (.ref D)) Q E ⟨h,g,d,t,os⟩:=by
 obtain⟨nm,q,N,bs,sn,sub,ab,col,k0,k1,k2,k3,k5,e⟩:=c.obj;obtain⟨nm',q',N',bs',bm',hd',sn',sub',ab',col',d0',k0',k1',k2',k3',k5',nw',e2,hb⟩:=hD;obtain⟨o,vs,q1,q2,_⟩:=x;have hC:=X _ _ e;have hDo:=X _ _ e2;have f:=tc_notTuple;generalize hbb:(gV C::.ref G::vmB).contains (.ref D)=b at hq;unfold excMatches
 repeat (first
  | (with_reducible refine C_ q1 ?_;rw [q2])
  | with_reducible refine C_ hDo ?_
  | with_reducible refine C_ hC ?_
  | (with_reducible refine Jv hDo ?_;rw [hb])
  | (with_reducible refine Jv hC ?_;rw [hbb])
  | wp_step)
 cases b <;> (wp_walk;exact hq)
end
structure FTk (X:Cx) (pins:List (Addr×Obj)) (H:Hp) (T:Addr):Prop where
 nt:H T=none
 sz:X.s₀.heap.objs.size<=T
 nl:T≠X.env.locals
 nc:∀x c,X.env.cells.lookup x=some c->c≠T
 np:∀p∈X.pn++pins,p.1≠T
section
variable {X:Cx}{pins:List (Addr×Obj)}{σ:St}{H:Hp}{s:cy}
def Is{M:Model}{Er:Value->cy->Prop}{E1:XK}{e:Value}{s':cy}{Q:Unit->cy->Prop}(hst:X.stack=X.env::X.outer)(hfm:X.env.frame=some X.env.locals)(I:Inv X pins σ H s)(h:CXe X.prog X.w X.stack H s E1 e s')
  (k:∀ea C dd H' T s2,e=.ref ea->Inv X pins σ H' s2->H' ea=some (.ext (XAt ea C dd false))->yF s2.heap ea T .none->FTk X pins H' T->E1 (.ref ea) dd H'->Q () s2) :
  wpAny M X.A (noteFrame e X.env) (λ_ s1=>wpAny M X.A (setFlight e none) Q Er s1) Er s':=by
 obtain⟨ea,C,dd,H',T0,rfl,os,bare,un1,hok1,hea,fly0,hT0,hT0',hE1⟩:=h;have hf1:∀b∈frs X.stack,H b=none:=I.stkFree;have hss:=I.stack
 have hl:s'.heap.FunFrames X.base X.stack:=by
  have all:∀l:List Env,(∀b∈frs l,b∈frs X.stack)->s.heap.FunFrames X.base l->s'.heap.FunFrames X.base l:=by
   intro l
   induction l with
   | nil=>intro _ _;trivial
   | cons en r ih =>
    intro hs hl;obtain⟨hk,⟨L,o,hf,hn,ho,hd⟩,hr⟩:=hl;have hL:L∈frs (en::r):=by unfold frs;rw [J9,hf];exact mem_cons_self
    obtain⟨sl,q⟩:=un1.slot L o ho (hf1 L (hs L hL)) (hs L hL) (by simp);exact⟨hk,⟨L,_,hf,hn,q,hd⟩,ih (λb hb=>hs b (by unfold frs;rw [J9,hf];exact q_ _ hb)) hr⟩
  exact all _ (λ_ hb=>hb) hss
 have nT0:T0∉frs X.stack:=λz=>by
  obtain⟨o,q⟩:=xF hss z;rw [hT0] at q;cases q
 have hf2:∀b∈frs X.stack,H' b=none:=λb hb=>by
  obtain⟨o,q⟩:=xF hss hb;exact un1.free b o q (hf1 b hb) (by simp)
 have fr:=I.ok.frames;rw [hst] at fr hl nT0 hf2;refine CH fr hl hfm fly0 nT0 λg1 T hT mv fly=>?_;refine sA fly λg2 un fly2=>?_;have hok:=hok1.moved hea mv hT un hf2 (λb e=>by cases e;exact hT0') fly2 rfl
 have upe:upd H' ea (.ext (XAt ea C dd false))=H':=by
  funext b
  by_cases z:b=ea
  .subst z;rw [aB,hea]
  .rw [au z]
 rw [upe] at hok;have bT:∀b o,s'.heap.get? b=some o->b≠T:=λb o q=>A_ (tj (m_ q) hT);have bT0:∀b o,s.heap.get? b=some o->some T0≠some b:=λb o q z=>by cases z;rw [hT0] at q;cases q
 have nea:∀b,H' b=none->b≠ea:=λb n z=>by rw [z,hea] at n;cases n
 obtain⟨oe,vs,oT,ts,he1,he2,_⟩:=id fly0
 have u:Un (frs X.stack) [] H H' s.heap g2:=by
  rw [hst] at un1 ⊢
  refine⟨λb ob q n hb hx=>?_,λb ob q n hb hx=>?_,un1.free,λb ob q hx=>?_,un1.tups,un1.frzs,un1.tbls⟩
  .have q2:=un1.keep b ob q n hb hx;exact un b ob (bT b ob q2) (mv.kp b ob hb (nea b (un1.free b ob q n hx)) (bT0 b ob q) q2)
  .obtain⟨sl1,q2⟩:=un1.slot b ob q n hb hx;obtain⟨sl2,q3⟩:=mv.sl b _ hb q2;exact⟨sl2,un b _ (bT b _ q2) q3⟩
  .obtain⟨o2,q2⟩:=un1.there b ob q hx
   by_cases hbe:b=ea
   .subst hbe;obtain⟨o3,vs3,q3,_⟩:=mv.ex oe vs he1 he2;exact⟨o3,un b o3 (bT b _ q2) q3⟩
   .by_cases hb:b∈frs (X.env::X.outer)
    .obtain⟨sl2,q3⟩:=mv.sl b _ hb q2;exact⟨_,un b _ (bT b _ q2) q3⟩
    .exact⟨o2,un b o2 (bT b _ q2) (mv.kp b o2 hb hbe (bT0 b ob q) q2)⟩
 have far:∀b o,s.heap.get? b=some o->b<T:=λb o q=>by
  obtain⟨o2,q2⟩:=un1.there b o q (by simp);exact tj (m_ q2) hT
 have hL:X.env.locals<T:=by
  obtain⟨m,⟨o,_,_,ho,_⟩,_⟩:=I.loc;exact far _ o ho
 refine k ea C dd H' T { s' with heap:=g2 } rfl (I.call' (s':={ s' with heap:=g2 }) os u hok bare (λb z=>nomatch z)) hea fly2 ⟨hok1.fresh hT,MO (lt_of_le_of_lt I.ok.above hL),J7 (A_ hL),λx c q=>?_,λp hp=>?_⟩ hE1
 .obtain⟨v,o,ho,_⟩:=I.cell x c q;exact A_ (far c o ho)
 .exact A_ (far _ _ (I.pin p hp).1)
end
abbrev THd:=Addr->Addr->Option Addr->yE->St->Hp->Prop
noncomputable def PH(X:Cx)(hs:List KB)(th:THd):Prop:=∀(pins:List (Addr×Obj)) (s:cy) (σ:St) (H:Hp) (ea C:Addr) (dd:Option Addr) (T:Addr) (D:yE),Inv X pins σ H s->H ea=some (.ext (XAt ea C dd false))->yF s.heap ea T .none->FTk X pins H T->th ea C dd D σ H ->
 wpAny (model X.prog X.w) X.A (handleBy (.ref ea) X.env hs) (SP X pins D) X.xe s
noncomputable def hAs(K:a_)(C0:Addr)(i:Nat)(ts:TS)(tr:THd):THd:=λea C dd D σ H=>∃G,XC K C G /\
 ((gV C::.ref G::vmB).contains (.ref C0)=true->ts { nx:=λσ' H'=>D.nx (σ'.set i none) H',bk:=λσ' H'=>D.bk (σ'.set i none) H',ct:=λσ' H'=>D.ct (σ'.set i none) H',rt:=D.rt } (σ.set i (some (.ref ea))) H) /\
 ((gV C::.ref G::vmB).contains (.ref C0)=false->tr ea C dd D σ H)
noncomputable def XD(K:a_)(D:Addr):Prop:=∃nm q N bs bm hd sn sub ab col d0 k0 k1 k2 k3 k5 nw,K.lookup D=some (excClassObj nm q D N bs bm hd sn sub ab col d0 k0 k1 k2 k3 k5 nw)/\(gV D::bm).contains (.type "BaseException")=true
section
variable {X:Cx}{C0:Addr}{cn n:Str}{np pos:Pos}{b0:Stmt}{suite:List Stmt}{rest:List KB}{i:Nat}{ts:TS}{tr:THd}
def GW(K:a_)(ek:X.K=K)(hx:XD K C0)(hm:X.mg cn=some (.ref C0))(hN:X.N.Nodup)(hi:X.N[i]?=some n)(hk:X.env.scope.names.lookup n=some .local)(hs:∀e,PSs (X.mk' e).nox (b0::suite) ts)(hr:PH X rest tr)
  (hg:Gl X cn:=by rfl) (hdb:(cn == ("__debug__":Str))=false:=by decide):PH X (.ExceptHandler (some (.Name cn np)) (some n) (b0::suite) pos::rest) (hAs K C0 i ts tr):=by
 subst ek;intro pins s σ H ea C dd T D I hea fly ft h;obtain⟨G,c,h1,h2⟩:=h;have xa:XAt ea C dd false s.heap:=(show bn X.prog X.w H s.heap ea (.ext (XAt ea C dd false)) from I.hok ea _ hea).1;refine wpAny_handleBy_cons (codeAny_handlers_test ?_) (by intro z;cases z);refine f9 (X:=X.mk' (.ref ea)) (I.mark (.ref ea)) hg hm ?_ hdb;have X2:=I.kIn;have I0:=I;obtain⟨hh,g,d,tk,os⟩:=s;refine xJ X2 c xa hx ?_
 cases hb:(gV C::.ref G::vmB).contains (.ref C0) with
 | false=>exact hr pins _ σ H ea C dd T D I0 hea fly ft (h2 hb)
 | true =>
  refine codeAny_handlers_suite_as ?_;refine sA fly λg2 un fly2=>?_;have I1:Inv X pins σ H { heap:=g2,gens:=g,drawn:=d,toks:=tk,os:=os }:=I0.turned (it:=T) (t':=tk) un ft.nt ft.nl (.inr ft.sz) ft.nc ft.np;refine eV (X:=X) (v:=.ref ea) I1 hN hi (.inl hk) rfl (λs2 I2=>?_) (.inr hk);refine D_ (hs (.ref ea) pins s2 _ H _ ((I2.mark (.ref ea)).wish _) (h1 hb)) (λf s3 hf=>?_) λ_ _ z=>IS z
  have un1:∀{σ' H'},Inv (X.mk' (.ref ea)).nox pins σ' H' s3->Inv X pins σ' H' s3:=λJ=>(Inv.unwish J).unmark I0.ok.hd;show wpAny _ X.A (do bindName X.env n .none;unbindBehindTheSuite X.env n pos) (λ_ s4=>SP X pins D f s4) X.xe s3
  cases f with
  | next =>
   obtain⟨σ',H',J,q⟩:=hf;exact jc (un1 J) hN hi hk λs4 I4=>⟨_,H',I4,q⟩
  | brk =>
   obtain⟨σ',H',J,q⟩:=hf;exact jc (un1 J) hN hi hk λs4 I4=>⟨_,H',I4,q⟩
  | cont =>
   obtain⟨σ',H',J,q⟩:=hf;exact jc (un1 J) hN hi hk λs4 I4=>⟨_,H',I4,q⟩
  | ret u =>
   obtain⟨v,σ',H',J,r,q⟩:=hf;exact jc (un1 J) hN hi hk λs4 I4=>⟨v,_,H',I4,r,q⟩
def AF:PH X [] (λ_ _ _ _ _ _=>False):=λ_ _ _ _ _ _ _ _ _ _ _ _ _ h=>h.elim
end
abbrev Cx.tryb(X:Cx)(pn:List (Addr×Obj))(E:Value->cy->Prop):Cx:={ X with pn:=pn,xe:=E }
noncomputable def HJ(tb:(St->XK)->TS)(th:THd):TS:=λD σ H=>∃J:St->XK,tb J D σ H/\∀(σ':St) (ea:Addr) (dd:Option Addr) (H':Hp),J σ' (.ref ea) dd H'->∃C,H' ea=some (.ext (XAt ea C dd false))/\th ea C dd D σ' H'
section
variable {X:Cx}{C0:Addr}{cn n:Str}{np pos:Pos}{b0:Stmt}{suite body:List Stmt}{rest:List KB}{h0:KB}{hs:List KB}{i:Nat}{ts:TS}{tr th:THd}{tb:(St->XK)->TS}
def AG(hst:X.stack=X.env::X.outer)(hfm:X.env.frame=some X.env.locals)
  (hb:∀J pn E,PX (CXe X.prog X.w) (X.tryb pn E) J->PSs (X.tryb pn E) body (tb J)) (hh:PH X (h0::hs) th):PS X (.Try body (h0::hs) [] [] pos) (HJ tb th):=by
 intro pins s σ H D I h;obtain⟨J,h1,h2⟩:=h
 have mk:∀{E σ H s},Inv X pins σ H s->Inv (X.tryb (X.pn++pins) E) [] σ H s:=λI =>
  ⟨⟨I.ok.mod,I.ok.kind,I.ok.glob,I.ok.blt,I.ok.above,I.ok.inj,I.ok.has,I.ok.cab,I.ok.hd,I.ok.frames,I.ok.stk,I.ok.exf,I.ok.bs,I.ok.bsz,I.ok.noex,I.ok.exfs,I.ok.funs,I.ok.frf⟩,I.os,I.bare,I.base,I.loc,I.cell,I.free,I.freeC,λp hp=>I.pin p (by simpa using hp),I.hok,I.len⟩
 have un:∀{E pins' σ H s},Inv (X.tryb (X.pn++pins) E) pins' σ H s->Inv X pins σ H s:=λ{E pins' σ H s} I =>
  ⟨⟨I.ok.mod,I.ok.kind,I.ok.glob,I.ok.blt,I.ok.above,I.ok.inj,I.ok.has,I.ok.cab,I.ok.hd,I.ok.frames,I.ok.stk,I.ok.exf,I.ok.bs,I.ok.bsz,I.ok.noex,I.ok.exfs,I.ok.funs,I.ok.frf⟩,I.os,I.bare,I.base,I.loc,I.cell,I.free,I.freeC,λp hp=>I.pin p (Kf pins' hp),I.hok,I.len⟩
 let XE:Value->cy->Prop:=λe s1=>∃σ H s,Inv X pins σ H s/\CXe X.prog X.w X.stack H s (J σ) e s1
 have px:PX (CXe X.prog X.w) (X.tryb (X.pn++pins) XE) J:=λpins' σ' H' s' e s1 I' h=>⟨σ',H',s',un I',h⟩
 refine wpAny_Try_except (D_ (hb J _ _ px [] s σ H D (mk I) h1) (λf s1 hf=>?_) λe s1 he=>?_)
 .cases f with
  | next =>
   obtain⟨σ',H',I',q⟩:=hf;rw [arm_execs_nil];exact f_ ⟨σ',H',un I',q⟩
  | brk =>
   obtain⟨σ',H',I',q⟩:=hf;exact⟨σ',H',un I',q⟩
  | cont =>
   obtain⟨σ',H',I',q⟩:=hf;exact⟨σ',H',un I',q⟩
  | ret u =>
   obtain⟨v,σ',H',I',r,q⟩:=hf;exact⟨v,σ',H',un I',r,q⟩
 .obtain⟨σ',H',s',I',cx⟩:=he;refine Is hst hfm I' cx λea C dd H2 T s2 ee I2 hea fly ft hJ=>?_;subst ee;obtain⟨C2,hea2,ht⟩:=h2 σ' ea dd H2 hJ;exact hh pins s2 σ' H2 ea C2 dd T D I2 hea2 fly ft ht
end
noncomputable def XR(K:a_)(O:Addr->Prop)(H:Hp)(ea:Addr)(dd:Option Addr)(d:D):Prop:=∃c ns ds,d=.exc c ns ds/\H ea=some (.ext (XAt ea (aK K c) dd false))/\FV K O H (.ref ea) d
def XR.keeps{K:a_}{O O':Addr->Prop}{H H':Hp}{ea:Addr}{dd:Option Addr}{d:D}(k:aL O H O' H')(h:XR K O H ea dd d):XR K O' H' ea dd d:=by
 obtain⟨c,ns,ds,rfl,e,f⟩:=h
 have n:¬ O ea:=by cases f with
  | exc0 n _=>exact n
  | exc1 n _ _ _ _ _=>exact n
 exact⟨c,ns,ds,rfl,(k _ _ n e).2,f.keeps k⟩
noncomputable def LSX(K:a_)(E:D->Prop)(Eo:XK)(fs:List Nat)(ts:TS)(ps:PTS):Prop:=∀(fx:List (Nat×V)) (A R:Addr->Prop) (H0:Hp) (ρ:PSt) (σ:St) (H:Hp) (D:zj) (D':yE),fx.map IX=fs->Rel K A ρ σ H->cw fx R H0 ρ σ H->ps D ρ ->
 (∀ρ' σ' H',D.nx ρ'->Rel K A ρ' σ' H'->cw fx R H0 ρ' σ' H'->D'.nx σ' H') ->
 (∀v p ρ' σ' H',D.rt p ρ'->Out K A ρ' σ' H0 H' p v->cw fx R H0 ρ' σ' H'->D'.rt v H') ->
 (∀ρ' σ' H',D.bk ρ'->Rel K A ρ' σ' H'->cw fx R H0 ρ' σ' H'->D'.bk σ' H') ->
 (∀ρ' σ' H',D.ct ρ'->Rel K A ρ' σ' H'->cw fx R H0 ρ' σ' H'->D'.ct σ' H') ->
 (∀ρ' σ' H' ea dd d,E d->Rel K A ρ' σ' H'->cw fx R H0 ρ' σ' H'->H0 ea=none->XR K (OO A ρ' σ') H' ea dd d->Eo (.ref ea) dd H')->ts D' σ H
def cw.nn{fx:List (Nat×V)}{R:Addr->Prop}{H0 H:Hp}{ρ:PSt}{σ:St}(F:cw fx R H0 ρ σ H){b:Addr}(h:H b=none):H0 b=none:=by
 cases e:H0 b with
 | none=>rfl
 | some o=>exact absurd h (F.dm b (by rw [e];exact nofun))
section
variable {K:a_}{E:D->Prop}{Eo:XK}{fs:List Nat}{ta tb ts:TS}{pa pb ps:PTS}{te:TE}{pe:PTE}{tt:TT}{pt:PTT}{wi:TI}{pi:PTI}{g:TG}{pg:PTG}
def LS.x(h:LS K fs ts ps):LSX K E Eo fs ts ps:=λfx A R H0 ρ σ H D D' hf r F q k1 k2 k3 k4 _=>h fx A R H0 ρ σ H D D' hf r F q k1 k2 k3 k4
def qT(ha:LSX K E Eo fs ta pa)(hb:LSX K E Eo fs tb pb):LSX K E Eo fs (Fx ta tb) (mq pa pb):=λfx A R H0 ρ σ H D D' hf r F q k1 k2 k3 k4 k5 =>
 ha fx A R H0 ρ σ H _ _ hf r F q (λρ1 σ1 H1 q1 r1 F1=>hb fx A R H0 ρ1 σ1 H1 _ _ hf r1 F1 q1 k1 k2 k3 k4 k5) k2 k3 k4 k5
def E4(ht:LT K tt pt)(ha:LSX K E Eo fs ta pa)(hb:LSX K E Eo fs tb pb):LSX K E Eo fs (FI tt ta tb) (FD pt pa pb):=λfx A R H0 ρ σ H D D' hf r F q k1 k2 k3 k4 k5=>ht A ρ σ H _ _ r q λc H1 ρ1 q1 f1 r1=>by
 cases c with
 | true=>exact ha fx A R H0 ρ1 σ H1 D D' hf r1 (F.fr f1) q1 k1 k2 k3 k4 k5
 | false=>exact hb fx A R H0 ρ1 σ H1 D D' hf r1 (F.fr f1) q1 k1 k2 k3 k4 k5
def E5(hi:LI K wi pi)(hg:LGd K fs g pg)(hb:LSX K E Eo fs tb pb):LSX K E Eo fs (FK wi g tb) (Ez pi pg pb):=λfx A R H0 ρ σ H D D' hf r F q k1 k2 k3 k4 k5=>hi A ρ σ H _ _ r q λJ H1 n it ρ1 q1 f1 r1 W=>by
 obtain⟨I,i0,turn,after⟩:=q1;have F1:=F.fr f1;refine⟨λi m σ' H'=>i+m=n/\∃ρ',I i ρ'/\Rel K A ρ' σ' H'/\cw fx (Wr ρ1 σ) H1 ρ' σ' H',⟨n,K7 n,ρ1,i0,r1,cw.start F1.fx⟩,λi m σ' H' ⟨him,ρ',iv,r',F'⟩=>?_⟩;obtain⟨go,stop⟩:=W _ H' F'.keeps r'.dom2
 by_cases hk:i<n
 .obtain⟨g1,g2⟩:=go i hk;refine .inr ⟨g1,λσ'' H''=>∃ρ'',I (i+1) ρ''/\Rel K A ρ'' σ'' H''/\cw fx (Wr ρ1 σ) H1 ρ'' σ'' H'',λσ'' H'' z=>⟨m - 1,by omega,by omega,z⟩,λx H'' y=>?_⟩;obtain⟨gr,fv⟩:=g2 x H'' y;refine hg fx A (Wr ρ1 σ) H1 ρ' σ' H'' _ x _ _ hf (F'.fr gr.fr) (r'.gr gr) fv (turn i ρ' _ hk rfl iv) λρ2 σ2 q2 r2 F2 _=>?_
  refine hb fx A (Wr ρ1 σ) H1 ρ2 σ2 H'' _ _ hf r2 F2 q2 (λρ3 σ3 H3 q3 r3 F3=>⟨ρ3,q3,r3,F3⟩) (λv p ρ3 σ3 H3 q3 o3 F3=>k2 v p ρ3 σ3 H3 q3 (o3.h0 F1.dm) (F1.trans F3 F3.fx)) (λρ3 σ3 H3 q3 r3 F3=>k1 ρ3 σ3 H3 q3 r3 (F1.trans F3 F3.fx)) (λρ3 σ3 H3 q3 r3 F3=>⟨ρ3,q3,r3,F3⟩)
   (λρ3 σ3 H3 ea dd d q3 r3 F3 n3 x3=>k5 ρ3 σ3 H3 ea dd d q3 r3 (F1.trans F3 F3.fx) (F1.nn n3) x3)
 .have e:i=n:=by omega
  subst e;exact .inl ⟨stop,k1 ρ' σ' H' (after ρ' iv) r' (F1.trans F' F'.fx)⟩
end
noncomputable def xK(E:D->Prop)(pe:PTE):PTS:=λ_ ρ=>pe ρ λp _=>match p with
 | .dat d=>E d
 | _=>False
section
variable {K:a_}{E:D->Prop}{Eo:XK}{fs:List Nat}{ta:TA}{pa:PTA}{cs:List Str}{c f:Str}
def E6{H:Hp}{a:Addr}{o o':HO}:upd (upd H a o) a o'=upd H a o':=by
 funext b
 by_cases z:b=a
 .subst z;rw [aB,aB]
 .rw [au z,au z,au z]
def xL(X:xz K cs)(hc:c∈cs)(h:LAs K ta pa):LSX K E Eo fs (xH K (EX (aK K c) f ta) (λ_=>Eo)) (xK E (GT c f pa)):=λfx A R H0 ρ σ H D D' hf r F q k1 k2 k3 k4 k5 =>
 h A ρ σ H _ _ r q λvs H1 as ρ1 q1 f1 R1 o1=>by
  split at q1
  .rename_i d e1;have fs:=o1.avD e1
   cases fs with
   | @cons v _ _ _ fv fr =>
    cases fr;refine⟨_,rfl,λe dx he hdx hne=>⟨e,aK K c,aK K "GlueError",some dx,rfl,aB,X.c c hc,?_⟩⟩;rw [E6];have he2:upd H1 dx (.xd [(f,v)]) e=none:=by rw [au (λz=>hne z.symm)];exact he
    have g1:Gr H1 (upd H1 dx (.xd [(f,v)])):=Gr.new hdx;have g2:=Gr.new (o:=.ext (XAt e (aK K c) (some dx) false)) he2;have g:Gr H1 (upd (upd H1 dx (.xd [(f,v)])) e (.ext (XAt e (aK K c) (some dx) false))):=λb o z=>g2 b o (g1 b o z);have F1:=F.fr f1;exact k5 ρ1 σ _ e _ _ q1 (R1.gr g) (F1.fr g.fr) (F1.nn he) ⟨_,_,_,rfl,aB,.exc1 (fs:=[(f,v)]) (λz=>R1.dom2 e z he) (λz=>R1.dom2 dx z hdx) aB (by rw [au hne];exact aB) rfl (.cons (fv.keeps λb o n z=>⟨n,g b o z⟩) .nil)⟩
  .exact q1.elim
def xM(X:xz K cs)(hc:c∈cs):LSX K E Eo fs (xH K (EZ (aK K c)) (λ_=>Eo)) (xK E (GU c)):=λfx A R H0 ρ σ H D D' hf r F q k1 k2 k3 k4 k5 e he=>by
 refine⟨e,aK K c,aK K "GlueError",none,rfl,aB,X.c c hc,?_⟩;rw [E6];have g:Gr H (upd H e (.ext (XAt e (aK K c) none false))):=Gr.new he;exact k5 ρ σ _ e _ _ q (r.gr g) (F.fr g.fr) (F.nn he) ⟨_,_,_,rfl,aB,.exc0 (λz=>r.dom2 e z he) aB⟩
end
abbrev FX:=List D->(PV->Prop)->(D->Prop)->Prop
noncomputable def spX(K:a_)(c:FX):Sp:=λvs H Q E=>∃(O:Addr->Prop) (ds:List D) (Qc:PV->Prop) (Ec:D->Prop),(∀b,O b->H b≠none)/\FVs K O H vs ds/\c ds Qc Ec/\(∀r,Qc r->∀v H',Gr H H'->ul K O H H' r v->Q v H') /\
 ∀d,Ec d->∀ea dd H',Gr H H'->H ea=none->XR K O H' ea dd d->E (.ref ea) dd H'
section
variable {K:a_}{tr:TA}{pr:PTA}{ts:XK->TS}{ps:(D->Prop)->PTS}
noncomputable def E7(c:FX)(pr:PTA):PTE:=λρ Q=>pr ρ λas ρ1=>match avD as with
 | some ds=>c ds (λr=>Q r ρ1) (λ_=>False)
 | none=>False
def kG{c:FX}(h:LAs K tr pr):LE K (xI (spX K c) (λ_=>E0) tr) (E7 c pr):=λA ρ σ H Q Q' R q k=>h A ρ σ H _ _ R q λvs H1 as ρ1 q1 f1 R1 o1=>by
 split at q1
 .rename_i ds e;exact⟨OO A ρ1 σ,ds,_,_,R1.dom2,o1.avD e,q1,λr qr v H' g ov=>k v H' r ρ1 qr (f1.trans g.fr) ((ov.out R1 g).h0 f1.dm),λd z=>z.elim⟩
 .exact q1.elim
end
section
variable {K:a_}{cs:List Str}
def qU(X:xz K cs){c d:Str}(hc:c∈cs)(hd:d∈cs\/d="GlueError"):(gV (aK K c)::.ref (aK K "GlueError")::vmB).contains (.ref (aK K d))=rK c d:=by
 have yd:XCl K d:=hd.elim (X.n d) λe=>by rw [e];exact X.g
 have rr:∀a b:Addr,(gV a == gV b)=decide (a=b):=λa b=>by
  by_cases h:a=b
  .subst h;simp
  .rw [decide_eq_false h];exact beq_eq_false_iff_ne.mpr λz=>h (Ll z)
 rw [contains_cons,contains_cons,rr,rr];have t2:vmB.contains (gV (aK K d))=false:=rfl;rw [t2,M5];unfold rK
 congr 1
 .by_cases h:c=d
  .subst h;rw [decide_eq_true rfl,decide_eq_true rfl]
  .rw [decide_eq_false h,decide_eq_false λz=>(X.n c hc).ne yd h z.symm]
 .by_cases h:d="GlueError"
  .subst h;rw [decide_eq_true rfl,decide_eq_true rfl]
  .rw [decide_eq_false h,decide_eq_false (yd.ne X.g h)]
end
section
variable {K:a_}{A R:Addr->Prop}{fx:List (Nat×V)}{fs:List Nat}{H0 H:Hp}{ρ:PSt}{σ:St}{i:Nat}
def jd{j:Nat}{q:PV}(e:(ρ.set i none)[j]?=some (some q)):j≠i/\ρ[j]?=some (some q):=by
 by_cases z:i=j
 .subst z
  by_cases hi:i<ρ.length
  .rw [p_ hi] at e;cases e
  .rw [we (by rw [Jc];omega)] at e;cases e
 .rw [n_ z] at e;exact⟨λq=>z q.symm,e⟩
def oO{b:Addr}(h:Wr (ρ.set i none) (σ.set i none) b):Wr ρ σ b:=by
 obtain⟨j,r,e1,o1,s1⟩:=h;obtain⟨n,e⟩:=jd e1;rw [n_ (λz=>n z.symm)] at s1;exact⟨j,r,e,o1,s1⟩
def Rel.unset(R1:Rel K A ρ σ H):Rel K A (ρ.set i none) (σ.set i none) H:=by
 have k:aL (OO A ρ σ) H (OO A (ρ.set i none) (σ.set i none)) H:=aL.less λb z=>z.imp id oO
 refine⟨by rw [Jc,Jc];exact R1.len,λj r e1=>?_,λj l p1 q1 v' e1 e2 o1 o2 s1 s2=>?_,R1.dom,λb z w=>R1.sep b z (oO w)⟩
 .obtain⟨n,e⟩:=jd e1;obtain⟨u,s,r'⟩:=R1.get j r e;exact⟨u,by rw [n_ (λz=>n z.symm)];exact s,r'.keeps k λ_ _ _=>rfl⟩
 .obtain⟨n1,e1⟩:=jd e1;obtain⟨n2,e2⟩:=jd e2;rw [n_ (λz=>n1 z.symm)] at s1;rw [n_ (λz=>n2 z.symm)] at s2;exact R1.dj j l p1 q1 v' e1 e2 o1 o2 s1 s2
def cw.unset(hf:fx.map IX=fs)(hi:fs.contains i=false)(F:cw fx R H0 ρ σ H):cw fx R H0 (ρ.set i none) (σ.set i none) H :=
 ⟨F.kp,F.dm,λb w=>F.ow b (oO w),λq hq=>by
  have:q.1≠i:=λz=>by
   have h1:i∈fs:=by rw [<- hf,<- z];exact MR hq
   rw [w_.mpr h1] at hi;cases hi
  rw [n_ (λz=>this z.symm)];exact F.fx q hq⟩
end
abbrev PTH:=D->PTS
noncomputable def LH(K:a_)(fs:List Nat)(th:THd)(ph:PTH):Prop:=∀(fx:List (Nat×V)) (A R:Addr->Prop) (H0:Hp) (ρ:PSt) (σ:St) (H:Hp) (D:zj) (D':yE) (ea:Addr) (dd:Option Addr) (c:Str) (ns:List Str) (ds:List L2.D),fx.map IX=fs->Rel K A ρ σ H->cw fx R H0 ρ σ H ->
 H ea=some (.ext (XAt ea (aK K c) dd false))->FV K (OO A ρ σ) H (.ref ea) (.exc c ns ds)->ph (.exc c ns ds) D ρ ->
 (∀ρ' σ' H',D.nx ρ'->Rel K A ρ' σ' H'->cw fx R H0 ρ' σ' H'->D'.nx σ' H') ->
 (∀v p ρ' σ' H',D.rt p ρ'->Out K A ρ' σ' H0 H' p v->cw fx R H0 ρ' σ' H'->D'.rt v H') ->
 (∀ρ' σ' H',D.bk ρ'->Rel K A ρ' σ' H'->cw fx R H0 ρ' σ' H'->D'.bk σ' H') ->
 (∀ρ' σ' H',D.ct ρ'->Rel K A ρ' σ' H'->cw fx R H0 ρ' σ' H'->D'.ct σ' H')->th ea (aK K c) dd D' σ H
def GX:PTH:=λ_ _ _=>False
noncomputable def Iu(cs:List Str)(c0:Str)(i:Nat)(pb:PTS)(rest:PTH):PTH:=λd D ρ=>match d with
 | .exc c _ _=>cs.contains c=true/\iX (rK c c0) (pb { nx:=λρ'=>D.nx (ρ'.set i none),bk:=λρ'=>D.bk (ρ'.set i none),ct:=λρ'=>D.ct (ρ'.set i none),rt:=D.rt } (ρ.set i (some (.dat d)))) (rest d D ρ)
 | _=>False
section
variable {K:a_}{cs:List Str}{fs:List Nat}{ts:TS}{ps:PTS}{tr:THd}{pr:PTH}{c0:Str}{i:Nat}
def AH:LH K fs (λ_ _ _ _ _ _=>False) GX:=λ_ _ _ _ _ _ _ _ _ _ _ _ _ _ _ _ _ _ _ h _ _ _ _=>h
def E8(X:xz K cs)(h0:c0∈cs\/c0="GlueError")(hi:fs.contains i=false)(hs:LS K fs ts ps)(hr:LH K fs tr pr):LH K fs (hAs K (aK K c0) i ts tr) (Iu cs c0 i ps pr):=λfx A R H0 ρ σ H D D' ea dd c ns ds hf r F hea fv q k1 k2 k3 k4=>by
 obtain⟨hc,q⟩:=(show cs.contains c=true/\_ from q)
 have hc:c∈cs:=w_.mp hc;have ek:=qU X hc h0
 refine⟨aK K "GlueError",X.c c hc,λe=>?_,λe=>?_⟩
 .rw [ek] at e;rw [e] at q;have o:Out K A ρ σ H0 H (.dat (.exc c ns ds)) (.ref ea):=⟨r,fv⟩
  exact hs fx A R H0 _ _ H _ _ hf (o.put (i:=i)).1 (F.put hf hi o.put.2) q (λρ' σ' H' q' r' F'=>k1 _ _ _ q' r'.unset (F'.unset hf hi)) k2 (λρ' σ' H' q' r' F'=>k3 _ _ _ q' r'.unset (F'.unset hf hi)) (λρ' σ' H' q' r' F'=>k4 _ _ _ q' r'.unset (F'.unset hf hi))
 .rw [ek] at e;rw [e] at q;exact hr fx A R H0 ρ σ H D D' ea dd c ns ds hf r F hea fv q k1 k2 k3 k4
end
noncomputable def GY(c:FX)(pa:PTA)(ph:PTH):PTS:=λD ρ=>pa ρ λas ρ1=>match avD as with
 | some ds=>c ds (λ_=>D.nx ρ1) (λd=>ph d D ρ1)
 | none=>False
section
variable {K:a_}{fs:List Nat}{ta:TA}{pa:PTA}{th:THd}{ph:PTH}{c:FX}
def AI(ha:LAs K ta pa)(hh:LH K fs th ph):LS K fs (HJ (λJ=>Fx (Bk (xI (spX K c) J ta)) Bj) th) (GY c pa ph):=λfx A R H0 ρ σ H D D' hf r F q k1 k2 k3 k4=>by
 refine⟨λσ' v dd H'=>∃ρ1 ea d,v=.ref ea/\σ'=σ/\Rel K A ρ1 σ H'/\cw fx R H0 ρ1 σ H'/\XR K (OO A ρ1 σ) H' ea dd d/\ph d D ρ1,?_,λσ' ea dd H' ⟨ρ1,ea',d,ev,es,r1,F1,x1,q1⟩=>?_⟩
 .refine ha A ρ σ H _ _ r q λvs H1 as ρ1 q1 f1 R1 o1=>?_
  split at q1
  .rename_i ds e;exact⟨OO A ρ1 σ,ds,_,_,R1.dom2,o1.avD e,q1,λr qr v H' g ov=>k1 ρ1 σ H' qr (ov.out R1 g).frz.1 ((F.fr f1).fr g.fr),λd qd ea dd H' g n x=>⟨ρ1,ea,d,rfl,rfl,R1.gr g,(F.fr f1).fr g.fr,x,qd⟩⟩
  .exact q1.elim
 .cases ev;subst es;obtain⟨c,ns,ds,rfl,hea,fv⟩:=x1;exact⟨_,hea,hh fx A R H0 ρ1 σ' H' D D' ea dd c ns ds hf r1 F1 hea fv q1 k1 k2 k3 k4⟩
end
section
variable {X:Cx}{st:Stmt}{t:TS}
def PS.nox(h:PS X.nox st t):PS X st t:=λpins s σ H D I hw =>
 D_ (h pins s σ H D (I.wish _) hw) (λf s' hs=>by
  cases f with
  | next=>obtain⟨σ',H',J,q⟩:=hs;exact⟨σ',H',J.unwish,q⟩
  | brk=>obtain⟨σ',H',J,q⟩:=hs;exact⟨σ',H',J.unwish,q⟩
  | cont=>obtain⟨σ',H',J,q⟩:=hs;exact⟨σ',H',J.unwish,q⟩
  | ret u=>obtain⟨v,σ',H',J,r,q⟩:=hs;exact⟨v,σ',H',J.unwish,r,q⟩) λ_ _ z=>z.elim
end
section
variable {P:pj}{w:World}{K:a_}{mg:Str->Option Value}{base:Heap}{x:Str}{st:Stmt}{N ps:List Str}{k:Nat}{sp:Sp}
def aV.okE(D:aV K mg x st)(S:aA N ps (aj st))
  (hb:∀(kV doc pm:Value) (an:Option Addr) (cdv ct:Value) (us:List Value),us.length=ps.length->bindArgs (F_ x x (bK st) (aX st) (aj st) .none kV doc pm an cdv ct) ⟨us,[]⟩=pure (ps.zip us))
  (len:∀vs H Q E,sp vs H Q E->vs.length=ps.length)
  (hbody:∀(f:Addr) (cdv:Value) (A:v_) (outer:List Env) (s:cy) (H:Hp) (vs:List V) (Q:VK) (E:XK),dO k (A.deeper (envOfC x (aj st) s.heap.objs.size f cdv))->sp vs H Q E ->
   ∃t,PSs (mZ (CXe P w) P w K mg base N x (aj st) f cdv A outer s H E) (aX st) t/\t { nx:=λ_ H'=>Q .non H',rt:=Q } (start N vs) H):Dg P w K mg base (k+1) x ps sp:=by
 obtain⟨f,fd,F,hm⟩:=D.ex;refine⟨f,fd,?_,F.binds hb,F.kp,hm⟩;obtain⟨oc,od,kV,doc,pm,an,cdv,ct,osl,rfl,lk,hcd⟩:=F.ex;exact Bv lk hcd S len λA outer s H vs Q E hr hsp=>hbody f cdv A outer s H vs Q E hr hsp
end
def px0{P:pj}{w:World}{X:Cx}:PX (CXe P w) X (λ_=>E0):=λpins σ H s e s' I h=>by
 obtain⟨_,_,_,_,_,_,_,_,_,_,_,_,_,_,z⟩:=h;exact z.elim
abbrev FG(pp:(D->Prop)->PTS)(n:Nat)(ds:List D)(Q:PV->Prop)(E:D->Prop):Prop:=pp E { nx:=λ_=>Q (.dat .non),rt:=λp _=>Q p } (b9 n (ds.map .dat))
section
variable {K:a_}{ts:TS}{ps:(D->Prop)->PTS}
def Iv{c:FX}{n:Nat}(hn:∀ds Q E,c ds Q E->ds.length=n){vs:List V}{H:Hp}{Q:VK}{E:XK}(h:spX K c vs H Q E):vs.length=n:=by
 obtain⟨O,ds,Qc,Ec,_,fv,hq,_⟩:=h;rw [fv.length];exact hn ds Qc Ec hq
def Iw{c:FX}{N:List Str}{vs:List V}{H:Hp}{Q:VK}{E:XK}(hl:∀Ec,LSX K Ec E [] ts (ps Ec))(hn:∀ds Q E,c ds Q E->ds.length<=N.length)(hc:∀ds Q E,c ds Q E->FG ps N.length ds Q E)
  (h:spX K c vs H Q E):ts { nx:=λ_ H'=>Q .non H',rt:=Q } (start N vs) H:=by
 obtain⟨O,ds,Qc,Ec,dom,fv,hq,k,kx⟩:=h
 have nw:∀(ρ:PSt) (b:Addr),ρ=b9 N.length (ds.map .dat)->¬ Wr ρ (start N vs) b:=λρ b e ⟨i,p,e1,o1,s1⟩=>by
  rw [e] at e1;have:=cC e1;rw [k_] at this
  cases e2:ds[i]? with
  | none=>rw [e2] at this;cases this
  | some d=>rw [e2] at this;cases this;cases o1
 have lenv:=fv.length;have hle:=hn ds Qc Ec hq
 have R0:Rel K O (b9 N.length (ds.map .dat)) (start N vs) H:=by
  refine⟨?_,λi p e=>?_,λi j p q v e1 e2 o1 o2 s1 s2=>?_,dom,λb _ w=>nw _ b rfl w⟩
  .unfold b9 start;rw [length_append,length_append,length_map,length_map,length_map,length_replicate,length_replicate,lenv]
  .have:=cC e;rw [k_] at this
   cases e2:ds[i]? with
   | none=>rw [e2] at this;cases this
   | some d =>
    rw [e2] at this;cases this;obtain⟨v,hv,f⟩:=fv.getD e2;exact⟨v,i7 hv,f.keeps (aL.less λb z=>z.elim id λw=>absurd w (nw _ b rfl))⟩
  .have:=cC e1;rw [k_] at this
   cases e3:ds[i]? with
   | none=>rw [e3] at this;cases this
   | some d=>rw [e3] at this;cases this;cases o1
 refine hl Ec [] O (λ_=>False) H _ _ H _ _ rfl R0 ⟨λ_ _ _ h=>h,λ_ h=>h,λb w=>absurd w (nw _ b rfl),λp hp=>nomatch hp⟩ (hc ds Qc Ec hq) (λρ' σ' H' q r F=>?_) (λv p ρ' σ' H' q o F=>?_) (λ_ _ _ z=>z.elim) (λ_ _ _ z=>z.elim) (λρ' σ' H' ea dd d q r F n x=>?_)
 .exact k _ q .non H' (λb o e=>F.kp b o id e) .non
 .exact k _ q v H' (λb o e=>F.kp b o id e) o.outV
 .exact kx d q ea dd H' (λb o e=>F.kp b o id e) n (x.keeps (aL.less λb z=>.inl z))
end
def AJ{X:Cx}{c0 cn n:Str}{np pos:Pos}{b0:Stmt}{suite:List Stmt}{rest:List KB}{ts:TS}{tr:THd}(i:Nat)(K:a_)(ek:X.K=K)(hx:XD K (aK K c0))(hm:X.mg cn=some (.ref (aK K c0)))(hN:X.N.Nodup)(hi:X.N[i]?=some n)(hk:X.env.scope.names.lookup n=some .local)(hs:∀e,PSs (X.mk' e).nox (b0::suite) ts)(hr:PH X rest tr)
  (hg:Gl X cn:=by rfl) (hdb:(cn == ("__debug__":Str))=false:=by decide):PH X (.ExceptHandler (some (.Name cn np)) (some n) (b0::suite) pos::rest) (hAs K (aK K c0) i ts tr):=GW K ek hx hm hN hi hk hs hr hg hdb
theorem qV:∀{ds:List Addr}{us:List Value},bD (ds.map V.ref) us->us=ds.map gV
 | [],_,.nil=>rfl
 | d::ds,_,.cons (l₂:=us) r rs=>by
  rw [qV rs];cases (show _=gV d from r);rfl
noncomputable def CJ(K:a_):List V->Hp->VK->Prop:=λxs H Q=>∃a C G dd new p ds b,xs=[.ref a,.ref p]/\H a=some (.ext (XAt a C dd new))/\XC K C G/\H p=some (.tup (MS V.ref ds))/\JQ K (.ref C) (MS gV ds)=some b/\Q (.bl b) H
section
variable {X:Cx}
def xN:bo X (.builtin "isinstance") (CJ X.K):=by
 intro pins s σ H xs us Q I r h;obtain⟨a,C,G,dd,new,p,ds,b,rfl,ea,c,hp,e,q⟩:=h;obtain⟨u,w',rfl,rx,ry⟩:=rO r;cases (show u=gV a from rx);cases (show w'=gV p from ry);have ok:=(show bn X.prog X.w H s.heap a (.ext (XAt a C dd new)) from I.hok a _ ea)
 obtain⟨its,rv,⟨⟨cls,d1,data,sl⟩,ho,hc,n,hd⟩,_⟩:=I.tuple (SqT.of hp);simp only at hc hd;subst hc hd;exact PySem.W.kia_tup (oM c) I.kIn ok.1 ho (by rw [qV rv];exact e) (λz=>nomatch z) λtk=>⟨.bl b,H,I.tok _,rfl,q⟩
def AK(K:a_)(e:X.K=K):bo X (.builtin "isinstance") (CJ K):=by subst e;exact xN
end
noncomputable def zE:List Addr->TA
 | []=>dQ
 | a::r=>aU (tC (.ref a)) (zE r)
theorem qW{σ:St}{H:Hp}:∀{ds:List Addr}{Q:List V->Hp->Prop},Q (ds.map V.ref) H->zE ds σ H Q
 | [],Q,h=>h
 | d::ds,Q,h=>by
  show zE ds σ H λvs H2=>Q (V.ref d::vs) H2;exact qW h
theorem xO{K:a_}{cs:List Str}(X:xz K cs){c:Str}(hc:c∈cs):∀{ds:List Str},(∀d∈ds,d∈cs\/d="GlueError")->JQ K (.ref (aK K c)) (MS gV (ds.map (aK K)))=some (ds.any (rK c))
 | [],_=>rfl
 | d::ds,h=>by
  have ih:=xO X hc (ds:=ds) λx hx=>h x (q_ _ hx);show (match IK K (.ref (aK K c)) (.ref (aK K d)) with|some true=>some true|some false=>JQ K (.ref (aK K c)) (MS gV (ds.map (aK K)))|none=>none)=_;rw [xB X hc (h d (mem_cons_self ..)),any_cons]
  cases rK c d with
  | true=>rfl
  | false=>rw [Mn];exact ih
noncomputable def GZ(cs ds:List Str)(pa:PA1):PTE:=λρ Q=>pa ρ λx ρ1=>match cont ρ1 x with
 | some (.exc c _ _)=>cs.contains c=true/\Q (.dat (.bl (ds.any (rK c)))) ρ1
 | _=>False
section
variable {K:a_}{te:TE}{pe:PA1}{cs:List Str}
def xP(ds:List Str)(X:xz K cs)(hd:ds.all (λd=>cs.contains d || decide (d="GlueError"))=true)(hz:ds.length<=1000)(h:LA1 K te pe):LE K (tCB (CJ K) (aU te (aU (DG (zE (ds.map (aK K)))) dQ))) (GZ cs ds pe):=λA ρ σ H Q Q' R q k=>h A ρ σ H _ _ R q λv H1 a ρ1 q1 f1 R1 o1=>by
 split at q1
 .rename_i c ns es e;obtain⟨hc,q1⟩:=q1;have hc:c∈cs:=w_.mp hc
  have ek:=xO X hc (ds:=ds) λd hd'=>by
   have:=Jw.mp hd d hd'
   rcases or_eq_true_iff.mp this with z|z
   .exact .inl (w_.mp z)
   .exact .inr (of_decide_eq_true z)
  refine qW ⟨by rw [length_map,length_map];exact IG hz (by decide),λp hp=>?_⟩;have g:Gr H1 (upd H1 p (.tup ((ds.map (aK K)).map V.ref))):=Gr.new hp;have fin:Q' (.bl (ds.any (rK c))) (upd H1 p (.tup ((ds.map (aK K)).map V.ref))):=k _ _ _ ρ1 q1 (f1.trans g.fr) ⟨R1.gr g,.bl _⟩
  cases (R1.cont o1 e).exc with
  | exc0 n1 e1=>exact⟨_,_,_,_,_,p,_,_,rfl,g _ _ e1,X.c c hc,aB,ek,fin⟩
  | exc1 n1 n2 e1 e2 m f=>exact⟨_,_,_,_,_,p,_,_,rfl,g _ _ e1,X.c c hc,aB,ek,fin⟩
 .exact q1.elim
end
def xQ(d:D):(PV.dat d).d=d:=rfl
def xR(ds:List D):(PV.own ds).d=.lst ds:=rfl
def xS(c:Str)(ns:List Str)(ds:List D):(PV.ins c ns ds).d=.obj c ns ds:=rfl
def E9(ds:List D):mkL false ds=.own ds:=rfl
def Fa(ds:List D):mkL true ds=.dat (.tup ds):=rfl
noncomputable def pkm(ρ:PSt)(j:Nat):Option PV:=match ρ[j]? with
 | some v=>v
 | none=>none
def uG(v:Option PV)(r:PSt):pkm (v::r) 0=v:=rfl
def uH(v:Option PV)(r:PSt)(n:Nat):pkm (v::r) (n+1)=pkm r n:=rfl
def qX(ρ:PSt):bw [] ρ=[]:=rfl
def ng(ix:List (Option Nat))(ρ:PSt):bw (none::ix) ρ=none::bw ix ρ:=rfl
def nh(j:Nat)(ix:List (Option Nat))(ρ:PSt):bw (some j::ix) ρ=pkm ρ j::bw ix ρ:=rfl
def qY(j:Nat)(ix:List (Option Nat))(ρ:PSt)(t:Option PV)(τ:PSt):dP (some j::ix) ρ (t::τ)=dP ix (ρ.set j t) τ:=rfl
def qZ(ix:List (Option Nat))(ρ:PSt)(t:Option PV)(τ:PSt):dP (none::ix) ρ (t::τ)=dP ix ρ τ:=rfl
def uI(ρ τ:PSt):dP [] ρ τ=ρ:=rfl
noncomputable def Ix(pe:PTE):PTE:=λρ Q=>pe ρ λp ρ1=>Q (.dat p.d) ρ1
def AL{K:a_}{ta:TE}{pe:PTE}(h:LE K ta pe):LE K ta (Ix pe):=λA ρ σ H Q Q' R q k=>h A ρ σ H _ Q' R q λv H' p ρ' q f o=>k v H' (.dat p.d) ρ' q f o.frz
def iK{α:Type}{e:α->D}{xs:List α}{k:Nat}(h:k<xs.length):itD (xs.map e) k=e xs[k]:=qH (by rw [k_,c_ h];rfl)
def xT{α β:Type}(f:α->β)(xs:List α)(g:Nat->β)(h:∀k (hk:k<xs.length),g k=f xs[k]):(g_ xs.length).map g=xs.map f:=by
 apply Kt;intro i;rw [k_,k_]
 by_cases hi:i<xs.length
 .rw [IU hi,c_ hi];exact congrArg some (h i hi)
 .rw [we (by rw [IF];omega),we (by omega)];rfl
section
variable {α:Type}{e:α->D}{xs:List α}{ix:List (Option Nat)}{ρ1:PSt}{g:PTG}{pt:PTT}{pe:PTE}{Q:PKt}
def Iy(T:PSt->Prop)(f:α->Option D)(h0:T (bw ix ρ1))
  (hs:∀x∈xs,∀τ,T τ->∀(K1:D->PSt->Prop) (K2:PSt->Prop),(∀d τ',f x=some d->T τ'->K1 d τ')->(∀τ',f x=none->T τ'->K2 τ')->g (.dat (e x)) τ λτ2=>pt τ2 λok τ3=>iX ok (pe τ3 λp τ4=>K1 p.d τ4) (K2 τ3))
  (hq:∀τ,T τ->Q (.own (xs.filterMap f)) (dP ix ρ1 τ)):mr ix ρ1 (xs.map e).length (itD (xs.map e)) g pt pe Q:=by
 refine cfm T (λk=>(xs[k]?).bind f) h0 (λk τ d hk ed t K1 K2 k1 k2=>?_) λτ t=>?_
 .rw [length_map] at hk;rw [iK hk] at ed;subst ed;have eg:(xs[k]?).bind f=f xs[k]:=by rw [c_ hk];rfl
  rw [eg] at k1 k2;exact hs _ (IY hk) τ t K1 K2 k1 k2
 .have e1:(g_ (xs.map e).length).filterMap (λk=>(xs[k]?).bind f)=xs.filterMap f:=by
   rw [length_map];have h1:(g_ xs.length).map (λk=>(xs[k]?).bind f)=xs.map f:=xT f xs _ λk hk=>by rw [c_ hk];rfl
   have h2:∀l:List Nat,l.filterMap (λk=>(xs[k]?).bind f)=(l.map λk=>(xs[k]?).bind f).filterMap id:=λl=>by rw [Mg];rfl
   rw [h2,h1,Mg];rfl
  rw [e1];exact hq τ t
def Fb(T:PSt->Prop)(f:α->D)(h0:T (bw ix ρ1))
  (hs:∀x∈xs,∀τ,T τ->∀K1:D->PSt->Prop,(∀τ',T τ'->K1 (f x) τ')->g (.dat (e x)) τ λτ2=>pe τ2 λp τ4=>K1 p.d τ4)
  (hq:∀τ,T τ->Q (.own (xs.map f)) (dP ix ρ1 τ)):mr ix ρ1 (xs.map e).length (itD (xs.map e)) g Ak pe Q:=by
 refine Iy T (λx=>some (f x)) h0 (λx hx τ t K1 K2 k1 k2=>?_) λτ t=>?_
 .exact hs x hx τ t K1 λτ' t'=>k1 _ τ' rfl t'
 .rw [show xs.filterMap (λx=>some (f x))=xs.map f by rw [<- filterMap_eq_map];rfl];exact hq τ t
def cm1(f:α->D)
  (hs:∀x∈xs,∀(v:Option PV) (K1:D->PSt->Prop),(∀v',K1 (f x) (v'::(bw ix ρ1).tail))->g (.dat (e x)) (v::(bw ix ρ1).tail) λτ2=>pe τ2 λp τ4=>K1 p.d τ4)
  (hq:∀v:Option PV,Q (.own (xs.map f)) (dP ix ρ1 (v::(bw ix ρ1).tail))) (hx:bw ix ρ1=none::(bw ix ρ1).tail:=by rfl):mr ix ρ1 (xs.map e).length (itD (xs.map e)) g Ak pe Q:=by
 refine Fb (λτ=>∃v,τ=v::(bw ix ρ1).tail) f ⟨none,hx⟩ ?_ ?_
 .rintro x hx τ ⟨v,rfl⟩ K1 k1;exact hs x hx v K1 λv'=>k1 _ ⟨v',rfl⟩
 .rintro τ ⟨v,rfl⟩;exact hq v
end
def cfR{ix:List (Option Nat)}{ρ1:PSt}{g:PTG}{pt:PTT}{pe:PTE}{Q:PKt}{n:Nat}{it:Nat->D}(p:Nat->Bool)(f:Nat->D)
  (hs:∀k,k<n->∀(v:Option PV) (K1:D->PSt->Prop) (K2:PSt->Prop),(∀v',p k=true->K1 (f k) (v'::(bw ix ρ1).tail))->(∀v',p k=false->K2 (v'::(bw ix ρ1).tail))->g (.dat (it k)) (v::(bw ix ρ1).tail) λτ2=>pt τ2 λok τ3=>iX ok (pe τ3 λp τ4=>K1 p.d τ4) (K2 τ3))
  (hq:∀v:Option PV,Q (.own (((g_ n).filter p).map f)) (dP ix ρ1 (v::(bw ix ρ1).tail))) (hx:bw ix ρ1=none::(bw ix ρ1).tail:=by rfl):mr ix ρ1 n it g pt pe Q:=by
 refine cfm (λτ=>∃v,τ=v::(bw ix ρ1).tail) (λk=>if p k=true then some (f k) else none) ⟨none,hx⟩ ?_ ?_
 .rintro k τ d hk rfl ⟨v,rfl⟩ K1 K2 k1 k2;exact hs k hk v K1 K2 (λv' h=>k1 _ _ (by rw [if_pos h]) ⟨v',rfl⟩) λv' h=>k2 _ (by rw [if_neg (by rw [h];decide)]) ⟨v',rfl⟩
 .rintro τ ⟨v,rfl⟩;rw [jb];exact hq v
section
variable {α:Type}{e:α->D}{xs:List α}{ρ1:PSt}{g:PTG}{pb:PTS}{nx bk:PSt->Prop}{rt:PV->PSt->Prop}
def FH(J:List α->PSt->Prop)(h0:J [] ρ1)
  (hs:∀pre x suf ρ,xs=pre++x::suf->J pre ρ->g (.dat (e x)) ρ λρ2=>pb { nx:=J (pre++[x]),rt:=rt,bk:=bk,ct:=J (pre++[x]) } ρ2) (hq:∀ρ,J xs ρ->nx ρ) :
  ∃I:Nat->PSt->Prop,I 0 ρ1/\(∀k ρ d,k<(xs.map e).length->d=itD (xs.map e) k->I k ρ->g (.dat d) ρ λρ2=>pb { nx:=I (k+1),rt:=rt,bk:=bk,ct:=I (k+1) } ρ2)/\∀ρ,I (xs.map e).length ρ->nx ρ:=by
 refine⟨λk ρ=>J (xs.take k) ρ,by show J (xs.take 0) ρ1;rw [take_zero];exact h0,λk ρ d hk ed hJ=>?_,λρ h=>hq ρ (by have h:J (xs.take (xs.map e).length) ρ:=h;rw [length_map,take_length] at h;exact h)⟩;rw [length_map] at hk;rw [iK hk] at ed;subst ed;have ht:xs.take (k+1)=xs.take k++[xs[k]]:=by rw [M2,c_ hk];rfl
 show g _ ρ λρ2=>pb { nx:=J (xs.take (k+1)),rt:=rt,bk:=bk,ct:=J (xs.take (k+1)) } ρ2;rw [ht];exact hs _ _ (xs.drop (k+1)) ρ (by rw [getElem_cons_drop,Jr]) hJ
def HK{it:Nat->D}(J:List α->PSt->Prop)(h0:J [] ρ1)
  (hs:∀pre x suf ρ,xs=pre++x::suf->J pre ρ->g (.dat (.tup [.int (pre.length:Int),e x])) ρ λρ2=>pb { nx:=J (pre++[x]),rt:=rt,bk:=bk,ct:=J (pre++[x]) } ρ2) (hq:∀ρ,J xs ρ->nx ρ)
  (hit:∀k,it k=.tup [.int (k:Int),itD (xs.map e) k]:=by intro k;rfl) :
  ∃I:Nat->PSt->Prop,I 0 ρ1/\(∀k ρ d,k<(xs.map e).length->d=it k->I k ρ->g (.dat d) ρ λρ2=>pb { nx:=I (k+1),rt:=rt,bk:=bk,ct:=I (k+1) } ρ2)/\∀ρ,I (xs.map e).length ρ->nx ρ:=by
 refine⟨λk ρ=>J (xs.take k) ρ,by show J (xs.take 0) ρ1;rw [take_zero];exact h0,λk ρ d hk ed hJ=>?_,λρ h=>hq ρ (by have h:J (xs.take (xs.map e).length) ρ:=h;rw [length_map,take_length] at h;exact h)⟩;rw [length_map] at hk;rw [hit,iK hk] at ed;subst ed;have ht:xs.take (k+1)=xs.take k++[xs[k]]:=by rw [M2,c_ hk];rfl
 show g _ ρ λρ2=>pb { nx:=J (xs.take (k+1)),rt:=rt,bk:=bk,ct:=J (xs.take (k+1)) } ρ2;rw [ht];have hl:(xs.take k).length=k:=by rw [length_take];omega
 have:=hs (xs.take k) xs[k] (xs.drop (k+1)) ρ (by rw [getElem_cons_drop,Jr]) hJ;rw [hl] at this;exact this
end
def sB{α:Type}(f:α->List Nat)(xs:List α):xs.map (λx=>D.str (f x))=(xs.map f).map D.str:=by rw [map_map];rfl
def sC{t w:List Nat}{k:Nat}:stA t w k=true ↔ ∃a b,t=a++w++b/\a.length=k:=by
 unfold stA;rw [decide_eq_true_eq]
 constructor
 .rintro⟨h1,h2⟩;refine⟨t.take k,t.drop (k+w.length),?_,by rw [length_take];omega⟩
  have h3:t.drop k=w++t.drop (k+w.length):=by
   conv=>lhs;rw [<- Jr w.length (t.drop k),h2,drop_drop]
  rw [append_assoc,<- h3,Jr]
 .rintro⟨a,b,rfl,rfl⟩;refine⟨by rw [length_append,length_append];omega,?_⟩;rw [append_assoc,drop_left,take_left]
def q0{a b:List Nat}:hG a b=true ↔ a <:+: b:=by
 rw [lm]
 constructor
 .rintro⟨k,hk⟩;obtain⟨u,v,e,_⟩:=sC.mp hk;exact⟨u,v,e.symm⟩
 .rintro⟨u,v,e⟩;exact⟨u.length,sC.mpr ⟨u,v,e.symm,rfl⟩⟩
def CK{a b:List Nat}:hG a b=true ↔ 0<=fnd b a 0:=by unfold hG;exact decide_eq_true_iff
def zF{a b:List Nat}:hG a b=false ↔ fnd b a 0<0:=by
 unfold hG;rw [decide_eq_false_iff_not];omega
def zG{a b t:List Nat}{k:Nat}(h:qP a b k)(ht:a <:+ t):b <:+ t++b.drop k:=by
 obtain⟨u,hu⟩:=List.IsSuffix.trans h.2.1 ht;refine⟨u,?_⟩;rw [<- hu,append_assoc,Jr]
def xU{α β:Type}(f:α->β)(xs:List α)(i:Nat):(xs.map f).eraseIdx i=(xs.eraseIdx i).map f:=by
 rw [eraseIdx_eq_take_drop_succ,eraseIdx_eq_take_drop_succ,map_append,map_take,map_drop]
def xV{α:Type}{js:List α}{i:Nat}(h:i<js.length):(js.eraseIdx i++[js[i]]).Perm js:=by
 rw [eraseIdx_eq_take_drop_succ,append_assoc];have e:js=js.take i++(js[i]::js.drop (i+1)):=by rw [getElem_cons_drop,Jr]
 conv=>rhs;rw [e]
 exact List.Perm.append_left _ (perm_append_singleton _ _)
def HL{n i:Nat}(h:i<n):ixN n (i:Int)=some i:=by
 unfold ixN;rw [if_pos (by omega),if_pos (by omega),B_]
end L2
namespace L2
open PySem PySem.W PyProof.Rows
section
variable {n:Nat}{r:Nat->Nat}{cmp:Nat->Nat->(Bool->cy->Prop)->cy->Prop}{s:cy}
noncomputable def Ans(n:Nat)(r:Nat->Nat)(cmp:Nat->Nat->(Bool->cy->Prop)->cy->Prop)(s:cy):Prop :=
 ∀(i j:Nat) (C:Bool->cy->Prop),i<n->j<n->C (decide (r i<r j)) s->cmp i j C s
noncomputable def kk(r:Nat->Nat)(p:Array Nat)(i:Nat):Nat:=r (p.getD i 0)
noncomputable def Pm(n:Nat)(p:Array Nat):Prop:=p.toList.Perm (g_ n)
def Pm.size{p:Array Nat}(h:Pm n p):p.size=n:=by
 have:=List.Perm.length_eq h;rw [I_,IF] at this;exact this
def Pm.lt{p:Array Nat}(h:Pm n p){i:Nat}(hi:i<n):p.getD i 0<n:=by
 have hs:=h.size;have e:p.getD i 0=p[i]'(by omega):=by simp [Array.getD,hs,hi]
 rw [e];exact IZ.mp (h.mem_iff.mp (Array.getElem_mem_toList (by omega)))
def fh{p:Array Nat}(i:Nat):p.getD i 0=(p[i]?).getD 0:=by
 simp [Array.getD_eq_getD_getElem?]
def Pm.rev{p:Array Nat}(h:Pm n p)(i j:Nat):Pm n (kas_rev p i j):=by
 have:=(mirror_perm p i j ((j - i) / 2))
 exact (L5.mp this).trans h
def Pm.bub{p:Array Nat}(h:Pm n p)(i j:Nat):Pm n (bubble p i j):=(L5.mp (bubble_perm p i j)).trans h
def xW{p:Array Nat}{i j:Nat}(hj:j<=p.size)(k:Nat):kk r (kas_rev p i j) k=if i<=k/\k<j then kk r p (i+j - 1 - k) else kk r p k:=by
 unfold kk kas_rev;rw [fh,fh,fh,getElem?_mirror_all hj];split <;> rfl
def AM{p:Array Nat}{k d:Nat}(hs:k<p.size)(hd:d<=k)(i:Nat):kk r (bubble p k d) i=if i=k - d then kk r p k else if k - d<i/\i<=k then kk r p (i - 1) else kk r p i:=by
 unfold kk;rw [fh,fh,fh,fh,getElem?_bubble hs d hd]
 repeat' split
 all_goals rfl
noncomputable def Up(r:Nat->Nat)(p:Array Nat)(k:Nat):Prop:=∀i j,i<=j->j<k->kk r p i<=kk r p j
noncomputable def Dn(r:Nat->Nat)(p:Array Nat)(k:Nat):Prop:=∀i j,i<=j->j<k->kk r p j<=kk r p i
def Up.succ{p:Array Nat}{k:Nat}(h:Up r p k)(h1:1<=k)(g:kk r p (k - 1)<=kk r p k):Up r p (k+1):=λi j hij hj=>by
 rcases Kg j k with z|z
 .exact h i j hij z
 .have:j=k:=by omega
  subst this
  rcases Kg i j with y|y
  .exact IG (h i (j - 1) (by omega) (by omega)) g
  .have:i=j:=by omega
   rw [this];exact pf _
def Dn.succ{p:Array Nat}{k:Nat}(h:Dn r p k)(h1:1<=k)(g:kk r p k<=kk r p (k - 1)):Dn r p (k+1):=λi j hij hj=>by
 rcases Kg j k with z|z
 .exact h i j hij z
 .have:j=k:=by omega
  subst this
  rcases Kg i j with y|y
  .exact IG g (h i (j - 1) (by omega) (by omega))
  .have:i=j:=by omega
   rw [this];exact pf _
def Dn.up{p:Array Nat}{k:Nat}(h:Dn r p k)(hk:k<=p.size):Up r (kas_rev p 0 k) k:=λi j hij hj=>by
 rw [xW hk,xW hk,if_pos ⟨by omega,by omega⟩,if_pos ⟨by omega,by omega⟩];exact h _ _ (by omega) (by omega)
def oQ{p:Array Nat}{a m:Nat}(hm:m<=p.size)(hb:∀k,a<=k->k<m->kk r p k=kk r p (m - 1))(k:Nat):kk r (kas_rev p a m) k=kk r p k:=by
 rw [xW hm]
 split
 .rename_i h;rw [hb k h.1 h.2,hb _ (by omega) (by omega)]
 .rfl
def Dn.same{p p':Array Nat}{k:Nat}(h:Dn r p k)(e:∀i,kk r p' i=kk r p i):Dn r p' k:=λi j hij hj=>by rw [e,e];exact h i j hij hj
def nj{α:Type}{c:Bool}{T₁ T₂:KasT α}{Q:α->cy->Prop}(h1:c=true->T₁.kasWp cmp Q s)(h2:c=false->T₂.kasWp cmp Q s):(if c=true then T₁ else T₂).kasWp cmp Q s:=by
 cases c with
 | true=>exact h1 rfl
 | false=>exact h2 rfl
theorem xX(A:Ans n r cmp s){p:Array Nat}(hp:Pm n p){G:Nat->cy->Prop}:∀(f m:Nat),1<=m->m+f<=n->Up r p m ->
  (∀m',m<=m'->m'<=m+f->Up r p m'->(m'=m+f\/(m'<m+f/\kk r p m'<kk r p (m' - 1)))->G m' s)->(kas_asc p f m).kasWp cmp G s
 | 0,m,h1,hf,hu,k=>k m (pf _) (pf _) hu (.inl rfl)
 | f+1,m,h1,hf,hu,k=>by
  show cmp (p.getD m 0) (p.getD (m - 1) 0) (λc s'=>(if c=true then KasT.ret m else kas_asc p f (m+1)).kasWp cmp G s') s
  refine A _ _ _ (hp.lt (by omega)) (hp.lt (by omega)) (nj (λe=>?_) λe=>?_)
  .exact k m (pf _) (by omega) hu (.inr ⟨by omega,of_decide_eq_true e⟩)
  .have e':¬ (kk r p m<kk r p (m - 1)):=of_decide_eq_false e;exact xX A hp f (m+1) (by omega) (by omega) (hu.succ h1 (by omega)) λm' a b c d=>k m' (by omega) (by omega) c (by omega)
noncomputable def Blk(r:Nat->Nat)(p:Array Nat)(m q:Nat):Prop:=q+1<=m/\∀k,m - (q+1)<=k->k<m->kk r p k=kk r p (m - 1)
theorem oS(A:Ans n r cmp s){G:Array Nat×Nat×Nat->cy->Prop}:∀(f:Nat) (p:Array Nat) (m q:Nat),Pm n p->m+f<=n->Dn r p m->Blk r p m q ->
  (∀p' m' q',Pm n p'->m<=m'->m'<=n->Dn r p' m'->Blk r p' m' q'->G (p',m',q') s)->(kas_desc f p m q).kasWp cmp G s
 | 0,p,m,q,hp,hf,hd,hb,k=>k p m q hp (pf _) (by omega) hd hb
 | f+1,p,m,q,hp,hf,hd,hb,k=>by
  have hb1:=hb.1;have hs:=hp.size
  show cmp (p.getD m 0) (p.getD (m - 1) 0) (λc s'=>(if c=true then (if q > 0 then kas_desc f (kas_rev p (m - (q+1)) m) (m+1) 0 else kas_desc f p (m+1) 0)
   else .ask (p.getD (m - 1) 0) (p.getD m 0) λd=>if d=true then .ret (p,m,q) else kas_desc f p (m+1) (q+1)).kasWp cmp G s') s
  refine A _ _ _ (hp.lt (by omega)) (hp.lt (by omega)) (nj (λe=>?_) λe=>?_)
  .have e':kk r p m<kk r p (m - 1):=of_decide_eq_true e;have B:∀p':Array Nat,Blk r p' (m+1) 0:=λp'=>⟨by omega,λk h1 h2=>by rw [show k=m+1 - 1 by omega]⟩
   split
   .have same:=oQ (r:=r) (p:=p) (a:=m - (q+1)) (m:=m) (by omega) hb.2;refine oS A f _ (m+1) 0 (hp.rev _ _) (by omega) ((hd.same same).succ (by omega) (by rw [same,same];omega)) (B _) λp' m' q' a b c d e=>k p' m' q' a (by omega) c d e
   .exact oS A f p (m+1) 0 hp (by omega) (hd.succ (by omega) (by omega)) (B _) λp' m' q' a b c d e=>k p' m' q' a (by omega) c d e
  .have e':¬ (kk r p m<kk r p (m - 1)):=of_decide_eq_false e;show cmp (p.getD (m - 1) 0) (p.getD m 0) (λd s'=>(if d=true then KasT.ret (p,m,q) else kas_desc f p (m+1) (q+1)).kasWp cmp G s') s
   refine A _ _ _ (hp.lt (by omega)) (hp.lt (by omega)) (nj (λg=>?_) λg=>?_)
   .exact k p m q hp (pf _) (by omega) hd hb
   .have g':¬ (kk r p (m - 1)<kk r p m):=of_decide_eq_false g;refine oS A f p (m+1) (q+1) hp (by omega) (hd.succ (by omega) (by omega)) ⟨by omega,λk h1 h2=>?_⟩ λp' m' q' a b c d e=>k p' m' q' a (by omega) c d e
    rcases Kg k m with z|z
    .rw [hb.2 k (by omega) z,MT];omega
    .rw [show k=m+1 - 1 by omega]
def xY(A:Ans n r cmp s){G:Nat×Array Nat->cy->Prop}{p:Array Nat}{m:Nat}(h1:1<=m)(hm:m<=n)(hp:Pm n p)(hd:Dn r p m)
  (k:∀m' p',1<=m'->m'<=n->Pm n p'->Up r p' m'->G (m',p') s):(kas_tail3 m n p).kasWp cmp G s:=by
 unfold kas_tail3;rw [KD];exact xX A (hp.rev 0 m) (n - m) m h1 (by omega) (hd.up (by rw [hp.size];exact hm)) λm' a b c _=>k m' _ (by omega) (by omega) (hp.rev 0 m) c
def lq(A:Ans n r cmp s){G:Nat×Array Nat->cy->Prop}{p:Array Nat}{m:Nat}(hm:m<n)(hp:Pm n p)(hd:Dn r p (m+1))
  (k:∀m' p',1<=m'->m'<=n->Pm n p'->Up r p' m'->G (m',p') s):(kas_descPart m n p).kasWp cmp G s:=by
 unfold kas_descPart;rw [KD];refine oS A (n - (m+1)) p (m+1) 0 hp (by omega) hd ⟨by omega,λk h1 h2=>by rw [show k=m+1 - 1 by omega]⟩ λp' m' q' a b c d e=>?_
 try dsimp only
 split
 .have same:=oQ (r:=r) (p:=p') (a:=m' - (q'+1)) (m:=m') (by rw [a.size];exact c) e.2;exact xY A (by omega) c (a.rev _ _) (d.same same) k
 .exact xY A (by omega) c a d k
def zH(A:Ans n r cmp s){G:Nat×Array Nat->cy->Prop}{p:Array Nat}(hn:1<=n)(hp:Pm n p)
  (k:∀m' p',1<=m'->m'<=n->Pm n p'->Up r p' m'->G (m',p') s):(kas_count n p).kasWp cmp G s:=by
 unfold kas_count;rw [KD];refine xX A hp (n - 1) 1 (pf _) (by omega) (λi j _ hj=>by rw [show i=0 by omega,show j=0 by omega];exact pf _) λm a b c d=>?_
 try dsimp only
 refine nj (λ_=>k m p a (by omega) hp c) λe=>?_
 have hm:m<n:=by
  have:m≠n:=λz=>by rw [z] at e;simp at e
  omega
 have dd:kk r p m<kk r p (m - 1):=by rcases d with d|d <;> omega
 split
 .rename_i g;show cmp (p.getD 0 0) (p.getD (m - 1) 0) (λc s'=>(if c=true then KasT.ret (m,p) else kas_descPart m n (kas_rev p 0 m)).kasWp cmp G s') s;refine A _ _ _ (hp.lt (by omega)) (hp.lt (by omega)) (nj (λ_=>k m p a (by omega) hp c) λe2=>?_);have e2':¬ (kk r p 0<kk r p (m - 1)):=of_decide_eq_false e2;have hs:=hp.size
  have all:∀i,0<=i->i<m->kk r p i=kk r p (m - 1):=λi _ hi=>by
   have h1:=c 0 i (by omega) hi;have h2:=c i (m - 1) (by omega) (by omega);omega
  have same:=oQ (r:=r) (p:=p) (a:=0) (m:=m) (by omega) all;refine lq A hm (hp.rev _ _) (Dn.succ (λi j hij hj=>?_) a (by rw [same,same];omega)) k;rw [same,same,all i (by omega) (by omega),all j (by omega) (by omega)];exact pf _
 .refine lq A hm hp (Dn.succ (λi j _ hj=>?_) a (by omega)) k;rw [show i=0 by omega,show j=0 by omega];exact pf _
theorem oU(A:Ans n r cmp s){G:Nat->cy->Prop}{p:Array Nat}{k:Nat}(hk:k<n)(hp:Pm n p)(hu:Up r p k)
  (g:∀l,l<=k->(∀i,i<l->kk r p i<=kk r p k)->(∀i,l<=i->i<k->kk r p k<kk r p i)->G l s):∀(f l h:Nat),h - l<=f->l<=h->h<=k->(∀i,i<l->kk r p i<=kk r p k)->(∀i,h<=i->i<k->kk r p k<kk r p i)->(kas_place p k f l h).kasWp cmp G s
 | 0,l,h,hf,hl,hh,a,b=>g l (by omega) a λi h1 h2=>b i (by omega) h2
 | f+1,l,h,hf,hl,hh,a,b=>by
  unfold kas_place
  split
  .exact g l (by omega) a λi h1 h2=>b i (by omega) h2
  .show cmp (p.getD k 0) (p.getD ((l+h) / 2) 0) (λc s'=>(if c=true then kas_place p k f l ((l+h) / 2) else kas_place p k f ((l+h) / 2+1) h).kasWp cmp G s') s
   refine A _ _ _ (hp.lt (by omega)) (hp.lt (by omega)) (nj (λe=>?_) λe=>?_)
   .have e':kk r p k<kk r p ((l+h) / 2):=of_decide_eq_true e;refine oU A hk hp hu g f l _ (by omega) (by omega) (by omega) a λi h1 h2=>?_;have:=hu _ i h1 h2;omega
   .have e':¬ (kk r p k<kk r p ((l+h) / 2)):=of_decide_eq_false e;refine oU A hk hp hu g f _ h (by omega) (by omega) hh (λi h1=>?_) b;have:=hu i ((l+h) / 2) (by omega) (by omega);omega
theorem AN(A:Ans n r cmp s){G:Array Nat->cy->Prop}(g:∀p,Pm n p->Up r p n->G p s):∀(f:Nat) (p:Array Nat) (k:Nat),Pm n p->k+f=n->Up r p k->(kas_bin f p k).kasWp cmp G s
 | 0,p,k,hp,hf,hu=>g p hp (by rw [show n=k by omega];exact hu)
 | f+1,p,k,hp,hf,hu=>by
  show ((kas_place p k k 0 k).bind λl=>kas_bin f (bubble p k (k - l)) (k+1)).kasWp cmp G s;rw [KD];refine oU A (by omega) hp hu (λl hl a b=>?_) k 0 k (by omega) (by omega) (pf _) (λi h=>by omega) λi h1 h2=>by omega
  refine AN A g f _ (k+1) (hp.bub _ _) (by omega) λi j hij hj=>?_;have hs:=hp.size;rw [AM (by omega) (by omega),AM (by omega) (by omega),show k - (k - l)=l by omega]
  split
  .rename_i h1
   split
   .exact pf _
   .split
    .exact MO (b _ (by omega) (by omega))
    .omega
  .rename_i h1
   split
   .rename_i h2;rw [if_neg (by omega)];rw [if_pos ⟨by omega,by omega⟩];exact hu _ _ (by omega) (by omega)
   .rename_i h2
    split
    .exact a i (by omega)
    .split
     .exact hu _ _ (by omega) (by omega)
     .exact hu _ _ (by omega) (by omega)
def CL(A:Ans n r cmp s)(hn:1<=n){G:Array Nat->cy->Prop}(g:∀p,Pm n p->Up r p n->G p s):(kas_sort n).kasWp cmp G s:=by
 unfold kas_sort;rw [KD];refine zH A hn (show Pm n (List.toArray (g_ n)) from L6 _) λm p h1 h2 hp hu=>?_
 try dsimp only
 split
 .rw [show max m 1=m by omega];exact AN A g (n - m) p m hp (by omega) hu
 .exact g p hp (by rw [show n=m by omega];exact hu)
end
end L2
namespace L2
open PySem PySem.Spec PyProof.Rows
noncomputable def lxB:List Int->List Int->Bool
 | [],[]=>false
 | [],_::_=>true
 | _::_,[]=>false
 | x::xs,y::ys=>if x=y then lxB xs ys else decide (x<y)
def uJ{x y:Int}{xs ys:List Int}:lxB (x::xs) (y::ys)=true ↔ x<y\/(x=y/\lxB xs ys=true):=by
 show (if x=y then lxB xs ys else decide (x<y))=true ↔ _
 split
 .rename_i h;subst h;simp
 .rename_i h;simp [h]
theorem AO:∀xs:List Int,lxB xs xs=false
 | []=>rfl
 | x::xs=>by show (if x=x then lxB xs xs else _)=false;rw [if_pos rfl];exact AO xs
theorem Fc:∀{xs ys zs:List Int},lxB xs ys=true->lxB ys zs=true->lxB xs zs=true
 | [],[],_,h,_=>by cases h
 | [],_::_,[],_,h=>by cases h
 | [],_::_,_::_,_,_=>rfl
 | _::_,[],_,h,_=>by cases h
 | _::_,_::_,[],_,h=>by cases h
 | x::xs,y::ys,z::zs,h1,h2=>by
  rw [uJ] at h1 h2 ⊢
  rcases h1 with a|⟨rfl,a⟩
  .rcases h2 with b|⟨rfl,b⟩
   .left;omega
   .left;exact a
  .rcases h2 with b|⟨rfl,b⟩
   .left;exact b
   .right;exact⟨rfl,Fc a b⟩
theorem AQ:∀{xs ys:List Int},lxB xs ys=false->lxB ys xs=false->xs=ys
 | [],[],_,_=>rfl
 | [],_::_,h,_=>by cases h
 | _::_,[],_,h=>by cases h
 | x::xs,y::ys,h1,h2=>by
  have a:¬ (x<y\/(x=y/\lxB xs ys=true)):=λz=>by rw [uJ.mpr z] at h1;cases h1
  have b:¬ (y<x\/(y=x/\lxB ys xs=true)):=λz=>by rw [uJ.mpr z] at h2;cases h2
  have e:x=y:=by omega
  subst e
  have a':lxB xs ys=false:=by
   cases g:lxB xs ys with
   | false=>rfl
   | true=>exact absurd (.inr ⟨rfl,g⟩) a
  have b':lxB ys xs=false:=by
   cases g:lxB ys xs with
   | false=>rfl
   | true=>exact absurd (.inr ⟨rfl,g⟩) b
  rw [AQ a' b']
theorem AR{α:Type}{p q:α->Bool}:∀{l:List α},(∀x∈l,p x=true->q x=true)->l.countP p<=l.countP q
 | [],_=>pf _
 | a::l,h=>by
  have ih:=AR (l:=l) λx hx=>h x (q_ _ hx);rw [MU,MU];have:=h a (mem_cons_self ..)
  cases e:p a with
  | false=>simp only [false_eq_true,if_false];omega
  | true=>rw [this e];simp only [if_true];omega
theorem AS{α:Type}{p q:α->Bool}{y:α}(hp:p y=false)(hq:q y=true):∀{l:List α},y∈l->(∀x∈l,p x=true->q x=true)->l.countP p<l.countP q
 | [],hy,_=>by cases hy
 | a::l,hy,h=>by
  have h':∀x∈l,p x=true->q x=true:=λx hx=>h x (q_ _ hx);rw [MU,MU]
  rcases mem_cons.mp hy with rfl|z
  .have:=AR h';rw [hp,hq];simp only [false_eq_true,if_false,if_true];omega
  .have ih:=AS hp hq z h';have:=h a (mem_cons_self ..)
   cases e:p a with
   | false=>simp only [false_eq_true,if_false];omega
   | true=>rw [this e];simp only [if_true];omega
noncomputable def rkL(rows:List (List Int))(i:Nat):Nat:=rows.countP λr=>lxB r (rows.getD i [])
def AT{rows:List (List Int)}{i j:Nat}(hi:i<rows.length)(hj:j<rows.length):lxB (rows.getD i []) (rows.getD j [])=decide (rkL rows i<rkL rows j):=by
 have mem:∀{i},i<rows.length->rows.getD i []∈rows:=λ{i} h=>by
  rw [d_,c_ h];exact IY h
 have one:∀{i j},i<rows.length->lxB (rows.getD i []) (rows.getD j [])=true->rkL rows i<rkL rows j:=λ{i j} hi e =>
  AS (p:=λr=>lxB r (rows.getD i [])) (q:=λr=>lxB r (rows.getD j [])) (y:=rows.getD i []) (AO _) e (mem hi) λx _ hx=>Fc (ys:=rows.getD i []) hx e
 cases e:lxB (rows.getD i []) (rows.getD j []) with
 | true=>rw [decide_eq_true (one hi e)]
 | false =>
  symm;refine decide_eq_false ?_
  cases g:lxB (rows.getD j []) (rows.getD i []) with
  | true=>have:=one hj g;omega
  | false =>
   have z:=AQ e g;unfold rkL;rw [z];exact IV _
section
variable {prog:pj}{w:World}{A:v_}{E:Value->cy->Prop}{s:cy}
noncomputable def CM(h:Heap)(a:Addr)(r:List Int):Prop:=r≠[]/\∃o xs n,h.get? a=some o/\o.cls=.type "tuple"/\o.data=.seq xs n/\KC xs.toList r
def lr{vs:List Value}{ns:List Int}(h:KC vs ns):vs.length=ns.length:=by
 induction h with
 | nil=>rfl
 | cons n t _ ih=>rw [length_cons,length_cons,ih]
theorem AU{b:Bool}{Q:Bool->cy->Prop}:∀{us vs:List Value}{xs ys:List Int}{i:Nat}{fin:Bool},KC us xs->KC vs ys->fin=decide (xs.length<ys.length)->Q (lxB xs ys) s->PySem.W.KatLex prog w A b fin Q (us.zip vs) i s
 | _,_,_,_,i,fin,.nil,.nil,hf,h=>by subst hf;exact h
 | _,_,_,_,i,fin,.nil,.cons n t _,hf,h=>by
  subst hf;show Q (decide (0<_+1)) s;rw [decide_eq_true (succ_pos _)];exact h
 | _,_,_,_,i,fin,.cons n t _,.nil,hf,h=>by
  subst hf;show Q (decide (_+1<0)) s;rw [decide_eq_false (Lw _)];exact h
 | _,_,n::xs,m::ys,i,fin,.cons _ t a,.cons _ u c,hf,h=>by
  rw [zip_cons_cons];refine PySem.W.kat_cons (wpAny_eqBool_int ?_)
  refine PySem.W.kat_go (λe=>PySem.W.kat_yes ?_) λe=>PySem.W.kat_no ?_
  .have e':n=m:=by simpa using e
   refine AU a c ?_ ?_
   .rw [hf,length_cons,length_cons];exact decide_eq_decide.mpr (by omega)
   .have:lxB (n::xs) (m::ys)=lxB xs ys:=if_pos e';rw [this] at h;exact h
  .have e':¬ n=m:=by simpa using e
   have:lxB (n::xs) (m::ys)=decide (n<m):=if_neg e';rw [this] at h
   cases g:(b && i == 0) with
   | true=>exact oneLt_int h
   | false=>exact PySem.W.kat_one _ _ (lt_int h)
def Fd{i j:Nat}{x y:Addr}{r q:List Int}{vs:List Value}{b:Bool}{C:Bool->cy->Prop}(hx:vs.getD i IJ=.ref x)(hy:vs.getD j IJ=.ref y)(tx:CM s.heap x r)(ty:CM s.heap y q)(h:C (lxB r q) s) :
  PySem.W.kas_ask prog w A (tuples' b) vs i j C s:=by
 obtain⟨_,o,xs,n,e1,_,d1,i1⟩:=tx;obtain⟨_,o2,ys,n2,e2,_,d2,i2⟩:=ty;unfold PySem.W.kas_ask;rw [hx,hy];refine PySem.W.kat_lt e1 d1 e2 d2 (AU i1 i2 ?_ h);rw [<- lr i1,<- lr i2,I_,I_]
theorem xZ{h:Heap}:∀{prs:List (Addr×List Int)},(∀pr∈prs,CM h pr.1 pr.2)->∃fs:List Value,fs.length=prs.length/\(∀v∈fs,∃i t,v=La i t)/\PySem.W.KatTups h (prs.map λpr=>gV pr.1) fs
 | [],_=>⟨[],rfl,nofun,trivial⟩
 | pr::prs,hh=>by
  obtain⟨fs,hl,hi,ht⟩:=xZ (prs:=prs) λq hq=>hh q (q_ _ hq);obtain⟨ne,o,xs,n,e,c,d,ia⟩:=hh pr (mem_cons_self ..);obtain⟨a,l⟩:=pr;dsimp only at ne e ia;obtain⟨xl⟩:=xs;have ia:KC xl l:=ia
  match xl,l,ia,ne,d with
  | _,_,.nil,ne,_=>exact absurd rfl ne
  | .int i t::vs,_,.cons _ _ r,_,d =>
   refine⟨.int i t::fs,by rw [length_cons,length_cons,hl],λv hv=>?_,PySem.W.KatTups.cons e c d (by simp) ht⟩
   rcases mem_cons.mp hv with rfl|hv
   .exact⟨i,t,rfl⟩
   .exact hi v hv
def oV{a:Addr}{prs:List (Addr×List Int)}{n:Nat}{P:Fin->cy->Prop}(ho:s.heap.get? a=some (seqObj "list" (prs.map λpr=>gV pr.1).toArray n))(ht:∀pr∈prs,CM s.heap pr.1 pr.2)(h64:prs.length<64)
  (h:∀prs':List (Addr×List Int),prs'.Perm prs->prs'.Pairwise (λx y=>lxB y.2 x.2=false)->P (.done (.ret .none)) { s with heap:=sortedHeap s.heap a (prs.map λpr=>gV pr.1) (prs'.map λpr=>gV pr.1).toArray }) :
  wpAny (model prog w) A (JW.«list.sort» ⟨[.ref a],[]⟩) P E s:=by
 rw [list_sort_plain];have ha:a<s.heap.objs.size:=m_ ho;generalize hvs:(prs.map λpr=>gV pr.1)=vs at ho h;have hlen:vs.length=prs.length:=by rw [<- hvs,length_map]
 refine b_ (listItems_at ho rfl ?_);refine b_ (Ml ho rfl ?_ (by rw [size_toArray,JB];omega) (IE _));obtain⟨e1,ho1⟩:∃e1,(s.heap.update a (IP λ_=>#[])).get? a=some (seqObj "list" #[] e1):=⟨_,get?_update_seq ho (λ_=>#[])⟩
 refine b_ (seqEpoch_at ho1 rfl ?_);refine b_ (wpAny_newTuple ?_ (by show vs.length<=_;rw [JB];omega));refine b_ (Mj ?_ (IE _));refine G_ ?_
 have keep:∀b o,b≠a->s.heap.get? b=some o->(((s.heap.update a (IP λ_=>#[])).push (seqObj "tuple" vs.toArray 0)).push (seqObj "list" #[] 0)).get? b=some o:=λb o hb q=>by
  have hlt:b<s.heap.objs.size:=m_ q;rw [JY _ _ _ (by rw [size_push',Ka];exact A_ (Ki hlt)),JY _ _ _ (by rw [Ka];exact A_ hlt),Jf _ _ _ _ hb];exact q
 have ht':∀pr∈prs,CM (((s.heap.update a (IP λ_=>#[])).push (seqObj "tuple" vs.toArray 0)).push (seqObj "list" #[] 0)) pr.1 pr.2:=λpr hpr=>by
  obtain⟨ne,o,xs,m,e,c,d,ia⟩:=ht pr hpr;refine⟨ne,o,xs,m,keep _ _ (λz=>?_) e,c,d,ia⟩;rw [z,ho] at e;rw [<- r_ e] at c;exact absurd (show Jx "list"=Jx "tuple" from c) (by decide)
 have ho6:(((s.heap.update a (IP λ_=>#[])).push (seqObj "tuple" vs.toArray 0)).push (seqObj "list" #[] 0)).get? a=some (seqObj "list" #[] e1):=by
  rw [JY _ _ _ (by rw [size_push',Ka];exact A_ (Ki ha)),JY _ _ _ (by rw [Ka];exact A_ ha)];exact ho1
 show wpAny (model prog w) A _ P E { s with heap:=((s.heap.update a (IP λ_=>#[])).push (seqObj "tuple" vs.toArray 0)).push (seqObj "list" #[] 0) };dsimp only;have hsz:vs.toArray.size=vs.length:=by simp
 by_cases h2:vs.toArray.size<2
 .rw [if_pos h2,if_pos h2];refine b_ (f_ ?_);rw [StateT.run_pure];refine b_ (f_ ?_);dsimp only;refine b_ (seqEpoch_at ho6 rfl ?_);refine b_ (Ml ho6 rfl ?_ (IE _) (by rw [Array.size_map];show (pairsOf vs).size<=_;rw [pairsOf_size,JB];omega));simp only [bne_self_eq_false,false_eq_true,if_false];refine f_ ?_
  have q:=h prs (L6 _) (by
   match prs,hlen with
   | [],_=>exact .nil
   | [x],_=>exact .cons (λ_ z=>by cases z) .nil
   | _::_::_,hl=>rw [hsz] at h2;rw [hl] at h2;simp only [length_cons] at h2;omega)
  rw [hvs] at q
  have e:(arrOf (SortSt.mk' general' (vs.toArray.zip vs.toArray) #[] 7 none)).map (·.2)=vs.toArray:=by
   show (vs.toArray.zip vs.toArray).map (·.2)=vs.toArray;apply Array.toList_inj.mp;rw [Array.toList_map,Array.toList_zip];exact map_snd_zip (pf _)
  rw [<- e] at q;exact q
 .rw [if_neg h2,if_neg h2];obtain⟨fs,fl,fi,ft⟩:=xZ ht';rw [hvs] at ft
  refine b_ (PySem.W.kat_kind (T:=.type "int") ft (by omega) (λv hv=>?_) rfl ?_)
  .obtain⟨i,t,rfl⟩:=fi v hv;exact PySem.W.Looks.of_pure rfl
  refine b_ (D_ (PySem.W.kat_run (ks:=vs) (vs:=vs) (Q:=λst' s'=>∃p:Array Nat,Pm vs.length p/\Up (rkL (prs.map (·.2))) p vs.length/\arrOf st'=p.map (PySem.W.kas_item (vs.toArray.zip vs.toArray))/\failedOf st'=none/\s'={ s with heap:=((s.heap.update a (IP λ_=>#[])).push (seqObj "tuple" vs.toArray 0)).push (seqObj "list" #[] 0) })
   (G:=λp s'=>Pm vs.length p/\Up (rkL (prs.map (·.2))) p vs.length/\s'={ s with heap:=((s.heap.update a (IP λ_=>#[])).push (seqObj "tuple" vs.toArray 0)).push (seqObj "list" #[] 0) })
   rfl (by omega) (by omega) (λp' st' s' a1 a2 a3 a4=>⟨p',a4.1,a4.2.1,a2,a3,a4.2.2⟩) (CL (r:=rkL (prs.map (·.2))) (λi j C hi hj hC=>?_) (by omega) λp hp hu=>⟨hp,hu,rfl⟩)) ?_ λ_ _ e=>e)
  .rw [hlen] at hi hj
   have gx:∀{i},i<prs.length->vs.getD i IJ=.ref (prs.getD i (0,[])).1/\CM (((s.heap.update a (IP λ_=>#[])).push (seqObj "tuple" vs.toArray 0)).push (seqObj "list" #[] 0)) (prs.getD i (0,[])).1 ((prs.map (·.2)).getD i []):=λ{i} hi=>by
    have e:prs.getD i (0,[])=prs[i]:=by rw [d_,c_ hi];rfl
    refine⟨?_,?_⟩
    .rw [e,<- hvs,d_,k_,c_ hi];rfl
    .have:=ht' prs[i] (IY hi);rw [e,d_,k_,c_ hi];exact this
   obtain⟨x1,x2⟩:=gx hi;obtain⟨y1,y2⟩:=gx hj;refine Fd x1 y1 x2 y2 ?_;rw [AT (by rw [length_map];exact hi) (by rw [length_map];exact hj)];exact hC
  .rintro⟨⟨⟩,st'⟩ s' ⟨p,hp,hu,har,hf,rfl⟩;dsimp only;have hout:=PySem.W.kat_snds (ks:=vs) (vs:=vs) rfl har;rw [hout];refine b_ (seqEpoch_at ho6 rfl ?_);refine b_ (Ml ho6 rfl ?_ (IE _) (by rw [size_toArray,length_map,I_,hp.size,JB];omega));rw [hf];simp only [bne_self_eq_false,false_eq_true,if_false];refine f_ ?_;have hlt:∀i∈p.toList,i<prs.length:=λi hi=>by rw [<- hlen];exact IZ.mp (hp.mem_iff.mp hi)
   have eall:(g_ prs.length).map (λi=>prs.getD i (0,[]))=prs:=by
    apply Kt;intro i;rw [k_]
    rcases Kg i prs.length with z|z
    .rw [IU z,c_ z];show some (prs.getD i (0,[]))=_;rw [d_,c_ z];rfl
    .rw [we (by rw [IF];exact z),we z];rfl
   have q:=h (p.toList.map λi=>prs.getD i (0,[])) (by
    have:=List.Perm.map (λi=>prs.getD i (0,[])) (show p.toList.Perm (g_ prs.length) from hlen ▸ hp);rw [eall] at this;exact this) (by
    rw [Ku,Kq];intro i j hi hj hij;rw [I_] at hi hj;have hs:=hp.size;have hh:=hu i j (MO hij) (by omega);have k1:kk (rkL (prs.map (·.2))) p i=rkL (prs.map (·.2)) p.toList[i]:=by unfold kk;simp [Array.getD,hi]
    have k2:kk (rkL (prs.map (·.2))) p j=rkL (prs.map (·.2)) p.toList[j]:=by unfold kk;simp [Array.getD,hj]
    rw [k1,k2] at hh;have li:=hlt p.toList[i] (IY _);have lj:=hlt p.toList[j] (IY _)
    have g:∀{k},k<prs.length->(prs.getD k (0,[])).2=(prs.map (·.2)).getD k []:=λ{k} hk=>by
     rw [d_,d_,k_,c_ hk];rfl
    rw [g li,g lj,AT (by rw [length_map];exact lj) (by rw [length_map];exact li)];exact decide_eq_false (by omega))
   have e:((p.toList.map λi=>prs.getD i (0,[])).map λpr=>gV pr.1)=p.toList.map λi=>vs.getD i IJ:=by
    rw [map_map];refine JN λi hi=>?_;have:=hlt i hi;rw [<- hvs];show gV (prs.getD i (0,[])).1=_;rw [d_,d_,k_,c_ this];rfl
   rw [e] at q;exact q
def sD{l:Addr}{prs:List (Addr×List Int)}{Q:Value->cy->Prop}(hl:s.heap.IsList l (prs.map λpr=>gV pr.1).toArray)(ht:∀pr∈prs,CM s.heap pr.1 pr.2)(h64:prs.length<64)
  (h:∀prs':List (Addr×List Int),prs'.Perm prs->prs'.Pairwise (λx y=>lxB y.2 x.2=false)->Q (.ref (s.heap.objs.size+1)) { s with heap:=sortedAll s.heap (prs.map λpr=>gV pr.1) (prs'.map λpr=>gV pr.1).toArray }) :
  wpAny (model prog w) A (call (.builtin "sorted") [.ref l]) Q E s:=by
 refine Calls.call_function_entry kind_sorted plain_sorted entry_sorted (args_sorted1 _) ?_;unfold JW.«sorted»;have hlen:(prs.map λpr=>gV pr.1).length=prs.length:=length_map _;refine b_ (m:=checkCount "sorted" 1 1 _) (f_ ?_);refine b_ (collect_list hl ?_ (by rw [JB];omega));refine b_ (Mj ?_ (by rw [JB];omega))
 have hsz:((s.heap.push (seqObj "list" #[] 0)).update s.heap.objs.size (IP (·++(prs.map λpr=>gV pr.1).toArray))).objs.size=s.heap.objs.size+1:=by
  rw [Ka,size_push']
 have hoL:(((s.heap.push (seqObj "list" #[] 0)).update s.heap.objs.size (IP (·++(prs.map λpr=>gV pr.1).toArray))).push (seqObj "list" (prs.map λpr=>gV pr.1).toArray 0)).get? (s.heap.objs.size+1)=some (seqObj "list" (prs.map λpr=>gV pr.1).toArray 0):=by
  rw [<- hsz];exact j_ _ rfl
 have keep:∀b o,s.heap.get? b=some o->(((s.heap.push (seqObj "list" #[] 0)).update s.heap.objs.size (IP (·++(prs.map λpr=>gV pr.1).toArray))).push (seqObj "list" (prs.map λpr=>gV pr.1).toArray 0)).get? b=some o:=λb o q=>by
  have hlt:b<s.heap.objs.size:=m_ q;rw [JY _ _ _ (by rw [hsz];exact A_ (Ki hlt)),Jf _ _ _ _ (A_ hlt),JY _ _ _ (A_ hlt)];exact q
 show wpAny _ _ _ _ _ { s with heap:=((s.heap.push (seqObj "list" #[] 0)).update s.heap.objs.size (IP (·++(prs.map λpr=>gV pr.1).toArray))).push (seqObj "list" (prs.map λpr=>gV pr.1).toArray 0) };rw [hsz]
 refine b_ (G_ (Jq slot_list_sort ⟨_,hoL,rfl⟩ entry_list_sort (oV hoL (λpr hpr=>?_) h64 λprs' a1 a2=>⟨_,rfl,?_⟩) (args_list_sort _)))
 .obtain⟨ne,o,xs,m,e,c⟩:=ht pr hpr;exact⟨ne,o,xs,m,keep _ _ e,c⟩
 .exact f_ ⟨_,rfl,h prs' a1 a2⟩
end
section
variable {X:Cx}{K:a_}
abbrev yG(r:List Int):D:=.tup (r.map .int)
noncomputable def x0(K:a_):List V->Hp->VK->Prop:=λxs H Q=>∃(p:Addr) (prs:List (Addr×List Int)),xs=[.ref p]/\SqL K H p (prs.map λpr=>V.ref pr.1)/\(∀pr∈prs,SqT K H pr.1 (pr.2.map V.int)/\pr.2≠[])/\prs.length<64 /\
 ∀prs':List (Addr×List Int),prs'.Perm prs->prs'.Pairwise (λx y=>lxB y.2 x.2=false)->∀q,H q=none->Q (.ref q) (upd H q (.lst (prs'.map λpr=>V.ref pr.1)))
theorem AW:∀{prs:List (Addr×List Int)}{us:List Value},bD (prs.map λpr=>V.ref pr.1) us->us=prs.map λpr=>gV pr.1
 | [],_,.nil=>rfl
 | pr::prs,_,.cons r t=>by
  rw [map_cons,AW t,show _=gV pr.1 from r]
theorem rc:∀prs:List (Addr×List Int),bD (prs.map λpr=>V.ref pr.1) (prs.map λpr=>gV pr.1)
 | []=>.nil
 | pr::prs=>.cons (show cv (V.ref pr.1) (gV pr.1) from rfl) (rc prs)
def CN(K:a_)(e:X.K=K):bo X (.builtin "sorted") (x0 K):=by
 subst e;intro pins s σ H xs us Q I r h;obtain⟨p,prs,rfl,hS,ht,h64,q⟩:=h;obtain⟨u,rfl,ru⟩:=iC r;cases (show u=gV p from ru);obtain⟨its,rv,pl,hz⟩:=I.list hS;have hv:=AW rv;subst hv
 refine sD pl.isList (λpr hpr=>?_) h64 λprs' hp hs=>?_
 .obtain⟨sq,ne⟩:=ht pr hpr;obtain⟨its,rv,⟨o,e,c,n,d⟩,_⟩:=I.tuple sq;exact⟨ne,o,_,n,e,c,d,gU rv⟩
 .obtain⟨e,he⟩:=sortedAll_at s.heap (prs.map λpr=>gV pr.1) (prs'.map λpr=>gV pr.1).toArray;have hle:s.heap.objs.size<=s.heap.objs.size+1:=M1 _;refine⟨.ref (s.heap.objs.size+1),_,I.laid (a:=s.heap.objs.size+1) (o:=.lst (prs'.map λpr=>V.ref pr.1)) (t':=s.toks) (λb o z=>sortedAll_old z) hle ?_,rfl,q prs' hp hs _ (I.hok.fresh hle)⟩;refine⟨?_,_,e,rc prs',he⟩;rw [length_map,hp.length_eq]
  exact sz _ (by omega)
noncomputable def AX:FN
 | [.lst ds],Q=>∃rows:List (List Int),ds=rows.map yG/\(rows.length<64/\∀r∈rows,r≠[])/\∀rows':List (List Int),rows'.Perm rows->rows'.Pairwise (λa b=>lxB b a=false)->Q (.own (rows'.map yG))
 | _,_=>False
theorem uK{O:Addr->Prop}{H:Hp}:∀{rows:List (List Int)}{ys:List V},FVs K O H ys (rows.map yG)->∃prs:List (Addr×List Int),ys=prs.map (λpr=>V.ref pr.1)/\prs.map (·.2)=rows/\∀pr∈prs,¬ O pr.1/\H pr.1=some (.tup (pr.2.map V.int))
 | [],_,.nil=>⟨[],rfl,rfl,nofun⟩
 | r::rows,_,.cons a b=>by
  obtain⟨prs,h1,h2,h3⟩:=uK (rows:=rows) b
  cases a with
  | tup n e f =>
   rw [f.ints] at e;refine⟨(_,r)::prs,by rw [h1];rfl,by rw [<- h2];rfl,λpr hp=>?_⟩
   rcases mem_cons.mp hp with rfl|hp
   .exact⟨n,e⟩
   .exact h3 pr hp
theorem uL{O:Addr->Prop}{H:Hp}:∀{prs:List (Addr×List Int)},(∀pr∈prs,¬ O pr.1/\H pr.1=some (.tup (pr.2.map V.int)))->FVs K O H (prs.map λpr=>V.ref pr.1) ((prs.map (·.2)).map yG)
 | [],_=>.nil
 | pr::prs,h=>.cons (.tup (h pr (mem_cons_self ..)).1 (h pr (mem_cons_self ..)).2 (FVs.of_ints _)) (uL λq hq=>h q (q_ _ hq))
def zI:LC K (x0 K) AX:=by
 intro O H xs as Q Q' dom fs q k;unfold AX at q
 split at q
 .obtain⟨rows,rfl,h0,q⟩:=q
  cases fs with
  | cons a b =>
   cases b;obtain⟨p,ys,rfl,e1,f1⟩:=a.lst;obtain⟨prs,rfl,rfl,h3⟩:=uK f1;rw [length_map] at h0;refine⟨p,prs,rfl,SqL.of e1,λpr hp=>⟨SqT.of (h3 pr hp).2,h0.2 _ (MR hp)⟩,h0.1,λprs' h1 h2 p' hp'=>k _ _ _ (q (prs'.map (·.2)) (h1.map _) (by rw [Ku];exact h2)) (Gr.new hp') (dw hp' (uL λpr hp=>h3 pr (h1.mem_iff.mp hp)))⟩
 .exact q.elim
end
def sE{α:Type}{P:List α->Prop}(h0:P [])(h1:∀l a,P l->P (l++[a]))(l:List α):P l:=by
 have go:∀r:List α,P r.reverse:=λr=>by
  induction r with
  | nil=>exact h0
  | cons a r ih=>rw [reverse_cons];exact h1 _ _ ih
 have:=go l.reverse
 rwa [reverse_reverse] at this
noncomputable def glT(ws:List (List Nat)):Nat->List Nat->List Nat
 | _,[]=>[]
 | i,j::r=>(pw ws j).drop (dM (pw ws i) (pw ws j))++glT ws j r
noncomputable def glN(ws:List (List Nat)):List Nat->List Nat
 | []=>[]
 | j::r=>pw ws j++glT ws j r
theorem uM(ws:List (List Nat))(j:Nat):∀(i:Nat) (r:List Nat) (l:Nat),glT ws i (r++[l]++[j])=glT ws i (r++[l])++(pw ws j).drop (dM (pw ws l) (pw ws j))
 | i,[],l=>by
  show (pw ws l).drop _++((pw ws j).drop _++[])=(pw ws l).drop _++[]++_;rw [IL,IL]
 | i,a::r,l=>by
  show (pw ws a).drop _++glT ws a (r++[l]++[j])=(pw ws a).drop _++glT ws a (r++[l])++_;rw [uM ws j a r l,append_assoc]
def kH(ws:List (List Nat))(pre:List Nat)(l j:Nat):glN ws (pre++[l]++[j])=glN ws (pre++[l])++(pw ws j).drop (dM (pw ws l) (pw ws j)):=by
 cases pre with
 | nil=>show pw ws l++((pw ws j).drop _++[])=pw ws l++[]++_;rw [IL,IL]
 | cons a r =>
  show pw ws a++glT ws a (r++[l]++[j])=pw ws a++glT ws a (r++[l])++_;rw [uM,append_assoc]
def CO{ws:List (List Nat)}:∀{pre:List Nat}{l:Nat},(∀j∈pre++[l],0<(pw ws j).length)->pw ws l <:+ glN ws (pre++[l]):=λ{pre}=>by
 induction pre using sE with
 | h0=>intro l _;exact⟨[],by show pw ws l=pw ws l++[];rw [IL]⟩
 | h1 pre a ih =>
  intro l h;rw [kH];have ha:=h a (by simp);have hl:=h l (by simp);exact zG (lp ha hl) (ih λj hj=>h j (Kf _ hj))
def CP{ws:List (List Nat)}(pre suf:List Nat):glN ws pre <+: glN ws (pre++suf):=by
 induction suf using sE with
 | h0=>rw [IL];exact prefix_refl _
 | h1 suf a ih =>
  rw [<- append_assoc]
  rcases eq_nil_or_concat (pre++suf) with e|⟨r,l,e⟩
  .have:pre=[]:=(append_eq_nil_iff.mp e).1;rw [this];exact nil_prefix
  .rw [concat_eq_append] at e;rw [e] at ih ⊢;rw [kH];exact ih.trans (prefix_append _ _)
def x4{t:List Nat}{a b c:Nat}(h1:a<=b)(h2:b<=c):(t.drop a).take (b - a)++(t.drop b).take (c - b)=(t.drop a).take (c - a):=by
 rw [show c - a=(b - a)+(c - b) by omega,take_add,drop_drop,show a+(b - a)=b by omega]
def x5{a b:List Nat}(h:a <:+: b):a.length<=b.length:=h.length_le
def gX{ps:List (List Nat)}{a b:Nat}(ha:a<ps.length)(hb:b<ps.length)(ka:bC ps a=true)(kb:bC ps b=true)(h:a≠b):¬ pw ps a <:+: pw ps b:=λhi=>by
 obtain⟨a1,a2⟩:=fg.mp ka;obtain⟨b1,b2⟩:=fg.mp kb
 rcases Kg (pw ps a).length (pw ps b).length with z|z
 .have:=a2 _ (cf hb) z;rw [q0.mpr hi] at this;cases this
 .have e:pw ps a=pw ps b:=hi.eq_of_length (by have:=x5 hi;omega)
  have mem:∀{x y:Nat},x<y->y<ps.length->pw ps x=pw ps y->pw ps y∈ps.take y:=λ{x y} h1 h2 h3=>by
   rw [<- h3];refine IH (i:=x) ?_;rw [Mm,if_pos h1];exact c9 (by omega)
  rcases Kg a b with z|z
  .exact b1 (mem z hb e)
  .exact a1 (mem (by omega) ha e.symm)
def uN{ps:List (List Nat)}{i:Nat}(h:i<(bI ps).length):∃k,(ie ps)[i]?=some k/\pw (bI ps) i=pw ps k/\k<ps.length/\bC ps k=true:=by
 have hk:i<(ie ps).length:=by unfold bI at h;rwa [length_map] at h
 have hm:=IY hk;refine⟨(ie ps)[i],c_ hk,?_,qQ hm,(Jy.mp hm).2⟩;unfold bI pw;rw [d_,k_,c_ hk];rfl
def nk{ps:List (List Nat)}{i j:Nat}(hi:i<(bI ps).length)(hj:j<(bI ps).length)(h:i≠j):¬ pw (bI ps) i <:+: pw (bI ps) j:=by
 obtain⟨a,a1,a2,a3,a4⟩:=uN hi;obtain⟨b,b1,b2,b3,b4⟩:=uN hj;rw [a2,b2];refine gX a3 b3 a4 b4 λe=>h ?_;subst e;have nd:(ie ps).Nodup:=(qR ps).imp λh=>A_ h;have l1:=(i_.mp a1).1;exact (getElem?_inj l1 nd).mp (a1.trans b1.symm)
def Iz{α β:Type}(f:α->β)(xs:List α):cQ (xs.map f) (some 1) none=(xs.tail).map f:=by
 rw [show (1:Int)=((1:Nat):Int) from rfl,dn,<- map_drop,drop_one]
def G0{α β:Type}(f:α->β)(xs:List α):cQ (xs.map f) none (some 1)=(xs.take 1).map f:=by
 rw [show (1:Int)=((1:Nat):Int) from rfl,dZ,<- map_take]
section
variable {α β:Type}{e:α->D}{e':β->D}{xs:List α}{ys:List β}{ρ1:PSt}{g:PTG}{pb:PTS}{nx bk:PSt->Prop}{rt:PV->PSt->Prop}
def IA{it:Nat->D}{n:Nat}(J:List α->PSt->Prop)(h0:J (xs.take 1) ρ1)
  (hs:∀pre a b suf ρ,xs=pre++a::b::suf->J (pre++[a]) ρ->g (.dat (.tup [e a,e b])) ρ λρ2=>pb { nx:=J (pre++[a]++[b]),rt:=rt,bk:=bk,ct:=J (pre++[a]++[b]) } ρ2) (hq:∀ρ,J xs ρ->nx ρ)
  (hn:n=min (xs.map e).length (xs.tail.map e).length:=by rfl) (hit:∀k,it k=.tup [itD (xs.map e) k,itD (xs.tail.map e) k]:=by intro k;rfl) :
  ∃I:Nat->PSt->Prop,I 0 ρ1/\(∀k ρ d,k<n->d=it k->I k ρ->g (.dat d) ρ λρ2=>pb { nx:=I (k+1),rt:=rt,bk:=bk,ct:=I (k+1) } ρ2)/\∀ρ,I n ρ->nx ρ:=by
 rw [length_map,length_map,length_tail] at hn
 refine⟨λk ρ=>J (xs.take (k+1)) ρ,h0,λk ρ d hk ed hJ=>?_,λρ h=>hq ρ ?_⟩
 .have k1:k+1<xs.length:=by omega
  have k0:k<xs.length:=by omega
  rw [hit,iK k0,iK (by rw [length_tail];omega),getElem_tail] at ed;subst ed;have t1:xs.take (k+1)=xs.take k++[xs[k]]:=by rw [M2,c_ k0];rfl
  have t2:xs.take (k+1+1)=xs.take k++[xs[k]]++[xs[k+1]]:=by rw [M2,c_ k1,t1];rfl
  show g _ ρ λρ2=>pb { nx:=J (xs.take (k+1+1)),rt:=rt,bk:=bk,ct:=J (xs.take (k+1+1)) } ρ2;rw [t2];refine hs _ _ _ (xs.drop (k+1+1)) ρ ?_ (by rw [<- t1];exact hJ);rw [getElem_cons_drop,getElem_cons_drop,Jr]
 .have h:J (xs.take (n+1)) ρ:=h;rw [Jj (by omega)] at h;exact h
end
section
variable {α β:Type}{e:α->D}{e':β->D}{xs:List α}{ys:List β}{ix:List (Option Nat)}{ρ1:PSt}{g:PTG}{pt:PTT}{pe:PTE}{Q:PKt}
def x6{γ:Type}(f:α->β->γ)(xs:List α)(ys:List β)(h:Nat->γ)(hh:∀k (h1:k<xs.length) (h2:k<ys.length),h k=f xs[k] ys[k]):(g_ (min xs.length ys.length)).map h=(xs.zip ys).map λp=>f p.1 p.2:=by
 apply Kt;intro i;rw [k_,k_]
 by_cases hi:i<min xs.length ys.length
 .have h1:i<xs.length:=by omega
  have h2:i<ys.length:=by omega
  rw [IU hi,c_ (by rw [length_zip];exact hi),getElem_zip];exact congrArg some (hh i h1 h2)
 .rw [we (by rw [IF];omega),we (by rw [length_zip];omega)];rfl
def cmZ{it:Nat->D}{n:Nat}(f:α->β->D)
  (hs:∀a b,(a,b)∈xs.zip ys->∀(v w:Option PV) (K1:D->PSt->Prop),(∀v' w',K1 (f a b) (v'::w'::(bw ix ρ1).tail.tail))->g (.dat (.tup [e a,e' b])) (v::w::(bw ix ρ1).tail.tail) λτ2=>pe τ2 λp τ4=>K1 p.d τ4)
  (hq:∀v w:Option PV,Q (.own ((xs.zip ys).map λp=>f p.1 p.2)) (dP ix ρ1 (v::w::(bw ix ρ1).tail.tail))) (hx:bw ix ρ1=none::none::(bw ix ρ1).tail.tail:=by rfl)
  (hn:n=min (xs.map e).length (ys.map e').length:=by rfl) (hit:∀k,it k=.tup [itD (xs.map e) k,itD (ys.map e') k]:=by intro k;rfl):mr ix ρ1 n it g Ak pe Q:=by
 rw [length_map,length_map] at hn;subst hn
 by_cases h0:0<min xs.length ys.length
 .have ga:∀k,k<min xs.length ys.length->∃h1:k<xs.length,∃h2:k<ys.length,it k=.tup [e xs[k],e' ys[k]]:=λk hk=>⟨by omega,by omega,by rw [hit,iK (by omega),iK (by omega)]⟩
  have hx0:0<xs.length:=by omega
  have hy0:0<ys.length:=by omega
  refine Ar (λτ=>∃v w,τ=v::w::(bw ix ρ1).tail.tail) (λk=>f (xs.getD k xs[0]) (ys.getD k ys[0])) ⟨none,none,hx⟩ ?_ ?_
  .rintro k τ d hk rfl ⟨v,w,rfl⟩ K1 k1;obtain⟨h1,h2,ek⟩:=ga k hk;rw [ek];have g1:xs.getD k xs[0]=xs[k]:=by rw [d_,c_ h1];rfl
   have g2:ys.getD k ys[0]=ys[k]:=by rw [d_,c_ h2];rfl
   rw [g1,g2] at k1;refine hs _ _ ?_ v w K1 λv' w'=>k1 _ ⟨v',w',rfl⟩;refine mem_iff_getElem.mpr ⟨k,by rw [length_zip];exact hk,by rw [getElem_zip]⟩
  .rintro τ ⟨v,w,rfl⟩;rw [x6 f xs ys _ λk h1 h2=>by rw [d_,c_ h1,d_,c_ h2];rfl];exact hq v w
 .refine Ar (λτ=>∃v w,τ=v::w::(bw ix ρ1).tail.tail) (λ_=>.non) ⟨none,none,hx⟩ (λk τ d hk=>by omega) ?_;rintro τ ⟨v,w,rfl⟩;have e1:min xs.length ys.length=0:=by omega
  have e2:xs.zip ys=[]:=Jn.mp (by rw [length_zip];exact e1);have:=hq v w;rw [e2] at this;rw [e1];exact this
end
def cm2{α:Type}{e:α->D}{xs:List α}{ix:List (Option Nat)}{ρ1:PSt}{g:PTG}{pe:PTE}{Q:PKt}(f:α->D)
  (hs:∀x∈xs,∀(v w:Option PV) (K1:D->PSt->Prop),(∀v' w',K1 (f x) (v'::w'::(bw ix ρ1).tail.tail))->g (.dat (e x)) (v::w::(bw ix ρ1).tail.tail) λτ2=>pe τ2 λp τ4=>K1 p.d τ4)
  (hq:∀v w:Option PV,Q (.own (xs.map f)) (dP ix ρ1 (v::w::(bw ix ρ1).tail.tail))) (hx:bw ix ρ1=none::none::(bw ix ρ1).tail.tail:=by rfl):mr ix ρ1 (xs.map e).length (itD (xs.map e)) g Ak pe Q:=by
 refine Fb (λτ=>∃v w,τ=v::w::(bw ix ρ1).tail.tail) f ⟨none,none,hx⟩ ?_ ?_
 .rintro x hx τ ⟨v,w,rfl⟩ K1 k1;exact hs x hx v w K1 λv' w'=>k1 _ ⟨v',w',rfl⟩
 .rintro τ ⟨v,w,rfl⟩;exact hq v w
def x8(a b:List Nat):(!(KQ (S b) (S a) 0 (S b).length 1).isEmpty)=hG a b:=by
 have e:=rW b a 0;unfold hG;rw [<- e]
 cases KQ (S b) (S a) 0 (S b).length 1 with
 | nil=>rfl
 | cons k r=>exact (decide_eq_true (by omega:(0:Int)<=(k:Int))).symm
section
variable {X:Cx}{K:a_}
noncomputable def G1(neg:Bool):R2:=λx y H Q=>∃a b,x=.str (S a)/\y=.str (S b)/\Q (.bl (if neg then !hG a b else hG a b)) H
def Fe:OpR X (compareOp .In) (G1 false):=by
 intro pins s σ H x y v u Q I rx ry h;obtain⟨a,b,rfl,rfl,q⟩:=h;obtain⟨t,rfl⟩:=rx;obtain⟨t',rfl⟩:=ry;exact P.in_str ⟨.bl _,H,I,rfl,by rw [x8];exact q⟩
def x9:OpR X (compareOp .NotIn) (G1 true):=by
 intro pins s σ H x y v u Q I rx ry h;obtain⟨a,b,rfl,rfl,q⟩:=h;obtain⟨t,rfl⟩:=rx;obtain⟨t',rfl⟩:=ry;exact P.notIn_str ⟨.bl _,H,I,rfl,by rw [x8];exact q⟩
noncomputable def G2(K:a_)(neg:Bool):R2:=λx y H Q=>rIn K neg x y H Q\/G1 neg x y H Q
def G3(K:a_)(e:X.K=K):OpR X (compareOp .In) (G2 K false):=OpR.or (Ii K e) Fe
def zJ(K:a_)(e:X.K=K):OpR X (compareOp .NotIn) (G2 K true):=OpR.or (B0 K e) x9
noncomputable def HM(neg:Bool):F2
 | .str a,.str b,Q=>Q (.dat (.bl (if neg then !hG a b else hG a b)))
 | a,.lst ds,Q=>(a.fl=true/\ds.all D.fl=true)/\Q (.dat (.bl (if neg then !inD a ds else inD a ds)))
 | a,.tup ds,Q=>(a.fl=true/\ds.all D.fl=true)/\Q (.dat (.bl (if neg then !inD a ds else inD a ds)))
 | _,_,_=>False
def AY{neg:Bool}:LO K (G2 K neg) (HM neg):=by
 intro O H x y a b Q Q' dom fx fy q k;unfold HM at q
 split at q
 .obtain⟨rfl,_⟩:=fx.str;obtain⟨rfl,_⟩:=fy.str;exact .inr ⟨_,_,rfl,rfl,k _ H _ q (Gr.refl _) (.bl _)⟩
 .exact .inl (Ek O H x y _ _ Q Q' dom fx fy q k)
 .exact .inl (Ek O H x y _ _ Q Q' dom fx fy q k)
 .exact q.elim
end
def fY(js:List Nat):js.map nD=(js.map λj=>((j:Nat):Int)).map D.int:=by rw [map_map];rfl
def Ff{js ks:List Nat}(e:js.map nD=ks.map nD):js=ks:=by
 have:=congrArg (MS toI) e;rw [fY,fY,map_map,map_map,map_map,map_map] at this;have:=congrArg (MS M3) this;rw [map_map,map_map] at this
 have id1:∀l:List Nat,l.map (M3 ∘ (toI ∘ D.int) ∘ λj=>((j:Nat):Int))=l:=λl=>by
  conv=>rhs;rw [<- map_id l]
  exact JN λk _=>B_ k
 rw [id1,id1] at this;exact this
def G4{d:D}{js ks:List Nat}(h1:iJ d (js.map nD))(h2:iJ d (ks.map nD)):js=ks:=Ff (h1.items.symm.trans h2.items)
def oW{ws:List (List Nat)}{js:List Nat}{k:Nat}(h:k<js.length):glN ws (js.take (k+1))=glN ws (js.take k)++(pw ws (js.getD k 0)).drop (if k=0 then 0 else dM (pw ws (js.getD (k - 1) 0)) (pw ws (js.getD k 0))):=by
 have t1:js.take (k+1)=js.take k++[js.getD k 0]:=qK h
 by_cases e:k=0
 .subst e;rw [if_pos rfl,t1,take_zero,drop_zero];show pw ws _++[]=[]++pw ws _;rw [IL,nil_append]
 .have t0:js.take k=js.take (k - 1)++[js.getD (k - 1) 0]:=by
   have:=qK (l:=js) (k:=k - 1) (by omega)
   rwa [show k - 1+1=k by omega] at this
  rw [if_neg e,t1,t0,kH]
theorem lu{α:Type}(p:α->Bool):∀{l:List α}{x:α}{r:List α},l.filter p=x::r->∃k:Nat,l[k]?=some x/\p x=true/\∀(j:Nat) (y:α),j<k->l[j]?=some y->p y=false
 | [],_,_,h=>by simp at h
 | a::l,x,r,h=>by
  rw [filter_cons] at h
  cases hp:p a with
  | true =>
   rw [hp] at h;simp only [if_true,List.cons.injEq] at h;exact⟨0,by rw [<- h.1];rfl,by rw [<- h.1];exact hp,λj y hj=>by omega⟩
  | false =>
   rw [hp] at h;simp only [false_eq_true,if_false] at h;obtain⟨k,k1,k2,k3⟩:=lu p h;refine⟨k+1,by simpa using k1,k2,λj y hj e=>?_⟩
   cases j with
   | zero=>simp at e;rw [<- e];exact hp
   | succ j=>exact k3 j y (by omega) (by simpa using e)
section
variable {X:Cx}{K:a_}
noncomputable def AZ(K:a_):R2:=λx y H Q=>∃a b ys,x=.ref a/\y=.ref b/\SqT K H a []/\SqT K H b ys/\Q (.ref b) H
def zK:OpR X (binaryOp .Add) (AZ X.K):=by
 intro pins s σ H x y v u Q I rx ry h;obtain⟨a,b,ys,rfl,rfl,ha,hb,q⟩:=h;cases rx;cases ry;obtain⟨its,r1,p1,_⟩:=I.tuple ha;obtain⟨its2,r2,p2,_⟩:=I.tuple hb;have e0:its=[]:=r1.nil_iff.mpr rfl;subst e0;obtain⟨⟨cls,dd,data,sl⟩,ho,hc,n,hd⟩:=id p1;obtain⟨⟨cls2,dd2,data2,sl2⟩,ho2,hc2,n2,hd2⟩:=id p2;simp only at hc hd hc2 hd2;subst hc hd hc2 hd2;exact MC ⟨_,ho,rfl⟩ ⟨_,ho2,rfl⟩ Mv seq_tuple_add K0 KN (Ky _ _) (tuple_addW0 a b _ _ n n2 dd dd2 sl sl2 rfl) ⟨ho,ho2,.ref b,H,I,rfl,q⟩
noncomputable def ya(K:a_):R2:=λx y H Q=>BW K x y H Q\/AZ K x y H Q
def bu(K:a_)(e:X.K=K):OpR X (binaryOp .Add) (ya K):=OpR.or (Gq K e) (by subst e;exact zK)
noncomputable def Fg:F2
 | .tup a,.tup b,Q=>a.length+b.length<=1000000/\Q (.dat (.tup (a++b)))
 | a,b,Q=>Gs a b Q
def a8:LO K (ya K) Fg:=by
 intro O H x y a b Q Q' dom fx fy q k;unfold Fg at q
 split at q
 .rename_i Q ds es
  cases ds with
  | cons d ds=>exact .inl (Ae O H x y _ _ _ Q' dom fx fy ⟨nofun,q⟩ k)
  | nil =>
   obtain⟨p1,xs1,rfl,n1,e1,f1⟩:=fx.tup;obtain⟨p2,xs2,rfl,n2,e2,f2⟩:=fy.tup;cases f1;exact .inr ⟨p1,p2,xs2,rfl,rfl,SqT.of e1,SqT.of e2,k _ H _ q.2 (Gr.refl _) (.tup n2 e2 f2)⟩
 .exact .inl (Ae O H x y _ _ _ Q' dom fx fy q k)
end
section
variable {X:Cx}
noncomputable def HN:Expr->Bool
 | .ListComp ..|.SetComp ..|.DictComp ..=>false
 | _=>true
def yb{o i e:Expr}{p:Pos}{l:Nat}{env:Env}(h:HN e=true):swapsWithSole [.Subscript o i p] e l env=pure false:=by
 show swapsWith e (some (.Subscript o i p)) l env=pure false;cases e <;> first|rfl|cases h
def sF{o i e:Expr}{p:Pos}{env:Env}:swappedStores [.Subscript o i p] e env=pure none:=rfl
def sG{o i e:Expr}{p:Pos}{te:TE}{g:TG}{pos:Pos}(he:PE X e te)(hg:PG X (.Subscript o i p) g)(hn:HN e=true:=by rfl):PS X (.Assign [.Subscript o i p] e pos) (Bl te g) :=
 zY he hg (yb hn) sF rfl
end
noncomputable def dN(K:a_)(x:Str)(st:Stmt):Prop:=∃(f:Addr) (oc kV dc pm cd ct:Value) (od an:Option Addr) (sl:Array (Option Value)),tf K mainGlobals x=some (some (.ref f)) /\
 K.lookup f=some ⟨oc,od,.func (F_ x x (bK st) (aX st) (aj st) .none kV dc pm an cd ct),sl⟩/\Jk K cd x=true/\z_ K (.ref f)=true
def Fh{K:a_}{x:Str}{st:Stmt}{f:Addr}{oc kV dc pm cd ct:Value}{od an:Option Addr}{sl:Array (Option Value)}(a:tf K mainGlobals x=some (some (.ref f)))(l:K.lookup f=some ⟨oc,od,.func (F_ x x (bK st) (aX st) (aj st) .none kV dc pm an cd ct),sl⟩)
  (c:Jk K cd x=true) (k:z_ K (.ref f)=true):dN K x st:=⟨f,oc,kV,dc,pm,cd,ct,od,an,sl,a,l,c,k⟩
def aS{K:a_}{h:Heap}{mg:Str->Option Value}{x:Str}{st:Stmt}(q:dN K x st)(X:K.In h)(G:h.Ns mainGlobals mg):aV K mg x st:=by
 obtain⟨f,oc,kV,dc,pm,cd,ct,od,an,sl,a,l,c,k⟩:=q;exact .mk' X G a l c k
section
open PySem.AutoSeq1 (wpAny_loadPart')
open PySem.MeetsSeq PySem.MeetsSeq2 PySem.MeetsSeq3
variable {P:pj}{w:World}{A:v_}
end
noncomputable def HP(i:Nat)(pe:PTE):PTE:=λρ Q=>match ρ[i]? with
 | some (some (.own _))=>pe ρ λp ρ1=>(match ρ1[i]?,p.d with
  | some (some (.own ds)),.lst es=>ds.length+es.length<=1000000/\Q (.dat .non) (ρ1.set i (some (.own (ds++es))))
  | _,_=>False)
 | _=>False
section
variable {K:a_}{te:TE}{pe:PTE}
def A0{i:Nat}(h:LE K te pe):LE K (tBM K "list" wz (bv i) (aU te dQ)) (HP i pe):=λA ρ σ H Q Q' R q k=>by
 unfold HP at q
 split at q
 .rename_i ds0 e0;obtain⟨a0,xs0,s0,g0,f0⟩:=R.ownAt e0;refine⟨_,s0,.inl ⟨rfl,xs0,SqL.of g0⟩,h A ρ σ H _ _ R q λv H1 p ρ1 q1 f1 o1=>?_⟩;obtain⟨R1,fv⟩:=o1.frz
  split at q1
  .rename_i ds es e1 e2;rw [e2] at fv;obtain⟨a,xs,s,g,f⟩:=R1.ownAt e1;rw [s0] at s;cases s
   cases fv with
   | lst no ez fz =>
    obtain⟨R2,f2⟩:=R1.lstw e1 s0 (f.append fz);exact⟨a0,_,xs,_,rfl,rfl,g,ez,IG (by rw [f.length,fz.length];exact q1.1) (sz _ (pf _)),k _ _ _ _ q1.2 (f1.trans f2) ⟨R2,.non⟩⟩
  .exact q1.elim
 .exact q.elim
end
section
variable {K:a_}{A O O':Addr->Prop}{fx:List (Nat×V)}{R:Addr->Prop}{H0 H0' H H':Hp}{ρ ρ':PSt}{σ:St}{x:Nat}{Da:Addr}{as:List Addr}{rows:List (List D)}
noncomputable def cl(x:Nat)(ρ:PSt):Option (List (List D))->PSt
 | none=>ρ
 | some rows=>ρ.set x (some (.own (rows.map D.lst)))
def yc(x:Nat)(ρ:PSt):cl x ρ none=ρ:=rfl
def ye(x:Nat)(ρ:PSt)(rows:List (List D)):cl x ρ (some rows)=ρ.set x (some (.own (rows.map D.lst))):=rfl
end
section
variable {K:a_}{A:Addr->Prop}{fx:List (Nat×V)}{R:Addr->Prop}{H0 H:Hp}{ρ:PSt}{σ:St}
noncomputable def mvd(ρ:PSt)(g r:Nat)(ds:List D):PSt:=(ρ.set r (some (.own ds))).set g none
def A1(ρ:PSt)(g r:Nat)(ds:List D):mvd ρ g r ds=(ρ.set r (some (.own ds))).set g none:=rfl
end
noncomputable def XI(K:a_)(G:Addr)(nm:String)(C:Addr):Prop:=tf K mainGlobals nm=some (some (.ref C))/\(∃(q:Str) (N:Addr) (bs sub:List Value) (sn:List Str) (ab:Bool) (col:Option Bool) (k0 k1 k2 k3 k5:Option Value),K.lookup C=some (excClassObj nm q C N bs (.ref G::[.type "ValueError",.type "Exception",.type "BaseException",.type "object"]) true sn sub ab col none k0 k1 k2 k3 k5 "ValueError.__new__")) /\
 h_ K (.ref C) "__getattribute__"=some (some (.builtin "BaseException.__getattribute__"))/\h_ K (.ref C) "__getattr__"=some none/\h_ K (.ref C) "__setattr__"=some (some (.builtin "object.__setattr__"))/\h_ K (.ref C) "__class__"=some (some (.builtin "object.__class__"))/\z_ K (.ref C)=true
def G5{K:a_}{G:Addr}{nm:String}{C:Addr}{q:Str}{N:Addr}{bs sub:List Value}{sn:List Str}{ab:Bool}{col:Option Bool}{k0 k1 k2 k3 k5:Option Value}(a:tf K mainGlobals nm=some (some (.ref C)))
  (l:K.lookup C=some (excClassObj nm q C N bs (.ref G::[.type "ValueError",.type "Exception",.type "BaseException",.type "object"]) true sn sub ab col none k0 k1 k2 k3 k5 "ValueError.__new__"))
  (g:h_ K (.ref C) "__getattribute__"=some (some (.builtin "BaseException.__getattribute__"))) (h:h_ K (.ref C) "__getattr__"=some none) (s:h_ K (.ref C) "__setattr__"=some (some (.builtin "object.__setattr__"))) (c:h_ K (.ref C) "__class__"=some (some (.builtin "object.__class__"))) (k:z_ K (.ref C)=true):XI K G nm C :=
 ⟨a,⟨_,_,_,_,_,_,_,_,_,_,_,_,l⟩,g,h,s,c,k⟩
noncomputable def XJ(K:a_)(C:Addr)(qn at_:String)(st:Stmt):Prop:=∃(fx:Addr) (oc kV dc pm cd ct:Value) (od an:Option Addr) (sl:Array (Option Value)),h_ K (.ref C) "__init__"=some (some (.ref fx))/\JC K (.ref fx)=some (.type "function")/\K.lookup fx=some ⟨oc,od,.func (F_ "__init__" qn (bK st) (aX st) (aj st) .none kV dc pm an cd ct),sl⟩/\Jk K cd qn=true/\z_ K (.ref fx)=true/\h_ K (.ref C) at_=some none
def G6{K:a_}{C:Addr}{qn at_:String}{st:Stmt}{fx:Addr}{oc kV dc pm cd ct:Value}{od an:Option Addr}{sl:Array (Option Value)}(i:h_ K (.ref C) "__init__"=some (some (.ref fx)))(t:JC K (.ref fx)=some (.type "function"))(l:K.lookup fx=some ⟨oc,od,.func (F_ "__init__" qn (bK st) (aX st) (aj st) .none kV dc pm an cd ct),sl⟩)(c:Jk K cd qn=true)(k:z_ K (.ref fx)=true)(n:h_ K (.ref C) at_=some none):XJ K C qn at_ st :=
 ⟨_,_,_,_,_,_,_,_,_,_,i,t,l,c,k,n⟩
section
open PySem.AutoSeq1 (wpAny_loadPart')
open PySem.MeetsSeq PySem.MeetsSeq2 PySem.MeetsSeq3
variable {P:pj}{w:World}{A:v_}
end
section
variable {X:Cx}{K:a_}{te:TE}{pe:PTE}{fs:List Nat}
noncomputable def ipM:TIp:=λx y H Q=>∃i j,x=.int i/\y=.int j/\z0 i j/\Q (.int (i*j)) H
def CQ:PIp X .Mult ipM:=by
 intro pins s σ H x y v u Q I r1 r2 h;obtain⟨i,j,e1,e2,hm,q⟩:=h;subst e1;subst e2;obtain⟨t,rfl⟩:=r1;obtain⟨t',rfl⟩:=r2;exact imul_int ⟨.int _,H,I.tok _,⟨_,rfl⟩,q⟩ hm.ok
noncomputable def A2(i:Nat)(pe:PTE):PTS:=λE ρ=>match ρ[i]? with
 | some (some (.dat (.int a)))=>pe ρ λp ρ1=>(match ρ1[i]?,p with
  | some (some (.dat (.int a'))),.dat (.int b)=>(a'=a/\z0 a b)/\ib i (.dat (.int (a*b))) ρ1 E.nx
  | _,_=>False)
 | _=>False
def CS{i:Nat}(hi:LG K fs (bS i) (ib i))(h:LE K te pe):LS K fs (Fy i te ipM) (A2 i pe):=λfx A R H0 ρ σ H E E' hf r F q k1 k2 k3 k4=>by
 unfold A2 at q
 split at q
 .rename_i a e;obtain⟨v0,s0,rs0⟩:=r.get i _ e;cases (show FV K _ H v0 (.int a) from rs0);refine⟨_,s0,h A ρ σ H _ _ r q λv H1 p ρ1 q1 f1 o1=>?_⟩;obtain⟨R1,fv⟩:=o1.frz
  split at q1
  .rename_i a' b e1;obtain⟨⟨rfl,hm⟩,q1⟩:=q1;cases (show FV K _ H1 v (.int b) from fv);exact⟨_,b,rfl,rfl,hm,hi fx A R H0 ρ1 σ H1 (.dat (.int (a'*b))) _ _ _ hf (F.fr f1) ⟨R1,.int _⟩ q1 k1⟩
  .exact q1.elim
 .exact q.elim
end
section
variable {X:Cx}{K:a_}{te:TE}{pe:PTE}{fs:List Nat}
noncomputable def Fi:TIp:=λx y H Q=>∃l b xs zs,x=.ref l/\y=.ref b/\H l=some (.lst xs)/\H b=some (.lst zs)/\xs.length+zs.length<=sizeLine/\Q (.ref l) (upd H l (.lst (xs++zs)))
def nq:isSeqSlot (some (.builtin "list.__iadd__"))=true:=by decide +kernel
def sH{M:Model}{A:v_}{E:Value->cy->Prop}{s:cy}{a b:Value}{Q:Value->cy->Prop}(ha:s.TypeIs a "list")(hb:s.TypeIs b "list")
  (hc:wpAny M A (call (.builtin "list.__iadd__") [a,b]) Q E s):wpAny M A (inplaceOp .Add a b) Q E s:=by
 have hl:typeLookup (.type "list") (dunderI "add")=pure (some (.builtin "list.__iadd__")):=MH.lookup;unfold inplaceOp;refine G_ ?_
 have hfi:fillsInplaceSlot (.type "list") "add" (Operator.Add == .Add)=pure false:=by
  unfold fillsInplaceSlot;show (typeLookup (.type "list") (dunderI "add") >>= λfi=>pure (fi.isSome && !isSeqSlot fi))=pure false;rw [hl];rw [pure_bind,nq];rfl
 refine b_ (LL ha (b_ (Ls hfi ?_)));show wpAny M A (if false=true then _ else _) Q E s;rw [if_neg l_];refine b_ (binaryOp1_none (nm:="add") ha hb noFill_list_add ?_);refine b_ (Ls (PyProof.Rows.seqSlot_of hl nq) ?_);exact b_ (L3 hc)
def Fj:PIp X .Add Fi:=by
 intro pins s σ H x y v u Q I rx ry h;obtain⟨l,b,xs,zs,rfl,rfl,hH,hB,hz,q⟩:=h;cases rx;cases ry;obtain⟨z,its,n,r,hl,e⟩:=I.lstM hH;obtain⟨z2,its2,n2,r2,hl2,e2⟩:=I.lstM hB;have hsz:its.toArray.size+its2.toArray.size<=sizeLine:=by rw [size_toArray,size_toArray];omega
 have hlong:¬ (!its.toArray.isEmpty && JA (its.toArray.size+its2.toArray.size))=true:=by
  rw [nU hsz,J_];exact l_
 refine sH ⟨_,e,rfl⟩ ⟨_,e2,rfl⟩ (L1 MH ⟨_,e,rfl⟩ PySem.F.entry_list_iadd (PySem.F.args_list_iadd_2 _ _)
  (AutoSeq1.list___iadd___list_list_0 l its.toArray n b its2.toArray n2 hlong (by rw [size_toArray];omega) (by omega)) ⟨e,e2,?_⟩)
 refine⟨.ref l,_,I.lset (its':=its++its2) hH e (by simp) (r.append r2) ?_,rfl,q⟩;rw [length_append];omega
noncomputable def A3(i:Nat)(pe:PTE):PTS:=λE ρ=>match ρ[i]? with
 | some (some (.own _))=>pe ρ λp ρ1=>(match ρ1[i]?,p.d with
  | some (some (.own ds)),.lst es=>ds.length+es.length<=1000000/\E.nx (ρ1.set i (some (.own (ds++es))))
  | _,_=>False)
 | _=>False
def CT{i:Nat}(h:LE K te pe):LS K fs (Fy i te Fi) (A3 i pe):=λfx A R H0 ρ σ H E E' hf r F q k1 k2 k3 k4=>by
 unfold A3 at q
 split at q
 .rename_i ds0 e0;obtain⟨a0,xs0,s0,g0,f0⟩:=r.ownAt e0;refine⟨_,s0,h A ρ σ H _ _ r q λv H1 p ρ1 q1 f1 o1=>?_⟩;obtain⟨R1,fv⟩:=o1.frz
  split at q1
  .rename_i ds es e1 e2;rw [e2] at fv;obtain⟨a,xs,s,g,f⟩:=R1.ownAt e1;rw [s0] at s;cases s
   cases fv with
   | lst no ez fz =>
    obtain⟨R2,f2⟩:=R1.lstw e1 s0 (f.append fz);refine⟨a0,_,xs,_,rfl,rfl,g,ez,IG (by rw [f.length,fz.length];exact q1.1) (sz _ (pf _)),?_⟩
    have es:σ.set i (some (.ref a0))=σ:=by
     obtain⟨hi,ei⟩:=i_.mp s0;rw [<- ei];exact set_getElem_self hi
    show E'.nx (σ.set i (some (.ref a0))) _;rw [es];exact k1 _ _ _ q1.2 R2 (F.fr (f1.trans f2))
  .exact q1.elim
 .exact q.elim
end
section
variable {X:Cx}{t1 i1 t2 i2 elt:Expr}{f1 f2:List Expr}{scope:Scope}{wi:TI}{g:TG}{tts:TT}
theorem zL{i:Nat}{x:Str}{pos pos' cpos:Pos}{wi2:TI}{g2:TG}{tts2:TT}{te:TE}(N':List Str)(ix:List (Option Nat))(hN:X.N.Nodup)(hi:X.N[i]?=some x)(hx:Loc X.env.scope x)(hc:X.calm=true)(hit:PI X t1 i1 wi)
  (blk:∀s H fp pn,PG (bb X N' scope s H fp pn) t1 g/\PIf (bb X N' scope s H fp pn) f1 tts/\PI (bb X N' scope s H fp pn) t2 i2 wi2/\PG (bb X N' scope s H fp pn) t2 g2/\PIf (bb X N' scope s H fp pn) f2 tts2/\PE (bb X N' scope s H fp pn) elt te)
  (chk:kX X.env.scope X.N scope N' ix=true) (hsw:swapsWith (.ListComp elt [⟨t1,i1,f1,0⟩,⟨t2,i2,f2,0⟩] scope cpos) (some (.Name x pos')) pos.line X.env=pure true:=by rfl)
  (hs:∀x,foldedSetIterable i1 X.env x=pure x:=by intro _;rfl) (hs2:∀(env:Env) x,foldedSetIterable i2 env x=pure x:=by intro _ _;rfl) (hf:X.fn x=true\/X.env.scope.names.lookup x=some .local:=by first|exact .inl rfl|exact .inr rfl|assumption) :
  PS X (.Assign [.Name x pos'] (.ListComp elt [⟨t1,i1,f1,0⟩,⟨t2,i2,f2,0⟩] scope cpos) pos) (Bl (xp ix wi g tts λD=>Cj wi2 g2 tts2 (Ci te D)) (bS i)):=by
 intro pins s σ H D I hw;rw [exec_Assign_Name_used _ _ _ _ hsw];refine b_ (Jd (b_ ?_));show wpAny _ X.A (do let _ <- comprehension (.ListComp elt [⟨t1,i1,f1,0⟩,⟨t2,i2,f2,0⟩] scope cpos) scope X.env _ (newList []) false (eval i1 X.env) (some (assign (.Name x pos') X.env))) _ _ s
 refine b_ (thn (vp (use:=some (assign (.Name x pos') X.env)) (Qf:=λ_ s'=>SP X pins D .next s') hc (kY chk) hit (λs H fp pn D=>?_) hs I hw λD' C H' s' I' q hm hn h1 h2 h3 h4 h5=>?_) λ_ s' q=>f_ (f_ q))
 .obtain⟨b1,b2,b3,b4,b5,b6⟩:=blk s H fp pn;exact⟨b1,b2,Cm (Y:=bb X N' scope s H fp pn) rfl hc b3 b4 b5 (Ck rfl b6) (hs2 _)⟩
 obtain⟨m,oC,es,ep,hoC,hdC,hrC⟩:=hm
 have Ip:Inv X (pins++[(C,oC)]) σ H' s':=I'.pins_of λp hp=>(JG.mp hp).elim (λz=>I'.pin p (t_ _ z)) λz=>by
  have e:p=(C,oC):=by simpa using z
  subst e;exact⟨hoC,hn,h2,h4,λv z=>by rw [hdC] at z;cases z⟩
 refine Mb (eV (v:=.ref D') Ip hN hi hx rfl (λs2 I2=>?_) hf);have hC2:s2.heap.get? C=some oC:=(I2.pin (C,oC) (by simp)).1;have I2':Inv X pins (σ.set i (some (.ref D'))) H' s2:=I2.pins_of λp hp=>I2.pin p (t_ _ (Kf _ hp));refine⟨m,⟨oC,es,ep,hC2,hdC,hrC⟩,λh' sb=>⟨_,H',?_,q⟩⟩;exact I2'.turned (t':=s2.toks) (λb o hb e=>(sb.2 b hb).trans e) hn h2 (.inr h1) h3 h5
end
def dO.m{j k:Nat}{A:v_}(r:dO k A)(h:L9 j k=true):dO j A:=r.mono (K8 h)
section
variable {P:pj}{w:World}{K:a_}{mg:Str->Option Value}{base:Heap}{x:Str}{st:Stmt}{N ps:List Str}{k n:Nat}
abbrev vw(x:Str)(st:Stmt)(ps:List Str):Prop:=∀(kV doc pm:Value) (an:Option Addr) (cdv ct:Value) (us:List Value),us.length=ps.length->bindArgs (F_ x x (bK st) (aX st) (aj st) .none kV doc pm an cdv ct) ⟨us,[]⟩=pure (ps.zip us)
def aV.oP{c:FN}{pp:PTS}(D:aV K mg x st)(S:aA N ps (aj st))(hb:vw x st ps)(ln:∀ds Q,c ds Q->ds.length=n)(h1:n=ps.length)(h2:L9 n N.length=true)(rd:∀ds Q,c ds Q->FF pp N.length ds Q)
  (hbody:∀(f:Addr) (cdv:Value) (A:v_) (outer:List Env) (s:cy) (H:Hp) (E:XK),dO k (A.deeper (envOfC x (aj st) s.heap.objs.size f cdv))->(A.deeper (envOfC x (aj st) s.heap.objs.size f cdv)).units+64<cLine ->
   ∃t,PSs (mZ CX0 P w K mg base N x (aj st) f cdv A outer s H E).nox (aX st) t/\LS K [] t pp):Cal P w K mg base (k+1) x ps (spP K c):=by
 refine D.ok S hb (λvs H Q E h=>(HD ln h).trans h1) λf cdv A outer s H vs Q E hr h=>?_;obtain⟨t,h3,h4⟩:=hbody f cdv A outer s H E hr hr.units;exact⟨t,h3,fnP h4 (λds Q h=>IG (Mu (ln ds Q h)) (K8 h2)) rd h⟩
def aV.oR{c:FR}{pp:PTS}(D:aV K mg x st)(S:aA N ps (aj st))(hb:vw x st ps)(ln:∀p ds Q,c p ds Q->ds.length+1=n)(h1:n=ps.length)(h2:L9 n N.length=true)(rd:∀p ds Q,p.isOwn=true->c p ds Q->GP pp N.length p ds Q)
  (hbody:∀(f:Addr) (cdv:Value) (A:v_) (outer:List Env) (s:cy) (H:Hp) (E:XK),dO k (A.deeper (envOfC x (aj st) s.heap.objs.size f cdv))->(A.deeper (envOfC x (aj st) s.heap.objs.size f cdv)).units+64<cLine ->
   ∃t,PSs (mZ CX0 P w K mg base N x (aj st) f cdv A outer s H E).nox (aX st) t/\LS K [0] t pp):Cal P w K mg base (k+1) x ps (spR K c):=by
 refine D.ok S hb (λvs H Q E h=>(HE ln h).trans h1) λf cdv A outer s H vs Q E hr h=>?_;obtain⟨t,h3,h4⟩:=hbody f cdv A outer s H E hr hr.units;exact⟨t,h3,fnR h4 (λp ds Q h=>IG (Mu (ln p ds Q h)) (K8 h2)) rd h⟩
def aV.oX{c:FX}{pp:(D->Prop)->PTS}(D:aV K mg x st)(S:aA N ps (aj st))(hb:vw x st ps)(ln:∀ds Q E,c ds Q E->ds.length=n)(h1:n=ps.length)(h2:L9 n N.length=true)(rd:∀ds Q E,c ds Q E->FG pp N.length ds Q E)
  (hbody:∀(f:Addr) (cdv:Value) (A:v_) (outer:List Env) (s:cy) (H:Hp) (E:XK),dO k (A.deeper (envOfC x (aj st) s.heap.objs.size f cdv))->(A.deeper (envOfC x (aj st) s.heap.objs.size f cdv)).units+64<cLine ->
   ∃t,PSs (mZ (CXe P w) P w K mg base N x (aj st) f cdv A outer s H E) (aX st) t/\∀Ec,LSX K Ec E [] t (pp Ec)):Dg P w K mg base (k+1) x ps (spX K c):=by
 refine D.okE S hb (λvs H Q E h=>(Iv ln h).trans h1) λf cdv A outer s H vs Q E hr h=>?_;obtain⟨t,h3,h4⟩:=hbody f cdv A outer s H E hr hr.units;exact⟨t,h3,Iw h4 (λds Q E h=>IG (Mu (ln ds Q E h)) (K8 h2)) rd h⟩
end
noncomputable def psO{fs:List Nat}{A:a_->(Str->Option Value)->Prop}{ts:a_->(Str->Option Value)->TS}{ps:PTS}(_:∀K mg,A K mg->LS K fs (ts K mg) ps):PTS:=ps
noncomputable def psX{A:a_->(Str->Option Value)->Prop}{ts:a_->(Str->Option Value)->(D->Prop)->XK->TS}{ps:(D->Prop)->PTS}(_:∀K mg,A K mg->∀Ec E,LSX K Ec E [] (ts K mg Ec E) (ps Ec)):(D->Prop)->PTS:=ps
noncomputable def cN(p:Prop):List D->Prop|[]=>p|_=>False
noncomputable def cD(f:D->List D->Prop):List D->Prop|d::r=>f d r|_=>False
noncomputable def cS(f:List Nat->List D->Prop):List D->Prop|.str t::r=>f t r|_=>False
noncomputable def cI(f:Int->List D->Prop):List D->Prop|.int t::r=>f t r|_=>False
noncomputable def cL(f:List D->List D->Prop):List D->Prop|.lst t::r=>f t r|_=>False
noncomputable def cT(f:List D->List D->Prop):List D->Prop|.tup t::r=>f t r|_=>False
noncomputable def cR(f:List Int->List D->Prop):List D->Prop|.scr t::r=>f t r|_=>False
noncomputable def cO(f:Str->List Str->List D->List D->Prop):List D->Prop|.obj c ns fs::r=>f c ns fs r|_=>False
noncomputable def oL(f:List D->Prop):PV->Prop|.own ds=>f ds|_=>False
def G7{α:Type}{l:List α}(h:l.length=1):∃a,l=[a]:=match l,h with|[a],_=>⟨a,rfl⟩
def Fk{α:Type}{l:List α}(h:l.length=2):∃a b,l=[a,b]:=match l,h with|[a,b],_=>⟨a,b,rfl⟩
def G8{α:Type}{l:List α}(h:l.length=3):∃a b c,l=[a,b,c]:=match l,h with|[a,b,c],_=>⟨a,b,c,rfl⟩
noncomputable def oI(c:Str)(f:Prop):PV->Prop|.ins c' ns ds=>c'=c/\ns=[]/\ds=[]/\f|_=>False
section
variable {P:List D->Prop}{ds:List D}
@[elab_as_elim] theorem cE {p:Prop} (h:cN p ds) (k:p->P []):P ds:=match ds,h with|[],h=>k h
@[elab_as_elim] theorem oY {f:D->List D->Prop} (h:cD f ds) (k:∀d r,f d r->P (d::r)):P ds:=match ds,h with|d::r,h=>k d r h
@[elab_as_elim] theorem nr {f:List Nat->List D->Prop} (h:cS f ds) (k:∀t r,f t r->P (.str t::r)):P ds:=match ds,h with|.str t::r,h=>k t r h
@[elab_as_elim] theorem df {f:Int->List D->Prop} (h:cI f ds) (k:∀t r,f t r->P (.int t::r)):P ds:=match ds,h with|.int t::r,h=>k t r h
@[elab_as_elim] theorem sI {f:List D->List D->Prop} (h:cL f ds) (k:∀t r,f t r->P (.lst t::r)):P ds:=match ds,h with|.lst t::r,h=>k t r h
@[elab_as_elim] theorem HQ {f:List D->List D->Prop} (h:cT f ds) (k:∀t r,f t r->P (.tup t::r)):P ds:=match ds,h with|.tup t::r,h=>k t r h
@[elab_as_elim] theorem IB {f:List Int->List D->Prop} (h:cR f ds) (k:∀t r,f t r->P (.scr t::r)):P ds:=match ds,h with|.scr t::r,h=>k t r h
@[elab_as_elim] theorem A4 {f:Str->List Str->List D->List D->Prop} (h:cO f ds) (k:∀c ns fs r,f c ns fs r->P (.obj c ns fs::r)):P ds:=match ds,h with|.obj c ns fs::r,h=>k c ns fs r h
@[elab_as_elim] theorem uO {P:PV->Prop}{p:PV}{f:List D->Prop} (h:oL f p) (k:∀es,f es->P (.own es)):P p:=match p,h with|.own es,h=>k es h
@[elab_as_elim] theorem IC {P:PV->Prop}{p:PV}{c:Str}{f:Prop} (h:oI c f p) (k:f->P (.ins c [] [])):P p:=match p,h with|.ins _ _ _,⟨e1,e2,e3,hf⟩=>by subst e1 e2 e3;exact k hf
end
abbrev PRl(c:FN)(pp:PTS)(m n:Nat):Prop:=∀ds Q,c ds Q->ds.length=n/\FF pp m ds Q
abbrev RRl(c:FR)(pp:PTS)(m n:Nat):Prop:=∀p ds Q,c p ds Q->ds.length+1=n/\GP pp m p ds Q
abbrev XRl(c:FX)(pp:(D->Prop)->PTS)(m n:Nat):Prop:=∀ds Q E,c ds Q E->ds.length=n/\FG pp m ds Q E
section
variable {P:pj}{w:World}{K:a_}{mg:Str->Option Value}{base:Heap}{x:Str}{st:Stmt}{N ps:List Str}{k n:Nat}
def aV.oP2{c:FN}{pp:PTS}(D:aV K mg x st)(S:aA N ps (aj st))(hb:vw x st ps)(rl:PRl c pp N.length n)(h1:n=ps.length)(h2:L9 n N.length=true)
  (hbody:∀(f:Addr) (cdv:Value) (A:v_) (outer:List Env) (s:cy) (H:Hp) (E:XK),dO k (A.deeper (envOfC x (aj st) s.heap.objs.size f cdv))->(A.deeper (envOfC x (aj st) s.heap.objs.size f cdv)).units+64<cLine ->
   ∃t,PSs (mZ CX0 P w K mg base N x (aj st) f cdv A outer s H E).nox (aX st) t/\LS K [] t pp):Cal P w K mg base (k+1) x ps (spP K c):=D.oP S hb (λds Q h=>(rl ds Q h).1) h1 h2 (λds Q h=>(rl ds Q h).2) hbody
def aV.oR2{c:FR}{pp:PTS}(D:aV K mg x st)(S:aA N ps (aj st))(hb:vw x st ps)(rl:RRl c pp N.length n)(h1:n=ps.length)(h2:L9 n N.length=true)
  (hbody:∀(f:Addr) (cdv:Value) (A:v_) (outer:List Env) (s:cy) (H:Hp) (E:XK),dO k (A.deeper (envOfC x (aj st) s.heap.objs.size f cdv))->(A.deeper (envOfC x (aj st) s.heap.objs.size f cdv)).units+64<cLine ->
   ∃t,PSs (mZ CX0 P w K mg base N x (aj st) f cdv A outer s H E).nox (aX st) t/\LS K [0] t pp):Cal P w K mg base (k+1) x ps (spR K c):=D.oR S hb (λp ds Q h=>(rl p ds Q h).1) h1 h2 (λp ds Q _ h=>(rl p ds Q h).2) hbody
def aV.oX2{c:FX}{pp:(D->Prop)->PTS}(D:aV K mg x st)(S:aA N ps (aj st))(hb:vw x st ps)(rl:XRl c pp N.length n)(h1:n=ps.length)(h2:L9 n N.length=true)
  (hbody:∀(f:Addr) (cdv:Value) (A:v_) (outer:List Env) (s:cy) (H:Hp) (E:XK),dO k (A.deeper (envOfC x (aj st) s.heap.objs.size f cdv))->(A.deeper (envOfC x (aj st) s.heap.objs.size f cdv)).units+64<cLine ->
   ∃t,PSs (mZ (CXe P w) P w K mg base N x (aj st) f cdv A outer s H E) (aX st) t/\∀Ec,LSX K Ec E [] t (pp Ec)):Dg P w K mg base (k+1) x ps (spX K c):=D.oX S hb (λds Q E h=>(rl ds Q E h).1) h1 h2 (λds Q E h=>(rl ds Q E h).2) hbody
end
end L2
namespace K54
open PySem PySem.Spec PyProof.Rows L2
noncomputable def top(i:Nat):Stmt:=PySem.Challenge.pw_shortglue_k54_row_in.main.body.getD i (.Pass ⟨0,0,0,0⟩)
abbrev oZ:Stmt:=top 10
abbrev iM:Stmt:=top 11
abbrev fj:Stmt:=top 12
abbrev CU:Stmt:=top 14
abbrev jJ:Stmt:=top 15
abbrev eS:Stmt:=top 20
abbrev jK:Stmt:=top 21
abbrev o0:Stmt:=top 22
abbrev fk:Stmt:=top 23
abbrev et:Stmt:=top 25
abbrev dy:Stmt:=top 26
abbrev lv:Stmt:=top 27
abbrev jM:Stmt:=top 29
abbrev fm:Stmt:=top 33
abbrev eA:Stmt:=top 34
abbrev jN:Stmt:=top 35
abbrev bV:Stmt:=nV (top 36) 0
abbrev fo:Stmt:=top 37
abbrev jO:Stmt:=top 38
abbrev o5:Stmt:=top 39
abbrev gv:Stmt:=top 41
abbrev jP:Stmt:=top 42
abbrev jQ:Stmt:=top 43
abbrev lw:Stmt:=top 44
abbrev jR:Stmt:=top 45
abbrev gy:Stmt:=top 46
abbrev gA:Stmt:=top 47
abbrev iN:Stmt:=top 48
abbrev gB:Stmt:=top 49
abbrev ly:Stmt:=top 50
abbrev iO:Stmt:=top 51
abbrev eB:Stmt:=top 52
abbrev gC:Stmt:=top 53
abbrev jT:Stmt:=top 54
abbrev lz:Stmt:=top 55
abbrev jU:Stmt:=top 56
abbrev gD:Stmt:=top 57
abbrev gE:Stmt:=top 58
abbrev fq:Stmt:=top 59
abbrev gF:Stmt:=top 60
abbrev fu:Stmt:=top 61
abbrev jV:Stmt:=top 62
abbrev jW:Stmt:=top 63
abbrev jX:Stmt:=top 64
abbrev lA:Stmt:=top 65
abbrev zM:Stmt:=top 66
def yf:aA ["thing"] ["thing"] (aj oZ):=⟨rfl,rfl,rfl,by decide +kernel,rfl,by decide +kernel,by decide +kernel⟩
def re:aA ["thing"] ["thing"] (aj iM):=⟨rfl,rfl,rfl,by decide +kernel,rfl,by decide +kernel,by decide +kernel⟩
def mB:aA ["thing","many"] ["thing","many"] (aj fj):=⟨rfl,rfl,rfl,by decide +kernel,rfl,by decide +kernel,by decide +kernel⟩
def A5:aA ["one","other","k"] ["one","other"] (aj CU):=⟨rfl,rfl,rfl,by decide +kernel,rfl,by decide +kernel,by decide +kernel⟩
def sJ:aA ["words"] ["words"] (aj jJ):=⟨rfl,rfl,rfl,by decide +kernel,rfl,by decide +kernel,by decide +kernel⟩
def vx:aA ["thing","least","most"] ["thing","least","most"] (aj eS):=⟨rfl,rfl,rfl,by decide +kernel,rfl,by decide +kernel,by decide +kernel⟩
def sK:aA ["thing","least","most"] ["thing","least","most"] (aj jK):=⟨rfl,rfl,rfl,by decide +kernel,rfl,by decide +kernel,by decide +kernel⟩
def je:aA ["text","piece","found","place"] ["text","piece"] (aj o0):=⟨rfl,rfl,rfl,by decide +kernel,rfl,by decide +kernel,by decide +kernel⟩
def mC:aA ["text","piece"] ["text","piece"] (aj fk):=⟨rfl,rfl,rfl,by decide +kernel,rfl,by decide +kernel,by decide +kernel⟩
def dz:aA ["things","at","thing"] ["things"] (aj et):=⟨rfl,rfl,rfl,by decide +kernel,rfl,by decide +kernel,by decide +kernel⟩
def kr:aA ["piece","other"] ["piece","other"] (aj dy):=⟨rfl,rfl,rfl,by decide +kernel,rfl,by decide +kernel,by decide +kernel⟩
def jY:aA ["pieces","at","piece","longer"] ["pieces","at"] (aj lv):=⟨rfl,rfl,rfl,by decide +kernel,rfl,by decide +kernel,by decide +kernel⟩
def dA:aA ["words","laps","row","text","before","number"] ["words","laps","row"] (aj jM):=⟨rfl,rfl,rfl,by decide +kernel,rfl,by decide +kernel,by decide +kernel⟩
def ig:aA ["pieces","at"] ["pieces"] (aj fm):=⟨rfl,rfl,rfl,by decide +kernel,rfl,by decide +kernel,by decide +kernel⟩
def dB:aA ["counts","many","at","count"] ["counts","many"] (aj eA):=⟨rfl,rfl,rfl,by decide +kernel,rfl,by decide +kernel,by decide +kernel⟩
def dC:aA ["counts","steps","step","count"] ["counts"] (aj jN):=⟨rfl,rfl,rfl,by decide +kernel,rfl,by decide +kernel,by decide +kernel⟩
def o7:aA ["self","pieces","counts"] ["self","pieces","counts"] (aj bV):=⟨rfl,rfl,rfl,by decide +kernel,rfl,by decide +kernel,by decide +kernel⟩
def ii:aA ["often","thing","wanted"] ["often","thing"] (aj fo):=⟨rfl,rfl,rfl,by decide +kernel,rfl,by decide +kernel,by decide +kernel⟩
def sL:aA ["often","row"] ["often","row"] (aj jO):=⟨rfl,rfl,rfl,by decide +kernel,rfl,by decide +kernel,by decide +kernel⟩
def eT:aA ["often","text","found","i","piece","first"] ["often","text"] (aj o5):=⟨rfl,rfl,rfl,by decide +kernel,rfl,by decide +kernel,by decide +kernel⟩
def fA:aA ["_law_script","_law_k","_law_cell"] ["_law_script","_law_k"] (aj gv):=⟨rfl,rfl,rfl,by decide +kernel,rfl,by decide +kernel,by decide +kernel⟩
def lB:aA ["_law_stream_here","_law_many","_law_digit"] ["_law_stream_here","_law_many"] (aj jP):=⟨rfl,rfl,rfl,by decide +kernel,rfl,by decide +kernel,by decide +kernel⟩
def sM:aA ["_law_stream_here","_law_letters","_law_most"] ["_law_stream_here","_law_letters","_law_most"] (aj jQ):=⟨rfl,rfl,rfl,by decide +kernel,rfl,by decide +kernel,by decide +kernel⟩
def nu:aA ["_law_stream_here","_law_text","_law_most","_law_at"] ["_law_stream_here","_law_text","_law_most"] (aj lw):=⟨rfl,rfl,rfl,by decide +kernel,rfl,by decide +kernel,by decide +kernel⟩
def fB:aA ["_law_stream_here","_law_most","_law_letters","_law_base_here"] ["_law_stream_here","_law_most"] (aj jR):=⟨rfl,rfl,rfl,by decide +kernel,rfl,by decide +kernel,by decide +kernel⟩
def bi:aA ["_law_stream_here","_law_many","_law_most","_law_letters","_law_base_here","_law_found","_law_k","_law_way","_law_piece"] ["_law_stream_here","_law_many","_law_most"] (aj gy):=⟨rfl,rfl,rfl,by decide +kernel,rfl,by decide +kernel,by decide +kernel⟩
def jf:aA ["_law_pieces_here","_law_k","_law_other"] ["_law_pieces_here","_law_k"] (aj gA):=⟨rfl,rfl,rfl,by decide +kernel,rfl,by decide +kernel,by decide +kernel⟩
def kf:aA ["_law_stream_here","_law_many","_law_most","_law_pieces_here"] ["_law_stream_here","_law_many","_law_most"] (aj iN):=⟨rfl,rfl,rfl,by decide +kernel,rfl,by decide +kernel,by decide +kernel⟩
def o8:aA ["_law_stream_here","_law_many","_law_most"] ["_law_stream_here","_law_many","_law_most"] (aj gB):=⟨rfl,rfl,rfl,by decide +kernel,rfl,by decide +kernel,by decide +kernel⟩
def nv:aA ["_law_one","_law_other","_law_k"] ["_law_one","_law_other"] (aj ly):=⟨rfl,rfl,rfl,by decide +kernel,rfl,by decide +kernel,by decide +kernel⟩
def rf:aA ["_law_found"] ["_law_found"] (aj iO):=⟨rfl,rfl,rfl,by decide +kernel,rfl,by decide +kernel,by decide +kernel⟩
def dD:aA ["_law_stream_here","_law_row_here","_law_left","_law_found"] ["_law_stream_here","_law_row_here"] (aj eB):=⟨rfl,rfl,rfl,by decide +kernel,rfl,by decide +kernel,by decide +kernel⟩
def jg:aA ["_law_stream_here","_law_one","_law_other","_law_many"] ["_law_stream_here","_law_one","_law_other","_law_many"] (aj gC):=⟨rfl,rfl,rfl,by decide +kernel,rfl,by decide +kernel,by decide +kernel⟩
def bq:aA ["_law_stream_here","_law_texts","_law_text","_law_one","_law_word_here","_law_way","_law_many"] ["_law_stream_here","_law_texts"] (aj jT):=⟨rfl,rfl,rfl,by decide +kernel,rfl,by decide +kernel,by decide +kernel⟩
def jZ:aA ["_law_stream_here","_law_counts_here","_law_row_here","_law_k"] ["_law_stream_here","_law_counts_here"] (aj lz):=⟨rfl,rfl,rfl,by decide +kernel,rfl,by decide +kernel,by decide +kernel⟩
def cW:aA ["_law_texts","_law_text","_law_k","_law_many"] ["_law_texts"] (aj jU):=⟨rfl,rfl,rfl,by decide +kernel,rfl,by decide +kernel,by decide +kernel⟩
def o9:aA ["_law_text","_law_piece"] ["_law_text","_law_piece"] (aj gD):=⟨rfl,rfl,rfl,by decide +kernel,rfl,by decide +kernel,by decide +kernel⟩
def fC:aA ["_law_text","_law_pieces_here","_law_counts_here","_law_piece","_law_count"] ["_law_text","_law_pieces_here","_law_counts_here"] (aj gE):=⟨rfl,rfl,rfl,by decide +kernel,rfl,by decide +kernel,by decide +kernel⟩
def eC:aA ["_law_thing","_law_counts_here","_law_row_here","_law_k"] ["_law_thing","_law_counts_here"] (aj fq):=⟨rfl,rfl,rfl,by decide +kernel,rfl,by decide +kernel,by decide +kernel⟩
def dg:aA ["_law_often","_law_thing","_law_caught","error"] ["_law_often","_law_thing"] (aj gF):=⟨rfl,rfl,rfl,by decide +kernel,rfl,by decide +kernel,by decide +kernel⟩
def cY:aA ["_law_often","_law_text","_law_at","_law_caught","error"] ["_law_often","_law_text","_law_at"] (aj fu):=⟨rfl,rfl,rfl,by decide +kernel,rfl,by decide +kernel,by decide +kernel⟩
def bB:aA ["_law_often","_law_pieces_here","_law_counts_here","_law_text","_law_rows_here","_law_few","_law_found","_law_seen","_law_last","_law_one","_law_place","_law_told"] ["_law_often","_law_pieces_here","_law_counts_here","_law_text"] (aj jV):=⟨rfl,rfl,rfl,by decide +kernel,rfl,by decide +kernel,by decide +kernel⟩
def dE:aA ["_law_stream_here","_law_row_here","_law_many","_law_at","_law_things","_law_rows_here"] ["_law_stream_here","_law_row_here","_law_many"] (aj jW):=⟨rfl,rfl,rfl,by decide +kernel,rfl,by decide +kernel,by decide +kernel⟩
def cp:aA ["_law_stream_here","_law_often","_law_pieces_here","_law_counts_here","_law_row_here","_law_handed","_law_copy","_law_text","_law_bent_here","_law_texts"] ["_law_stream_here","_law_often","_law_pieces_here","_law_counts_here"] (aj jX):=⟨rfl,rfl,rfl,by decide +kernel,rfl,by decide +kernel,by decide +kernel⟩
def gY:aA ["_law_stream_here","_law_often","_law_pieces_here","_law_counts_here","_law_texts","_law_far_here","_law_text"] ["_law_stream_here","_law_often","_law_pieces_here","_law_counts_here"] (aj lA):=⟨rfl,rfl,rfl,by decide +kernel,rfl,by decide +kernel,by decide +kernel⟩
def kg:aA ["_law_script","_law_k","_law_stream_here","_law_pieces_here","_law_counts_here","_law_often","_law_j","_law_nothing"] ["_law_script"] (aj zM):=⟨rfl,rfl,rfl,by decide +kernel,rfl,by decide +kernel,by decide +kernel⟩
structure Txt (mg:Str->Option Value):Prop where
 b_ValueError:mg "ValueError"=none
 b_abs:mg "abs"=none
 b_all:mg "all"=none
 b_any:mg "any"=none
 b_bool:mg "bool"=none
 b_enumerate:mg "enumerate"=none
 b_int:mg "int"=none
 b_isinstance:mg "isinstance"=none
 b_len:mg "len"=none
 b_list:mg "list"=none
 b_max:mg "max"=none
 b_min:mg "min"=none
 b_range:mg "range"=none
 b_sorted:mg "sorted"=none
 b_str:mg "str"=none
 b_sum:mg "sum"=none
 b_tuple:mg "tuple"=none
 b_zip:mg "zip"=none
 g_MOST_COUNT:∃t,mg "MOST_COUNT"=some (.int 9 t)
 g_MOST_PIECES:∃t,mg "MOST_PIECES"=some (.int 40 t)
 g_MOST_PRODUCT:∃t,mg "MOST_PRODUCT"=some (.int 500 t)
 g_MOST_SIGNS:∃t,mg "MOST_SIGNS"=some (.int 60 t)
abbrev eE:Stmt:=nV (top 5) 0
def lC:aA ["self","at"] ["self","at"] (aj eE):=⟨rfl,rfl,rfl,by decide +kernel,rfl,by decide +kernel,by decide +kernel⟩
abbrev dF:Stmt:=nV (top 7) 0
def kt:aA ["self","at"] ["self","at"] (aj dF):=⟨rfl,rfl,rfl,by decide +kernel,rfl,by decide +kernel,by decide +kernel⟩
abbrev dG:Stmt:=nV (top 8) 0
def ku:aA ["self","at"] ["self","at"] (aj dG):=⟨rfl,rfl,rfl,by decide +kernel,rfl,by decide +kernel,by decide +kernel⟩
abbrev xcs:List Str:=["NoOrder","NotHeld","NotApart","NoCounts"]
abbrev HR:List (Str×Str):=[("NotHeld","at"),("NotApart","at"),("NoCounts","at")]
structure TxX (K:a_) (mg:Str->Option Value):Prop where
 all:xz K xcs
 at_:∀c g,(c,g)∈HR->h_ K (.ref (aK K c)) g=some none
 m'e:mg "NoOrder"=some (.ref (aK K "NoOrder"))
 m'f:mg "NotHeld"=some (.ref (aK K "NotHeld"))
 m'k:mg "NotApart"=some (.ref (aK K "NotApart"))
 m'l:mg "NoCounts"=some (.ref (aK K "NoCounts"))
 m'a:mg "GlueError"=some (.ref (aK K "GlueError"))
 d'e:XD K (aK K "NoOrder")
 d'f:XD K (aK K "NotHeld")
 d'k:XD K (aK K "NotApart")
 d'l:XD K (aK K "NoCounts")
 d'a:XD K (aK K "GlueError")
 z'e:X0 K (aK K "NoOrder")
 kp'e:z_ K (.ref (aK K "NoOrder"))=true
structure TxC (K:a_):Prop where
 cl_Often:Cls K (aK K "Often")
 n_Often_pieces:fU K (aK K "Often") "pieces"
 n_Often_counts:fU K (aK K "Often") "counts"
 n_Often_laps:fU K (aK K "Often") "laps"
 n_Often_total:fU K (aK K "Often") "total"
local macro_rules | `(tactic| walk_at "s")=>`(tactic| first | (with_reducible omega) | (with_reducible assumption) | (with_reducible rfl) | exact le_of_ble_eq_true rfl | (simp only [length_cons,length_nil,length_append,length_map];(with_reducible omega)) | assumption | rfl | (refine ⟨?_,?_⟩ <;> first | (with_reducible omega) | (with_reducible assumption) | (with_reducible rfl) | exact le_of_ble_eq_true rfl | assumption | rfl | (refine ⟨?_,?_⟩ <;> first | (with_reducible omega) | (with_reducible assumption) | (with_reducible rfl) | exact le_of_ble_eq_true rfl | assumption | rfl | (refine ⟨?_,?_⟩ <;> first | (with_reducible omega) | (with_reducible assumption) | (with_reducible rfl) | exact le_of_ble_eq_true rfl | assumption | rfl | fail) | fail) | fail) | omega | fail)
local macro_rules | `(tactic| walk_at "r")=>`(tactic| ((try dsimp only [set_cons_zero,set_cons_succ,xQ,xR,xS,E9,Fa,qX,ng,nh,uG,uH,tail_cons,qY,qZ,uI,yc,ye,A1]);(conv=>whnf);(repeat (first | ((with_reducible refine And.intro ?_ ?_);(next=>walk_at "s");(conv=>whnf)) | ((with_reducible refine (show Exists _ from ?_));(first | (refine ⟨_,rfl,?_⟩) | (refine ⟨_,iJ.lst _,?_⟩) | (refine ⟨_,iJ.tup _,?_⟩));(conv=>whnf)) | ((refine (show iX _ _ _ from ?_));(first | (with_reducible refine HZ (by assumption) ?_) | (with_reducible refine Ia (by assumption) ?_) | (with_reducible refine Gk (by assumption) ?_) | (with_reducible refine BS (by assumption) ?_) | ((with_reducible refine Gi ?_ ?_);(next=>(first | (with_reducible rfl) | (with_reducible assumption) | (with_reducible omega)))) | ((with_reducible refine Gj ?_ ?_);(next=>(first | (with_reducible rfl) | (with_reducible assumption) | (with_reducible omega)))) | ((with_reducible refine Ef ?_ ?_);(next=>(first | (with_reducible rfl) | (with_reducible assumption) | (with_reducible omega)))) | ((with_reducible refine Eg ?_ ?_);(next=>(first | (with_reducible rfl) | (with_reducible assumption) | (with_reducible omega)))));(conv=>whnf))));(try refine (show iX _ _ _ from ?_));(try dsimp only [set_cons_zero,set_cons_succ,xQ,xR,xS,E9,Fa,qX,ng,nh,uG,uH,tail_cons,qY,qZ,uI,yc,ye,A1])))
local macro_rules | `(tactic| walk_at "z")=>`(tactic| dsimp only [FF,GP,FG,b9,List.map,List.length,List.replicate,cons_append,nil_append,Nat.reduceSub,Nat.reduceAdd,Nat.zero_add])
noncomputable def stv(s:Int×Int):PV:=.own [.int s.1,.int s.2]
noncomputable def SOk:Int×Int->Prop
 | (a,b)=>0<=a/\0<=b/\b < 2 ^ 60
noncomputable def jh:FN:=λds Q=>cD (λd=>cN (d.sort=true/\Q (.dat (.bl (sv d))))) ds
noncomputable def c8:FN:=λds Q=>cD (λd=>cN (d.sort=true/\Q (.dat (.bl (eh d))))) ds
noncomputable def eF:FN:=λds Q=>cD (λd=>cI (λm=>cN (Srt d/\(bj d).length<=1000000/\Q (.dat (.bl (cU d m)))))) ds
noncomputable def rg:FN:=λds Q=>cS (λa=>cS (λb=>cN ((0<a.length/\a.length<=10000)/\(0<b.length/\b.length<=10000)/\Q (.dat (.int (dM a b:Int)))))) ds
noncomputable def fE:FN:=λds Q=>cT (λds=>cN (∃ws:List (List Nat),ds=ws.map .str/\(ws.length<=1000/\∀w∈ws,0<w.length/\w.length<=10000)/\Q (.dat (zA ws)))) ds
noncomputable def eU:FN:=λds Q=>cD (λd=>cI (λa=>cI (λb=>cN (d.sort=true/\GQ d<=1000000/\Q (.dat (.bl (zo d a b))))))) ds
noncomputable def Dh(d:D)(a b:Int):Bool:=eh d && (decide (a<=toI d) && decide (toI d<=b))
noncomputable def iP:FN:=λds Q=>cD (λd=>cI (λa=>cI (λb=>cN (d.sort=true/\Q (.dat (.bl (Dh d a b))))))) ds
noncomputable def plN(t w:List Nat):List Nat:=(g_ t.length).filter λk=>stA t w k
theorem sN{P:Nat->Bool}{a:Nat}:∀d:Nat,(∀j,a<=j->j<a+d->P j=false)->(g_ (a+d)).filter P=(g_ a).filter P
 | 0,_=>rfl
 | d+1,h=>by
  rw [show a+(d+1)=(a+d)+1 from rfl,range_succ,filter_append,sN d λj h1 h2=>h j h1 (by omega)];rw [L7 (by rw [h (a+d) (by omega) (by omega)];decide)];exact IL _
def zN{P:Nat->Bool}{a k:Nat}(hk:a<=k)(hP:P k=true)(h:∀j,a<=j->j<k->P j=false):(g_ (k+1)).filter P=(g_ a).filter P++[k]:=by
 obtain⟨d,rfl⟩:∃d,k=a+d:=⟨k - a,by omega⟩
 rw [range_succ,filter_append,sN d h,KL hP];rfl
def CV{P:Nat->Bool}{a n:Nat}(hn:a<=n)(h:∀j,a<=j->P j=false):(g_ n).filter P=(g_ a).filter P:=by
 obtain⟨d,rfl⟩:∃d,n=a+d:=⟨n - a,by omega⟩
 exact sN d λj h1 _=>h j h1
noncomputable def lD:FN:=λds Q=>cS (λt=>cS (λw=>cN ((t.length<=100000/\0<w.length)/\Q (.dat (.tup ((plN t w).map nD)))))) ds
noncomputable def eG:FN:=λds Q=>cS (λa=>cS (λb=>cN (Q (.dat (.int (fnd a b 0)))))) ds
noncomputable def cF:FN:=λds Q=>cD (λd=>cN (∃ws:List (List Nat),iJ d (ws.map .str)/\(ws.length<=40/\Pcs 60 ws)/\Q (.dat .non))) ds
noncomputable def ck:FN:=λds Q=>cS (λa=>cS (λb=>cN (Q (.dat (.bl (hG a b)))))) ds
noncomputable def j1:FN:=λds Q=>cD (λd=>cI (λi=>cN (∃ws:List (List Nat),iJ d (ws.map .str)/\(ws.length<=1000/\∀w∈ws,w.length<=10000)/\(0<=i/\i<(ws.length:Int))/\Q (.dat (.bl (bC ws i.toNat)))))) ds
def zO{ws:List (List Nat)}{i:Int}{k:Nat}(h:k<ws.length)(e:i=(k:Int)):atI (ws.map λw=>D.tup (ws.map λv=>.int (dM w v:Int))) i=some (.tup (ws.map λv=>.int (dM (pw ws k) v:Int))) :=
 dR (j:=k) (by rw [k_,c9 h];rfl) e
def CW{ws:List (List Nat)}{u:List Nat}{i:Int}{k:Nat}(h:k<ws.length)(e:i=(k:Int)):atI (ws.map λv=>D.int (dM u v:Int)) i=some (.int (dM u (pw ws k):Int)) :=
 dR (j:=k) (by rw [k_,c9 h];rfl) e
def yg{ws:List (List Nat)}{m:Nat}(hw:∀j,(pw ws j).length<=m):∀js:List Nat,(glN ws js).length<=js.length*m:=by
 have go:∀(r:List Nat) (i:Nat),(glT ws i r).length<=r.length*m:=λr=>by
  induction r with
  | nil=>intro i;exact IE _
  | cons j r ih =>
   intro i;show ((pw ws j).drop _++glT ws j r).length<=_;rw [length_append,length_drop,length_cons,succ_mul];have:=ih j;have:=hw j;omega
 intro js
 cases js with
 | nil=>exact IE _
 | cons j r =>
  show (pw ws j++glT ws j r).length<=_;rw [length_append,length_cons,succ_mul];have:=go r j;have:=hw j;omega
def CY{ws:List (List Nat)}{m:Nat}(hw:∀w∈ws,w.length<=m)(j:Nat):(pw ws j).length<=m:=by
 by_cases h:j<ws.length
 .exact hw _ (cf h)
 .unfold pw;rw [d_,we (by omega)];exact IE _
def yh(ws:List (List Nat))(js:List Nat):((js.take 1).map (pw ws)).flatten=glN ws (js.take 1):=by
 cases js with
 | nil=>rfl
 | cons j r=>rfl
noncomputable def iQ:FN:=λds Q=>cT (λds=>cD (λd2=>cD (λd=>cN (∃ws:List (List Nat),ds=ws.map .str/\d2=zA ws/\(ws.length<=60/\∀w∈ws,w.length<=60)/\∃js:List Nat,iJ d (js.map nD)/\(js.length<=60/\∀j∈js,j<ws.length)/\Q (.dat (.str (glN ws js))))))) ds
noncomputable def cZ:FN:=λds Q=>cD (λd=>cN (∃ws:List (List Nat),iJ d (ws.map .str)/\(ws.length<=40/\Pcs 60 ws/\∀i,i<ws.length->bC ws i=true)/\Q (.dat .non))) ds
noncomputable def cG:FN:=λds Q=>cD (λd=>cI (λm=>cN (∃cs:List Nat,iJ d (cs.map nD)/\(m=(cs.length:Int)/\cs.length<=40/\∀c∈cs,1<=c/\c<=9)/\Q (.dat .non)))) ds
noncomputable def fF:FN:=λds Q=>cD (λd=>cN (∃cs:List Nat,iJ d (cs.map nD)/\(cs.length<=4/\∀c∈cs,1<=c/\c<=3)/\∀(ss:List Int) (p:Int),p<=500->Q (.dat (.tup [.lst (ss.map .int),.int p])))) ds
noncomputable def vy:List Str:=["pieces","counts","laps","total"]
noncomputable def ofT(ps:List (List Nat))(cs:List Nat):Int:=((ps.zip cs).map λp=>(p.1.length:Int)*(p.2:Int)).sum
noncomputable def vz(ps:List (List Nat))(cs:List Nat):List D:=[.tup (ps.map .str),.tup (cs.map nD),zA ps,.int (ofT ps cs)]
noncomputable def bX:FR:=λp ds Q=>oI "Often" (cD (λd=>cD (λe=>cN (∃ps:List (List Nat),iJ d (ps.map .str)/\∃cs:List Nat,iJ e (cs.map nD)/\(ps.length<=4/\Pcs 60 ps/\(∀i,i<ps.length->bC ps i=true)/\cs.length=ps.length/\∀c∈cs,1<=c/\c<=3)/\Q (.dat .non) (.ins "Often" vy (vz ps cs))))) ds) p
noncomputable def rwN(cs:List Nat)(n:Nat):List Nat:=(g_ n).flatMap λk=>so (cs.getD k 0) k
def fG(cs:List Nat)(n:Nat):rwN cs (n+1)=rwN cs n++so (cs.getD n 0) n:=by
 unfold rwN;rw [range_succ,flatMap_append,flatMap_cons,flatMap_nil,IL]
theorem dH{cs:List Nat}(h:∀c∈cs,c<=9):∀n,(rwN cs n).length<=9*n
 | 0=>IE _
 | n+1=>by
  have ih:=dH h n
  have:cs.getD n 0<=9:=by
   rw [d_]
   cases e:cs[n]? with
   | none=>exact IE _
   | some c=>exact h c (IH e)
  rw [fG,length_append,length_replicate];omega
theorem j2(cs:List Nat):∀n,(rwN cs n).Pairwise (·<=·)
 | 0=>K3
 | n+1=>by
  rw [fG];refine LD.mpr ⟨j2 cs n,pairwise_replicate.mpr (.inr (pf _)),λa ha b hb=>?_⟩
  have h1:a<n:=by
   unfold rwN at ha;obtain⟨i,hi,hk⟩:=MV.mp ha;rw [(Lk.mp hk).2];exact IZ.mp hi
  rw [(Lk.mp hb).2];omega
noncomputable def cg(d:D)(cs:List Nat):Bool:=cU d ((rwN cs cs.length).length:Nat) && decide (((bj d).map toI).Perm ((rwN cs cs.length).map λk=>((k:Nat):Int)))
def uP{a b:List Int}{c:List Nat}(hp:b.Perm a)(hs:b.Pairwise (·<=·))(hc:c.Pairwise (·<=·)):decide (b=c.map λk=>((k:Nat):Int))=decide (a.Perm (c.map λk=>((k:Nat):Int))):=by
 refine decide_eq_decide.mpr ⟨λe=>e ▸ hp.symm,λh=>?_⟩;refine Mr (λx y _ _ h1 h2=>by omega) hs ?_ (hp.trans h);exact Ku.mpr (hc.imp λ{x y} h=>by omega)
noncomputable def eH:FN:=λds Q=>cO (λc ns fs=>cD (λd=>cN (c="Often"/\ns=vy/\∃ps:List (List Nat),∃cs:List Nat,fs=vz ps cs/\(Srt d/\(bj d).length<=60/\cs.length<=4/\∀c∈cs,c<=9)/\Q (.dat (.bl (cg d cs)))))) ds
def ny{cs:List Nat}{n k:Nat}(h:k∈rwN cs n):k<n:=by
 unfold rwN at h;obtain⟨i,hi,hk⟩:=MV.mp h;rw [(Lk.mp hk).2];exact IZ.mp hi
def yi{d:D}{cs:List Nat}(h:cg d cs=true):∃js:List Nat,iJ d (js.map nD)/\js.Perm (rwN cs cs.length):=by
 unfold cg at h;rw [and_eq_true,decide_eq_true_eq] at h;obtain⟨c,hp⟩:=h;unfold cU at c;rw [and_eq_true,and_eq_true] at c;obtain⟨c1,c2,c3⟩:=c
 obtain⟨js,e,hj⟩:∃js:List Nat,(bj d).map toI=js.map (λj=>((j:Nat):Int))/\js.Perm (rwN cs cs.length):=by
  generalize (bj d).map toI=zs at hp
  refine⟨zs.map M3,?_,?_⟩
  .rw [map_map]
   have:∀z∈zs,((z.toNat:Nat):Int)=z:=λz m=>by
    obtain⟨k,_,e⟩:=Ju.mp (hp.mem_iff.mp m);omega
   conv=>lhs;rw [<- map_id zs]
   exact JN λz m=>(this z m).symm
  .have:=hp.map M3;rw [map_map] at this
   have e:(rwN cs cs.length).map (M3 ∘ λk=>((k:Nat):Int))=rwN cs cs.length:=by
    conv=>rhs;rw [<- map_id (rwN cs cs.length)]
    exact JN λk _=>B_ k
   rw [e] at this;exact this
 refine⟨js,?_,hj⟩;have e2:bj d=js.map nD:=by rw [lh c3,e,fY]
 cases d with
 | lst ds=>exact .inl (congrArg D.lst e2)
 | tup ds=>exact .inr (congrArg D.tup e2)
 | _=>cases c1
def pd{js cs:List Nat}{d:D}(hd:iJ d (js.map nD))(hp:js.Perm (rwN cs cs.length)):cg d cs=true:=by
 unfold cg cU;rw [and_eq_true,and_eq_true,and_eq_true,hd.items]
 refine⟨⟨by rcases hd with rfl|rfl <;> rfl,decide_eq_true (by rw [length_map,hp.length_eq]),?_⟩,decide_eq_true ?_⟩
 .rw [fY,all_map];exact Jw.mpr λ_ _=>rfl
 .rw [fY,map_map];show ((js.map λj=>((j:Nat):Int)).map id).Perm _;rw [map_id];exact hp.map _
noncomputable def dI:FX:=λds Q E=>cO (λc ns fs=>cD (λd=>cN (c="Often"/\ns=vy/\∃ps:List (List Nat),∃cs:List Nat,fs=vz ps cs/\(Srt d/\(bj d).length<=60/\cs.length<=4/\(∀c∈cs,c<=9)/\cs.length=ps.length/\∀w∈ps,w.length<=60)/\(cg d cs=false->E (.exc "NoOrder" [] []))/\∀js:List Nat,iJ d (js.map nD)->js.Perm (rwN cs cs.length)->Q (.dat (.str (glN ps js)))))) ds
def CZ{t w:List Nat}{k:Nat}(h:k∈plN t w):k<t.length/\stA t w k=true:=⟨IZ.mp (Jy.mp h).1,(Jy.mp h).2⟩
def yj(t w:List Nat):(plN t w).Pairwise (·<·):=Me.filter _
noncomputable def rL(ps:List (List Nat))(cs:List Nat)(t:List Nat)(i:Nat):List (Nat×Nat):=((plN t (pw ps i)).take (cs.getD i 0)).map λp=>(p,i)
noncomputable def pq(ps:List (List Nat))(cs:List Nat)(t:List Nat)(n:Nat):List (Nat×Nat):=(g_ n).flatMap (rL ps cs t)
def gG(ps:List (List Nat))(cs t:List Nat)(n:Nat):pq ps cs t (n+1)=pq ps cs t n++rL ps cs t n:=by
 unfold pq;rw [range_succ,flatMap_append,flatMap_cons,flatMap_nil,IL]
noncomputable def prR(r:Nat×Nat):List Int:=[(r.1:Int),(r.2:Int)]
def uQ{ps:List (List Nat)}{cs t:List Nat}{n:Nat}{r:Nat×Nat}(h:r∈pq ps cs t n):r.2<n/\r.1∈plN t (pw ps r.2):=by
 unfold pq at h;obtain⟨i,hi,hr⟩:=MV.mp h;unfold rL at hr;obtain⟨p,hp,rfl⟩:=Ju.mp hr;exact⟨IZ.mp hi,LF hp⟩
def uR(ps:List (List Nat))(cs t:List Nat)(i:Nat):(rL ps cs t i).length<=cs.getD i 0:=by
 unfold rL;rw [length_map,length_take];omega
theorem pz{ps:List (List Nat)}{cs t:List Nat}(h:∀c∈cs,c<=9):∀n,(pq ps cs t n).length<=9*n
 | 0=>IE _
 | n+1=>by
  have h1:=pz (ps:=ps) (t:=t) h n;have h2:=uR ps cs t n
  have:cs.getD n 0<=9:=by
   rw [d_]
   cases e:cs[n]? with
   | none=>exact IE _
   | some c=>exact h c (IH e)
  rw [gG,length_append];omega
def C1{t a b:List Nat}{k:Nat}(ha:stA t a k=true)(hb:stA t b k=true):a <:+: b\/b <:+: a:=by
 obtain⟨_,ea⟩:=of_decide_eq_true ha;obtain⟨_,eb⟩:=of_decide_eq_true hb
 rcases le_total a.length b.length with z|z
 .left;have:a=b.take a.length:=by rw [<- eb,take_take,show min a.length b.length=a.length by omega,ea]
  rw [this];exact (take_prefix _ _).isInfix
 .right;have:b=a.take b.length:=by rw [<- ea,take_take,show min b.length a.length=b.length by omega,eb]
  rw [this];exact (take_prefix _ _).isInfix
theorem yk{ps:List (List Nat)}{cs t:List Nat}(hk:∀i,i<ps.length->bC ps i=true):∀n,n<=ps.length->(pq ps cs t n).Pairwise λa b=>a.1≠b.1
 | 0,_=>K3
 | n+1,hn=>by
  rw [gG]
  refine LD.mpr ⟨yk hk n (by omega),?_,λa ha b hb e=>?_⟩
  .unfold rL;rw [Ku];exact ((yj t _).sublist (take_sublist _ _)).imp λ{x y} h=>by show x≠y;omega
  .obtain⟨h1,h2⟩:=uQ ha;unfold rL at hb;obtain⟨p,hp,rfl⟩:=Ju.mp hb;have h3:=(CZ (LF hp)).2;have h4:=(CZ h2).2;rw [show a.1=p from e] at h4
   rcases C1 h4 h3 with z|z
   .exact gX (by omega) (by omega) (hk _ (by omega)) (hk _ (by omega)) (by omega) z
   .exact gX (by omega) (by omega) (hk _ (by omega)) (hk _ (by omega)) (by omega) z
structure ik (ps:List (List Nat)) (cs t:List Nat) (rows:List (Nat×Nat)):Prop where
 enough:∀j,j<ps.length->cs.getD j 0<=(plN t (pw ps j)).length
 perm:rows.Perm (pq ps cs t ps.length)
 rise:rows.Pairwise λa b=>a.1<b.1
def C3{ps:List (List Nat)}{cs t:List Nat}(hk:∀i,i<ps.length->bC ps i=true)(he:∀j,j<ps.length->cs.getD j 0<=(plN t (pw ps j)).length)
  {rs:List (List Int)} (hp:rs.Perm ((pq ps cs t ps.length).map prR)) (hs:rs.Pairwise λa b=>lxB b a=false):∃rows,rs=rows.map prR/\ik ps cs t rows:=by
 let g:List Int->Nat×Nat:=λr=>((r.getD 0 0).toNat,(r.getD 1 0).toNat)
 have gp:∀r,g (prR r)=r:=λr=>rfl
 have e0:∀r∈rs,r=prR (g r):=λr hr=>by
  obtain⟨k,_,e⟩:=Ju.mp (hp.mem_iff.mp hr);rw [<- e,gp]
 have e1:rs=(rs.map g).map prR:=by
  rw [map_map]
  conv=>lhs;rw [<- map_id rs]
  exact JN λr hr=>e0 r hr
 have e2:(rs.map g).Perm (pq ps cs t ps.length):=by
  have:=hp.map g;rw [map_map] at this
  have e:(pq ps cs t ps.length).map (g ∘ prR)=pq ps cs t ps.length:=by
   conv=>rhs;rw [<- map_id (pq ps cs t ps.length)]
   exact JN λk _=>gp k
  rw [e] at this;exact this
 refine⟨_,e1,he,e2,?_⟩;generalize rs.map g=rows at e1 e2;rw [e1,Ku] at hs;have ne:rows.Pairwise λa b=>a.1≠b.1:=(e2.pairwise_iff (R:=λa b:Nat×Nat=>a.1≠b.1) λ{a b} h=>J7 h).mpr (yk hk _ (pf _));refine (hs.and ne).imp λ{a b} ⟨h1,h2⟩=>?_
 have nl:¬ ((b.1:Int)<(a.1:Int)):=λz=>by
  have:=uJ (x:=(b.1:Int)) (y:=(a.1:Int)) (xs:=[(b.2:Int)]) (ys:=[(a.2:Int)]) |>.mpr (.inl z)
  rw [show lxB (prR b) (prR a)=true from this] at h1;cases h1
 omega
noncomputable def gH:FX:=λds Q E=>cO (λc ns fs=>cS (λt=>cN (c="Often"/\ns=vy/\∃ps:List (List Nat),∃cs:List Nat,fs=vz ps cs/\(ps.length<=4/\Pcs 60 ps/\(∀i,i<ps.length->bC ps i=true)/\cs.length=ps.length/\(∀c∈cs,c<=9)/\t.length<=100000)/\(∀k:Nat,k<ps.length->(∀j,j<k->cs.getD j 0<=(plN t (pw ps j)).length)->(plN t (pw ps k)).length<cs.getD k 0->E (.exc "NotHeld" ["at"] [.int (k:Int)]))/\∀rows:List (Nat×Nat),ik ps cs t rows->Q (.dat (.tup (rows.map λr=>nD r.2)))))) ds
noncomputable def fH:FN:=λds Q=>cR (λns=>cI (λk=>cN ((0<=k/\k<=1000/\ns.length<=1000)/\∀s:Int×Int,SOk s->Q (stv s)))) ds
noncomputable def aC:FR:=λp ds Q=>oL (λes_=>cI (λc0=>cI (λc1=>cN (cI (λm=>cN (SOk (c0,c1)/\0<m/\m<=1000000/\∀(x:Int) (s:Int×Int),SOk s->0<=x->x<m->Q (.dat (.int x)) (stv s))) ds))) es_) p
noncomputable def cq:FR:=λp ds Q=>oL (λes_=>cI (λc0=>cI (λc1=>cN (cS (λls=>cI (λm=>cN (SOk (c0,c1)/\(0<ls.length/\ls.length<=26/\Lts ls)/\(0<m/\m<=10000)/\∀(w:List Nat) (s:Int×Int),SOk s->0<w.length->w.length<=m.toNat->Lts w->Q (.dat (.str w)) (stv s)))) ds))) es_) p
noncomputable def j3:FR:=λp ds Q=>oL (λes_=>cI (λc0=>cI (λc1=>cN (cS (λt=>cI (λm=>cN (SOk (c0,c1)/\(0<t.length/\t.length<=100000/\Lts t)/\(0<m/\m<=10000)/\∀(w:List Nat) (s:Int×Int),SOk s->0<w.length->w.length<=m.toNat->Lts w->Q (.dat (.str w)) (stv s)))) ds))) es_) p
noncomputable def iR:FR:=λp ds Q=>oL (λes_=>cI (λc0=>cI (λc1=>cN (cI (λm=>cN (SOk (c0,c1)/\(0<m/\m<=100)/\∀(ls b:List Nat) (s:Int×Int),SOk s->(0<ls.length/\ls.length<=26/\Lts ls)->(0<b.length/\b.length<=100000/\Lts b)->Q (.dat (.tup [.str ls,.str b])) (stv s))) ds))) es_) p
def zP{α:Type}{xs:List α}{x:α}{n:Int}(h:x∈nW xs n):x∈xs:=by
 unfold nW at h;obtain⟨l,hl,hx⟩:=mem_flatten.mp h;rw [eq_of_mem_replicate hl] at hx;exact hx
noncomputable def fJ:FR:=λp ds Q=>oL (λes_=>cI (λc0=>cI (λc1=>cN (cI (λn=>cI (λm=>cN (SOk (c0,c1)/\(0<=n/\n<=100/\0<m/\m<=60)/\∀(ps:List (List Nat)) (s:Int×Int),SOk s->ps.length=n.toNat->Pcs m.toNat ps->Q (.dat (.lst (ps.map .str))) (stv s)))) ds))) es_) p
noncomputable def dh:FN:=λds Q=>cL (λds=>cI (λi=>cN (∃ws:List (List Nat),ds=ws.map .str/\(ws.length<=100/\Pcs 60 ws)/\(0<=i/\i<(ws.length:Int))/\Q (.dat (.bl (!bC ws i.toNat)))))) ds
noncomputable def gI:FR:=λp ds Q=>oL (λes_=>cI (λc0=>cI (λc1=>cN (cI (λn=>cI (λm=>cN (SOk (c0,c1)/\(0<=n/\n<=100/\0<m/\m<=60)/\∀(ps:List (List Nat)) (s:Int×Int),SOk s->ps.length=n.toNat->Pcs m.toNat ps->Q (.own ((bI ps).map .str)) (stv s)))) ds))) es_) p
noncomputable def fK:FR:=λp ds Q=>oL (λes_=>cI (λc0=>cI (λc1=>cN (cI (λn=>cI (λm=>cN (SOk (c0,c1)/\(0<=n/\n<=100/\0<m/\m<=60)/\∀(cs:List Nat) (s:Int×Int),SOk s->cs.length=n.toNat->(∀c∈cs,1<=c/\c<=m.toNat)->Q (.own (cs.map nD)) (stv s)))) ds))) es_) p
noncomputable def gZ:FN:=λds Q=>cS (λa=>cS (λb=>cN (a.length<=10000/\(0<b.length/\b.length<=10000)/\Q (.dat (.int (dM a b:Int)))))) ds
noncomputable def cu:FN:=λds Q=>cD (λd=>cN (d.sort=true/\Q (.dat (.bl (eh d))))) ds
def yl(js:List Nat):js.map nD=(js.map λj=>((j:Nat):Int)).map D.int:=by rw [map_map];rfl
def rh(rs:List Nat):rZ (.lst (rs.map nD)) (.lst []):=by rw [yl];exact rZ.of (Sh.lstI _) (Sh.lstI [])
def ym(rs:List Nat):deq (.lst (rs.map nD)) (.lst [])=decide (rs=[]):=by
 rw [yl,show (D.lst [])=D.lst (([]:List Int).map D.int) from rfl,oJ];exact decide_eq_decide.mpr ⟨λz=>by simpa using z,λz=>by rw [z];rfl⟩
noncomputable def dJ:FR:=λp ds Q=>oL (λes_=>cI (λc0=>cI (λc1=>cN (cL (λds=>cN (∃xs:List Nat,ds=xs.map nD/\(SOk (c0,c1)/\xs.length<=1000)/\∀(js:List Nat) (s:Int×Int),js.Perm xs->SOk s->Q (.dat (.lst (js.map nD))) (stv s))) ds))) es_) p
noncomputable def fL:FR:=λp ds Q=>oL (λes_=>cI (λc0=>cI (λc1=>cN (cS (λa=>cS (λb=>cI (λm=>cN (SOk (c0,c1)/\(0<=m/\m<=10000/\a.length<=10000/\b.length<=10000)/\∀(r:Nat) (s:Int×Int),SOk s->(r:Int)<=m->Q (.dat (.int (r:Int))) (stv s))))) ds))) es_) p
noncomputable def zQ:List (List Nat)->Nat
 | a::b::r=>dM a b+zQ (b::r)
 | _=>0
noncomputable def Fm(ws:List (List Nat)):Nat:=(ws.map Lq).sum
def zR(ws:List (List Nat))(x:List Nat):Fm (ws++[x])=Fm ws+x.length:=by
 unfold Fm;rw [map_append,sum_append];rfl
theorem uS:∀(pre:List (List Nat)) (a x:List Nat),zQ (pre++[a]++[x])=zQ (pre++[a])+dM a x
 | [],a,x=>by show dM a x+0=0+dM a x;omega
 | [b],a,x=>by
  show dM b a+(dM a x+0)=dM b a+0+dM a x;omega
 | b::c::pre,a,x=>by
  have:=uS (c::pre) a x;show dM b c+zQ (c::pre++[a]++[x])=dM b c+zQ (c::pre++[a])+dM a x;omega
noncomputable def dL:FR:=λp ds Q=>oL (λes_=>cI (λc0=>cI (λc1=>cN (cL (λds=>cN (∃ws:List (List Nat),ds=ws.map .str/\(SOk (c0,c1)/\ws.length<=40/\Pcs 60 ws)/\∀(T:List Nat) (s:Int×Int),SOk s->T.length<=10000->Fm ws<=T.length+zQ ws->Q (.dat (.str T)) (stv s))) ds))) es_) p
noncomputable def cX:FR:=λp ds Q=>oL (λes_=>cI (λc0=>cI (λc1=>cN (cL (λds=>cN (∃cs:List Nat,ds=cs.map nD/\(SOk (c0,c1)/\cs.length<=20/\∀c∈cs,c<=9)/\∀(js:List Nat) (s:Int×Int),js.Perm (rwN cs cs.length)->SOk s->Q (.dat (.lst (js.map nD))) (stv s))) ds))) es_) p
noncomputable def fM:FN:=λds Q=>cL (λds=>cN (∃ws:List (List Nat),ds=ws.map .str/\(ws.length<=40/\∀w∈ws,0<w.length/\w.length<=60)/\Q (.dat (.str (glN ws (g_ ws.length)))))) ds
noncomputable def cH:FN:=λds Q=>cS (λt=>cS (λw=>cN ((t.length<=100000/\w.length<=100000)/\Q (.own ((plN t w).map nD))))) ds
noncomputable def fN:FN:=λds Q=>cS (λt=>cL (λds=>cL (λes=>cN (∃ps:List (List Nat),ds=ps.map .str/\∃cs:List Nat,es=cs.map nD/\(t.length<=100000/\(∀w∈ps,w.length<=60)/\cs.length=ps.length/\∀j,j<ps.length->cs.getD j 0<=(plN t (pw ps j)).length)/\Q (.dat (.bl true)))))) ds
theorem zS:∀ys:List D,deq (.lst ys) (.lst [])=decide (ys=[])
 | []=>rfl
 | _::_=>rfl
noncomputable def A6(ds:List D):List D:=(g_ ds.length).filterMap λk=>if (!eh (itD ds k))=true then some (itD ds k) else none
def uT(ds:List D):A6 ds=[] ↔ ds.all eh=true:=by
 unfold A6;rw [Jw,filterMap_eq_nil_iff]
 constructor
 .intro h x hx;obtain⟨k,hk,rfl⟩:=mem_iff_getElem.mp hx;have:=h k (IZ.mpr hk);have e:itD ds k=ds[k]:=by unfold itD;rw [d_,c_ hk];rfl
  rw [e] at this
  cases hc:eh ds[k] with
  | true=>rfl
  | false=>rw [hc] at this;cases this
 .intro h k hk;have:=h _ (ll (IZ.mp hk));rw [this];rfl
def zT{ds:List D}{x:D}(h:x∈A6 ds):x∈ds:=by
 unfold A6 at h;obtain⟨k,hk,e⟩:=JK.mp h
 split at e
 .cases e;exact ll (IZ.mp hk)
 .cases e
def kI{d:D}{cs:List Nat}(h:cg d cs=true):sv d=true/\(bj d).all eh=true:=by
 unfold cg cU at h;rw [and_eq_true,and_eq_true,and_eq_true] at h;exact⟨h.1.1,h.1.2.2⟩
def rj{zs:List Int}{cs:List Nat}{d:D}(hd:iJ d (zs.map .int)):cg d cs=decide (zs.Perm ((rwN cs cs.length).map λk=>((k:Nat):Int))):=by
 have ti:(zs.map D.int).map toI=zs:=by rw [map_map];exact List.map_id' _
 unfold cg cU;rw [hd.items,ti,zt]
 by_cases hp:zs.Perm ((rwN cs cs.length).map λk=>((k:Nat):Int))
 .have hl:=hp.length_eq;rw [length_map] at hl;rw [decide_eq_true hp,length_map,hl,decide_eq_true rfl];rcases hd with rfl|rfl <;> rfl
 .rw [decide_eq_false hp,J_]
noncomputable def c5:FN:=λds Q=>cD (λd=>cL (λes=>cN (∃cs:List Nat,es=cs.map nD/\(Srt d/\(bj d).length<=60/\(∀x∈bj d,Fl 1 x)/\cs.length<=4/\∀c∈cs,c<=9)/\Q (.dat (.bl (cg d cs)))))) ds
noncomputable def di:FN:=λds Q=>cO (λc ns fs=>cD (λd=>cN (c="Often"/\ns=vy/\∃ps:List (List Nat),∃cs:List Nat,fs=vz ps cs/\(Srt d/\(bj d).length<=60/\cs.length<=4/\(∀c∈cs,c<=9)/\cs.length=ps.length/\∀w∈ps,w.length<=60)/\cg d cs=false/\Q (.dat (.bl true))))) ds
noncomputable def eI:FN:=λds Q=>cO (λc ns fs=>cS (λt=>cI (λi=>cN (c="Often"/\ns=vy/\∃ps:List (List Nat),∃cs:List Nat,fs=vz ps cs/\(ps.length<=4/\Pcs 60 ps/\(∀i,i<ps.length->bC ps i=true)/\cs.length=ps.length/\(∀c∈cs,c<=9)/\t.length<=100000)/\∃k:Nat,i=(k:Int)/\(k<ps.length/\(∀j,j<k->cs.getD j 0<=(plN t (pw ps j)).length)/\(plN t (pw ps k)).length<cs.getD k 0)/\Q (.dat (.bl true)))))) ds
def A7(ws:List (List Nat))(k:Nat):glN ws (g_ (k+1))=glN ws (g_ k)++(pw ws k).drop (if k=0 then 0 else dM (pw ws (k - 1)) (pw ws k)):=by
 have h:=oW (ws:=ws) (js:=g_ (k+1)) (k:=k) (by rw [IF];omega);have g:∀i,i<k+1->(g_ (k+1)).getD i 0=i:=λi hi=>by rw [d_,IU hi];rfl
 rw [g k (by omega),g (k - 1) (by omega),take_range,take_range,min_self,show min k (k+1)=k by omega] at h;exact h
def uU{ws:List (List Nat)}{js:List Nat}{k:Nat}(h:k<js.length):pw (js.map (pw ws)) k=pw ws (js.getD k 0):=by
 show (js.map (pw ws)).getD k []=_;rw [d_,k_,c_ h,d_,c_ h];rfl
def uV(ws:List (List Nat))(js:List Nat):glN ws js=glN (js.map (pw ws)) (g_ js.length):=by
 have go:∀k,k<=js.length->glN ws (js.take k)=glN (js.map (pw ws)) (g_ k):=λk=>by
  induction k with
  | zero=>intro _;rfl
  | succ k ih =>
   intro hk;rw [oW (by omega),A7,ih (by omega),uU (ws:=ws) (js:=js) (k:=k) (by omega)]
   by_cases h0:k=0
   .rw [if_pos h0,if_pos h0]
   .rw [if_neg h0,if_neg h0,uU (ws:=ws) (js:=js) (k:=k - 1) (by omega)]
 have:=go js.length (pf _)
 rwa [take_length] at this
noncomputable def gS(ws:List (List Nat))(k:Nat):Nat:=(glN ws (g_ (k+1))).length - (pw ws k).length
def Fn{ws:List (List Nat)}{n k:Nat}(hp:∀j,j<n->0<(pw ws j).length)(hk:k<n):stA (glN ws (g_ n)) (pw ws k) (gS ws k)=true/\(pw ws k).length<=(glN ws (g_ (k+1))).length:=by
 have h1:pw ws k <:+ glN ws (g_ (k+1)):=by
  rw [range_succ];exact CO λj hj=>hp j (by rw [<- range_succ] at hj;have:=IZ.mp hj;omega)
 have h2:glN ws (g_ (k+1)) <+: glN ws (g_ n):=by
  have e:g_ n=g_ (k+1)++(g_ (n - (k+1))).map (k+1+·):=by rw [<- range_add];congr 1;omega
  rw [e];exact CP _ _
 obtain⟨a,ea⟩:=h1;obtain⟨b,eb⟩:=h2;refine⟨sC.mpr ⟨a,b,by rw [<- eb,<- ea],?_⟩,by rw [<- ea,length_append];omega⟩;unfold gS;rw [<- ea,length_append];omega
def C4{ws:List (List Nat)}{n k:Nat}(hp:∀j,j<n->0<(pw ws j).length)(hk:k+1<n):gS ws k<gS ws (k+1):=by
 have h1:=(Fn hp (show k<n by omega)).2;have h2:=(lp (hp k (by omega)) (hp (k+1) hk)).1;have h3:=hp k (by omega);unfold gS;rw [A7 ws (k+1),if_neg (by omega),length_append,length_drop,MT];omega
def G9{ws:List (List Nat)}{n:Nat}(hp:∀j,j<n->0<(pw ws j).length){i:Nat}:∀{j:Nat},i<j->j<n->gS ws i<gS ws j:=λ{j}=>by
 induction j with
 | zero=>intro h _;omega
 | succ j ih =>
  intro h hj;have:=C4 hp hj
  rcases Kg i j with z|z
  .have:=ih z (by omega);omega
  .rw [show i=j by omega];exact this
theorem A8:∀{l m:List Nat},l.Nodup->(∀x∈l,x∈m)->l.length<=m.length
 | [],_,_,_=>IE _
 | a::l,m,hn,h=>by
  obtain⟨h1,h2⟩:=MB.mp hn;have ha:=h a (mem_cons_self ..);have:=A8 (l:=l) (m:=m.erase a) h2 λx hx=>(mem_erase_of_ne (λe:x=a=>h1 (by rw [<- e];exact hx))).mpr (h x (q_ _ hx));rw [length_erase_of_mem ha] at this;have:=Mf ha;rw [length_cons];omega
def yn(j:Nat)(js:List Nat):((g_ js.length).filter λk=>decide (js.getD k 0=j)).length=js.count j:=by
 induction js using L2.sE with
 | h0=>rfl
 | h1 l a ih =>
  rw [length_append,length_singleton,range_succ,filter_append,length_append,count_append,<- ih]
  congr 1
  .congr 1;refine filter_congr λk hk=>?_;rw [d_,Kn (IZ.mp hk),<- d_]
  .have e:(l++[a]).getD l.length 0=a:=by rw [d_,JS (pf _),sub_self];rfl
   by_cases h:a=j
   .rw [KL (by rw [e];exact decide_eq_true h),h];simp
   .rw [L7 (by rw [e,decide_eq_false h];decide)];simp [h]
theorem rk(cs:List Nat)(j:Nat):∀n,(rwN cs n).count j=if j<n then cs.getD j 0 else 0
 | 0=>rfl
 | n+1=>by
  rw [fG,count_append,rk cs j n,count_replicate]
  by_cases h:j=n
  .subst h;simp
  .have e:(n == j)=false:=by simp;omega
   rw [e];simp only [false_eq_true,if_false,Nat.add_zero]
   by_cases h2:j<n
   .rw [if_pos h2,if_pos (by omega)]
   .rw [if_neg h2,if_neg (by omega)]
def yo{ps:List (List Nat)}{cs js:List Nat}(hp:∀w∈ps,0<w.length)(hcl:cs.length=ps.length)(hj:js.Perm (rwN cs cs.length)){j:Nat}(hjl:j<ps.length):cs.getD j 0<=(plN (glN ps js) (pw ps j)).length:=by
 have hlt:∀k,k<js.length->js.getD k 0<ps.length:=λk hk=>by
  rw [<- hcl];refine ny (hj.mem_iff.mp ?_);rw [d_,c_ hk];exact IY _
 have pos:∀k,k<js.length->0<(pw (js.map (pw ps)) k).length:=λk hk=>by rw [uU hk];exact hp _ (cf (hlt k hk))
 have hc:((g_ js.length).filter λk=>decide (js.getD k 0=j)).length=cs.getD j 0:=by
  rw [yn,hj.count_eq,rk,if_pos (by omega)]
 rw [<- hc,<- length_map (gS (js.map (pw ps)))]
 refine A8 ?_ λx hx=>?_
 .refine Ku.mpr (List.Pairwise.imp_of_mem (R:=λa b=>a<b) (λ{a b} ha hb h=>?_) (Me.filter _));have hb:=IZ.mp (Jy.mp hb).1;have:=G9 pos h hb;show gS _ a≠gS _ b;omega
 .obtain⟨k,hk,rfl⟩:=Ju.mp hx;obtain⟨k1,k2⟩:=Jy.mp hk;have k1:=IZ.mp k1;have k2:=of_decide_eq_true k2;have st:=(Fn pos k1).1;rw [uU k1,k2,<- uV] at st;refine Jy.mpr ⟨IZ.mpr ?_,st⟩;have:=(of_decide_eq_true st).1;have:=hp _ (cf hjl);omega
theorem nA{ws:List (List Nat)}{t:List Nat}{P:Nat->Nat}:∀{i:Nat}{r:List Nat},(∀j∈i::r,0<(pw ws j).length/\stA t (pw ws j) (P j)=true)->(i::r).Pairwise (λa b=>P a<P b)->(i::r).Pairwise (λa b=>¬ pw ws b <:+: pw ws a\/pw ws a=pw ws b) ->
  ∃e,e<=t.length/\P i+(pw ws i).length<=e/\(glT ws i r).length<=e - (P i+(pw ws i).length)/\((glT ws i r).length=e - (P i+(pw ws i).length)->glT ws i r=(t.drop (P i+(pw ws i).length)).take (e - (P i+(pw ws i).length)))
 | i,[],h,_,_=>⟨P i+(pw ws i).length,(of_decide_eq_true (h i (mem_cons_self ..)).2).1,pf _,IE _,λ_=>by rw [sub_self,take_zero];rfl⟩
 | i,j::r,h,hp,ha=>by
  obtain⟨p1,p2⟩:=Mi.mp hp;obtain⟨a1,a2⟩:=Mi.mp ha;obtain⟨e,e1,e2,e3,e4⟩:=nA (i:=j) (r:=r) (λk hk=>h k (q_ _ hk)) p2 a2;have hij:=p1 j (mem_cons_self ..);have nij:=a1 j (mem_cons_self ..);obtain⟨i0,iS⟩:=h i (mem_cons_self ..);obtain⟨j0,jS⟩:=h j (q_ _ (mem_cons_self ..));obtain⟨iL,iE⟩:=of_decide_eq_true iS;obtain⟨jL,jE⟩:=of_decide_eq_true jS;obtain⟨k1,k2,k3⟩:=lp i0 j0
  generalize hwi:pw ws i=wi at *;generalize hwj:pw ws j=wj at *
  have hend:P i+wi.length<P j+wj.length:=by
   rcases Kg (P i+wi.length) (P j+wj.length) with z|z
   .exact z
   .rcases nij with nij|nij
    .refine absurd ?_ nij
     have e:wj=((wi.drop (P j - P i)).take wj.length):=by
      conv=>rhs;rw [<- iE]
      rw [drop_take,drop_drop,show P i+(P j - P i)=P j by omega,take_take,show min wj.length (wi.length - (P j - P i))=wj.length by omega,jE]
     rw [e];exact (take_prefix _ _).isInfix.trans (drop_suffix _ _).isInfix
    .rw [nij] at z;omega
  have hgl:glT ws i (j::r)=wj.drop (dM wi wj)++glT ws j r:=by show (pw ws j).drop (dM (pw ws i) (pw ws j))++_=_;rw [hwi,hwj]
  have hk:P i+wi.length - P j<=dM wi wj:=by
   rcases eq_zero_or_pos (P i+wi.length - P j) with z|z
   .omega
   .refine k3 _ (by omega) ?_;refine⟨wi.take (wi.length - (P i+wi.length - P j)),?_⟩
    have e:wj.take (P i+wi.length - P j)=wi.drop (wi.length - (P i+wi.length - P j)):=by
     conv=>lhs;rw [<- jE]
     conv=>rhs;rw [<- iE]
     have hm:min wi.length (t.length - P i)=wi.length:=KO (by omega);rw [take_take,drop_take,drop_drop,length_take,length_drop,hm,KO (by omega:P i+wi.length - P j<=wj.length)]
     congr 1
     .omega
     .congr 1;omega
    rw [e,Jr]
  refine⟨e,e1,by omega,?_,λhe=>?_⟩
  .rw [hgl,length_append,length_drop];clear e4;omega
  .rw [hgl,length_append,length_drop] at he;have o1:P j<=P i+wi.length:=by clear e4;omega
   have o2:dM wi wj=P i+wi.length - P j:=by clear e4;omega
   rw [hgl,e4 (by omega),<- x4 (t:=t) (a:=P i+wi.length) (b:=P j+wj.length) (c:=e) (by omega) (by omega)];congr 1;rw [o2]
   conv=>lhs;rw [<- jE]
   rw [drop_take,drop_drop,show P j+(P i+wi.length - P j)=P i+wi.length by omega];congr 1;omega
def vA{ws:List (List Nat)}{t:List Nat}{P:Nat->Nat}{js:List Nat}(h:∀j∈js,0<(pw ws j).length/\stA t (pw ws j) (P j)=true)(hp:js.Pairwise (λa b=>P a<P b))(ha:js.Pairwise (λa b=>¬ pw ws b <:+: pw ws a\/pw ws a=pw ws b)) :
  (glN ws js).length<=t.length/\((glN ws js).length=t.length->glN ws js=t):=by
 cases js with
 | nil=>exact⟨IE _,λe=>(Jn.mp e.symm).symm⟩
 | cons i r =>
  obtain⟨e,e1,e2,e3,e4⟩:=nA h hp ha;obtain⟨iL,iE⟩:=of_decide_eq_true (h i (mem_cons_self ..)).2;have hg:glN ws (i::r)=pw ws i++glT ws i r:=rfl;rw [hg,length_append];refine⟨by omega,λz=>?_⟩;have p0:P i=0:=by omega
  rw [e4 (by omega)];have el:e=t.length:=by omega
  rw [p0,drop_zero] at iE;rw [el,p0,K7];have:=x4 (t:=t) (a:=0) (b:=(pw ws i).length) (c:=t.length) (IE _) (by omega);rw [drop_zero,LN,LN,take_length,iE] at this;exact this
section
variable {ps:List (List Nat)}{cs t:List Nat}{rows:List (Nat×Nat)}
def ik.row(ok:ik ps cs t rows)(hcl:cs.length=ps.length):(rows.map (·.2)).Perm (rwN cs cs.length):=by
 have e:∀n,n<=ps.length->(pq ps cs t n).map (·.2)=rwN cs n:=λn=>by
  induction n with
  | zero=>intro _;rfl
  | succ n ih =>
   intro hn;rw [gG,fG,map_append,ih (by omega)];congr 1;unfold rL;rw [map_map];have:((plN t (pw ps n)).take (cs.getD n 0)).length=cs.getD n 0:=by rw [length_take];have:=ok.enough n (by omega);omega
   generalize (plN t (pw ps n)).take (cs.getD n 0)=l at this;rw [<- this];exact List.map_const'
 have:=ok.perm.map (·.2);rw [e _ (pf _),<- hcl] at this;exact this
def ik.mem(ok:ik ps cs t rows){r:Nat×Nat}(h:r∈rows):r.2<ps.length/\r.1∈plN t (pw ps r.2):=uQ (ok.perm.mem_iff.mp h)
theorem lE(ps:List (List Nat))(cs t:List Nat)(i:Nat):∀n,(pq ps cs t n).filter (λr=>decide (r.2=i))=if i<n then rL ps cs t i else []
 | 0=>rfl
 | n+1=>by
  have h1:∀r∈rL ps cs t n,r.2=n:=λr hr=>by
   unfold rL at hr;obtain⟨p,_,rfl⟩:=Ju.mp hr;rfl
  rw [gG,filter_append,lE ps cs t i n]
  by_cases h:i=n
  .subst h;rw [if_neg (by omega),if_pos (by omega),nil_append];exact filter_eq_self.mpr λr hr=>decide_eq_true (h1 r hr)
  .rw [filter_eq_nil_iff.mpr λr hr=>by rw [h1 r hr,decide_eq_false (by omega)];decide,IL]
   by_cases h2:i<n
   .rw [if_pos h2,if_pos (by omega)]
   .rw [if_neg h2,if_neg (by omega)]
def ik.at(ok:ik ps cs t rows){pre suf:List (Nat×Nat)}{r:Nat×Nat}(e:rows=pre++r::suf):(plN t (pw ps r.2))[(pre.filter λx=>decide (x.2=r.2)).length]?=some r.1:=by
 have hr:=ok.mem (r:=r) (by rw [e];simp)
 have hF:rows.filter (λx=>decide (x.2=r.2))=rL ps cs t r.2:=by
  have hp:=ok.perm.filter λx=>decide (x.2=r.2);rw [lE,if_pos hr.1] at hp;refine Mr (le:=λa b:Nat×Nat=>a.1<b.1) (λx y _ _ h1 h2=>by omega) (ok.rise.filter _) ?_ hp;unfold rL;rw [Ku];exact (yj t _).sublist (take_sublist _ _)
 have h1:(rows.filter (λx=>decide (x.2=r.2)))[(pre.filter λx=>decide (x.2=r.2)).length]?=some r:=by
  rw [e,filter_append,JS (pf _),sub_self,KL (p:=λx:Nat×Nat=>decide (x.2=r.2)) (decide_eq_true rfl)];rfl
 rw [hF] at h1;unfold rL at h1;rw [k_,Mm] at h1
 split at h1
 .cases h2:(plN t (pw ps r.2))[(pre.filter λx=>decide (x.2=r.2)).length]? with
  | none=>rw [h2] at h1;cases h1
  | some p=>rw [h2] at h1;exact congrArg some (congrArg IX (r_ h1))
 .cases h1
def ik.short(ok:ik ps cs t rows)(hp:∀w∈ps,0<w.length)(hk:∀i,i<ps.length->bC ps i=true):(glN ps (rows.map (·.2))).length<=t.length/\((glN ps (rows.map (·.2))).length=t.length->glN ps (rows.map (·.2))=t):=by
 rw [uV,length_map,map_map]
 have at_:∀k (h:k<rows.length),pw (rows.map (pw ps ∘ (·.2))) k=pw ps rows[k].2:=λk h=>by
  show (rows.map _).getD k []=_;rw [d_,k_,c_ h];rfl
 refine vA (P:=λk=>(rows.getD k (0,0)).1) (λj hj=>?_) ?_ ?_
 .have hj:=IZ.mp hj;obtain⟨h1,h2⟩:=ok.mem (IY hj);rw [at_ j hj,d_,c_ hj];exact⟨hp _ (cf h1),(CZ h2).2⟩
 .refine Kq.mpr λi j hi hj hij=>?_;rw [IF] at hi hj;rw [getElem_range,getElem_range];show (rows.getD i (0,0)).1<(rows.getD j (0,0)).1;rw [d_,c_ hi,d_,c_ hj];exact Kq.mp ok.rise i j hi hj hij
 .refine Kq.mpr λi j hi hj hij=>?_;rw [IF] at hi hj;rw [getElem_range,getElem_range,at_ i hi,at_ j hj]
  by_cases h:rows[j].2=rows[i].2
  .rw [h];exact .inr rfl
  .have h1:=(ok.mem (IY hi)).1;have h2:=(ok.mem (IY hj)).1;exact .inl (gX h2 h1 (hk _ h2) (hk _ h1) h)
end
noncomputable def uW(pre:List (Nat×Nat))(i:Nat):Nat:=(pre.filter λx=>decide (x.2=i)).length
def yp(pre:List (Nat×Nat))(r:Nat×Nat)(n:Nat)(h:r.2<n):((g_ n).map λi=>nD (uW pre i)).set r.2 (.int ((uW pre r.2:Nat)+1))=(g_ n).map λi=>nD (uW (pre++[r]) i):=by
 refine ext_getElem (by simp) λi h1 h2=>?_;rw [Jc,length_map,IF] at h1
 have e:uW (pre++[r]) i=uW pre i+if r.2=i then 1 else 0:=by
  unfold uW;rw [filter_append,length_append]
  by_cases z:r.2=i
  .rw [if_pos z,KL (p:=λx:Nat×Nat=>decide (x.2=i)) (decide_eq_true z)];rfl
  .rw [if_neg z,L7 (p:=λx:Nat×Nat=>decide (x.2=i)) (by rw [decide_eq_false z];decide)];rfl
 rw [getElem_set,getElem_map,getElem_map,getElem_range,e]
 by_cases z:r.2=i
 .rw [if_pos z,if_pos z,z];rfl
 .rw [if_neg z,if_neg z];rfl
noncomputable def bL:FN:=λds Q=>cO (λc ns fs=>cL (λds=>cL (λes=>cS (λt=>cN (c="Often"/\ns=vy/\∃ps:List (List Nat),ds=ps.map .str/\∃cs:List Nat,es=cs.map nD/\fs=vz ps cs/\(ps.length<=4/\Pcs 60 ps/\(∀i,i<ps.length->bC ps i=true)/\cs.length=ps.length/\(∀c∈cs,c<=9)/\t.length<=100000)/\Q (.dat (.bl true))))))) ds
def pA{d:D}{cs:List Nat}(h:(bj d).length≠(rwN cs cs.length).length):cg d cs=false:=by
 cases e:cg d cs with
 | false=>rfl
 | true =>
  obtain⟨js,h1,h2⟩:=yi e;rw [h1.items,length_map] at h;exact absurd h2.length_eq h
def zU{d x:D}{cs:List Nat}(hx:x∈bj d)(hn:eh x=false):cg d cs=false:=by
 cases e:cg d cs with
 | false=>rfl
 | true =>
  have:=Jw.mp (kI e).2 x hx;rw [hn] at this;cases this
def vB{d:D}{cs:List Nat}(h:sv d=false):cg d cs=false:=by
 cases e:cg d cs with
 | false=>rfl
 | true=>rw [(kI e).1] at h;cases h
def zV{js cs:List Nat}{a:Nat}{z:Int}{d:D}(hj:js.Perm (rwN cs cs.length))(ha:a<js.length)(hz:z≠(js[a]:Int))(hd:iJ d ((js.take a).map nD++[.int z]++(js.drop (a+1)).map nD)):cg d cs=false:=by
 cases e:cg d cs with
 | false=>rfl
 | true =>
  have e1:(js.take a).map nD++[D.int z]++(js.drop (a+1)).map nD=(((js.take a).map λj=>((j:Nat):Int))++[z]++(js.drop (a+1)).map λj=>((j:Nat):Int)).map .int:=by
   rw [map_append,map_append,fY,fY];rfl
  rw [e1] at hd;rw [rj hd] at e;have p1:=of_decide_eq_true e
  have p2:((js.take a).map (λj=>((j:Nat):Int))++[(js[a]:Int)]++(js.drop (a+1)).map λj=>((j:Nat):Int)).Perm ((rwN cs cs.length).map λk=>((k:Nat):Int)):=by
   have:=hj.map λk=>((k:Nat):Int)
   conv at this=>lhs;rw [<- Jr a js,Lr ha]
   rw [map_append,map_cons] at this;rw [append_assoc];exact this
  have h:=(p1.trans p2.symm).count_eq z;rw [count_append,count_append,count_append,count_append] at h;have h1:[z].count z=1:=by simp
  have h2:[((js[a]:Nat):Int)].count z=0:=count_eq_zero.mpr λm=>hz (JL.mp m);omega
noncomputable def ID(y:Int)(x:D):Prop:=x.sort=true/\Fl 1 x/\(eh x=false\/∃z:Int,x=.int z/\z≠y)
noncomputable def lF(cs:List Nat)(d:D):Prop:=Srt d/\(bj d).length<=60/\(∀x∈bj d,Fl 1 x)/\cg d cs=false
def pD{cs:List Nat}{ds:List D}(h1:ds.length<=60)(h2:∀x∈ds,x.sort=true/\Fl 1 x)(h3:cg (.lst ds) cs=false):lF cs (.lst ds) :=
 ⟨⟨rfl,λx hx=>(h2 x hx).1⟩,h1,(λx hx=>(h2 x hx).2),h3⟩
def C5{cs:List Nat}{d:D}(h1:d.sort=true)(h2:sv d=false)(h3:bj d=[]):lF cs d:=⟨⟨h1,(λx hx=>by rw [h3] at hx;cases hx)⟩,by rw [h3];exact IE _,(λx hx=>by rw [h3] at hx;cases hx),vB h2⟩
def rm(js:List Nat):∀x∈js.map nD,x.sort=true/\Fl 1 x:=λx hx=>by
 obtain⟨k,_,rfl⟩:=Ju.mp hx;exact⟨rfl,Fl.int _⟩
noncomputable def iT:FR:=λp ds Q=>oL (λes_=>cI (λc0=>cI (λc1=>cN (cL (λds=>cI (λm=>cN (∃js:List Nat,ds=js.map nD/\∃cs:List Nat,m=(cs.length:Int)/\(SOk (c0,c1)/\js.Perm (rwN cs cs.length)/\0<js.length/\js.length<=50/\cs.length<=4)/\∀(d:D) (s:Int×Int),SOk s->lF cs d->Q (.dat d) (stv s)))) ds))) es_) p
noncomputable def iU:FR:=λp ds Q=>oL (λes_=>cI (λc0=>cI (λc1=>cN (cO (λc ns fs=>cL (λds=>cL (λes=>cN (c="Often"/\ns=vy/\∃ps:List (List Nat),ds=ps.map .str/\∃cs:List Nat,es=cs.map nD/\fs=vz ps cs/\(SOk (c0,c1)/\0<ps.length/\ps.length<=4/\Pcs 60 ps/\(∀i,i<ps.length->bC ps i=true)/\cs.length=ps.length/\∀c∈cs,1<=c/\c<=9)/\∀s:Int×Int,SOk s->Q (.dat (.bl true)) (stv s))))) ds))) es_) p
def yq{ps:List (List Nat)}{i:Nat}(h:i<(bI ps).length):bC (bI ps) i=true:=by
 refine fg.mpr ⟨λhm=>?_,λo ho hl=>?_⟩
 .obtain⟨j,hj⟩:=Le.mp hm
  have hlt:j<i:=by
   have:=(i_.mp hj).1;rw [length_take] at this;omega
  rw [Mm,if_pos hlt,c9 (show j<(bI ps).length by omega)] at hj;refine nk (show j<(bI ps).length by omega) h (by omega) ?_;rw [r_ hj];exact⟨[],[],by simp⟩
 .obtain⟨j,hj⟩:=Le.mp ho;have hlt:j<(bI ps).length:=(i_.mp hj).1;rw [c9 hlt] at hj;have ej:=r_ hj;rw [<- ej] at hl ⊢;have ne:i≠j:=λz=>by rw [z] at hl;omega
  have na:=nk h hlt ne
  cases e:hG (pw (bI ps) i) (pw (bI ps) j) with
  | false=>rfl
  | true=>exact absurd (q0.mp e) na
def zW{ps:List (List Nat)}(h0:0<ps.length)(hw:∀w∈ps,w.length<=60):0<(bI ps).length:=by
 obtain⟨j,hj,hk,_⟩:=xu hw _ 0 h0 (pf _);have:j∈ie ps:=Jy.mpr ⟨IZ.mpr hj,hk⟩;unfold bI;rw [length_map];exact Mf this
noncomputable def j4:FR:=λp ds Q=>oL (λes_=>cI (λc0=>cI (λc1=>cN (cO (λc ns fs=>cL (λds=>cL (λes=>cN (c="Often"/\ns=vy/\∃ps:List (List Nat),ds=ps.map .str/\∃cs:List Nat,es=cs.map nD/\fs=vz ps cs/\(SOk (c0,c1)/\0<ps.length/\ps.length<=4/\Pcs 60 ps/\(∀i,i<ps.length->bC ps i=true)/\cs.length=ps.length/\∀c∈cs,1<=c/\c<=9)/\∀s:Int×Int,SOk s->Q (.dat (.bl true)) (stv s))))) ds))) es_) p
def A9:Nat:=8
abbrev Ba:FN:=Hv
noncomputable def rn(K:a_)(mg:Str->Option Value)(t:TxC K/\TxX K mg):=(have TC:=t.1;have TX:=t.2;show LS K [] _ _ from (aJ (Ag .list .tuple ic (al (i:=0)))))
def yr:PTS:=psO rn
def yt:PRl jh yr 1 1:=λ_ Q h=>oY h λd _ h=>cE h λh=>s_ rfl <| by
 walk_at "z";obtain⟨hd,q⟩:=h;cases d <;> first|(cases hd;done)|(walk_at "r";exact q)
noncomputable def kh(K:a_)(mg:Str->Option Value)(t:TxC K/\TxX K mg):=(have TC:=t.1;have TX:=t.2;show LS K [] _ _ from (aJ (eR (k9 .int (al (i:=0))) (qF (k9 .bool (al (i:=0)))))))
def rp:PTS:=psO kh
def rq:PRl c8 rp 1 1:=λ_ Q h=>oY h λd _ h=>cE h λh=>s_ rfl <| by
 walk_at "z";obtain⟨hd,q⟩:=h;cases d <;> first|(cases hd;done)|(walk_at "r";exact q)
noncomputable def il(K:a_)(mg:Str->Option Value)(t:TxC K/\TxX K mg):=(have TC:=t.1;have TX:=t.2;show LS K [] _ _ from (aJ (eR (aF (c:=jh) (ac (ae (ai (i:=0))) af)) (eR (ax de (ae (aW aY (ac (al (i:=0)) af))) (al (i:=1))) (aW Am (ac (ae (bA (ix:=[none]) rfl (cB (ai (i:=0))) (λfs hc=>(ay (i:=0) (kd hc (by decide)))) cM (aF (c:=c8) (ac (ae (ai (i:=0))) af)))) af))))))
def mD:PTS:=psO il
def mE:PRl eF mD 2 2:=λ_ Q h=>oY h λd _ h=>df h λm _ h=>cE h λh=>s_ rfl <| by
 walk_at "z";obtain⟨⟨hd,hs⟩,hl,q⟩:=h
 have body:∀ds:List D,bj d=ds->sv d=true->(ds.length:Int)=m->cU d m=(ds.map eh).all id:=λds e1 e2 e3=>by
  unfold cU;rw [e1,e2,decide_eq_true e3,Lo,Lo,all_map];rfl
 have no:∀ds:List D,bj d=ds->¬ (ds.length:Int)=m->cU d m=false:=λds e1 e3=>by
  unfold cU;rw [e1,decide_eq_false e3,LY,J_]
 cases d with
 | lst ds =>
  have hl:ds.length<=1000000:=hl;walk_at "r"
  refine cJ (λc=>?_) (λc=>?_)
  .walk_at "r"
   refine Ar (λτ=>∃v,τ=[v]) (λk=>.bl (eh (itD ds k))) ?_ ?_ ?_
   .exact⟨_,rfl⟩
   .rintro k τ _ hk rfl ⟨v,rfl⟩ K1 k1;walk_at "r";exact⟨hs _ (ll hk),k1 _ ⟨_,rfl⟩⟩
   .rintro τ ⟨v,rfl⟩;walk_at "r";refine⟨(g_ ds.length).map λk=>eh (itD ds k),by rw [map_map];rfl,?_⟩;rw [body ds rfl rfl c] at q;rw [qJ];exact q
  .walk_at "r";rw [no ds rfl c] at q;exact q
 | tup ds =>
  have hl:ds.length<=1000000:=hl;walk_at "r"
  refine cJ (λc=>?_) (λc=>?_)
  .walk_at "r"
   refine Ar (λτ=>∃v,τ=[v]) (λk=>.bl (eh (itD ds k))) ?_ ?_ ?_
   .exact⟨_,rfl⟩
   .rintro k τ _ hk rfl ⟨v,rfl⟩ K1 k1;walk_at "r";exact⟨hs _ (ll hk),k1 _ ⟨_,rfl⟩⟩
   .rintro τ ⟨v,rfl⟩;walk_at "r";refine⟨(g_ ds.length).map λk=>eh (itD ds k),by rw [map_map];rfl,?_⟩;rw [body ds rfl rfl c] at q;rw [qJ];exact q
  .walk_at "r";rw [no ds rfl c] at q;exact q
 | str l=>walk_at "r";exact q
 | non=>walk_at "r";exact q
 | bl b=>walk_at "r";exact q
 | int i=>walk_at "r";exact q
 | ty n=>cases hd
 | scr ns=>cases hd
 | dic ks ds=>walk_at "r";exact q
 | obj c ns ds=>cases hd
 | exc c ns ds=>cases hd
noncomputable def Bb(K:a_)(mg:Str->Option Value)(t:TxC K/\TxX K mg):=(have TC:=t.1;have TX:=t.2;show LS K [] _ _ from (aq (c7 (Ew (ac (ae (ax m9 (ae (aW sd (ac (ae (aW aY (ac (al (i:=0)) af))) (ac (ae (aW aY (ac (al (i:=1)) af))) af)))) (ae (le_int (i:=1))))) (ac (ae (le_int (i:=0))) (ac (ae (zi uw (ae (le_int (i:=1))))) af)))) (ay (i:=2) rfl) (bW (j9 (sf Cf (ai (i:=0)) (ac (ae (aR (al (i:=1)) aZ (aO (ai (i:=2))))) af))) (aJ (ai (i:=2))) aP)) (aJ (le_int (i:=0)))))
def Fo:PTS:=psO Bb
def Fp:PRl rg Fo 3 2:=λ_ Q h=>nr h λa _ h=>nr h λb _ h=>cE h λh=>s_ rfl <| by
 walk_at "z";obtain⟨⟨a0,a1⟩,⟨b0,b1⟩,q⟩:=h;have hm:(if (b.length:Int)<(a.length:Int) then (b.length:Int) else (a.length:Int))=((min a.length b.length:Nat):Int):=by split <;> omega
 walk_at "r"
 refine⟨λi ρ=>(∃v2:Option PV,ρ=[some (.dat (.str a)),some (.dat (.str b)),v2])/\∀j,min a.length b.length - i<=j->j<min a.length b.length->¬ b.take j <:+ a,⟨⟨_,rfl⟩,λj h1 h2=>by omega⟩,?_,?_⟩
 .rintro i ρ d hi ed ⟨⟨v2,rfl⟩,ih⟩;have hi:i<(((if (b.length:Int)<(a.length:Int) then (b.length:Int) else (a.length:Int)) - 1) - 0).toNat:=hi;have ed:d=.int (((if (b.length:Int)<(a.length:Int) then (b.length:Int) else (a.length:Int)) - 1) - (i:Int)):=ed;rw [hm] at hi ed;obtain⟨k,hk,hk2⟩:∃k:Nat,(((min a.length b.length:Nat):Int) - 1) - (i:Int)=(k:Int)/\k=min a.length b.length - 1 - i:=⟨min a.length b.length - 1 - i,by omega,rfl⟩
  rw [hk] at ed;subst ed;walk_at "r";rw [dZ]
  refine cJ (λc=>?_) (λc=>?_)
  .walk_at "r"
   rw [show dM a b=k from oG ⟨by omega,c,λj h1 h2=>by
    rcases Kg k j with h|h
    .exact absurd h2 (ih j (by omega) h1)
    .exact h⟩] at q
   exact q
  .refine⟨⟨_,rfl⟩,λj h1 h2=>?_⟩
   by_cases hj:j=k
   .rw [hj];exact c
   .exact ih j (by omega) h2
 .rintro ρ ⟨⟨v2,rfl⟩,ih⟩;rw [hm] at ih;walk_at "r"
  rw [show dM a b=0 from oG ⟨by omega,by rw [take_zero];exact nil_suffix,λj h1 h2=>by
   rcases eq_zero_or_pos j with h|h
   .omega
   .exact absurd h2 (ih j (by omega) h1)⟩] at q
  exact q
noncomputable def lG(K:a_)(mg:Str->Option Value)(t:TxC K/\TxX K mg):=(have TC:=t.1;have TX:=t.2;show LS K [] _ _ from (aJ (aW dW (ac (ae (bA (ix:=[none,some 0]) rfl (cB (ai (i:=0))) (λfs hc=>(ay (i:=0) (kd hc (by decide)))) cM (aW dW (ac (ae (bA (ix:=[none,some 0]) rfl (cB (ai (i:=1))) (λfs hc=>(ay (i:=0) (kd hc (by decide)))) cM (aF (c:=rg) (ac (ae (ai (i:=1))) (ac (ae (ai (i:=0))) af))))) af)))) af))))
def sO:PTS:=psO lG
def sP:PRl fE sO 1 1:=λ_ Q h=>HQ h λds _ h=>cE h λh=>s_ rfl <| by
 walk_at "z";obtain⟨ws,rfl,⟨hn,hw⟩,q⟩:=h;have hlm:(ws.map D.str).length=ws.length:=length_map _
 have rr:∀f:List Nat->D,(g_ (ws.map D.str).length).map (λk=>f (pw ws k))=ws.map f:=λf=>by
  rw [hlm];apply Kt;intro k;rw [k_,k_]
  by_cases hk:k<ws.length
  .rw [IU hk,c9 hk];rfl
  .rw [we (by rw [IF];omega),we (by omega)];rfl
 walk_at "r"
 refine Ar (λτ=>∃v,τ=[v,some (.dat (.tup (ws.map .str)))]) (λk=>.tup (ws.map λv=>.int (dM (pw ws k) v:Int))) ?_ ?_ ?_
 .exact⟨_,rfl⟩
 .rintro k τ d hk ed ⟨v,rfl⟩ K1 k1;rw [iI hk] at ed;subst ed;have w1:=hw _ (cf (show k<ws.length by omega));walk_at "r"
  refine Ar (λτ=>∃v,τ=[v,some (.dat (.str (pw ws k)))]) (λj=>.int (dM (pw ws k) (pw ws j):Int)) ?_ ?_ ?_
  .exact⟨_,rfl⟩
  .rintro j τ d hj ed ⟨v,rfl⟩ K2 k2;rw [iI hj] at ed;subst ed;have w2:=hw _ (cf (show j<ws.length by omega));walk_at "r";exact k2 _ ⟨_,rfl⟩
  .rintro τ ⟨v,rfl⟩;rw [rr (λw=>D.int (dM (pw ws k) w:Int))];walk_at "r";exact k1 _ ⟨_,rfl⟩
 .rintro τ ⟨v,rfl⟩;rw [rr (λw=>D.tup (ws.map λv=>.int (dM w v:Int)))];walk_at "r";exact q
noncomputable def nB:PTS:=(mq (FD (pOr (FA (pB (Hs .str (pSl 0)))) (FA (pB (wX fLe fLe (pSl 1) (pFz (pCB Dd (c6 (pSl 0) iG))) (pSl 2))))) (B4 (pC (.bl false))) wY) (B4 (pCB GG (c6 (pFz (B7 [none] (Ev (zh 0)) (ib 0) Ak (wX fLe fLe (pFz (pC (.str [97]))) (pSl 0) (pFz (pC (.str [122])))))) iG))))
def j5:PRl eU nB 3 3:=λ_ Q h=>oY h λd _ h=>df h λa _ h=>df h λb _ h=>cE h λh=>s_ rfl <| by
 walk_at "z";obtain⟨hd,hl,q⟩:=h
 cases d with
 | str l =>
  have hl:l.length<=1000000:=hl;walk_at "r"
  refine cJ (λc1=>?_) (λc1=>?_)
  .walk_at "r"
   refine rY (λc2=>?_) (λc2=>?_)
   .walk_at "r";rw [show zo (.str l) a b=false by rw [oB,decide_eq_false c2,J_];rfl] at q;exact q
   .walk_at "r"
    refine Ar (λτ=>∃v,τ=[v]) (λk=>.bl (ltB (l.getD k 0))) ?_ ?_ ?_
    .exact⟨_,rfl⟩
    .rintro k τ _ hk rfl ⟨v,rfl⟩ K1 k1;walk_at "r"
     refine rY (λc=>?_) (λc=>?_)
     .have hc:97<=l.getD k 0:=of_decide_eq_true (by rw [<- sk];rw [decide_eq_false c];rfl);walk_at "r";show K1 (.bl (!decide (([122]:List Nat)<[l.getD k 0]))) _;rw [sk];rw [show ltB (l.getD k 0)=decide (l.getD k 0<=122) by unfold ltB;rw [decide_eq_true hc];rfl] at k1;exact k1 _ ⟨_,rfl⟩
     .have hc:¬ 97<=l.getD k 0:=of_decide_eq_false (by rw [<- sk,decide_eq_true c];rfl);walk_at "r";rw [show ltB (l.getD k 0)=false by unfold ltB;rw [decide_eq_false hc];rfl] at k1;exact k1 _ ⟨_,rfl⟩
    .rintro τ ⟨v,rfl⟩;walk_at "r";refine⟨(g_ l.length).map λk=>ltB (l.getD k 0),by rw [map_map];rfl,?_⟩
     have e:zo (.str l) a b=(((g_ l.length).map λk=>ltB (l.getD k 0)).all id):=by
      rw [oB,decide_eq_true c1,decide_eq_true c2,Bool.and_self,Lo,sj];rw [all_map];rfl
     rw [e] at q;exact q
  .walk_at "r";rw [show zo (.str l) a b=false by rw [oB,decide_eq_false c1,LY];rfl] at q;exact q
 | non=>walk_at "r";exact q
 | bl b=>walk_at "r";exact q
 | int i=>walk_at "r";exact q
 | ty n=>cases hd
 | lst ds=>walk_at "r";exact q
 | tup ds=>walk_at "r";exact q
 | scr ns=>cases hd
 | dic ks ds=>walk_at "r";exact q
 | obj c ns ds=>cases hd
 | exc c ns ds=>cases hd
noncomputable def lH(K:a_)(mg:Str->Option Value)(t:TxC K/\TxX K mg):=(have TC:=t.1;have TX:=t.2;show LS K [] _ _ from (aJ (eR (aF (c:=c8) (ac (ae (ai (i:=0))) af)) (oh qG qG (al (i:=1)) (al (i:=0)) (al (i:=2))))))
def sQ:PTS:=psO lH
def sR:PRl iP sQ 3 3:=λ_ Q h=>oY h λd _ h=>df h λa _ h=>df h λb _ h=>cE h λh=>s_ rfl <| by
 walk_at "z";obtain⟨hd,q⟩:=h
 cases d with
 | int i =>
  walk_at "r"
  refine cJ (λc=>?_) (λc=>?_)
  .walk_at "r";rw [show Dh (.int i) a b=decide (i<=b) by unfold Dh;rw [show eh (.int i)=true from rfl,show toI (.int i)=i from rfl,decide_eq_true c];rfl] at q;exact q
  .walk_at "r";rw [show Dh (.int i) a b=false by unfold Dh;rw [show toI (.int i)=i from rfl,decide_eq_false c,LY,J_]] at q;exact q
 | str l=>walk_at "r";exact q
 | non=>walk_at "r";exact q
 | bl b=>walk_at "r";exact q
 | lst ds=>walk_at "r";exact q
 | tup ds=>walk_at "r";exact q
 | ty n=>cases hd
 | scr ns=>cases hd
 | dic ks ds=>walk_at "r";exact q
 | obj c ns ds=>cases hd
 | exc c ns ds=>cases hd
noncomputable def rz(K:a_)(mg:Str->Option Value)(t:TxC K/\TxX K mg):=(have TC:=t.1;have TX:=t.2;show LS K [] _ _ from (aq (aD (bP af) (aw (i:=2) rfl)) (aq (aD (sf oy (ai (i:=0)) (ac (al (i:=1)) af)) (aw (i:=3) rfl)) (aq (om (g6 (ax BZ (al (i:=3)) (ae (le_int (i:=0))))) (aq (fc (ut (i:=2) (ai (i:=3)))) (aD (sf zl (ai (i:=0)) (ac (al (i:=1)) (ac (ae (ax a8 (al (i:=3)) (ae (le_int (i:=1))))) af))) (aw (i:=3) rfl)))) (aJ (aW dW (ac (al (i:=2)) af)))))))
def yu:PTS:=psO rz
def yv:PRl lD yu 4 2:=λ_ Q h=>nr h λt _ h=>nr h λw _ h=>cE h λh=>s_ rfl <| by
 walk_at "z";obtain⟨⟨ht,hw0⟩,q⟩:=h;walk_at "r";refine⟨λk ρ=>∃lo:Nat,lo<=t.length/\k=t.length - lo/\ρ=[some (.dat (.str t)),some (.dat (.str w)),some (.own (((g_ lo).filter λk=>stA t w k).map nD)),some (.dat (.int (fnd t w lo)))],⟨_,0,IE _,rfl,rfl⟩,?_⟩;rintro k ρ ⟨lo,hlo,rfl,rfl⟩;have hll:(((g_ lo).filter λk=>stA t w k).map nD).length<=lo:=by rw [length_map];exact IG (Mw ..) (by rw [IF];omega)
 walk_at "r"
 refine cJ (λc=>?_) (λc=>?_)
 .obtain⟨p,e,h1,h2,h3⟩:=kA (a:=t) (b:=w) (lo:=lo) (by omega);have hp:=(of_decide_eq_true h2).1;rw [e];walk_at "r";refine⟨t.length - (p+1),by omega,p+1,by omega,rfl,?_⟩;rw [zN h1 h2 h3,map_append,show ((p:Int)+1).toNat=p+1 by omega];rfl
 .have e:fnd t w lo=-1:=by
   rcases Decidable.em (fnd t w lo=-1) with z|z
   .exact z
   .obtain⟨p,e,_⟩:=kA z;omega
  have ee:((g_ lo).filter λk=>stA t w k)=plN t w:=(CV hlo (uh e)).symm;rw [ee];walk_at "r";exact q
noncomputable def im(K:a_)(mg:Str->Option Value)(t:TxC K/\TxX K mg):=(have TC:=t.1;have TX:=t.2;show LS K [] _ _ from (aJ (sf oy (ai (i:=0)) (ac (al (i:=1)) af))))
def mF:PTS:=psO im
def mG:PRl eG mF 2 2:=λ_ Q h=>nr h λa _ h=>nr h λb _ h=>cE h λh=>s_ rfl <| by
 walk_at "z";walk_at "r";exact h
noncomputable def gJ(K:a_)(mg:Str->Option Value)(t:TxC K/\TxX K mg):=(have TC:=t.1;have TX:=t.2;show LS K [] _ _ from (aq (bW (g6 (ax og (ae (aW aY (ac (al (i:=0)) af))) (ae (le_int (i:=40))))) fb aP) (c7 (oj (ac (ae (ai (i:=0))) af)) (gq (n:=2) (bt (ay (i:=1) rfl) (bt (ay (i:=2) rfl) e9))) (bW (bQ (j9 (zn (c:=eU) (vs0:=[]) (ds:=[]) (by repeat (first|exact .nil|exact .cons (.int _) .nil|refine .cons (.int _) ?_)) (ac (ae (ai (i:=2))) (ac (ae (le_int (i:=1))) (ac (ae (le_int (i:=60))) af)))))) fb aP))))
def lI:PTS:=psO gJ
def lJ:PRl cF lI 3 1:=λ_ Q h=>oY h λd _ h=>cE h λh=>s_ rfl <| by
 walk_at "z";obtain⟨ws,hd,⟨hn,hp⟩,q⟩:=h;have hlm:(ws.map D.str).length=ws.length:=length_map _
 rcases hd with rfl|rfl
 .walk_at "r"
  refine⟨λk ρ=>∃v1 v2:Option PV,ρ=[some (.dat (.lst (ws.map .str))),v1,v2],⟨_,_,rfl⟩,?_,?_⟩
  .rintro k ρ d hk ed ⟨v1,v2,rfl⟩;have ed:d=.tup [.int k,itD (ws.map D.str) k]:=ed;rw [iI hk] at ed;subst ed;have hw:=hp _ (cf (show k<ws.length by omega));have ht:zo (.str (pw ws k)) 1 60=true:=xi.mpr hw;have h1:(pw ws k).length<=1000000:=by have:=hw.2.1;omega
   walk_at "r";refine BS ht ?_;exact⟨_,_,rfl⟩
  .rintro ρ ⟨v1,v2,rfl⟩;exact q
 .walk_at "r"
  refine⟨λk ρ=>∃v1 v2:Option PV,ρ=[some (.dat (.tup (ws.map .str))),v1,v2],⟨_,_,rfl⟩,?_,?_⟩
  .rintro k ρ d hk ed ⟨v1,v2,rfl⟩;have ed:d=.tup [.int k,itD (ws.map D.str) k]:=ed;rw [iI hk] at ed;subst ed;have hw:=hp _ (cf (show k<ws.length by omega));have ht:zo (.str (pw ws k)) 1 60=true:=xi.mpr hw;have h1:(pw ws k).length<=1000000:=by have:=hw.2.1;omega
   walk_at "r";refine BS ht ?_;exact⟨_,_,rfl⟩
  .rintro ρ ⟨v1,v2,rfl⟩;exact q
noncomputable def fZ(K:a_)(mg:Str->Option Value)(t:TxC K/\TxX K mg):=(have TC:=t.1;have TX:=t.2;show LS K [] _ _ from (aJ (ax BZ (ae (aF (c:=eG) (ac (ae (ai (i:=1))) (ac (ae (ai (i:=0))) af)))) (ae (le_int (i:=0))))))
def kv:PTS:=psO fZ
def ky:PRl ck kv 2 2:=λ_ Q h=>nr h λa _ h=>nr h λb _ h=>cE h λh=>s_ rfl <| by
 walk_at "z";walk_at "r";exact h
noncomputable def nC(K:a_)(mg:Str->Option Value)(t:TxC K/\TxX K mg):=(have TC:=t.1;have TX:=t.2;show LS K [] _ _ from (aq (aD (ax bz (al (i:=0)) (al (i:=1))) (aw (i:=2) rfl)) (aq (aD (bA (ix:=[none,some 2]) rfl (cB (ai (i:=0))) (λfs hc=>(ay (i:=0) (kd hc (by decide)))) (g6 (ax og (ae (aW aY (ac (al (i:=0)) af))) (ae (aW aY (ac (al (i:=1)) af))))) (ai (i:=0))) (aw (i:=3) rfl)) (aJ (eR (ax (AY (neg:=true)) (al (i:=2)) (ae (aR (al (i:=0)) aZ (aO (ai (i:=1)))))) (qF (aW EL (ac (ae (bA (ix:=[none,some 2]) rfl (cB (ai (i:=3))) (λfs hc=>(ay (i:=0) (kd hc (by decide)))) cM (aF (c:=ck) (ac (ae (ai (i:=1))) (ac (ae (ai (i:=0))) af))))) af))))))))
def vC:PTS:=psO nC
def vD:PRl j1 vC 4 2:=λ_ Q h=>oY h λd _ h=>df h λi _ h=>cE h λh=>s_ rfl <| by
 walk_at "z";obtain⟨ws,hd,⟨hn,hw⟩,hi,q⟩:=h;obtain⟨k,rfl⟩:∃k:Nat,i=(k:Int):=⟨i.toNat,by omega⟩
 have hk:k<ws.length:=by omega
 have hlm:(ws.map D.str).length=ws.length:=length_map _;have w1:=hw _ (cf hk)
 rcases hd with rfl|rfl <;> (
  walk_at "r";refine⟨_,cm hk rfl,?_⟩;walk_at "r"
  refine cfm (λτ=>∃v,τ=[v,some (.dat (.str (pw ws k)))]) (λj=>if (pw ws k).length<(pw ws j).length then some (.str (pw ws j)) else none) ?_ ?_ ?_
  .exact⟨_,rfl⟩
  .rintro j τ d hj ed ⟨v,rfl⟩ K1 K2 k1 k2;rw [iI hj] at ed;subst ed;have w2:=hw _ (cf (show j<ws.length by omega));walk_at "r"
   refine cJ (λc=>?_) (λc=>?_)
   .walk_at "r";exact k1 _ _ (by rw [if_pos (by omega)]) ⟨_,rfl⟩
   .exact k2 _ (by rw [if_neg (by omega)]) ⟨_,rfl⟩
  .rintro τ ⟨v,rfl⟩
   have e1:(g_ (ws.map D.str).length).filterMap (λj=>if (pw ws k).length<(pw ws j).length then some (D.str (pw ws j)) else none)=(ws.filter λo=>decide ((pw ws k).length<o.length)).map D.str:=by
    rw [hlm,zB (λw=>if (pw ws k).length<w.length then some (D.str w) else none) ws,<- jb];congr 1;funext w
    by_cases h:(pw ws k).length<w.length
    .rw [if_pos h,if_pos (decide_eq_true h)]
    .rw [if_neg h,if_neg (by rw [decide_eq_false h];decide)]
   rw [e1];have hll:(ws.filter λo=>decide ((pw ws k).length<o.length)).length<=ws.length:=Mw ..;generalize hL:(ws.filter λo=>decide ((pw ws k).length<o.length))=ls at hll ⊢;have hlm2:(ls.map D.str).length=ls.length:=length_map _;have c1:cQ (ws.map D.str) none (some (k:Int))=(ws.take k).map D.str:=by rw [dZ,map_take]
   have hfl:(cQ (ws.map D.str) none (some (k:Int))).all D.fl=true:=by rw [c1];exact xv _
   have hin:inD (.str (pw ws k)) (cQ (ws.map D.str) none (some (k:Int)))=decide (pw ws k∈ws.take k):=by rw [c1];exact oH _ _
   have hkb:bC ws k=(!inD (.str (pw ws k)) (cQ (ws.map D.str) none (some (k:Int))) && !ls.any λo=>hG (pw ws k) o):=by
    unfold bC;rw [hin,hL]
   rw [B_,hkb] at q;walk_at "r"
   refine wV (Ee (λc=>?_) (λc=>?_))
   .walk_at "r";have c:inD (.str (pw ws k)) (cQ (ws.map D.str) none (some (k:Int)))=true:=c;rw [c] at q;exact q
   .have c:inD (.str (pw ws k)) (cQ (ws.map D.str) none (some (k:Int)))=false:=c;rw [c,Bool.not_false,Lo] at q;walk_at "r"
    refine Ar (λτ=>∃v,τ=[v,some (.dat (.str (pw ws k)))]) (λj=>.bl (hG (pw ws k) (pw ls j))) ?_ ?_ ?_
    .exact⟨_,rfl⟩
    .rintro j τ d hj ed ⟨v,rfl⟩ K1 k1;rw [iI hj] at ed;subst ed;walk_at "r";exact k1 _ ⟨_,rfl⟩
    .rintro τ ⟨v,rfl⟩;walk_at "r"
     refine⟨ls.map λo=>hG (pw ws k) o,?_,?_⟩
     .rw [hlm2,map_map]
      conv=>rhs;rw [<- AA ls,map_map]
      rfl
     .rw [show ((ls.map λo=>hG (pw ws k) o).any id)=ls.any (λo=>hG (pw ws k) o) by rw [any_map];rfl];walk_at "r";exact q)
noncomputable def lK(K:a_)(mg:Str->Option Value)(t:TxC K/\TxX K mg):=(have TC:=t.1;have TX:=t.2;show LS K [] _ _ from (aq (aD (sf uB (le_str (l:=[])) (ac (ae (bA (ix:=[none,some 0]) rfl (cB (aR (al (i:=2)) aZ (aO (le_int (i:=1))))) (λfs hc=>(ay (i:=0) (kd hc (by decide)))) cM (ax bz (al (i:=1)) (al (i:=0))))) af)) (aw (i:=3) rfl)) (aq (c7 (w6 (ac (ae (ai (i:=2))) (ac (ae (aR (al (i:=2)) (aO (le_int (i:=1))) aZ)) af))) (gq (n:=2) (bt (ay (i:=4) rfl) (bt (ay (i:=5) rfl) e9))) (EU (i:=3) (aw (i:=3) rfl) (aR (ae (ax bz (al (i:=0)) (al (i:=5)))) (aO (ax bz (ae (ax bz (al (i:=1)) (al (i:=4)))) (al (i:=5)))) aZ))) (aJ (ai (i:=3))))))
def sS:PTS:=psO lK
def sU:PRl iQ sS 6 3:=λ_ Q h=>HQ h λds _ h=>oY h λd2 _ h=>oY h λd _ h=>cE h λh=>s_ rfl <| by
 walk_at "z";obtain⟨ws,rfl,rfl,⟨hn,hw⟩,js,hd,⟨hjl,hj⟩,q⟩:=h;have hjm:(js.map nD).length=js.length:=length_map _;have ht1:((js.take 1).map nD).length<=1:=by rw [length_map,length_take];omega
 have hpw:=CY hw;have hgl:=yg hpw
 have hg1:((js.take 1).map (pw ws)).flatten.length<=1000000:=by
  rw [yh];have:=hgl (js.take 1);rw [length_take] at this;omega
 rcases hd with rfl|rfl <;> (
  walk_at "r";rw [G0]
  refine⟨by omega,cm1 (λj=>.str (pw ws j)) (λj hjm v K1 k1=>?_) (λv=>?_)⟩
  .have hj2:=hj j (LF hjm);walk_at "r";refine⟨_,cm hj2 rfl,?_⟩;walk_at "r";exact k1 _
  .rw [sB (pw ws) (js.take 1)];walk_at "r";rw [Iz,yh]
   refine IA (α:=Nat) (λ(pre:List Nat) ρ=>∃x v4 v5:Option PV,ρ=[some (.dat (.tup (ws.map .str))),some (.dat (zA ws)),x,some (.dat (.str (glN ws pre))),v4,v5]) ⟨_,_,_,rfl⟩ ?_ ?_
   .rintro pre a b suf ρ ej ⟨x,v4,v5,rfl⟩;have ha:a<ws.length:=hj a (by rw [ej];simp);have hb:b<ws.length:=hj b (by rw [ej];simp);have hpl:(pre++[a]).length<=60:=by have:=congrArg Lq ej;simp at this ⊢;omega
    have g1:=hgl (pre++[a]);have c1:=bd (pw ws b) (some (dM (pw ws a) (pw ws b):Int)) none;have c2:=hpw b;have e1:nD a=.int (a:Int):=rfl;have e2:nD b=.int (b:Int):=rfl;rw [e1,e2];walk_at "r";refine⟨_,cm hb rfl,?_⟩;walk_at "r";refine⟨_,zO ha rfl,?_⟩;walk_at "r";refine⟨_,CW hb rfl,?_⟩;walk_at "r";exact⟨_,_,_,by rw [kH,dn]⟩
   .rintro ρ ⟨x,v4,v5,rfl⟩;walk_at "r";exact q)
noncomputable def io(K:a_)(mg:Str->Option Value)(t:TxC K/\TxX K mg):=(have TC:=t.1;have TX:=t.2;show LS K [] _ _ from (c7 (jD (ac (ae (aW aY (ac (al (i:=0)) af))) af)) (ay (i:=1) rfl) (bW (bQ (j9 (aF (c:=j1) (ac (ae (ai (i:=0))) (ac (ae (ai (i:=1))) af))))) fb aP)))
def mH:PTS:=psO io
def mI:PRl cZ mH 2 1:=λ_ Q h=>oY h λd _ h=>cE h λh=>s_ rfl <| by
 walk_at "z";obtain⟨ws,hd,⟨hn,hp,hk⟩,q⟩:=h;have hlm:(ws.map D.str).length=ws.length:=length_map _;walk_at "r";refine Ay hd ?_;walk_at "r"
 refine⟨λk ρ=>∃v:Option PV,ρ=[some (.dat d),v],⟨_,rfl⟩,?_,?_⟩
 .rintro k ρ _ hi rfl ⟨v,rfl⟩;have hi:k<ws.length:=by rw [hlm,B_] at hi;exact hi
  have h1:ws.length<=1000/\∀w∈ws,w.length<=10000:=⟨by omega,λw hw=>IG (hp w hw).2.1 (by decide)⟩
  have h2:0<=(k:Int)/\(k:Int)<(ws.length:Int):=⟨by omega,by omega⟩
  have h3:bC ws (k:Int).toNat=true:=hk k hi;walk_at "r";refine⟨ws,hd,h1,h2,?_⟩;rw [h3];walk_at "r";exact⟨_,rfl⟩
 .rintro ρ ⟨v,rfl⟩;walk_at "r";exact q
noncomputable def gK(K:a_)(mg:Str->Option Value)(t:TxC K/\TxX K mg):=(have TC:=t.1;have TX:=t.2;show LS K [] _ _ from (aq (bW (bQ (j9 (aF (c:=jh) (ac (ae (ai (i:=0))) af)))) fb aP) (aq (c7 (oj (ac (ae (aR (al (i:=0)) aZ (aO (ai (i:=1))))) af)) (gq (n:=2) (bt (ay (i:=2) rfl) (bt (ay (i:=3) rfl) e9))) (bW (bQ (j9 (aF (c:=iP) (ac (ae (ai (i:=3))) (ac (ae (le_int (i:=1))) (ac (ae (le_int (i:=9))) af)))))) fb aP)) (bW (g6 (ax lg (ae (aW aY (ac (al (i:=0)) af))) (al (i:=1)))) fb aP))))
def lL:PTS:=psO gK
def lM:PRl cG lL 4 2:=λ_ Q h=>oY h λd _ h=>df h λm _ h=>cE h λh=>s_ rfl <| by
 walk_at "z";obtain⟨cs,hd,⟨rfl,hn,hc⟩,q⟩:=h;have hlm:(cs.map nD).length=cs.length:=length_map _;have ec:cQ (cs.map nD) none (some (cs.length:Int))=cs.map nD:=by rw [dZ];exact Jj (by omega)
 have cl:=bd (cs.map nD) none (some (cs.length:Int))
 rcases hd with rfl|rfl <;> (
  walk_at "r";rw [ec]
  refine HK (xs:=cs) (e:=nD) (λ_ ρ=>∃v2 v3:Option PV,ρ=[_,_,v2,v3]) ⟨_,_,rfl⟩ ?_ ?_
  .rintro pre x suf ρ ew ⟨v2,v3,rfl⟩;have hx:=hc x (by rw [ew];simp)
   have hw:Dh (nD x) 1 9=true:=by
    show (true && (decide ((1:Int)<=(x:Int)) && decide ((x:Int)<=9)))=true;rw [decide_eq_true (by omega),decide_eq_true (by omega)];rfl
   walk_at "r";rw [hw];exact⟨_,_,rfl⟩
  .rintro ρ ⟨v2,v3,rfl⟩;walk_at "r";exact q)
noncomputable def lN(K:a_)(mg:Str->Option Value)(t:TxC K/\TxX K mg):=(have TC:=t.1;have TX:=t.2;show LS K [] _ _ from (aq (aD (bP af) (aw (i:=1) rfl)) (aq (aD (le_int (i:=1)) (aw (i:=2) rfl)) (aq (c7 (cB (ai (i:=0))) (ay (i:=3) rfl) (aq (fc (ut (i:=1) (ai (i:=2)))) (CS (i:=2) (aw (i:=2) rfl) (ax a8 (al (i:=3)) (ae (le_int (i:=1))))))) (aJ (m8 (ac (ae (ai (i:=1))) (ac (ae (ai (i:=2))) af))))))))
def sV:PTS:=psO lN
def sW:PRl fF sV 4 1:=λ_ Q h=>oY h λd _ h=>cE h λh=>s_ rfl <| by
 walk_at "z";obtain⟨cs,hd,⟨hn,hc⟩,q⟩:=h;have hlm:(cs.map nD).length=cs.length:=length_map _;walk_at "r";refine EW hd ?_
 refine FH (xs:=cs) (e:=nD) (λpre ρ=>∃(ss:List Int) (p:Int) (v:Option PV),ss.length=pre.length/\0<=p/\p<=4^pre.length/\ρ=[some (.dat d),some (.own (ss.map .int)),some (.dat (.int p)),v]) ⟨[],1,_,rfl,by decide,by decide,rfl⟩ ?_ ?_
 .rintro pre x suf ρ ew ⟨ss,p,v,hs,h0,h1,rfl⟩;have hx:=hc x (by rw [ew];simp);have hl:pre.length<4:=by have:=congrArg Lq ew;rw [length_append,length_cons] at this;omega
  have hsm:(ss.map D.int).length=ss.length:=length_map _;have hm:z0 p ((x:Int)+1):=.inr ⟨by omega,by omega⟩;have h2:p*((x:Int)+1)<=p*4:=L8 (by omega) h0;have h3:0<=p*((x:Int)+1):=mul_nonneg h0 (by omega);walk_at "r";exact⟨ss++[p],_,_,by rw [length_append,length_append,hs];rfl,h3,by rw [length_append];show _<=(4:Int)^(pre.length+1);rw [pow_succ];omega,by rw [map_append];rfl⟩
 .rintro ρ ⟨ss,p,v,hs,h0,h1,rfl⟩
  have h4:(4:Int)^cs.length<=500:=by
   rcases (show cs.length=0\/cs.length=1\/cs.length=2\/cs.length=3\/cs.length=4 by omega) with e|e|e|e|e <;> rw [e] <;> decide
  walk_at "r";exact q ss p (by omega)
noncomputable def ji:PTS:=(mq (ur (lb cF (c6 (pFz (zh 1)) iG))) (mq (ur (lb cZ (c6 (pFz (zh 1)) iG))) (mq (ur (lb cG (c6 (pFz (zh 2)) (c6 (pFz (pCB Dd (c6 (pSl 1) iG))) iG)))) (mq (FD (pB (pOp fGt (pFz (pOp fIx (pFz (lb fF (c6 (pFz (zh 2)) iG))) (pFz (pC (.int 1))))) (pFz (pC (.int 500))))) wZ wY) (mq (qI "Often" [] "pieces" 0 (pCB uu (c6 (pSl 1) iG))) (mq (qI "Often" ["pieces"] "counts" 0 (pCB uu (c6 (pSl 2) iG))) (mq (qI "Often" ["pieces","counts"] "laps" 0 (lb fE (c6 (pFz (FE "Often" ["pieces","counts"] 0 (pSl 0))) iG))) (qI "Often" ["pieces","counts","laps"] "total" 0 (pCB Ca (c6 (pFz (B7 [none,none] (Ex (c6 (pFz (FE "Often" ["pieces","counts","laps"] 0 (pSl 0))) (c6 (pFz (FE "Often" ["pieces","counts","laps"] 1 (pSl 0))) iG))) (xr 2 (uq (ib 0) (uq (ib 1) B3))) Ak (pOp Gv (pFz (pCB Dd (c6 (pSl 0) iG))) (pSl 1)))) iG))))))))))
def fO:RRl bX ji 3 3:=λ_ _ Q h=>IC h λh=>oY h λd _ h=>oY h λe _ h=>cE h λh=>s_ rfl <| by
 walk_at "z";obtain⟨ps,hd,cs,he,⟨hn,hp,hk,hcl,hc⟩,q⟩:=h;have hpm:(ps.map D.str).length=ps.length:=length_map _;have hcm:(cs.map nD).length=cs.length:=length_map _;have g1:ps.length<=40/\Pcs 60 ps:=⟨by omega,hp⟩
 have g2:ps.length<=40/\Pcs 60 ps/\(∀i,i<ps.length->bC ps i=true):=⟨by omega,hp,hk⟩
 have g5:ps.length<=1000/\∀w∈ps,0<w.length/\w.length<=10000:=⟨by omega,λw hw=>⟨(hp w hw).1,IG (hp w hw).2.1 (by decide)⟩⟩
 have g4:cs.length<=4/\∀c∈cs,1<=c/\c<=3:=⟨by omega,hc⟩
 walk_at "r";refine⟨ps,hd,g1,?_⟩;walk_at "r";refine⟨ps,hd,g2,?_⟩;walk_at "r";refine Ay hd ?_;walk_at "r";refine⟨cs,he,⟨by omega,by omega,λc h=>by have:=hc c h;omega⟩,?_⟩;walk_at "r";refine⟨cs,he,g4,λss p h5=>?_⟩;walk_at "r"
 rcases hd with rfl|rfl <;> rcases he with rfl|rfl <;> (
  walk_at "r"
  refine cmZ (xs:=ps) (ys:=cs) (e:=D.str) (e':=nD) (λp c=>.int ((p.length:Int)*(c:Int))) ?_ ?_
  .intro p c hpc v w K1 k1;have h1:=(hp p (of_mem_zip hpc).1).2.1;have hm:z0 (p.length:Int) (c:Int):=.inl ⟨by omega,by omega⟩;walk_at "r";exact k1 _ _
  intro v w;walk_at "r";refine⟨(ps.zip cs).map λp=>(p.1.length:Int)*(p.2:Int),by rw [map_map];rfl,?_⟩;walk_at "r";exact q)
noncomputable def ip(K:a_)(mg:Str->Option Value)(t:TxC K/\TxX K mg):=(have TC:=t.1;have TX:=t.2;show LS K [] _ _ from (aq (aD (zw (ix:=[none,none,none]) rfl (oj (ac (ae (i8 (ns0:=["pieces","counts","laps","total"]) TC.cl_Often TC.n_Often_counts (i:=1) (by decide +kernel) (al (i:=0)))) af)) (λfs hc=>(gq (n:=2) (bt (ay (i:=0) (kd hc (by decide))) (bt (ay (i:=1) (kd hc (by decide))) e9)))) cM (jD (ac (ae (ai (i:=1))) af)) (λfs hc=>(ay (i:=2) (kd hc (by decide)))) cM (ai (i:=0))) (aw (i:=2) rfl)) (aJ (eR (aF (c:=eF) (ac (ae (ai (i:=1))) (ac (ae (aW aY (ac (al (i:=2)) af))) af))) (ax de (ae (aW uC (ac (al (i:=1)) af))) (al (i:=2)))))))
def mJ:PTS:=psO ip
def mK:PRl eH mJ 3 2:=λ_ Q h=>A4 h λc ns fs _ h=>oY h λd _ h=>cE h λh=>s_ rfl <| by
 walk_at "z";obtain⟨rfl,rfl,ps,cs,rfl,⟨hd,hl,hn,hc⟩,q⟩:=h;have hcm:(cs.map nD).length=cs.length:=length_map _;have hl6:(bj d).length<=1000000:=by omega
 have hrl:=dH hc cs.length;walk_at "r"
 refine⟨⟨λk ys τ=>ys=(rwN cs k).map nD/\∃v w z:Option PV,τ=[v,w,z],⟨rfl,_,_,_,rfl⟩,?_,?_⟩⟩
 .rintro k ys τ _ hk rfl ⟨rfl,v,w,z,rfl⟩;have hk2:k<cs.length:=by rw [hcm] at hk;exact hk
  have cb:cs.getD k 0<=9:=by rw [d_,c_ hk2];exact hc _ (IY _)
  have hrk:=dH hc k;rw [Az hk];walk_at "r";rw [B_]
  refine⟨λj zs τ=>zs=(rwN cs k++so j k).map nD/\∃z:Option PV,τ=[some (.dat (.int (k:Int))),some (.dat (.int ((cs.getD k 0:Nat):Int))),z],⟨by rw [replicate_zero,IL],_,rfl⟩,?_,?_⟩
  .rintro j zs τ _ hj rfl ⟨rfl,z,rfl⟩;walk_at "r";refine⟨by rw [length_map,length_append,length_replicate];omega,?_,_,rfl⟩;rw [List.replicate_succ',<- append_assoc,map_append (l₁:=_++_)];rfl
  .rintro zs τ ⟨rfl,z,rfl⟩;exact⟨by rw [fG],_,_,_,rfl⟩
 .rintro ys τ ⟨rfl,v,w,z,rfl⟩;rw [hcm];have hrm:((rwN cs cs.length).map nD).length=(rwN cs cs.length).length:=length_map _;walk_at "r"
  refine Ee (λc=>?_) (λc=>?_)
  .rw [hrm] at c;have c:cU d ((rwN cs cs.length).length:Nat)=true:=c
   obtain⟨zs,hz,hzl⟩:∃zs:List Int,iJ d (zs.map .int)/\zs.length=(rwN cs cs.length).length:=by
    unfold cU at c;rw [and_eq_true,and_eq_true] at c;obtain⟨c1,c2,c3⟩:=c;have c2:=of_decide_eq_true c2
    cases d with
    | lst ds=>exact⟨ds.map toI,.inl (congrArg _ (lh c3)),by rw [length_map];have c2:((ds.length:Nat):Int)=_:=c2;omega⟩
    | tup ds=>exact⟨ds.map toI,.inr (congrArg _ (lh c3)),by rw [length_map];have c2:((ds.length:Nat):Int)=_:=c2;omega⟩
    | _=>cases c1
   have h64:zs.length<64:=by omega
   have ti:(zs.map D.int).map toI=zs:=by rw [map_map];exact List.map_id' _
   have eo:cg d cs=decide (zs.Perm ((rwN cs cs.length).map λk=>((k:Nat):Int))):=by
    unfold cg;rw [c,Lo,hz.items,ti]
   rw [eo] at q
   have eqk:∀ns':List Int,rZ (D.lst (ns'.map D.int)) (D.lst ((rwN cs cs.length).map nD)):=λns'=>by
    rw [fY];exact rZ.of (Sh.lstI _) (Sh.lstI _)
   have deqk:∀ns':List Int,ns'.Perm zs->ns'.Pairwise (·<=·)->deq (D.lst (ns'.map D.int)) (D.lst ((rwN cs cs.length).map nD))=decide (zs.Perm ((rwN cs cs.length).map λk=>((k:Nat):Int))):=λns' h1 h2=>by
    rw [fY,oJ];exact uP h1 h2 (j2 cs cs.length)
   rcases hz with rfl|rfl <;> (
    walk_at "r";intro ns' h1 h2;have e1:=eqk ns';walk_at "r";rw [deqk ns' h1 h2];exact q)
  .rw [hrm] at c;have c:cU d ((rwN cs cs.length).length:Nat)=false:=c;walk_at "r";rw [show cg d cs=false by unfold cg;rw [c];rfl] at q;exact q
noncomputable def lO(K:a_)(mg:Str->Option Value)(t:TxC K/\TxX K mg)(Ec:D->Prop)(E:XK):=(have TC:=t.1;have TX:=t.2;show LSX K Ec E [] _ _ from (qT (E4 (bQ (j9 (aF (c:=eH) (ac (ae (ai (i:=0))) (ac (ae (ai (i:=1))) af))))) (xM (c:="NoOrder") TX.all (w_.mp (by decide +kernel))) (LS.x aP)) (LS.x (aJ (aF (c:=iQ) (ac (ae (i8 (ns0:=["pieces","counts","laps","total"]) TC.cl_Often TC.n_Often_pieces (i:=0) (by decide +kernel) (al (i:=0)))) (ac (ae (i8 (ns0:=["pieces","counts","laps","total"]) TC.cl_Often TC.n_Often_laps (i:=2) (by decide +kernel) (al (i:=0)))) (ac (ae (ai (i:=1))) af))))))))
def sX:(D->Prop)->PTS:=psX lO
def sY:XRl dI sX 2 2:=λ_ Q E h=>A4 h λc ns fs _ h=>oY h λd _ h=>cE h λh=>s_ rfl <| by
 walk_at "z";obtain⟨rfl,rfl,ps,cs,rfl,⟨hs,hl,hn,hc,hcp,hw⟩,he,q⟩:=h;have h0:Srt d/\(bj d).length<=60/\cs.length<=4/\∀c∈cs,c<=9:=⟨hs,hl,hn,hc⟩
 have h1:ps.length<=60/\∀w∈ps,w.length<=60:=⟨by omega,hw⟩
 walk_at "r";refine⟨ps,cs,rfl,h0,?_⟩;walk_at "r"
 refine wV (Ee (λc=>?_) (λc=>?_))
 .obtain⟨js,hj,hp⟩:=yi c;have hrl:=dH hc cs.length;walk_at "r";exact⟨js,hj,⟨by rw [hp.length_eq];omega,λj m=>by rw [<- hcp];exact ny (hp.mem_iff.mp m)⟩,q js hj hp⟩
 .walk_at "r";exact he c
noncomputable def rA(K:a_)(mg:Str->Option Value)(t:TxC K/\TxX K mg)(Ec:D->Prop)(E:XK):=(have TC:=t.1;have TX:=t.2;show LSX K Ec E [] _ _ from (qT (LS.x (aD (bP af) (aw (i:=2) rfl))) (qT (E5 (oj (ac (ae (i8 (ns0:=["pieces","counts","laps","total"]) TC.cl_Often TC.n_Often_pieces (i:=0) (by decide +kernel) (al (i:=0)))) af)) (gq (n:=2) (bt (ay (i:=3) rfl) (bt (ay (i:=4) rfl) e9))) (qT (LS.x (aD (aR (ae (aF (c:=lD) (ac (ae (ai (i:=1))) (ac (ae (ai (i:=4))) af)))) aZ (aO (ax bz (ae (i8 (ns0:=["pieces","counts","laps","total"]) TC.cl_Often TC.n_Often_counts (i:=1) (by decide +kernel) (al (i:=0)))) (al (i:=3))))) (aw (i:=5) rfl))) (qT (E4 (g6 (ax BY (ae (aW aY (ac (al (i:=5)) af))) (ae (ax bz (ae (i8 (ns0:=["pieces","counts","laps","total"]) TC.cl_Often TC.n_Often_counts (i:=1) (by decide +kernel) (al (i:=0)))) (al (i:=3)))))) (xL (c:="NotHeld") (f:="at") TX.all (w_.mp (by decide +kernel)) (ac (ae (ai (i:=3))) af)) (LS.x aP)) (LS.x (CT (i:=2) (bA (ix:=[none,some 3]) rfl (cB (ai (i:=5))) (λfs hc=>(ay (i:=0) (kd hc (by decide)))) cM (m8 (ac (ae (ai (i:=0))) (ac (ae (ai (i:=1))) af))))))))) (LS.x (aJ (aW dW (ac (ae (bA (ix:=[none,none]) rfl (cB (aW zI (ac (al (i:=2)) af))) (λfs hc=>(gq (n:=2) (bt (ay (i:=0) (kd hc (by decide))) (bt (ay (i:=1) (kd hc (by decide))) e9)))) cM (ai (i:=1)))) af)))))))
def yw:(D->Prop)->PTS:=psX rA
def yx:XRl gH yw 6 2:=λ_ Q E h=>A4 h λc ns fs _ h=>nr h λt _ h=>cE h λh=>s_ rfl <| by
 walk_at "z";obtain⟨rfl,rfl,ps,cs,rfl,⟨hn,hp,hk,hcl,hc,ht⟩,he,q⟩:=h;have hpm:(ps.map D.str).length=ps.length:=length_map _
 have ca:∀i,i<ps.length->atI (cs.map nD) (i:Int)=some (.int ((cs.getD i 0:Nat):Int)):=λi hi=>by
  refine dR (j:=i) ?_ rfl;rw [k_,c_ (show i<cs.length by omega),d_,c_ (show i<cs.length by omega)];rfl
 walk_at "r"
 refine HK (xs:=ps) (e:=D.str) (λpre ρ=>(∃v3 v4 v5:Option PV,ρ=[some (.dat (.obj "Often" vy (vz ps cs))),some (.dat (.str t)),some (.own (((pq ps cs t pre.length).map prR).map yG)),v3,v4,v5])/\∀j,j<pre.length->cs.getD j 0<=(plN t (pw ps j)).length) ⟨⟨_,_,_,rfl⟩,nofun⟩ ?_ ?_
 .rintro pre x suf ρ ew ⟨⟨v3,v4,v5,rfl⟩,hf⟩;have hl:pre.length<ps.length:=by rw [ew];simp
  have hx:x=pw ps pre.length:=by
   have h1:ps[pre.length]?=some x:=by rw [ew,JS (pf _)];simp
   rw [c9 hl] at h1;exact (r_ h1).symm
  have hx0:=(hp x (by rw [ew];simp)).1;subst hx;have g1:t.length<=100000/\0<(pw ps pre.length).length:=⟨ht,hx0⟩
  have hal:=pz (ps:=ps) (t:=t) hc pre.length;have ha2:(((pq ps cs t pre.length).map prR).map yG).length<=36:=by rw [length_map,length_map];omega
  have hfl:=uR ps cs t pre.length;have cut:cQ ((plN t (pw ps pre.length)).map nD) none (some ((cs.getD pre.length 0:Nat):Int))=((plN t (pw ps pre.length)).take (cs.getD pre.length 0)).map nD:=by rw [dZ,map_take]
  have cb:cs.getD pre.length 0<=9:=by rw [d_,c_ (show pre.length<cs.length by omega)];exact hc _ (IY _)
  have tl:(((plN t (pw ps pre.length)).take (cs.getD pre.length 0)).map nD).length=min (cs.getD pre.length 0) (plN t (pw ps pre.length)).length:=by rw [length_map,length_take]
  walk_at "r";refine⟨_,ca _ hl,?_⟩;walk_at "r";rw [cut];walk_at "r";refine⟨_,ca _ hl,?_⟩;walk_at "r"
  refine cJ (λc=>?_) (λc=>?_)
  .walk_at "r";exact he _ hl hf (by omega)
  .walk_at "r"
   refine cm1 (λp=>yG (prR (p,pre.length))) (λp hp v K1 k1=>?_) (λv=>?_)
   .walk_at "r";exact k1 _
   .have e1:((plN t (pw ps pre.length)).take (cs.getD pre.length 0)).map (λp=>yG (prR (p,pre.length)))=((rL ps cs t pre.length).map prR).map yG:=by unfold rL;rw [map_map,map_map];rfl
    rw [e1];walk_at "r"
    refine⟨?_,λj hj=>?_⟩
    .rw [length_append,show pre.length+[pw ps pre.length].length=pre.length+1 from rfl,gG,map_append,map_append];exact⟨_,_,_,rfl⟩
    .rw [length_append] at hj;have hj:j<pre.length+1:=hj
     by_cases e:j=pre.length
     .rw [e];omega
     .exact hf j (by omega)
 .rintro ρ ⟨⟨v3,v4,v5,rfl⟩,hf⟩;have hal:=pz (ps:=ps) (t:=t) hc ps.length
  have hso:((pq ps cs t ps.length).map prR).length<64/\∀r∈(pq ps cs t ps.length).map prR,r≠[]:=⟨by rw [length_map];omega,λr hr=>by
   obtain⟨k,_,e⟩:=Ju.mp hr;rw [<- e];exact nofun⟩
  walk_at "r";rintro rs h1 h2;obtain⟨rows,rfl,ok⟩:=C3 hk hf h1 h2;have hpl:=ok.perm.length_eq;have hrm:((rows.map prR).map yG).length=rows.length:=by rw [length_map,length_map]
  walk_at "r"
  refine cm2 (λr=>.int (r.getD 1 0)) (λr hr v w K1 k1=>?_) (λv w=>?_)
  .obtain⟨k,_,rfl⟩:=Ju.mp hr;walk_at "r";exact k1 _ _
  .have e3:(rows.map prR).map (λr=>D.int (r.getD 1 0))=rows.map λr=>nD r.2:=by rw [map_map];rfl
   rw [e3];have hrl:(rows.map λr=>nD r.2).length=rows.length:=length_map _;walk_at "r";exact q rows ok
noncomputable def jj(K:a_)(mg:Str->Option Value)(t:TxC K/\TxX K mg):=(have TC:=t.1;have TX:=t.2;show LS K [] _ _ from (aq (aD (ax a8 (ae (ax fX (ae (le_int (i:=5))) (al (i:=1)))) (ae (le_int (i:=3)))) (aw (i:=2) rfl)) (aq (iH (bW (g6 (ax og (ae (aW aY (ac (al (i:=0)) af))) (ae (le_int (i:=0))))) (aD (aW EH (ac (ae (ax bz (al (i:=0)) (ae (ax k7 (al (i:=1)) (ae (aW aY (ac (al (i:=0)) af))))))) af)) (aw (i:=2) rfl)) aP)) (aJ (bP (ac (ae (ai (i:=2))) (ac (ae (ax a8 (ae (ax a8 (ae (ax k7 (al (i:=2)) (ae (le_int (i:=2147483629))))) (ae (ax fX (ae (le_int (i:=7919))) (al (i:=1)))))) (ae (le_int (i:=11))))) af)))))))
def pE:PTS:=psO jj
def pF:PRl fH pE 3 2:=λ_ Q h=>IB h λns _ h=>df h λk _ h=>cE h λh=>s_ rfl <| by
 walk_at "z";obtain⟨⟨hk0,hk1,hn⟩,q⟩:=h;walk_at "r"
 refine⟨λρ=>∃c:Int,ρ=[some (.dat (.scr ns)),some (.dat (.int k)),some (.dat (.int c))]/\0<=c,?_,?_⟩
 .walk_at "r";refine cJ (λc=>?_) (λc=>⟨_,rfl,by omega⟩);obtain⟨n,hn1,hn2⟩:∃n:Nat,k % (ns.length:Int)=(n:Int)/\n<ns.length:=⟨(k % (ns.length:Int)).toNat,by have:=MW k (show (ns.length:Int)≠0 by omega);omega,by have:=MX k (show 0<(ns.length:Int) by omega);have:=MW k (show (ns.length:Int)≠0 by omega);omega⟩
  walk_at "r";rw [hn1];refine⟨ns[n],dR (c_ hn2) rfl,?_⟩;exact⟨_,rfl,by split <;> omega⟩
 .rintro ρ ⟨c,rfl,hc⟩;walk_at "r";exact q (c,c % 2147483629+7919*k+11) ⟨hc,by omega,by omega⟩
noncomputable def lP(K:a_)(mg:Str->Option Value)(t:TxC K/\TxX K mg):=(have TC:=t.1;have TX:=t.2;show LS K [0] _ _ from (aq (bW (g6 (ax og (ae (ax bz (al (i:=0)) (ae (le_int (i:=0))))) (ae (le_int (i:=0))))) (aq (aD (ax k7 (ae (ax bz (al (i:=0)) (ae (le_int (i:=0))))) (al (i:=1))) (aw (i:=2) rfl)) (aq (r8 (i:=0) (ax oa (ae (ax bz (al (i:=0)) (ae (le_int (i:=0))))) (al (i:=1))) (le_int (i:=0))) (aJ (ai (i:=2))))) aP) (aq (r8 (i:=0) (ax k7 (ae (ax a8 (ae (ax fX (ae (ax bz (al (i:=0)) (ae (le_int (i:=1))))) (ae (le_int (i:=48271))))) (ae (le_int (i:=12345))))) (ae (le_int (i:=2147483647)))) (le_int (i:=1))) (aJ (ax k7 (ae (ax oa (ae (ax k7 (ae (ax fX (ae (ax bz (al (i:=0)) (ae (le_int (i:=1))))) (ae (ax bz (al (i:=0)) (ae (le_int (i:=1))))))) (ae (le_int (i:=2147483629))))) (ae (le_int (i:=7))))) (al (i:=1)))))))
def sZ:PTS:=psO lP
def tm:RRl aC sZ 3 2:=λ_ _ Q h=>uO h λ_ h=>df h λc0 _ h=>df h λc1 _ h=>cE h λh=>df h λm _ h=>cE h λh=>s_ rfl <| by
 walk_at "z";obtain⟨⟨g0,g1,g2⟩,hm,hm2,q⟩:=h;have mod:∀z:Int,0<=z % m/\z % m<m:=λz=>⟨MW z (by omega),MX z hm⟩
 walk_at "r"
 refine cJ (λc=>?_) (λc=>?_)
 .walk_at "r";exact q _ (_,_) ⟨ediv_nonneg g0 (by omega),g1,g2⟩ (mod c0).1 (mod c0).2
 .have n0:0<=(c1*48271+12345) % 2147483647:=MW _ (by decide);have n1:(c1*48271+12345) % 2147483647<2147483647:=MX _ (by decide);walk_at "r";exact q _ (_,_) ⟨g0,n0,by omega⟩ (mod _).1 (mod _).2
noncomputable def lQ(K:a_)(mg:Str->Option Value)(t:TxC K/\TxX K mg):=(have TC:=t.1;have TX:=t.2;show LS K [0] _ _ from (aJ (sf uB (le_str (l:=[])) (ac (ae (bA (ix:=[none,some 1,some 0]) rfl (jD (ac (ae (ax a8 (ae (le_int (i:=1))) (ae (aE (c:=aC) (i:=0) (ac (ae (ai (i:=2))) af))))) af)) (λfs hc=>(ay (i:=0) (kd hc (by decide)))) cM (ax bz (al (i:=1)) (ae (aE (c:=aC) (i:=2) (ac (ae (aW aY (ac (al (i:=1)) af))) af)))))) af))))
def tq:PTS:=psO lQ
def tu:RRl cq tq 3 3:=λ_ _ Q h=>uO h λ_ h=>df h λc0 _ h=>df h λc1 _ h=>cE h λh=>nr h λls _ h=>df h λm _ h=>cE h λh=>s_ rfl <| by
 walk_at "z";obtain⟨g,⟨h0,h26,hls⟩,⟨hm,hm2⟩,q⟩:=h;walk_at "r";intro x s hs hx0 hx1;walk_at "r"
 refine⟨λk ys τ=>∃(v:Option PV) (s:Int×Int) (ws:List Nat),τ=[v,some (.dat (.str ls)),some (stv s)]/\SOk s/\ys=ws.map (λc=>.str [c])/\ws.length=k/\Lts ws,⟨none,s,[],rfl,hs,rfl,rfl,Lts.nil⟩,?_,?_⟩
 .rintro k ys τ _ hk rfl ⟨v,⟨a,b⟩,ws,rfl,hs,rfl,hl,hL⟩;walk_at "r";intro z s2 hs2 hz0 hz1;obtain⟨j,rfl⟩:∃j:Nat,z=(j:Int):=⟨z.toNat,by omega⟩
  have hj:j<ls.length:=by omega
  walk_at "r";refine⟨_,dR (c_ hj) rfl,?_⟩;exact⟨_,s2,ws++[ls[j]],rfl,hs2,by rw [map_append];rfl,by rw [length_append,hl];rfl,hL.app (Lts.one (hls _ (IY hj)))⟩
 .rintro ys τ ⟨v,s2,ws,rfl,hs2,rfl,hl,hL⟩;walk_at "r"
  refine⟨ws.map λc=>[c],zp ws,?_,?_⟩
  .rw [ke];omega
  .rw [ke];walk_at "r";exact q ws s2 hs2 (by omega) (by omega) hL
noncomputable def nE(K:a_)(mg:Str->Option Value)(t:TxC K/\TxX K mg):=(have TC:=t.1;have TX:=t.2;show LS K [0] _ _ from (aq (aD (aE (c:=aC) (i:=0) (ac (ae (aW aY (ac (al (i:=1)) af))) af)) (aw (i:=3) rfl)) (aJ (aR (al (i:=1)) (aO (ai (i:=3))) (aO (ax a8 (ae (ax a8 (al (i:=3)) (ae (le_int (i:=1))))) (ae (aE (c:=aC) (i:=0) (ac (ae (ai (i:=2))) af)))))))))
def vE:PTS:=psO nE
def vF:RRl j3 vE 4 3:=λ_ _ Q h=>uO h λ_ h=>df h λc0 _ h=>df h λc1 _ h=>cE h λh=>nr h λt _ h=>df h λm _ h=>cE h λh=>s_ rfl <| by
 walk_at "z";obtain⟨g,⟨h0,h1,ht⟩,⟨hm,hm2⟩,q⟩:=h;walk_at "r";rintro x ⟨a,b⟩ hs hx0 hx1;walk_at "r";intro y s2 hs2 hy0 hy1;walk_at "r";obtain⟨i,rfl⟩:∃i:Nat,x=(i:Int):=⟨x.toNat,by omega⟩
 obtain⟨j,rfl⟩:∃j:Nat,y=(j:Int):=⟨y.toNat,by omega⟩
 show Q (.dat (.str (cQ t (some (i:Int)) (some ((i:Int)+1+(j:Int)))))) _;rw [show (i:Int)+1+(j:Int)=((i+1+j:Nat):Int) by omega,qu];exact q _ s2 hs2 (by rw [length_take,length_drop];omega) (by rw [length_take,length_drop];omega) ((ht.drop _).take _)
noncomputable def lR(K:a_)(mg:Str->Option Value)(t:TxC K/\TxX K mg):=(have TC:=t.1;have TX:=t.2;show LS K [0] _ _ from (aq (aD (ax bz (ae (bP (ac (ae (le_str (l:=[97,98]))) (ac (ae (le_str (l:=[97,98,99]))) (ac (ae (le_str (l:=[97,98,99,100,101,102,103,104,105,106,107,108,109,110,111,112,113,114,115,116,117,118,119,120,121,122]))) af))))) (ae (aE (c:=aC) (i:=0) (ac (ae (le_int (i:=3))) af)))) (aw (i:=2) rfl)) (aq (aD (aE (c:=cq) (i:=0) (ac (ae (ai (i:=2))) (ac (ae (ax fX (ae (le_int (i:=3))) (al (i:=1)))) af))) (aw (i:=3) rfl)) (aq (iH (bW (g6 (ax de (ae (aE (c:=aC) (i:=0) (ac (ae (le_int (i:=3))) af))) (ae (le_int (i:=0))))) (aD (ax fX (ae (aR (al (i:=3)) aZ (aO (ax a8 (ae (le_int (i:=1))) (ae (aE (c:=aC) (i:=0) (ac (ae (le_int (i:=3))) af))))))) (al (i:=1))) (aw (i:=3) rfl)) aP)) (aJ (m8 (ac (ae (ai (i:=2))) (ac (ae (ai (i:=3))) af))))))))
def tw:PTS:=psO lR
def tz:RRl iR tw 4 2:=λ_ _ Q h=>uO h λ_ h=>df h λc0 _ h=>df h λc1 _ h=>cE h λh=>df h λm _ h=>cE h λh=>s_ rfl <| by
 walk_at "z";obtain⟨g,⟨hm,hm2⟩,q⟩:=h;walk_at "r";rintro x ⟨a,b⟩ hs hx0 hx1
 obtain⟨ls,hls,hl1,hl2,hL⟩:∃ls:List Nat,atI [D.str [97,98],D.str [97,98,99],D.str [97,98,99,100,101,102,103,104,105,106,107,108,109,110,111,112,113,114,115,116,117,118,119,120,121,122]] x=some (.str ls)/\0<ls.length/\ls.length<=26/\Lts ls:=by
  have lt:∀l:List Nat,(l.all λc=>decide (97<=c) && decide (c<=122))=true->Lts l:=λl h c hc=>by
   have:=Jw.mp h c hc;rw [and_eq_true,decide_eq_true_eq,decide_eq_true_eq] at this;exact this
  rcases (show x=0\/x=1\/x=2 by omega) with h|h|h <;> rw [h]
  all_goals exact⟨_,rfl,by decide,by decide,lt _ (by decide)⟩
 have gl:0<ls.length/\ls.length<=26/\Lts ls:=⟨hl1,hl2,hL⟩
 have g3:0<3*m/\3*m<=10000:=⟨by omega,by omega⟩
 walk_at "r";refine⟨_,hls,?_⟩;walk_at "r";rintro w ⟨a2,b2⟩ hs2 hw0 hw1 hwL;walk_at "r"
 refine⟨λρ=>∃(u:List Nat) (s:Int×Int),SOk s/\0<u.length/\u.length<=100000/\Lts u/\ρ=[some (stv s),some (.dat (.int m)),some (.dat (.str ls)),some (.dat (.str u))],?_,?_⟩
 .walk_at "r";rintro y ⟨a3,b3⟩ hs3 hy0 hy1;walk_at "r"
  refine cJ (λc=>?_) (λc=>?_)
  .walk_at "r";rintro z ⟨a4,b4⟩ hs4 hz0 hz1
   have ct:cQ w none (some (1+z))=w.take (1+z).toNat:=by
    obtain⟨n,hn⟩:∃n:Nat,1+z=(n:Int):=⟨(1+z).toNat,by omega⟩
    rw [hn,dZ,B_]
   have cl1:(w.take (1+z).toNat).length<=3:=by rw [length_take];omega
   have cl0:0<(w.take (1+z).toNat).length:=by rw [length_take];omega
   have w2:(-1000000:Int)<=m/\m<=1000000/\m.toNat*(cQ w none (some (1+z))).length<=1000000:=by
    refine⟨by omega,by omega,?_⟩;rw [ct];exact IG (mul_le_mul (show m.toNat<=100 by omega) cl1) (by decide)
   walk_at "r";rw [ct]
   refine⟨_,(a4,b4),hs4,?_,?_,(hwL.take _).rep _,rfl⟩
   .rw [dq];exact mul_pos (by omega) cl0
   .rw [dq];exact IG (mul_le_mul (show m.toNat<=100 by omega) cl1) (by decide)
  .exact⟨w,(a3,b3),hs3,hw0,by omega,hwL,rfl⟩
 .rintro ρ ⟨u,s,hs5,hu0,hu1,huL,rfl⟩;walk_at "r";exact q ls u s hs5 gl ⟨hu0,hu1,huL⟩
noncomputable def jk(K:a_)(mg:Str->Option Value)(t:TxC K/\TxX K mg):=(have TC:=t.1;have TX:=t.2;show LS K [0] _ _ from (aq (aD (aE (c:=iR) (i:=0) (ac (ae (ai (i:=2))) af)) (EV (n:=2) (bt (ay (i:=3) rfl) (bt (ay (i:=4) rfl) e9)))) (aq (aD (bP af) (aw (i:=5) rfl)) (aq (c7 (jD (ac (ae (ai (i:=1))) af)) (ay (i:=6) rfl) (aq (aD (aE (c:=aC) (i:=0) (ac (ae (le_int (i:=5))) af)) (aw (i:=7) rfl)) (aq (iH (bW (g6 (ax de (al (i:=7)) (ae (le_int (i:=0))))) (aD (aE (c:=cq) (i:=0) (ac (ae (ai (i:=3))) (ac (ae (ai (i:=2))) af))) (aw (i:=8) rfl)) (bW (g6 (ax de (al (i:=7)) (ae (le_int (i:=1))))) (aD (ax fX (ae (aE (c:=cq) (i:=0) (ac (ae (ai (i:=3))) (ac (ae (le_int (i:=2))) af)))) (al (i:=2))) (aw (i:=8) rfl)) (aD (aE (c:=j3) (i:=0) (ac (ae (ai (i:=4))) (ac (ae (ai (i:=2))) af))) (aw (i:=8) rfl))))) (fc (ut (i:=5) (aR (al (i:=8)) aZ (aO (ai (i:=2))))))))) (aJ (ai (i:=5)))))))
def pG:PTS:=psO jk
def pH:RRl fJ pG 9 3:=λ_ _ Q h=>uO h λ_ h=>df h λc0 _ h=>df h λc1 _ h=>cE h λh=>df h λn _ h=>df h λm _ h=>cE h λh=>s_ rfl <| by
 walk_at "z";obtain⟨g,⟨hn0,hn1,hm0,hm1⟩,q⟩:=h;obtain⟨N,rfl⟩:∃N:Nat,n=(N:Int):=⟨n.toNat,by omega⟩
 have gm:0<m/\m<=100:=⟨hm0,by omega⟩
 have gm2:0<m/\m<=10000:=⟨hm0,by omega⟩
 walk_at "r";rintro ls b ⟨a1,b1⟩ hs1 hls hb;walk_at "r";rw [B_]
 refine⟨λk ρ=>∃(ps:List (List Nat)) (s:Int×Int) (v6 v7 v8:Option PV),SOk s/\ps.length=k/\Pcs m.toNat ps/\ρ=[some (stv s),some (.dat (.int (N:Int))),some (.dat (.int m)),some (.dat (.str ls)),some (.dat (.str b)),some (.own (ps.map .str)),v6,v7,v8],⟨[],(a1,b1),_,_,_,hs1,rfl,(λw hw=>nomatch hw),rfl⟩,?_,?_⟩
 .rintro k ρ _ hk rfl ⟨ps,⟨a2,b2⟩,v6,v7,v8,hs2,hpl,hps,rfl⟩;have hpm:(ps.map D.str).length=ps.length:=length_map _;walk_at "r";rintro y ⟨a3,b3⟩ hs3 hy0 hy1;walk_at "r"
  refine⟨λρ=>∃(p:List Nat) (s:Int×Int),SOk s/\0<p.length/\p.length<=1000/\Lts p/\ρ=[some (stv s),some (.dat (.int (N:Int))),some (.dat (.int m)),some (.dat (.str ls)),some (.dat (.str b)),some (.own (ps.map .str)),some (.dat (.int (k:Int))),some (.dat (.int y)),some (.dat (.str p))],?_,?_⟩
  .walk_at "r"
   refine cJ (λc=>?_) (λc=>?_)
   .walk_at "r";rintro w s5 hs5 hw0 hw1 hwL;exact⟨w,s5,hs5,hw0,by omega,hwL,rfl⟩
   .walk_at "r"
    refine cJ (λc3=>?_) (λc3=>?_)
    .have g2:(0:Int)<2/\(2:Int)<=10000:=⟨by decide,by decide⟩
     walk_at "r";rintro w ⟨a5,b5⟩ hs5 hw0 hw1 hwL;have hw1:w.length<=2:=hw1;have r1:m.toNat*w.length<=60*2:=mul_le_mul (by omega) hw1;have r2:0<m.toNat*w.length:=mul_pos (by omega) hw0;have gr:-1000000<=m/\m<=1000000/\m.toNat*w.length<=1000000:=⟨by omega,by omega,by omega⟩
     have rl:=dq w m;walk_at "r"
     refine⟨_,(a5,b5),hs5,?_,?_,λc hc=>hwL c (zP hc),rfl⟩
     .omega
     .omega
    .walk_at "r";rintro w s5 hs5 hw0 hw1 hwL;exact⟨w,s5,hs5,hw0,by omega,hwL,rfl⟩
  rintro ρ ⟨p,⟨a6,b6⟩,hs6,hp0,hp1,hpL,rfl⟩;have ct:cQ p none (some m)=p.take m.toNat:=yY p (by omega);walk_at "r";rw [ct];refine⟨ps++[_],(a6,b6),_,_,_,hs6,by rw [length_append,hpl];rfl,λw hw=>?_,by rw [map_append];rfl⟩
  rcases JG.mp hw with h|h
  .exact hps w h
  .rw [JL.mp h];exact⟨by rw [length_take];omega,by rw [length_take];omega,hpL.take _⟩
 .rintro ρ ⟨ps,s,v6,v7,v8,hs2,hpl,hps,rfl⟩;walk_at "r";exact q ps s hs2 (by omega) hps
noncomputable def jl(K:a_)(mg:Str->Option Value)(t:TxC K/\TxX K mg):=(have TC:=t.1;have TX:=t.2;show LS K [] _ _ from (aq (c7 (cB (ai (i:=0))) (ay (i:=2) rfl) (bW (uo (g6 (ax og (ae (aW aY (ac (al (i:=2)) af))) (ae (aW aY (ac (ae (ax bz (al (i:=0)) (al (i:=1)))) af))))) (g6 (ax BZ (ae (sf oy (ai (i:=2)) (ac (ae (ax bz (al (i:=0)) (al (i:=1)))) af))) (ae (le_int (i:=0)))))) (aJ (gg (i:=true))) aP)) (aJ (ax (AY (neg:=false)) (ae (ax bz (al (i:=0)) (al (i:=1)))) (ae (aR (al (i:=0)) aZ (aO (ai (i:=1)))))))))
def pI:PTS:=psO jl
def pJ:PRl dh pI 3 2:=λ_ Q h=>sI h λds _ h=>df h λi _ h=>cE h λh=>s_ rfl <| by
 walk_at "z";obtain⟨ws,rfl,⟨hn,hp⟩,⟨h0,h1⟩,q⟩:=h;obtain⟨k,rfl⟩:∃k:Nat,i=(k:Int):=⟨i.toNat,by omega⟩
 rw [B_] at q;have hk:k<ws.length:=by omega
 have w1:=(hp _ (cf hk)).2.1;have c1:cQ (ws.map D.str) none (some (k:Int))=(ws.take k).map D.str:=by rw [dZ,map_take]
 have hfl:(cQ (ws.map D.str) none (some (k:Int))).all D.fl=true:=by rw [c1];exact xv _
 have hin:inD (.str (pw ws k)) (cQ (ws.map D.str) none (some (k:Int)))=decide (pw ws k∈ws.take k):=by rw [c1];exact oH _ _
 walk_at "r"
 refine FH (λpre ρ=>(∃v2:Option PV,ρ=[some (.dat (.lst (ws.map .str))),some (.dat (.int (k:Int))),v2])/\∀o∈pre,(pw ws k).length<o.length->hG (pw ws k) o=false) ⟨⟨_,rfl⟩,λo ho=>nomatch ho⟩ ?_ ?_
 .rintro pre o suf ρ ew ⟨⟨v2,rfl⟩,ih⟩;have ho:o∈ws:=by rw [ew];simp
  have w2:=(hp o ho).2.1
  have keep:((pw ws k).length<o.length->hG (pw ws k) o=false)->∀o'∈pre++[o],(pw ws k).length<o'.length->hG (pw ws k) o'=false:=λh o' ho'=>by
   rcases JG.mp ho' with z|z
   .exact ih o' z
   .rw [JL.mp z];exact h
  have found:(pw ws k).length<o.length->hG (pw ws k) o=true->bC ws k=false:=λh1 h2=>by
   cases e:bC ws k with
   | false=>rfl
   | true =>
    have:=(fg.mp e).2 o ho h1;rw [h2] at this;cases this
  walk_at "r";refine⟨_,cm hk rfl,?_⟩;walk_at "r"
  refine cJ (λc=>?_) (λc=>?_)
  .walk_at "r";refine⟨_,cm hk rfl,?_⟩;walk_at "r"
   refine cJ (λc2=>?_) (λc2=>?_)
   .walk_at "r";rw [found (by omega) (CK.mpr (by omega))] at q;exact q
   .exact⟨⟨_,rfl⟩,keep λ_=>zF.mpr (by omega)⟩
  .exact⟨⟨_,rfl⟩,keep λz=>by omega⟩
 .rintro ρ ⟨⟨v2,rfl⟩,ih⟩
  have hq:(!bC ws k)=decide (pw ws k∈ws.take k):=by
   by_cases e:pw ws k∈ws.take k
   .rw [decide_eq_true e]
    cases e2:bC ws k with
    | false=>rfl
    | true=>exact absurd e (fg.mp e2).1
   .rw [decide_eq_false e,fg.mpr ⟨e,ih⟩];rfl
  rw [hq] at q;walk_at "r";refine⟨_,cm hk rfl,?_⟩;walk_at "r";rw [hin];exact q
noncomputable def ki(K:a_)(mg:Str->Option Value)(t:TxC K/\TxX K mg):=(have TC:=t.1;have TX:=t.2;show LS K [0] _ _ from (aq (aD (aE (c:=fJ) (i:=0) (ac (ae (ai (i:=1))) (ac (ae (ai (i:=2))) af))) (aw (i:=3) rfl)) (aJ (bA (ix:=[none,some 3]) rfl (jD (ac (ae (aW aY (ac (al (i:=3)) af))) af)) (λfs hc=>(ay (i:=0) (kd hc (by decide)))) (bQ (j9 (aF (c:=dh) (ac (ae (ai (i:=1))) (ac (ae (ai (i:=0))) af))))) (ax bz (al (i:=1)) (al (i:=0)))))))
def rB:PTS:=psO ki
def rC:RRl gI rB 4 3:=λ_ _ Q h=>uO h λ_ h=>df h λc0 _ h=>df h λc1 _ h=>cE h λh=>df h λn _ h=>df h λm _ h=>cE h λh=>s_ rfl <| by
 walk_at "z";obtain⟨g,⟨hn0,hn1,hm0,hm1⟩,q⟩:=h;have gp:0<=n/\n<=100/\0<m/\m<=60:=⟨hn0,hn1,hm0,hm1⟩
 walk_at "r";rintro ps s1 hs1 hpl hpp;have hp:Pcs 60 ps:=λw hw=>⟨(hpp w hw).1,by have:=(hpp w hw).2.1;omega,(hpp w hw).2.2⟩
 have hpm:(ps.map D.str).length=ps.length:=length_map _;have hw:ps.length<=100/\Pcs 60 ps:=⟨by omega,hp⟩
 walk_at "r";rw [hpm,B_]
 refine cfR (λk=>bC ps k) (λk=>.str (pw ps k)) (λk hk v K1 K2 k1 k2=>?_) (λv=>?_)
 .have hk2:0<=(k:Int)/\(k:Int)<(ps.length:Int):=⟨by omega,by omega⟩
  have ek:bC ps (k:Int).toNat=bC ps k:=rfl;walk_at "r";rw [ek]
  cases hc:bC ps k with
  | true =>
   walk_at "r";refine⟨_,cm hk rfl,?_⟩;exact k1 _ hc
  | false=>exact k2 _ hc
 .have e:((g_ ps.length).filter λk=>bC ps k).map (λk=>D.str (pw ps k))=(bI ps).map .str:=by unfold bI ie;rw [map_map];rfl
  rw [e];walk_at "r";exact q ps s1 hs1 hpl hpp
noncomputable def jm(K:a_)(mg:Str->Option Value)(t:TxC K/\TxX K mg):=(have TC:=t.1;have TX:=t.2;show LS K [0] _ _ from (aJ (bA (ix:=[none,some 0,some 2]) rfl (jD (ac (ae (ai (i:=1))) af)) (λfs hc=>(ay (i:=0) (kd hc (by decide)))) cM (ax a8 (ae (le_int (i:=1))) (ae (aE (c:=aC) (i:=1) (ac (ae (ai (i:=2))) af)))))))
def pK:PTS:=psO jm
def pL:RRl fK pK 3 3:=λ_ _ Q h=>uO h λ_ h=>df h λc0 _ h=>df h λc1 _ h=>cE h λh=>df h λn _ h=>df h λm _ h=>cE h λh=>s_ rfl <| by
 walk_at "z";obtain⟨g,⟨hn0,hn1,hm0,hm1⟩,q⟩:=h;walk_at "r"
 refine⟨λk ys τ=>∃(v:Option PV) (s:Int×Int) (cs:List Nat),τ=[v,some (stv s),some (.dat (.int m))]/\SOk s/\cs.length=k/\(∀c∈cs,1<=c/\c<=m.toNat)/\ys=cs.map nD,⟨none,(c0,c1),[],rfl,g,rfl,(λ_ h=>nomatch h),rfl⟩,?_,?_⟩
 .rintro k ys τ d hk ed ⟨v,⟨u,w⟩,cs,rfl,hs,hl,hc,rfl⟩;walk_at "r";rintro z s2 hs2 hz0 hz1;obtain⟨i,rfl⟩:∃i:Nat,z=(i:Int):=⟨z.toNat,by omega⟩
  walk_at "r";refine⟨_,s2,cs++[1+i],rfl,hs2,by rw [length_append,hl];rfl,λc h=>(JG.mp h).elim (hc c) λh=>by rw [JL.mp h];omega,?_⟩;rw [map_append];show _=_++[D.int ((1+i:Nat):Int)]
  rw [show ((1+i:Nat):Int)=1+(i:Int) by omega]
 .rintro ys τ ⟨v,s2,cs,rfl,hs2,hl,hc,rfl⟩;walk_at "r";exact q cs s2 hs2 hl hc
noncomputable def nF(K:a_)(mg:Str->Option Value)(t:TxC K/\TxX K mg):=(have TC:=t.1;have TX:=t.2;show LS K [] _ _ from (aq (c7 (Ew (ac (ae (ax m9 (ae (aW sd (ac (ae (aW aY (ac (al (i:=0)) af))) (ac (ae (aW aY (ac (al (i:=1)) af))) af)))) (ae (le_int (i:=1))))) (ac (ae (le_int (i:=0))) (ac (ae (zi uw (ae (le_int (i:=1))))) af)))) (ay (i:=2) rfl) (bW (g6 (ax de (ae (aR (al (i:=0)) (aO (ax m9 (ae (aW aY (ac (al (i:=0)) af))) (al (i:=2)))) aZ)) (ae (aR (al (i:=1)) aZ (aO (ai (i:=2))))))) (aJ (ai (i:=2))) aP)) (aJ (le_int (i:=0)))))
def vG:PTS:=psO nF
def vH:PRl gZ vG 3 2:=λ_ Q h=>nr h λa _ h=>nr h λb _ h=>cE h λh=>s_ rfl <| by
 walk_at "z";obtain⟨a1,⟨b0,b1⟩,q⟩:=h;have hm:(if (b.length:Int)<(a.length:Int) then (b.length:Int) else (a.length:Int))=((min a.length b.length:Nat):Int):=by split <;> omega
 walk_at "r";rw [hm]
 refine⟨λi ρ=>(∃v2:Option PV,ρ=[some (.dat (.str a)),some (.dat (.str b)),v2])/\∀j,min a.length b.length - i<=j->j<min a.length b.length->¬ b.take j <:+ a,⟨⟨_,rfl⟩,λj h1 h2=>by omega⟩,?_,?_⟩
 .rintro i ρ d hi ed ⟨⟨v2,rfl⟩,ih⟩;obtain⟨k,hk,hk2⟩:∃k:Nat,(((min a.length b.length:Nat):Int) - 1) - (i:Int)=(k:Int)/\k=min a.length b.length - 1 - i:=⟨min a.length b.length - 1 - i,by omega,rfl⟩
  have hk0:0<k:=by omega
  rw [hk] at ed;subst ed;have cd:cQ a (some ((a.length:Int) - (k:Int))) none=a.drop (a.length - k):=by rw [show (a.length:Int) - (k:Int)=((a.length - k:Nat):Int) by omega,dn]
  have ct:=dZ b k;walk_at "r";rw [cd,ct]
  refine cJ (λc=>?_) (λc=>?_)
  .walk_at "r"
   rw [show dM a b=k from oG ⟨by omega,by rw [<- c];exact drop_suffix ..,λj h1 h2=>by
    rcases Kg k j with h|h
    .exact absurd h2 (ih j (by omega) h1)
    .exact h⟩] at q
   exact q
  .refine⟨⟨_,rfl⟩,λj h1 h2=>?_⟩
   by_cases hj:j=k
   .subst hj;intro z;refine c ?_;obtain⟨t,ht⟩:=z;have hjb:j<=b.length:=by omega
    rw [<- ht,show (t++b.take j).length - j=t.length by rw [length_append,length_take,KO hjb,MT],drop_left]
   .exact ih j (by omega) h2
 .rintro ρ ⟨⟨v2,rfl⟩,ih⟩;walk_at "r"
  by_cases a0:0<a.length
  .rw [show dM a b=0 from oG ⟨by omega,by rw [take_zero];exact nil_suffix,λj h1 h2=>by
    rcases Kg 0 j with h|h
    .exact absurd h2 (ih j (by omega) h1)
    .exact h⟩] at q
   exact q
  .rw [show dM a b=0 by
    unfold dM;rw [dif_neg];rintro⟨k,hk⟩;have:=hk.1;omega] at q
   exact q
noncomputable def kj(K:a_)(mg:Str->Option Value)(t:TxC K/\TxX K mg):=(have TC:=t.1;have TX:=t.2;show LS K [] _ _ from (aJ (eR (k9 .int (al (i:=0))) (qF (k9 .bool (al (i:=0)))))))
def rD:PTS:=psO kj
def rE:PRl cu rD 1 1:=λ_ Q h=>oY h λd _ h=>cE h λh=>s_ rfl <| by
 walk_at "z";obtain⟨hd,q⟩:=h;cases d <;> first|(cases hd;done)|(walk_at "r";exact q)
noncomputable def gM(K:a_)(mg:Str->Option Value)(t:TxC K/\TxX K mg):=(have TC:=t.1;have TX:=t.2;show LS K [0] _ _ from (aq (aD (aW se (ac (al (i:=1)) af)) (aw (i:=2) rfl)) (aq (aD (bP af) (aw (i:=3) rfl)) (aq (om (g6 (ax lg (al (i:=2)) (ae (bP af)))) (fc (ut (i:=3) (zu (i:=2) (aE (c:=aC) (i:=0) (ac (ae (aW aY (ac (al (i:=2)) af))) af)))))) (aJ (AL (ai (i:=3))))))))
def lS:PTS:=psO gM
def lT:RRl dJ lS 4 2:=λ_ _ Q h=>uO h λ_ h=>df h λc0 _ h=>df h λc1 _ h=>cE h λh=>sI h λds _ h=>cE h λh=>s_ rfl <| by
 walk_at "z";obtain⟨xs,rfl,⟨g,hn⟩,q⟩:=h;have hxm:(xs.map nD).length=xs.length:=length_map _;walk_at "r";refine⟨λk ρ=>∃(rs js:List Nat) (s:Int×Int) (v1:Option PV),(js++rs).Perm xs/\SOk s/\k=rs.length/\ρ=[some (stv s),v1,some (.own (rs.map nD)),some (.own (js.map nD))],⟨xs.length,xs,[],(c0,c1),_,L6 _,g,rfl,rfl⟩,?_⟩;rintro k ρ ⟨rs,js,⟨a,b⟩,v1,hp,hs,rfl,rfl⟩;have hpl:=hp.length_eq;rw [length_append] at hpl
 have e1:=rh rs;have e2:=ym rs;walk_at "r";rw [e2]
 refine rY (λc=>?_) (λc=>?_)
 .have hrl:0<rs.length:=length_pos_iff.mpr c;have hrm:(rs.map nD).length=rs.length:=length_map _;have hjm:(js.map nD).length=js.length:=length_map _;walk_at "r";rintro z s2 hs2 hz0 hz1;obtain⟨i,rfl⟩:∃i:Nat,z=(i:Int):=⟨z.toNat,by omega⟩
  have hir:i<rs.length:=by omega
  walk_at "r";refine⟨i,nD rs[i],⟨by rw [hrm];exact HL hir,by omega⟩,by rw [k_,c_ hir];rfl,by show (js.map nD).length<_;omega,rs.length - 1,by omega,rs.eraseIdx i,js++[rs[i]],s2,v1,?_,hs2,by rw [length_eraseIdx,if_pos hir],by rw [map_append,xU];rfl⟩;rw [append_assoc];exact ((perm_append_comm.trans (xV hir)).append_left js).trans hp
 .have c:rs=[]:=c;subst c;rw [IL] at hp;walk_at "r";exact q js (a,b) hp hs
noncomputable def jn(K:a_)(mg:Str->Option Value)(t:TxC K/\TxX K mg):=(have TC:=t.1;have TX:=t.2;show LS K [0] _ _ from (aq (om (g6 (ax og (al (i:=3)) (ae (le_int (i:=0))))) (aq (bW (uo (g6 (ax de (ae (aR (al (i:=1)) (aO (ax m9 (ae (aW aY (ac (al (i:=1)) af))) (al (i:=3)))) aZ)) (ae (aR (al (i:=2)) aZ (aO (ai (i:=3))))))) (g6 (ax de (ae (aE (c:=aC) (i:=0) (ac (ae (le_int (i:=2))) af))) (ae (le_int (i:=0)))))) (aJ (ai (i:=3))) aP) (aD (ax m9 (al (i:=3)) (ae (le_int (i:=1)))) (aw (i:=3) rfl)))) (aJ (le_int (i:=0)))))
def pM:PTS:=psO jn
def pN:RRl fL pM 4 4:=λ_ _ Q h=>uO h λ_ h=>df h λc0 _ h=>df h λc1 _ h=>cE h λh=>nr h λa _ h=>nr h λb _ h=>df h λm _ h=>cE h λh=>s_ rfl <| by
 walk_at "z";obtain⟨g,⟨h0,h1,ha,hb⟩,q⟩:=h;walk_at "r";refine⟨λk ρ=>∃s:Int×Int,SOk s/\(k:Int)<=m/\ρ=[some (stv s),some (.dat (.str a)),some (.dat (.str b)),some (.dat (.int (k:Int)))],⟨m.toNat,(c0,c1),g,by omega,by rw [toNat_of_nonneg h0];rfl⟩,?_⟩;rintro k ρ ⟨⟨u,v⟩,hs,hk,rfl⟩;have cl1:=bd a (some ((a.length:Int) - (k:Int))) none;have cl2:=bd b none (some (k:Int));walk_at "r"
 refine cJ (λc=>?_) (λc=>?_)
 .walk_at "r"
  refine cJ (λc2=>?_) (λc2=>?_)
  .walk_at "r";rintro z s2 hs2 hz0 hz1;walk_at "r"
   refine cJ (λc3=>?_) (λc3=>?_)
   .walk_at "r";exact q k s2 hs2 hk
   .walk_at "r";refine⟨k - 1,by omega,s2,hs2,by omega,?_⟩;rw [show (k:Int) - 1=((k - 1:Nat):Int) by omega]
  .walk_at "r";refine⟨k - 1,by omega,(u,v),hs,by omega,?_⟩;rw [show (k:Int) - 1=((k - 1:Nat):Int) by omega]
 .walk_at "r";exact q 0 (u,v) hs (by omega)
noncomputable def lU(K:a_)(mg:Str->Option Value)(t:TxC K/\TxX K mg):=(have TC:=t.1;have TX:=t.2;show LS K [0] _ _ from (aq (aD (aR (ae (le_str (l:=[112,113]))) aZ (aO (ax oa (ae (aE (c:=aC) (i:=0) (ac (ae (le_int (i:=3))) af))) (ae (le_int (i:=2)))))) (aw (i:=2) rfl)) (aq (aD (le_str (l:=[])) (aw (i:=3) rfl)) (aq (c7 (cB (ai (i:=1))) (ay (i:=4) rfl) (aq (aD (aE (c:=aC) (i:=0) (ac (ae (le_int (i:=4))) af)) (aw (i:=5) rfl)) (aq (aD (le_int (i:=0)) (aw (i:=6) rfl)) (aq (iH (bW (uo (g6 (ax lg (al (i:=3)) (ae (le_str (l:=[]))))) (g6 (ax og (al (i:=5)) (ae (le_int (i:=0)))))) (aD (aF (c:=gZ) (ac (ae (ai (i:=3))) (ac (ae (ai (i:=4))) af))) (aw (i:=6) rfl)) aP)) (aq (iH (bW (g6 (ax de (al (i:=5)) (ae (le_int (i:=1))))) (aD (aE (c:=fL) (i:=0) (ac (ae (ai (i:=3))) (ac (ae (ai (i:=4))) (ac (ae (ai (i:=6))) af)))) (aw (i:=6) rfl)) aP)) (aq (iH (bW (g6 (ax de (al (i:=5)) (ae (le_int (i:=0))))) (aD (ax a8 (al (i:=2)) (ae (aR (ae (le_str (l:=[98,97]))) aZ (aO (aE (c:=aC) (i:=0) (ac (ae (le_int (i:=3))) af)))))) (aw (i:=2) rfl)) aP)) (aq (aD (ax a8 (al (i:=2)) (ae (aR (al (i:=4)) (aO (ai (i:=6))) aZ))) (aw (i:=2) rfl)) (aD (ai (i:=4)) (aw (i:=3) rfl))))))))) (aJ (ax a8 (al (i:=2)) (ae (aR (ae (le_str (l:=[113,112]))) aZ (aO (ax oa (ae (aE (c:=aC) (i:=0) (ac (ae (le_int (i:=3))) af))) (ae (le_int (i:=2)))))))))))))
def tD:PTS:=psO lU
def tE:RRl dL tD 7 2:=λ_ _ Q h=>uO h λ_ h=>df h λc0 _ h=>df h λc1 _ h=>cE h λh=>sI h λds _ h=>cE h λh=>s_ rfl <| by
 walk_at "z";obtain⟨ws,rfl,⟨g,hn,hp⟩,q⟩:=h;have hwm:(ws.map D.str).length=ws.length:=length_map _;walk_at "r";rintro z s1 hs1 hz0 hz1;have cl:=bd [112,113] none (some (z / 2));have c2:(cQ [112,113] none (some (z / 2))).length<=2:=cl;walk_at "r"
 refine FH (xs:=ws) (e:=D.str) (λpre ρ=>∃(s:Int×Int) (T one:List Nat) (v4 v5 v6:Option PV),SOk s/\T.length<=2+62*pre.length/\Fm pre<=T.length+zQ pre/\(pre=[]/\one=[]\/∃p,pre=p++[one])/\ρ=[some (stv s),some (.dat (.lst (ws.map .str))),some (.dat (.str T)),some (.dat (.str one)),v4,v5,v6]) ⟨s1,_,[],_,_,_,hs1,by omega,IE _,.inl ⟨rfl,rfl⟩,rfl⟩ ?_ ?_
 .rintro pre x suf ρ ew ⟨⟨u,v⟩,T,one,v4,v5,v6,hs,hT,ht,ho,rfl⟩;have hx:=hp x (by rw [ew];simp);have hx2:=hx.2.1
  have hone:one.length<=60:=by
   rcases ho with ⟨_,e⟩|⟨p,e⟩
   .rw [e];exact IE _
   .exact (hp one (by rw [ew,e];simp)).2.1
  have hpl:pre.length<40:=by
   have:=congrArg Lq ew;rw [length_append,length_cons] at this;omega
  obtain⟨L,hL0,hL1,hL2,hL3⟩:∃L:Nat,(one=[]->L=0)/\(one≠[]->L=dM one x)/\zQ (pre++[x])=zQ pre+L/\L<=60:=by
   rcases ho with ⟨e1,e2⟩|⟨p,e⟩
   .exact⟨0,λ_=>rfl,λz=>absurd e2 z,by rw [e1];rfl,IE _⟩
   .have h1:=(hp one (by rw [ew,e];simp)).1
    refine⟨dM one x,λz=>?_,λ_=>rfl,by rw [e];exact uS p one x,?_⟩
    .rw [z] at h1;exact absurd h1 (IV _)
    .have:=(lp h1 hx.1).1;omega
  have gx:one.length<=10000/\(0<x.length/\x.length<=10000):=⟨by omega,hx.1,by omega⟩
  walk_at "r";rintro w ⟨u2,v2⟩ hs2 hw0 hw1;walk_at "r"
  refine⟨λρ=>∃k:Nat,k<=L/\ρ=[some (stv (u2,v2)),some (.dat (.lst (ws.map .str))),some (.dat (.str T)),some (.dat (.str one)),some (.dat (.str x)),some (.dat (.int w)),some (.dat (.int (k:Int)))],?_,?_⟩
  .walk_at "r"
   refine rY (λc=>?_) (λc=>?_)
   .walk_at "r"
    refine cJ (λc2=>?_) (λc2=>?_)
    .walk_at "r";exact⟨dM one x,by rw [hL1 c];exact pf _,rfl⟩
    .exact⟨0,IE _,rfl⟩
   .exact⟨0,IE _,rfl⟩
  rintro ρ ⟨k,hk,rfl⟩;walk_at "r"
  refine⟨λρ=>∃(k:Nat) (s:Int×Int),SOk s/\k<=L/\ρ=[some (stv s),some (.dat (.lst (ws.map .str))),some (.dat (.str T)),some (.dat (.str one)),some (.dat (.str x)),some (.dat (.int w)),some (.dat (.int (k:Int)))],?_,?_⟩
  .have g2:0<=(k:Int)/\(k:Int)<=10000/\one.length<=10000/\x.length<=10000:=⟨by omega,by omega,by omega,by omega⟩
   walk_at "r"
   refine cJ (λc=>?_) (λc=>?_)
   .walk_at "r";rintro r s3 hs3 hr;exact⟨r,s3,hs3,by omega,rfl⟩
   .exact⟨k,(u2,v2),hs2,hk,rfl⟩
  rintro ρ ⟨k,⟨u3,v3⟩,hs3,hk,rfl⟩;walk_at "r"
  refine⟨λρ=>∃(F:List Nat) (s:Int×Int),SOk s/\T.length<=F.length/\F.length<=T.length+2/\ρ=[some (stv s),some (.dat (.lst (ws.map .str))),some (.dat (.str F)),some (.dat (.str one)),some (.dat (.str x)),some (.dat (.int w)),some (.dat (.int (k:Int)))],?_,?_⟩
  .walk_at "r"
   refine cJ (λc=>?_) (λc=>?_)
   .walk_at "r";rintro y s4 hs4 hy0 hy1;have cl4:(cQ [98,97] none (some y)).length<=2:=bd [98,97] none (some y);walk_at "r";exact⟨_,s4,hs4,by rw [length_append];omega,by rw [length_append];omega,rfl⟩
   .exact⟨T,(u3,v3),hs3,pf _,by omega,rfl⟩
  rintro ρ ⟨F,⟨u4,v4⟩,hs4,hF1,hF2,rfl⟩;have ec:cQ x (some (k:Int)) none=x.drop k:=dn x k;have el:=bd x (some (k:Int)) none;walk_at "r";rw [ec]
  refine⟨(u4,v4),F++x.drop k,x,_,_,_,hs4,?_,?_,.inr ⟨pre,rfl⟩,rfl⟩
  .rw [length_append,length_append,length_drop];show _<=2+62*(pre.length+1);omega
  .rw [zR,hL2,length_append,length_drop];omega
 .rintro ρ ⟨⟨u,v⟩,T,one,v4,v5,v6,hs,hT,ht,ho,rfl⟩;walk_at "r";rintro y s2 hs2 hy0 hy1;have cl3:(cQ [113,112] none (some (y / 2))).length<=2:=bd [113,112] none (some (y / 2));walk_at "r";exact q _ s2 hs2 (by rw [length_append];omega) (by rw [length_append];omega)
noncomputable def nG(K:a_)(mg:Str->Option Value)(t:TxC K/\TxX K mg):=(have TC:=t.1;have TX:=t.2;show LS K [0] _ _ from (aq (aD (bP af) (aw (i:=2) rfl)) (aq (c7 (jD (ac (ae (aW aY (ac (al (i:=1)) af))) af)) (ay (i:=3) rfl) (fc (A0 (i:=2) (ax fX (ae (bP (ac (ae (ai (i:=3))) af))) (ae (ax bz (al (i:=1)) (al (i:=3)))))))) (aJ (AL (aE (c:=dJ) (i:=0) (ac (ae (ai (i:=2))) af)))))))
def vI:PTS:=psO nG
def vJ:RRl cX vI 4 2:=λ_ _ Q h=>uO h λ_ h=>df h λc0 _ h=>df h λc1 _ h=>cE h λh=>sI h λds _ h=>cE h λh=>s_ rfl <| by
 walk_at "z";obtain⟨cs,rfl,⟨g,hn,hc⟩,q⟩:=h;have hcm:(cs.map nD).length=cs.length:=length_map _;walk_at "r"
 refine⟨λk ρ=>∃v3:Option PV,ρ=[some (.own [.int c0,.int c1]),some (.dat (.lst (cs.map nD))),some (.own ((rwN cs k).map nD)),v3],⟨_,rfl⟩,?_,?_⟩
 .rintro k ρ _ hk rfl ⟨v3,rfl⟩;have hk:k<cs.length:=by rw [hcm,B_] at hk;exact hk
  have ca:atI (cs.map nD) (k:Int)=some (.int ((cs.getD k 0:Nat):Int)):=dR (j:=k) (by rw [k_,c_ hk,d_,c_ hk];rfl) rfl;have cb:cs.getD k 0<=9:=by rw [d_,c_ hk];exact hc _ (IY _)
  have er:nW [D.int (k:Int)] ((cs.getD k 0:Nat):Int)=(so (cs.getD k 0) k).map nD:=by rw [oE,map_replicate];rfl
  have gm:(-1000000:Int)<=((cs.getD k 0:Nat):Int)/\((cs.getD k 0:Nat):Int)<=1000000/\[D.int (k:Int)].length*(((cs.getD k 0:Nat):Int)).toNat<=1000000:=⟨by omega,by omega,by show 1*_<=_;omega⟩
  have hl:=dH hc k;walk_at "r";refine⟨_,ca,?_⟩;walk_at "r";rw [er];walk_at "r";rw [fG,map_append];exact⟨by rw [length_map,length_map,length_replicate];omega,_,rfl⟩
 .rintro ρ ⟨v3,rfl⟩;rw [hcm,B_];have hl:=dH hc cs.length;have gs:SOk (c0,c1)/\(rwN cs cs.length).length<=1000:=⟨g,by omega⟩
  walk_at "r";intro js s hj hs;walk_at "r";exact q js s hj hs
noncomputable def lV(K:a_)(mg:Str->Option Value)(t:TxC K/\TxX K mg):=(have TC:=t.1;have TX:=t.2;show LS K [] _ _ from (aq (aD (le_str (l:=[])) (aw (i:=1) rfl)) (aq (c7 (jD (ac (ae (aW aY (ac (al (i:=0)) af))) af)) (ay (i:=2) rfl) (aq (aD (le_int (i:=0)) (aw (i:=3) rfl)) (aq (iH (bW (g6 (ax og (al (i:=2)) (ae (le_int (i:=0))))) (aD (aF (c:=gZ) (ac (ae (ax bz (al (i:=0)) (ae (ax m9 (al (i:=2)) (ae (le_int (i:=1))))))) (ac (ae (ax bz (al (i:=0)) (al (i:=2)))) af))) (aw (i:=3) rfl)) aP)) (aD (ax a8 (al (i:=1)) (ae (aR (ae (ax bz (al (i:=0)) (al (i:=2)))) (aO (ai (i:=3))) aZ))) (aw (i:=1) rfl))))) (aJ (ai (i:=1))))))
def tF:PTS:=psO lV
def tG:PRl fM tF 4 1:=λ_ Q h=>sI h λds _ h=>cE h λh=>s_ rfl <| by
 walk_at "z";obtain⟨ws,rfl,⟨hn,hw⟩,q⟩:=h;have hlm:(ws.map D.str).length=ws.length:=length_map _;have hpw:∀j,(pw ws j).length<=60:=CY λw h=>(hw w h).2;walk_at "r";rw [B_,hlm]
 refine⟨λk ρ=>∃(v2 v3:Option PV),k<=ws.length/\ρ=[some (.dat (.lst (ws.map .str))),some (.dat (.str (glN ws (g_ k)))),v2,v3],⟨_,_,IE _,rfl⟩,?_,?_⟩
 .rintro k ρ _ hk rfl ⟨v2,v3,_,rfl⟩;have gl:=yg hpw (g_ k);rw [IF] at gl
  have st:glN ws (g_ (k+1))=glN ws (g_ k)++(pw ws k).drop (if k=0 then 0 else dM (pw ws (k - 1)) (pw ws k)):=by
   have h:=oW (ws:=ws) (js:=g_ (k+1)) (k:=k) (by rw [IF];omega);have g:∀i,i<k+1->(g_ (k+1)).getD i 0=i:=λi hi=>by rw [d_,IU hi];rfl
   rw [g k (by omega),g (k - 1) (by omega),take_range,take_range,min_self,show min k (k+1)=k by omega] at h;exact h
  have wk:=hw _ (cf hk);walk_at "r"
  refine⟨λρ=>∃o:Nat,o=(if k=0 then 0 else dM (pw ws (k - 1)) (pw ws k))/\ρ=[some (.dat (.lst (ws.map .str))),some (.dat (.str (glN ws (g_ k)))),some (.dat (.int (k:Int))),some (.dat (.int (o:Int)))],?_,?_⟩
  .walk_at "r"
   refine cJ (λc=>?_) (λc=>?_)
   .have hk1:k - 1<ws.length:=by omega
    have wp:=hw _ (cf hk1);have gx:(0<(pw ws (k - 1)).length/\(pw ws (k - 1)).length<=10000)/\(0<(pw ws k).length/\(pw ws k).length<=10000):=⟨⟨wp.1,by omega⟩,wk.1,by omega⟩
    walk_at "r";refine⟨_,cm hk1 (by omega),?_⟩;walk_at "r";refine⟨_,cm hk rfl,?_⟩;walk_at "r";rw [if_neg (by omega)]
   .exact⟨0,by rw [if_pos (by omega)],rfl⟩
  .rintro ρ ⟨o,ho,rfl⟩;have co:cQ (pw ws k) (some (o:Int)) none=(pw ws k).drop o:=dn _ _;have cl:((pw ws k).drop o).length<=60:=by rw [length_drop];have:=hpw k;omega
   walk_at "r";refine⟨_,cm hk rfl,?_⟩;walk_at "r";rw [co];walk_at "r";rw [st,ho];exact⟨_,_,by omega,rfl⟩
 .rintro ρ ⟨v2,v3,_,rfl⟩;walk_at "r";exact q
noncomputable def jo(K:a_)(mg:Str->Option Value)(t:TxC K/\TxX K mg):=(have TC:=t.1;have TX:=t.2;show LS K [] _ _ from (aJ (bA (ix:=[none,some 1,some 0]) rfl (jD (ac (ae (aW aY (ac (al (i:=0)) af))) af)) (λfs hc=>(ay (i:=0) (kd hc (by decide)))) (g6 (ax de (ae (aR (al (i:=2)) (aO (ai (i:=0))) (aO (ax a8 (al (i:=0)) (ae (aW aY (ac (al (i:=1)) af))))))) (al (i:=1)))) (ai (i:=0)))))
def pO:PTS:=psO jo
def pP:PRl cH pO 2 2:=λ_ Q h=>nr h λt _ h=>nr h λw _ h=>cE h λh=>s_ rfl <| by
 walk_at "z";obtain⟨⟨ht,hw⟩,q⟩:=h;walk_at "r"
 refine cfR (λk=>stA t w k) (λk=>nD k) (λk hk v K1 K2 k1 k2=>?_) (λv=>?_)
 .have hk:k<t.length:=hk
  have e:cQ t (some (k:Int)) (some ((k:Int)+(w.length:Int)))=(t.drop k).take w.length:=by
   rw [show ((k:Int)+(w.length:Int))=((k+w.length:Nat):Int) from rfl,qu];congr 1;omega
  have hs:stA t w k=decide ((t.drop k).take w.length=w):=by
   unfold stA
   by_cases h:(t.drop k).take w.length=w
   .have hl:=congrArg Lq h;rw [length_take,length_drop] at hl;rw [decide_eq_true h,decide_eq_true ⟨by omega,h⟩]
   .rw [decide_eq_false h,decide_eq_false λz=>h z.2]
  rw [hs,<- e] at k1 k2;walk_at "r"
  refine cJ (λc=>?_) (λc=>?_)
  .walk_at "r";exact k1 _ (decide_eq_true c)
  .exact k2 _ (decide_eq_false c)
 .exact q
noncomputable def jp(K:a_)(mg:Str->Option Value)(t:TxC K/\TxX K mg):=(have TC:=t.1;have TX:=t.2;show LS K [] _ _ from (aq (c7 (w6 (ac (ae (ai (i:=1))) (ac (ae (ai (i:=2))) af))) (gq (n:=2) (bt (ay (i:=3) rfl) (bt (ay (i:=4) rfl) e9))) (bW (g6 (ax BY (ae (aW aY (ac (ae (aF (c:=cH) (ac (ae (ai (i:=0))) (ac (ae (ai (i:=3))) af)))) af))) (al (i:=4)))) (aJ (gg (i:=false))) aP)) (aJ (gg (i:=true)))))
def pQ:PTS:=psO jp
def pR:PRl fN pQ 5 3:=λ_ Q h=>nr h λt _ h=>sI h λds _ h=>sI h λes _ h=>cE h λh=>s_ rfl <| by
 walk_at "z";obtain⟨ps,rfl,cs,rfl,⟨ht,hw,hcl,he⟩,q⟩:=h;have hpm:(ps.map D.str).length=ps.length:=length_map _;have hcm:(cs.map nD).length=cs.length:=length_map _;walk_at "r"
 refine⟨λk ρ=>∃v3 v4:Option PV,ρ=[some (.dat (.str t)),some (.dat (.lst (ps.map .str))),some (.dat (.lst (cs.map nD))),v3,v4],⟨_,_,rfl⟩,?_,?_⟩
 .rintro k ρ _ hk rfl ⟨v3,v4,rfl⟩;have hk1:k<ps.length:=by omega
  rw [iI (by rw [hpm];exact hk1),Az (by rw [hcm];omega)];have g:t.length<=100000/\(pw ps k).length<=100000:=⟨ht,by have:=hw _ (cf hk1);omega⟩
  have hk2:=he k hk1;have plm:((plN t (pw ps k)).map nD).length=(plN t (pw ps k)).length:=length_map _;walk_at "r";exact⟨_,_,rfl⟩
 .rintro ρ ⟨v3,v4,rfl⟩;walk_at "r";exact q
noncomputable def iq(K:a_)(mg:Str->Option Value)(t:TxC K/\TxX K mg):=(have TC:=t.1;have TX:=t.2;show LS K [] _ _ from (aq (bW (mo (bQ (j9 (Ag .list .tuple ic (al (i:=0))))) (g6 (ax lg (ae (bA (ix:=[none]) rfl (cB (ai (i:=0))) (λfs hc=>(ay (i:=0) (kd hc (by decide)))) (bQ (j9 (aF (c:=cu) (ac (ae (ai (i:=0))) af)))) (ai (i:=0)))) (ae (bP af))))) (aJ (gg (i:=false))) aP) (aq (aD (bP af) (aw (i:=2) rfl)) (aq (c7 (jD (ac (ae (aW aY (ac (al (i:=1)) af))) af)) (ay (i:=3) rfl) (fc (A0 (i:=2) (ax fX (ae (bP (ac (ae (ai (i:=3))) af))) (ae (ax bz (al (i:=1)) (al (i:=3)))))))) (aJ (ax de (ae (aW uC (ac (al (i:=0)) af))) (al (i:=2))))))))
def mL:PTS:=psO iq
def mM:PRl c5 mL 4 2:=λ_ Q h=>oY h λd _ h=>sI h λes _ h=>cE h λh=>s_ rfl <| by
 walk_at "z";obtain⟨cs,rfl,⟨hd,hl,hf,hn,hc⟩,q⟩:=h;have hcm:(cs.map nD).length=cs.length:=length_map _
 by_cases hr:sv d=true
 .obtain⟨ds,hds⟩:∃ds,iJ d ds:=by cases d <;> first|exact⟨_,.inl rfl⟩|exact⟨_,.inr rfl⟩|cases hr
  have ei:=hds.items;rw [ei] at hl hf;have hs:∀x∈ds,x.sort=true:=by rw [<- ei];exact hd.2
  have comp:∀(ρ1:PSt) (Q1:PKt),(∀v:Option PV,Q1 (.own (A6 ds)) (dP [none] ρ1 [v]))->mr [none] ρ1 ds.length (itD ds) (ib 0) (FA (pB (lb cu (c6 (pFz (zh 0)) iG)))) (zh 0) Q1:=λρ1 Q1 hq=>by
   refine cfm (λτ=>∃v:Option PV,τ=[v]) (λk=>if (!eh (itD ds k))=true then some (itD ds k) else none) ⟨_,rfl⟩ ?_ ?_
   .rintro k τ d hk rfl ⟨v,rfl⟩ K1 K2 k1 k2;have hx:=hs _ (ll hk);generalize itD ds k=x at hx k1 k2 ⊢;walk_at "r"
    cases hn:eh x with
    | false =>
     rw [hn] at k1;walk_at "r";exact k1 _ _ rfl ⟨_,rfl⟩
    | true =>
     rw [hn] at k2;exact k2 _ rfl ⟨_,rfl⟩
   .rintro τ ⟨v,rfl⟩;exact hq v
  have shN:Sh (.lst (A6 ds)):=(Fl.lst (n:=1) λx hx=>hf x (zT hx)).sh (by decide);have eqN:rZ (.lst (A6 ds)) (.lst []):=rZ.of shN (Sh.lstI []);have dqN:=zS (A6 ds)
  by_cases ha:ds.all eh=true
  .obtain⟨zs,rfl⟩:∃zs:List Int,ds=zs.map .int:=⟨ds.map toI,lh ha⟩
   have h64:zs.length<64:=by rw [length_map] at hl;omega
   have hrl:=dH hc cs.length;rw [rj hds] at q;rw [decide_eq_true ((uT _).mpr ha)] at dqN
   have eqk:∀ns':List Int,rZ (D.lst (ns'.map D.int)) (D.lst ((rwN cs cs.length).map nD)):=λns'=>by
    rw [fY];exact rZ.of (Sh.lstI _) (Sh.lstI _)
   have deqk:∀ns':List Int,ns'.Perm zs->ns'.Pairwise (·<=·)->deq (D.lst (ns'.map D.int)) (D.lst ((rwN cs cs.length).map nD))=decide (zs.Perm ((rwN cs cs.length).map λk=>((k:Nat):Int))):=λns' h1 h2=>by
    rw [fY,oJ];exact uP h1 h2 (j2 cs cs.length)
   rcases hds with rfl|rfl <;> (
    walk_at "r";refine comp _ _ λv=>?_;walk_at "r";rw [dqN];walk_at "r"
    refine⟨λk ρ=>∃v3:Option PV,ρ=[_,some (.dat (.lst (cs.map nD))),some (.own ((rwN cs k).map nD)),v3],⟨_,rfl⟩,?_,?_⟩
    .rintro k ρ _ hk rfl ⟨v3,rfl⟩;have hk:k<cs.length:=by rw [hcm,B_] at hk;exact hk
     have ca:atI (cs.map nD) (k:Int)=some (.int ((cs.getD k 0:Nat):Int)):=dR (j:=k) (by rw [k_,c_ hk,d_,c_ hk];rfl) rfl;have cb:cs.getD k 0<=9:=by rw [d_,c_ hk];exact hc _ (IY _)
     have er:nW [D.int (k:Int)] ((cs.getD k 0:Nat):Int)=(so (cs.getD k 0) k).map nD:=by rw [oE,map_replicate];rfl
     have gm:(-1000000:Int)<=((cs.getD k 0:Nat):Int)/\((cs.getD k 0:Nat):Int)<=1000000/\[D.int (k:Int)].length*(((cs.getD k 0:Nat):Int)).toNat<=1000000:=⟨by omega,by omega,by show 1*_<=_;omega⟩
     have hl:=dH hc k;walk_at "r";refine⟨_,ca,?_⟩;walk_at "r";rw [er];walk_at "r";rw [fG,map_append];exact⟨by rw [length_map,length_map,length_replicate];omega,_,rfl⟩
    .rintro ρ ⟨v3,rfl⟩;rw [hcm,B_];walk_at "r";intro ns' h1 h2;have e1:=eqk ns';walk_at "r";rw [deqk ns' h1 h2];exact q)
  .have fz:cg d cs=false:=by
    cases h:cg d cs with
    | false=>rfl
    | true=>rw [<- ei] at ha;exact absurd (kI h).2 ha
   rw [fz] at q;rw [decide_eq_false λz=>ha ((uT _).mp z)] at dqN
   rcases hds with rfl|rfl <;> (
    walk_at "r";refine comp _ _ λv=>?_;walk_at "r";rw [dqN];walk_at "r";exact q)
 .have fz:cg d cs=false:=by
   cases h:cg d cs with
   | false=>rfl
   | true=>exact absurd (kI h).1 hr
  rw [fz] at q;have hds:=hd.1;cases d <;> first|(cases hds;done)|(exact absurd rfl hr)|(walk_at "r";exact q)
noncomputable def jq(K:a_)(mg:Str->Option Value)(t:TxC K/\TxX K mg):=(have TC:=t.1;have TX:=t.2;show LS K [] _ _ from (aq (aD um (aw (i:=2) rfl)) (aq (AI (c:=dI) (ac (ae (ai (i:=0))) (ac (ae (ai (i:=1))) af)) (E8 (c0:="GlueError") (i:=3) TX.all (by first|exact M8 rfl|exact Mh (w_.mp (by decide +kernel))) rfl (aD (ai (i:=3)) (aw (i:=2) rfl)) AH)) (aq (bW (mo (bQ (j9 (AC (d:="NoOrder") TX.all (by first|exact M8 rfl|exact Mh (w_.mp (by decide +kernel))) (al (i:=2))))) (bQ (j9 (AD TX.all (al (i:=2)))))) (aJ (gg (i:=false))) aP) (aJ (qF (xP ["NoCounts","NotApart","NotHeld"] TX.all (by decide +kernel) (by decide) (al (i:=2)))))))))
def pS:PTS:=psO jq
def pT:PRl di pS 4 2:=λ_ Q h=>A4 h λc ns fs _ h=>oY h λd _ h=>cE h λh=>s_ rfl <| by
 walk_at "z";obtain⟨rfl,rfl,ps,cs,rfl,g,ho,q⟩:=h;have no:∀js:List Nat,iJ d (js.map nD)->js.Perm (rwN cs cs.length)->False:=λjs h1 h2=>by rw [pd h1 h2] at ho;cases ho
 have i1:rK "NoOrder" "NoOrder"=true:=by decide +kernel
 have i2:rK "NoOrder" "GlueError"=true:=by decide +kernel
 have i3:(["NoCounts","NotApart","NotHeld"]:List Str).any (rK "NoOrder")=false:=by decide +kernel
 walk_at "r";refine⟨ps,cs,rfl,g,λ_=>?_,λjs h1 h2=>(no js h1 h2).elim⟩;walk_at "r";exact q
noncomputable def ir(K:a_)(mg:Str->Option Value)(t:TxC K/\TxX K mg):=(have TC:=t.1;have TX:=t.2;show LS K [] _ _ from (aq (aD um (aw (i:=3) rfl)) (aq (AI (c:=gH) (ac (ae (ai (i:=0))) (ac (ae (ai (i:=1))) af)) (E8 (c0:="GlueError") (i:=4) TX.all (by first|exact M8 rfl|exact Mh (w_.mp (by decide +kernel))) rfl (aD (ai (i:=4)) (aw (i:=3) rfl)) AH)) (aq (bW (mo (bQ (j9 (AC (d:="NotHeld") TX.all (by first|exact M8 rfl|exact Mh (w_.mp (by decide +kernel))) (al (i:=3))))) (bQ (j9 (AD TX.all (al (i:=3)))))) (aJ (gg (i:=false))) aP) (aJ (eR (qF (xP ["NoCounts","NoOrder","NotApart"] TX.all (by decide +kernel) (by decide) (al (i:=3)))) (eR (aF (c:=cu) (ac (ae (xC (f:="at") TX.all TX.at_ (al (i:=3)))) af)) (ax de (ae (xC (f:="at") TX.all TX.at_ (al (i:=3)))) (al (i:=2))))))))))
def mO:PTS:=psO ir
def mP:PRl eI mO 5 3:=λ_ Q h=>A4 h λc ns fs _ h=>nr h λt _ h=>df h λi _ h=>cE h λh=>s_ rfl <| by
 walk_at "z";obtain⟨rfl,rfl,ps,cs,rfl,g,k,rfl,⟨hk,hf,hb⟩,q⟩:=h;have i1:rK "NotHeld" "NotHeld"=true:=by decide +kernel
 have i2:rK "NotHeld" "GlueError"=true:=by decide +kernel
 have i3:(["NoCounts","NoOrder","NotApart"]:List Str).any (rK "NotHeld")=false:=by decide +kernel
 walk_at "r"
 refine⟨ps,cs,rfl,g,λk' hk' hf' hb'=>?_,λrows ok=>?_⟩
 .have e:k'=k:=by
   rcases lt_trichotomy k' k with z|z|z
   .have:=hf k' z;omega
   .exact z
   .have:=hf' k z;omega
  subst e;walk_at "r";rw [decide_eq_true rfl];exact q
 .have:=ok.enough k hk;omega
noncomputable def lW(K:a_)(mg:Str->Option Value)(t:TxC K/\TxX K mg):=(have TC:=t.1;have TX:=t.2;show LS K [] _ _ from (aq (aD (bA (ix:=[none,some 3]) rfl (cB (ai (i:=1))) (λfs hc=>(ay (i:=0) (kd hc (by decide)))) cM (aF (c:=cH) (ac (ae (ai (i:=1))) (ac (ae (ai (i:=0))) af)))) (aw (i:=4) rfl)) (aq (aD (bA (ix:=[none,some 2,some 4]) rfl (jD (ac (ae (aW aY (ac (al (i:=1)) af))) af)) (λfs hc=>(ay (i:=0) (kd hc (by decide)))) (g6 (ax BY (ae (aW aY (ac (ae (ax bz (al (i:=2)) (al (i:=0)))) af))) (ae (ax bz (al (i:=1)) (al (i:=0)))))) (ai (i:=0))) (aw (i:=5) rfl)) (aq (bW (g6 (ax lg (al (i:=5)) (ae (bP af)))) (aJ (aF (c:=eI) (ac (ae (ai (i:=0))) (ac (ae (ai (i:=3))) (ac (ae (ax bz (al (i:=5)) (ae (le_int (i:=0))))) af))))) aP) (aq (aD (kG (c:=gH) (ac (ae (ai (i:=0))) (ac (ae (ai (i:=3))) af))) (aw (i:=6) rfl)) (aq (bW (mo (bQ (j9 (k9 .tuple (al (i:=6))))) (bQ (j9 (aF (c:=c5) (ac (ae (ai (i:=6))) (ac (ae (ai (i:=2))) af)))))) (aJ (gg (i:=false))) aP) (aq (aD (ax fX (ae (bP (ac (ae (le_int (i:=0))) af))) (ae (aW aY (ac (al (i:=1)) af)))) (aw (i:=7) rfl)) (aq (aD (zi uw (ae (le_int (i:=1)))) (aw (i:=8) rfl)) (aq (c7 (cB (ai (i:=6))) (ay (i:=9) rfl) (aq (aD (ax bz (ae (ax bz (al (i:=4)) (al (i:=9)))) (ae (ax bz (al (i:=7)) (al (i:=9))))) (aw (i:=10) rfl)) (aq (bW (g6 (ax qG (al (i:=10)) (al (i:=8)))) (aJ (gg (i:=false))) aP) (aq (aD (ai (i:=10)) (aw (i:=8) rfl)) (r8 (i:=7) (ax a8 (ae (ax bz (al (i:=7)) (al (i:=9)))) (ae (le_int (i:=1)))) (ai (i:=9))))))) (aq (aD (aF (c:=fM) (ac (ae (bA (ix:=[none,some 1]) rfl (cB (ai (i:=6))) (λfs hc=>(ay (i:=0) (kd hc (by decide)))) cM (ax bz (al (i:=1)) (al (i:=0))))) af)) (aw (i:=11) rfl)) (aJ (eR (ax qG (ae (aW aY (ac (al (i:=11)) af))) (ae (aW aY (ac (al (i:=3)) af)))) (aF (c:=fN) (ac (ae (ai (i:=11))) (ac (ae (ai (i:=1))) (ac (ae (ai (i:=2))) af))))))))))))))))
def tH:PTS:=psO lW
def tI:PRl bL tH 12 4:=λ_ Q h=>A4 h λc ns fs _ h=>sI h λds _ h=>sI h λes _ h=>nr h λt _ h=>cE h λh=>s_ rfl <| by
 walk_at "z";obtain⟨rfl,rfl,ps,rfl,cs,rfl,rfl,g,q⟩:=h;obtain⟨hn,hp,hk,hcl,hc,ht⟩:=id g;have hpm:(ps.map D.str).length=ps.length:=length_map _
 have ca:∀i,i<ps.length->atI (cs.map nD) (i:Int)=some (.int ((cs.getD i 0:Nat):Int)):=λi hi=>by
  refine dR (j:=i) ?_ rfl;rw [k_,c_ (show i<cs.length by omega),d_,c_ (show i<cs.length by omega)];rfl
 have ra:∀i,i<ps.length->atI (ps.map λw=>D.lst ((plN t w).map nD)) (i:Int)=some (.lst ((plN t (pw ps i)).map nD)):=λi hi=>dR (j:=i) (by rw [k_,c9 hi];rfl) rfl;walk_at "r"
 refine cm1 (λw=>.lst ((plN t w).map nD)) (λw hw v K1 k1=>?_) (λv=>?_)
 .have gw:t.length<=100000/\w.length<=100000:=⟨ht,by have:=(hp w hw).2.1;omega⟩
  walk_at "r";exact k1 _
 walk_at "r";rw [hpm,B_]
 refine cfR (λk=>decide ((plN t (pw ps k)).length<cs.getD k 0)) (λk=>nD k) (λk hk v K1 K2 k1 k2=>?_) (λv=>?_)
 .have plm:((plN t (pw ps k)).map nD).length=(plN t (pw ps k)).length:=length_map _;walk_at "r";refine⟨_,ra k hk,?_⟩;walk_at "r";refine⟨_,ca k hk,?_⟩;walk_at "r"
  refine cJ (λc=>?_) (λc=>?_)
  .walk_at "r";exact k1 _ (decide_eq_true (by omega))
  .exact k2 _ (decide_eq_false (by omega))
 generalize hL:(g_ ps.length).filter (λk=>decide ((plN t (pw ps k)).length<cs.getD k 0))=L;have e1:=rh L;have e2:=ym L;walk_at "r";rw [e2]
 refine rY (λc=>?_) (λc=>?_)
 .cases L with
  | nil=>exact absurd rfl c
  | cons x r =>
   obtain⟨k,h1,h2,h3⟩:=lu _ hL;have hk1:=(i_.mp h1).1;rw [IF] at hk1;rw [IU hk1] at h1;have h1:=r_ h1;subst h1
   have few:k<ps.length/\(∀j,j<k->cs.getD j 0<=(plN t (pw ps j)).length)/\(plN t (pw ps k)).length<cs.getD k 0:=⟨hk1,λj hj=>by
    have:=h3 j j hj (IU (by omega));have:=of_decide_eq_false this;omega,of_decide_eq_true h2⟩
   have a0:atI ((k::r).map nD) 0=some (.int (k:Int)):=dR (j:=0) rfl rfl;walk_at "r";refine⟨_,a0,?_⟩;walk_at "r";refine⟨ps,cs,rfl,g,k,rfl,few,?_⟩;walk_at "r";exact q
 .have c:L=[]:=c;subst c
  have he:∀j,j<ps.length->cs.getD j 0<=(plN t (pw ps j)).length:=λj hj=>by
   have:=filter_eq_nil_iff.mp hL j (IZ.mpr hj);simp only [decide_eq_true_eq] at this;omega
  walk_at "r"
  refine⟨ps,cs,rfl,g,?_,λrows ok=>?_⟩
  .intro k hk1 _ hlt;have:=he k hk1;omega
  have hrow:=ok.row hcl;have hrl:=hrow.length_eq;rw [length_map] at hrl;have hr36:=dH hc cs.length;have hjs:(rows.map λr=>nD r.2)=(rows.map (·.2)).map nD:=by rw [map_map];rfl
  have hsq:iJ (.tup (rows.map λr=>nD r.2)) ((rows.map (·.2)).map nD):=.inr (by rw [hjs]);have hful:=pd hsq hrow;have hrm:(rows.map λr=>nD r.2).length=rows.length:=length_map _;have hsrt:Srt (.tup (rows.map λr=>nD r.2)):=⟨rfl,λx hx=>by obtain⟨r,_,rfl⟩:=Ju.mp hx;rfl⟩
  have gf:Srt (.tup (rows.map λr=>nD r.2))/\(bj (.tup (rows.map λr=>nD r.2))).length<=60/\(∀x∈bj (.tup (rows.map λr=>nD r.2)),Fl 1 x)/\cs.length<=4/\∀c∈cs,c<=9:=⟨hsrt,by show (rows.map λr=>nD r.2).length<=60;omega,λx hx=>by
   obtain⟨r,_,rfl⟩:=Ju.mp hx;exact Fl.int _,by omega,hc⟩
  walk_at "r";rw [hful]
  have er:nW [D.int 0] (((ps.map D.str).length:Nat):Int)=(g_ ps.length).map λi=>nD (uW [] i):=by
   rw [hpm,oE];exact (List.map_const' (l:=g_ ps.length) (b:=D.int 0)).symm ▸ by rw [IF]
  have gm:(-1000000:Int)<=(((ps.map D.str).length:Nat):Int)/\(((ps.map D.str).length:Nat):Int)<=1000000/\[D.int 0].length*((((ps.map D.str).length:Nat):Int)).toNat<=1000000:=⟨by omega,by omega,by show 1*_<=_;omega⟩
  walk_at "r";rw [er];walk_at "r"
  refine FH (xs:=rows) (e:=λr=>nD r.2) (λpre ρ=>∃(last:Int) (v9 v10 v11:Option PV),(∀suf,rows=pre++suf->∀r∈suf,last<(r.1:Int))/\ρ=[some (.dat (.obj "Often" vy (vz ps cs))),some (.dat (.lst (ps.map .str))),some (.dat (.lst (cs.map nD))),some (.dat (.str t)),some (.own (ps.map λw=>.lst ((plN t w).map nD))),some (.own []),some (.dat (.tup (rows.map λr=>nD r.2))),some (.own ((g_ ps.length).map λi=>nD (uW pre i))),some (.dat (.int last)),v9,v10,v11]) ⟨-1,_,_,_,(λ_ _ r _=>by omega),rfl⟩ ?_ ?_
  .rintro pre r suf ρ ew ⟨last,v9,v10,v11,hlast,rfl⟩;have hr:=(ok.mem (r:=r) (by rw [ew];simp)).1;have hat:=ok.at ew;have hlt:=hlast _ ew r (by simp);have ap:atI ((plN t (pw ps r.2)).map nD) ((uW pre r.2:Nat):Int)=some (.int (r.1:Int)):=dR (j:=uW pre r.2) (by rw [k_];unfold uW;rw [hat];rfl) rfl;have as:atI ((g_ ps.length).map λi=>nD (uW pre i)) (r.2:Int)=some (.int ((uW pre r.2:Nat):Int)):=dR (j:=r.2) (by rw [k_,IU hr];rfl) rfl
   have hix:ixN ((g_ ps.length).map λi=>nD (uW pre i)).length (r.2:Int)=some r.2:=by rw [length_map,IF];exact HL hr
   have e1:nD r.2=.int (r.2:Int):=rfl;rw [e1];walk_at "r";refine⟨_,ra _ hr,?_⟩;walk_at "r";refine⟨_,as,?_⟩;walk_at "r";refine⟨_,ap,?_⟩;walk_at "r";refine⟨_,as,?_⟩;walk_at "r";refine⟨r.2,hix,?_⟩;walk_at "r";refine⟨_,_,_,_,λsuf' e' r' hr'=>?_,by rw [yp pre r _ hr]⟩;have hrise:=ok.rise;rw [e',append_assoc] at hrise;have:=(Mi.mp (LD.mp hrise).2.1).1 r' hr';omega
  .rintro ρ ⟨last,v9,v10,v11,_,rfl⟩;walk_at "r"
   refine cm1 (λr=>.str (pw ps r.2)) (λr hr v K1 k1=>?_) (λv=>?_)
   .have e1:nD r.2=.int (r.2:Int):=rfl;rw [e1];walk_at "r";refine⟨_,cm (ok.mem hr).1 rfl,?_⟩;walk_at "r";exact k1 _
   .have em:rows.map (λr=>D.str (pw ps r.2))=((rows.map (·.2)).map (pw ps)).map .str:=by rw [map_map,map_map];rfl
    rw [em]
    have hws:((rows.map (·.2)).map (pw ps)).length<=40/\∀w∈(rows.map (·.2)).map (pw ps),0<w.length/\w.length<=60:=⟨by rw [length_map,length_map];omega,λw hw=>by
     obtain⟨i,hi,rfl⟩:=Ju.mp hw;obtain⟨r,hr,rfl⟩:=Ju.mp hi;have:=hp _ (cf (ok.mem hr).1);exact⟨this.1,this.2.1⟩⟩
    have egl:glN ((rows.map (·.2)).map (pw ps)) (g_ ((rows.map (·.2)).map (pw ps)).length)=glN ps (rows.map (·.2)):=by rw [length_map];exact (uV _ _).symm
    have hsh:=(ok.short (λw hw=>(hp w hw).1) hk).1;have gen:(glN ps (rows.map (·.2))).length<=100000/\(∀w∈ps,w.length<=60)/\cs.length=ps.length/\∀j,j<ps.length->cs.getD j 0<=(plN (glN ps (rows.map (·.2))) (pw ps j)).length:=⟨by omega,λw hw=>(hp w hw).2.1,hcl,λj hj=>yo (λw hw=>(hp w hw).1) hcl hrow hj⟩
    walk_at "r";rw [egl];walk_at "r";exact q
noncomputable def lX(K:a_)(mg:Str->Option Value)(t:TxC K/\TxX K mg):=(have TC:=t.1;have TX:=t.2;show LS K [0] _ _ from (aq (aD (aE (c:=aC) (i:=0) (ac (ae (aW aY (ac (al (i:=1)) af))) af)) (aw (i:=3) rfl)) (aq (aD (bP (ac (ae (ai (i:=2))) (ac (ae (zi uw (ae (le_int (i:=1))))) (ac (ae (gg (i:=true))) (ac (ae um) (ac (ae (le_str (l:=[48]))) (ac (ae (m8 (ac (ae (le_int (i:=0))) af))) (ac (ae (ax Eh (ae (le_int (i:=10))) (ae (le_int (i:=30))))) (ac (ae (ax k7 (ae (ax a8 (ae (ax bz (al (i:=1)) (al (i:=3)))) (ae (le_int (i:=1))))) (ae (ax a8 (al (i:=2)) (ae (le_int (i:=1))))))) af))))))))) (aw (i:=4) rfl)) (aq (aD (bP (ac (ae (ax a8 (ae (ax a8 (ae (aR (al (i:=1)) aZ (aO (ai (i:=3))))) (ae (bP (ac (ae (ax bz (al (i:=4)) (ae (aE (c:=aC) (i:=0) (ac (ae (le_int (i:=8))) af))))) af))))) (ae (aR (al (i:=1)) (aO (ax a8 (al (i:=3)) (ae (le_int (i:=1))))) aZ)))) (ac (ae (ax a8 (ae (aR (al (i:=1)) aZ (aO (ai (i:=3))))) (ae (aR (al (i:=1)) (aO (ax a8 (al (i:=3)) (ae (le_int (i:=1))))) aZ)))) (ac (ae (ax a8 (al (i:=1)) (ae (bP (ac (ae (ax bz (al (i:=1)) (al (i:=3)))) af))))) af)))) (aw (i:=5) rfl)) (aq (aD (ax a8 (al (i:=5)) (ae (bP (ac (ae um) (ac (ae (le_int (i:=0))) (ac (ae (le_str (l:=[48]))) (ac (ae Cg) (ac (ae (gg (i:=true))) af)))))))) (aw (i:=5) rfl)) (aJ (ax bz (al (i:=5)) (ae (aE (c:=aC) (i:=0) (ac (ae (le_int (i:=8))) af))))))))))
def tJ:PTS:=psO lX
def tK:RRl iT tJ 6 3:=λ_ _ Q h=>uO h λ_ h=>df h λc0 _ h=>df h λc1 _ h=>cE h λh=>sI h λds _ h=>df h λm _ h=>cE h λh=>s_ rfl <| by
 walk_at "z";obtain⟨js,rfl,cs,rfl,⟨g,hj,hj0,hj1,hn⟩,q⟩:=h;have hjm:(js.map nD).length=js.length:=length_map _;have hjl:=hj.length_eq;walk_at "r";rintro z ⟨u,v⟩ g hz0 hz1;obtain⟨a,rfl⟩:∃a:Nat,z=(a:Int):=⟨z.toNat,by omega⟩
 have ha:a<js.length:=by omega
 have hlt:js[a]<cs.length:=ny (hj.mem_iff.mp (IY ha));have aa:atI (js.map nD) (a:Int)=some (.int (js[a]:Int)):=dR (j:=a) (by rw [k_,c_ ha];rfl) rfl;have c1:cQ (js.map nD) none (some (a:Int))=(js.take a).map nD:=by rw [dZ,map_take]
 have c2:cQ (js.map nD) (some ((a:Int)+1)) none=(js.drop (a+1)).map nD:=by rw [map_drop];exact dn _ (a+1)
 have l1:((js.take a).map nD).length=a:=by rw [length_map,length_take];omega
 have l2:((js.drop (a+1)).map nD).length=js.length - (a+1):=by rw [length_map,length_drop]
 walk_at "r";refine⟨_,aa,?_⟩;walk_at "r";rintro y ⟨u,v⟩ g hy0 hy1;have em:((js[a]:Int)+1) % ((cs.length:Int)+1)=(js[a]:Int)+1:=emod_eq_of_lt (by omega) (by omega);rw [em]
 obtain⟨x,hx,xo⟩:∃x:D,atI [D.int (cs.length:Int),D.int (-1),D.bl true,D.non,D.str [48],D.tup [D.int 0],D.int (10^(30:Int).toNat),D.int ((js[a]:Int)+1)] y=some x/\ID (js[a]:Int) x:=by
  rcases (show y=0\/y=1\/y=2\/y=3\/y=4\/y=5\/y=6\/y=7 by omega) with rfl|rfl|rfl|rfl|rfl|rfl|rfl|rfl
  .exact⟨_,rfl,rfl,Fl.int _,.inr ⟨_,rfl,by omega⟩⟩
  .exact⟨_,rfl,rfl,Fl.int _,.inr ⟨_,rfl,by omega⟩⟩
  .exact⟨_,rfl,rfl,Fl.bl _,.inl rfl⟩
  .exact⟨_,rfl,rfl,Fl.non,.inl rfl⟩
  .exact⟨_,rfl,rfl,Fl.str (by decide),.inl rfl⟩
  .exact⟨_,rfl,rfl,Fl.tup (n:=0) (Fl.ints [0]),.inl rfl⟩
  .refine⟨_,rfl,rfl,Fl.int _,.inr ⟨_,rfl,?_⟩⟩;rw [show (10:Int)^(30:Int).toNat=1000000000000000000000000000000 from rfl];omega
  .exact⟨_,rfl,rfl,Fl.int _,.inr ⟨_,rfl,by omega⟩⟩
 refine⟨x,hx,?_⟩;rw [c1]
 have hbA:lF cs (.lst ((js.take a).map nD++[x]++(js.drop (a+1)).map nD)):=by
  obtain⟨x1,x2,x3⟩:=xo
  refine pD ?_ (λw hw=>?_) ?_
  .rw [length_append,length_append];show _+1+_<=60;omega
  .rcases JG.mp hw with hw|hw
   .rcases JG.mp hw with hw|hw
    .exact rm _ w hw
    .rw [JL.mp hw];exact⟨x1,x2⟩
   .exact rm _ w hw
  .rcases x3 with x3|⟨z,rfl,hz⟩
   .exact zU (x:=x) (by show x∈_++[x]++_;simp) x3
   .exact zV hj ha hz (.inl rfl)
 have hbB:lF cs (.lst ((js.take a).map nD++(js.drop (a+1)).map nD)):=by
  refine pD (by rw [length_append];omega) (λw hw=>(JG.mp hw).elim (rm _ w) (rm _ w)) (pA ?_);show ((js.take a).map nD++(js.drop (a+1)).map nD).length≠_;rw [length_append,length_map,length_map,length_take,length_drop];omega
 have hbC:lF cs (.lst (js.map nD++[.int (js[a]:Int)])):=by
  refine pD (by rw [length_append];show _+1<=_;omega) (λw hw=>(JG.mp hw).elim (rm _ w) λh=>by rw [JL.mp h];exact⟨rfl,Fl.int _⟩) (pA ?_);show (js.map nD++[D.int (js[a]:Int)]).length≠_;rw [length_append];show _+1≠_;omega
 have lx:[x].length=1:=rfl;have la:((js.take a).map nD++[x]).length=a+1:=by rw [length_append];omega
 walk_at "r";rw [c2];walk_at "r";rw [c1,c2];walk_at "r";refine⟨_,aa,?_⟩;walk_at "r";rintro y ⟨u,v⟩ g hy0 hy1
 obtain⟨d,hd,hb⟩:∃d:D,atI ([D.lst ((js.take a).map nD++[x]++(js.drop (a+1)).map nD),D.lst ((js.take a).map nD++(js.drop (a+1)).map nD),D.lst (js.map nD++[D.int (js[a]:Int)])]++[D.non,D.int 0,D.str [48],D.dic [] [],D.bl true]) y=some d/\lF cs d:=by
  rcases (show y=0\/y=1\/y=2\/y=3\/y=4\/y=5\/y=6\/y=7 by omega) with rfl|rfl|rfl|rfl|rfl|rfl|rfl|rfl
  .exact⟨_,rfl,hbA⟩
  .exact⟨_,rfl,hbB⟩
  .exact⟨_,rfl,hbC⟩
  all_goals exact⟨_,rfl,C5 rfl rfl rfl⟩
 refine⟨d,hd,?_⟩;walk_at "r";exact q _ _ g hb
noncomputable def lY(K:a_)(mg:Str->Option Value)(t:TxC K/\TxX K mg):=(have TC:=t.1;have TX:=t.2;show LS K [0] _ _ from (aq (aD (aE (c:=cX) (i:=0) (ac (ae (ai (i:=3))) af)) (aw (i:=4) rfl)) (aq (aD (ax bz (ae (bP (ac (ae (ai (i:=4))) (ac (ae (aW dW (ac (al (i:=4)) af))) af)))) (ae (aE (c:=aC) (i:=0) (ac (ae (le_int (i:=2))) af)))) (aw (i:=5) rfl)) (aq (aD (aW se (ac (al (i:=4)) af)) (aw (i:=6) rfl)) (aq (aD (kG (c:=dI) (ac (ae (ai (i:=1))) (ac (ae (ai (i:=5))) af))) (aw (i:=7) rfl)) (aq (bW (mo (bQ (j9 (k9 .str (al (i:=7))))) (mo (g6 (ax lg (al (i:=7)) (ae (aF (c:=fM) (ac (ae (bA (ix:=[none,some 2]) rfl (cB (ai (i:=4))) (λfs hc=>(ay (i:=0) (kd hc (by decide)))) cM (ax bz (al (i:=1)) (al (i:=0))))) af))))) (g6 (ax lg (ae (aW se (ac (al (i:=5)) af))) (al (i:=6)))))) (aJ (gg (i:=false))) aP) (aq (aD (aE (c:=iT) (i:=0) (ac (ae (ai (i:=4))) (ac (ae (aW aY (ac (al (i:=2)) af))) af))) (aw (i:=8) rfl)) (aq (bW (mo (j9 (aF (c:=c5) (ac (ae (ai (i:=8))) (ac (ae (ai (i:=3))) af)))) (bQ (j9 (aF (c:=di) (ac (ae (ai (i:=1))) (ac (ae (ai (i:=8))) af)))))) (aJ (gg (i:=false))) aP) (aq (aD (bA (ix:=[none,some 2]) rfl (cB (aE (c:=cX) (i:=0) (ac (ae (ai (i:=3))) af))) (λfs hc=>(ay (i:=0) (kd hc (by decide)))) cM (ax bz (al (i:=1)) (al (i:=0)))) (aw (i:=9) rfl)) (aq (bW (mo (bQ (j9 (aF (c:=bL) (ac (ae (ai (i:=1))) (ac (ae (ai (i:=2))) (ac (ae (ai (i:=3))) (ac (ae (ai (i:=7))) af))))))) (bQ (j9 (aF (c:=bL) (ac (ae (ai (i:=1))) (ac (ae (ai (i:=2))) (ac (ae (ai (i:=3))) (ac (ae (aE (c:=dL) (i:=0) (ac (ae (ai (i:=9))) af))) af)))))))) (aJ (gg (i:=false))) aP) (aJ (aF (c:=bL) (ac (ae (ai (i:=1))) (ac (ae (ai (i:=2))) (ac (ae (ai (i:=3))) (ac (ae (aE (c:=dL) (i:=0) (ac (ae (aR (al (i:=9)) (aO (ax a8 (ae (le_int (i:=1))) (ae (aE (c:=aC) (i:=0) (ac (ae (aW aY (ac (al (i:=9)) af))) af))))) aZ)) af))) af))))))))))))))))
def tL:PTS:=psO lY
def tM:RRl iU tL 10 4:=λ_ _ Q h=>uO h λ_ h=>df h λc0 _ h=>df h λc1 _ h=>cE h λh=>A4 h λc ns fs _ h=>sI h λds _ h=>sI h λes _ h=>cE h λh=>s_ rfl <| by
 walk_at "z";obtain⟨rfl,rfl,ps,rfl,cs,rfl,rfl,⟨g,hn0,hn,hp,hk,hcl,hc⟩,q⟩:=h;have hc9:∀c∈cs,c<=9:=λc h=>(hc c h).2;have hpm:(ps.map D.str).length=ps.length:=length_map _;have hrl:=dH hc9 cs.length
 have hr0:0<(rwN cs cs.length).length:=by
  have:0∈rwN cs cs.length:=by
   unfold rwN;refine MV.mpr ⟨0,IZ.mpr (by omega),Lk.mpr ⟨?_,rfl⟩⟩;rw [d_,c_ (show 0<cs.length by omega)];have:=(hc _ (IY (show 0<cs.length by omega))).1;show cs[0]≠0;omega
  exact Mf this
 have g1:SOk (c0,c1)/\cs.length<=20/\∀c∈cs,c<=9:=⟨g,by omega,hc9⟩
 have gr:∀t:List Nat,t.length<=100000->(ps.length<=4/\Pcs 60 ps/\(∀i,i<ps.length->bC ps i=true)/\cs.length=ps.length/\(∀c∈cs,c<=9)/\t.length<=100000):=λt ht=>⟨hn,hp,hk,hcl,hc9,ht⟩
 have txt:∀js:List Nat,js.Perm (rwN cs cs.length)->js.length<=36/\∀w∈js.map (pw ps),0<w.length/\w.length<=60:=λjs hj=>⟨by rw [hj.length_eq];omega,λw hw=>by
  obtain⟨i,hi,rfl⟩:=Ju.mp hw;have:=hp _ (cf (show i<ps.length by rw [<- hcl];exact ny (hj.mem_iff.mp hi)));exact⟨this.1,this.2.1⟩⟩
 have lt:∀js:List Nat,js.Perm (rwN cs cs.length)->∀j∈js,j<ps.length:=λjs hj j h=>by rw [<- hcl];exact ny (hj.mem_iff.mp h)
 have pcs:∀js:List Nat,js.Perm (rwN cs cs.length)->Pcs 60 (js.map (pw ps)):=λjs hj w hw=>by
  obtain⟨i,hi,rfl⟩:=Ju.mp hw;exact hp _ (cf (lt js hj i hi))
 walk_at "r";rintro js ⟨u,v⟩ hj g;have hjl:=hj.length_eq;have hjm:(js.map nD).length=js.length:=length_map _;walk_at "r";rintro y ⟨u,v⟩ g hy0 hy1
 obtain⟨d,hd,hsq⟩:∃d:D,atI [D.lst (js.map nD),D.tup (js.map nD)] y=some d/\iJ d (js.map nD):=by
  rcases (show y=0\/y=1 by omega) with rfl|rfl
  .exact⟨_,rfl,.inl rfl⟩
  .exact⟨_,rfl,.inr rfl⟩
 refine⟨d,hd,?_⟩;have ei:=hsq.items;have hsrt:Srt d:=⟨by rcases hsq with rfl|rfl <;> rfl,λx hx=>by rw [ei] at hx;obtain⟨k,_,rfl⟩:=Ju.mp hx;rfl⟩
 have gt:Srt d/\(bj d).length<=60/\cs.length<=4/\(∀c∈cs,c<=9)/\cs.length=ps.length/\∀w∈ps,w.length<=60:=⟨hsrt,by rw [ei];omega,by omega,hc9,hcl,λw hw=>(hp w hw).2.1⟩
 walk_at "r"
 refine⟨ps,cs,rfl,gt,?_,λjs' h1 h2=>?_⟩
 .intro z;rw [pd hsq hj] at z;cases z
 obtain rfl:js'=js:=G4 h1 hsq;walk_at "r"
 refine cm1 (λj=>.str (pw ps j)) (λj hjm v K1 k1=>?_) (λv=>?_)
 .have e1:nD j=.int (j:Int):=rfl;rw [e1];walk_at "r";refine⟨_,cm (lt _ hj j hjm) rfl,?_⟩;walk_at "r";exact k1 _
 have em:js'.map (λj=>D.str (pw ps j))=(js'.map (pw ps)).map .str:=by rw [map_map];rfl
 rw [em];have hws:(js'.map (pw ps)).length<=40/\∀w∈js'.map (pw ps),0<w.length/\w.length<=60:=⟨by rw [length_map];omega,(txt _ hj).2⟩
 have egl:glN (js'.map (pw ps)) (g_ (js'.map (pw ps)).length)=glN ps js':=by rw [length_map];exact (uV _ _).symm
 have shJ:Sh (.lst (js'.map nD)):=by rw [fY];exact Sh.lstI _
 have eqJ:=rZ.of shJ shJ;have dqJ:=uz shJ;have hgl:=yg (CY λw hw=>(hp w hw).2.1) js';have gb:∀s:Int×Int,SOk s->SOk (s.1,s.2)/\js'.Perm (rwN cs cs.length)/\0<js'.length/\js'.length<=50/\cs.length<=4:=λs g=>⟨g,hj,by omega,by omega,by omega⟩
 have gb:=gb _ g;walk_at "r";rw [egl,decide_eq_true rfl];walk_at "r";refine Co hsq ?_;walk_at "r";rw [dqJ];walk_at "r";refine⟨cs,by rw [hpm,hcl],gb,?_⟩;rintro b ⟨u,v⟩ g ⟨b1,b2,b3,b4⟩;have gf:Srt b/\(bj b).length<=60/\(∀x∈bj b,Fl 1 x)/\cs.length<=4/\∀c∈cs,c<=9:=⟨b1,b2,b3,by omega,hc9⟩
 have gn:Srt b/\(bj b).length<=60/\cs.length<=4/\(∀c∈cs,c<=9)/\cs.length=ps.length/\∀w∈ps,w.length<=60:=⟨b1,b2,by omega,hc9,hcl,λw hw=>(hp w hw).2.1⟩
 have g1:SOk (u,v)/\cs.length<=20/\∀c∈cs,c<=9:=⟨g,by omega,hc9⟩
 walk_at "r";rw [b4];walk_at "r";refine⟨ps,cs,rfl,gn,b4,?_⟩;walk_at "r";rintro js2 ⟨u,v⟩ hj2 g;have hjl2:=hj2.length_eq;have hjm2:(js2.map nD).length=js2.length:=length_map _;walk_at "r"
 refine cm1 (λj=>.str (pw ps j)) (λj hjm v K1 k1=>?_) (λv0=>?_)
 .have e1:nD j=.int (j:Int):=rfl;rw [e1];walk_at "r";refine⟨_,cm (lt _ hj2 j hjm) rfl,?_⟩;walk_at "r";exact k1 _
 have em2:js2.map (λj=>D.str (pw ps j))=(js2.map (pw ps)).map .str:=by rw [map_map];rfl
 rw [em2];have hw2:(js2.map (pw ps)).length=js2.length:=length_map _;have hw3:((js2.map (pw ps)).map D.str).length=js2.length:=by rw [length_map,length_map]
 have hpc:=pcs _ hj2;generalize js2.map (pw ps)=ws at hw2 hw3 hpc ⊢;have gl:SOk (u,v)/\ws.length<=40/\Pcs 60 ws:=⟨g,by omega,hpc⟩
 have g1:=gr (glN ps js') (by omega);walk_at "r";rintro T ⟨u,v⟩ g hT _;have g2:=gr T (by omega);walk_at "r";rintro y ⟨u,v⟩ g hy0 hy1;have ec:cQ (ws.map D.str) (some (1+y)) none=(ws.drop (1+y).toNat).map D.str:=by rw [map_drop];exact vi _ (by omega)
 have gl:SOk (u,v)/\(ws.drop (1+y).toNat).length<=40/\Pcs 60 (ws.drop (1+y).toNat):=⟨g,by rw [length_drop];omega,λw hw=>hpc w (mem_of_mem_drop hw)⟩
 walk_at "r";rw [ec];walk_at "r";rintro T ⟨u,v⟩ g hT _;have g2:=gr T (by omega);walk_at "r";exact q _ g
noncomputable def nH(K:a_)(mg:Str->Option Value)(t:TxC K/\TxX K mg):=(have TC:=t.1;have TX:=t.2;show LS K [0] _ _ from (aq (aD (bA (ix:=[none,some 2]) rfl (cB (aE (c:=cX) (i:=0) (ac (ae (ai (i:=3))) af))) (λfs hc=>(ay (i:=0) (kd hc (by decide)))) cM (ax bz (al (i:=1)) (al (i:=0)))) (aw (i:=4) rfl)) (aq (aD (aE (c:=cq) (i:=0) (ac (ae (le_str (l:=[97,98,120,121]))) (ac (ae (le_int (i:=200))) af))) (aw (i:=5) rfl)) (aq (aD (ax a8 (ae (ax a8 (al (i:=5)) (ae (aE (c:=dL) (i:=0) (ac (ae (ai (i:=4))) af))))) (ae (aE (c:=cq) (i:=0) (ac (ae (le_str (l:=[97,98,120,121]))) (ac (ae (le_int (i:=100))) af))))) (aw (i:=6) rfl)) (aJ (eR (aF (c:=bL) (ac (ae (ai (i:=1))) (ac (ae (ai (i:=2))) (ac (ae (ai (i:=3))) (ac (ae (ai (i:=6))) af))))) (aF (c:=bL) (ac (ae (ai (i:=1))) (ac (ae (ai (i:=2))) (ac (ae (ai (i:=3))) (ac (ae (ai (i:=5))) af)))))))))))
def vK:PTS:=psO nH
def vL:RRl j4 vK 7 4:=λ_ _ Q h=>uO h λ_ h=>df h λc0 _ h=>df h λc1 _ h=>cE h λh=>A4 h λc ns fs _ h=>sI h λds _ h=>sI h λes _ h=>cE h λh=>s_ rfl <| by
 walk_at "z";obtain⟨rfl,rfl,ps,rfl,cs,rfl,rfl,⟨g,hn0,hn,hp,hk,hcl,hc⟩,q⟩:=h;have hc9:∀c∈cs,c<=9:=λc h=>(hc c h).2;have hrl:=dH hc9 cs.length;have g1:SOk (c0,c1)/\cs.length<=20/\∀c∈cs,c<=9:=⟨g,by omega,hc9⟩
 have gr:∀t:List Nat,t.length<=100000->(ps.length<=4/\Pcs 60 ps/\(∀i,i<ps.length->bC ps i=true)/\cs.length=ps.length/\(∀c∈cs,c<=9)/\t.length<=100000):=λt ht=>⟨hn,hp,hk,hcl,hc9,ht⟩
 have lt:∀js:List Nat,js.Perm (rwN cs cs.length)->∀j∈js,j<ps.length:=λjs hj j h=>by rw [<- hcl];exact ny (hj.mem_iff.mp h)
 walk_at "r";rintro js2 ⟨u,v⟩ hj2 g;have hjl2:=hj2.length_eq;have hjm2:(js2.map nD).length=js2.length:=length_map _;walk_at "r"
 refine cm1 (λj=>.str (pw ps j)) (λj hjm v K1 k1=>?_) (λv0=>?_)
 .have e1:nD j=.int (j:Int):=rfl;rw [e1];walk_at "r";refine⟨_,cm (lt _ hj2 j hjm) rfl,?_⟩;walk_at "r";exact k1 _
 have em2:js2.map (λj=>D.str (pw ps j))=(js2.map (pw ps)).map .str:=by rw [map_map];rfl
 rw [em2];have hw2:(js2.map (pw ps)).length=js2.length:=length_map _
 have hpc:Pcs 60 (js2.map (pw ps)):=λw hw=>by
  obtain⟨i,hi,rfl⟩:=Ju.mp hw;exact hp _ (cf (lt _ hj2 i hi))
 generalize js2.map (pw ps)=ws at hw2 hpc ⊢;have gL:0<[97,98,120,121].length/\[97,98,120,121].length<=26/\Lts [97,98,120,121]:=⟨by decide,by decide,xh.mp (by decide)⟩
 have gm:(0:Int)<200/\(200:Int)<=10000:=⟨by decide,by decide⟩
 have gm2:(0:Int)<100/\(100:Int)<=10000:=⟨by decide,by decide⟩
 walk_at "r";rintro w1 ⟨u,v⟩ g h0 h1 _;have h1:w1.length<=200:=h1;have gl:SOk (u,v)/\ws.length<=40/\Pcs 60 ws:=⟨g,by omega,hpc⟩
 walk_at "r";rintro T ⟨u,v⟩ g hT _;have l1:(w1++T).length=w1.length+T.length:=length_append;walk_at "r";rintro w2 ⟨u,v⟩ g h2 h3 _;have h3:w2.length<=100:=h3;have g1:=gr (w1++T++w2) (by rw [length_append];omega);have g2:=gr w1 (by omega);walk_at "r";exact q _ g
noncomputable def Bc(K:a_)(mg:Str->Option Value)(t:TxC K/\TxX K mg):=(have TC:=t.1;have TX:=t.2;show LS K [] _ _ from (aq (c7 (jD (ac (ae (aW B9 (ac (ae (le_int (i:=2))) (ac (ae (aW sd (ac (ae (le_int (i:=3))) (ac (ae (aW aY (ac (al (i:=0)) af))) af)))) af)))) af)) (ay (i:=1) rfl) (aq (aD (aF (c:=fH) (ac (ae (ai (i:=0))) (ac (ae (ai (i:=1))) af))) (aw (i:=2) rfl)) (aq (aD (aE (c:=gI) (i:=2) (ac (ae (ax a8 (ae (le_int (i:=1))) (ae (aE (c:=aC) (i:=2) (ac (ae (le_int (i:=4))) af))))) (ac (ae (le_int (i:=8))) af))) (aw (i:=3) rfl)) (aq (aD (aE (c:=fK) (i:=2) (ac (ae (aW aY (ac (al (i:=3)) af))) (ac (ae (le_int (i:=3))) af))) (aw (i:=4) rfl)) (aq (aD (xg (c0:="Often") (c:=bX) (ac (ae (ai (i:=3))) (ac (ae (aW dW (ac (al (i:=4)) af))) af))) (aw (i:=5) rfl)) (aq (c7 (jD (ac (ae (le_int (i:=3))) af)) (ay (i:=6) rfl) (bW (bQ (j9 (aE (c:=iU) (i:=2) (ac (ae (ai (i:=5))) (ac (ae (ai (i:=3))) (ac (ae (ai (i:=4))) af)))))) (aJ (gg (i:=false))) aP)) (aq (bW (mo (bQ (j9 (aF (c:=bL) (ac (ae (ai (i:=5))) (ac (ae (ai (i:=3))) (ac (ae (ai (i:=4))) (ac (ae (ax fX (ae (ax bz (al (i:=3)) (ae (le_int (i:=0))))) (ae (le_int (i:=3))))) af))))))) (bQ (j9 (aF (c:=bL) (ac (ae (ai (i:=5))) (ac (ae (ai (i:=3))) (ac (ae (ai (i:=4))) (ac (ae (le_str (l:=[]))) af)))))))) (aJ (gg (i:=false))) aP) (bW (uo (g6 (ax de (ae (aE (c:=aC) (i:=2) (ac (ae (le_int (i:=6))) af))) (ae (le_int (i:=0))))) (bQ (j9 (aE (c:=j4) (i:=2) (ac (ae (ai (i:=5))) (ac (ae (ai (i:=3))) (ac (ae (ai (i:=4))) af))))))) (aJ (gg (i:=false))) aP)))))))) (aq (aD (xg (c0:="Often") (c:=bX) (ac (ae (bP af)) (ac (ae (m8 af)) af))) (aw (i:=7) rfl)) (aJ (eR (ax de (ae (kG (c:=dI) (ac (ae (ai (i:=7))) (ac (ae (bP af)) af)))) (ae (le_str (l:=[])))) (eR (ax de (ae (kG (c:=gH) (ac (ae (ai (i:=7))) (ac (ae (le_str (l:=[97,98]))) af)))) (ae (m8 af))) (aF (c:=di) (ac (ae (ai (i:=7))) (ac (ae (bP (ac (ae (le_int (i:=0))) af))) af)))))))))
def yz:PTS:=psO Bc
def C6(ns:List Int)(h63:ns.length<=63)(Q:PV->Prop)(q:Q (.dat (.bl true))):FF yz A9 [.scr ns] Q:=by
 show yz _ [some (.dat (.scr ns)),none,none,none,none,none,none,none]
 have hmax:(if (if (ns.length:Int)<3 then (ns.length:Int) else 3) > 2 then if (ns.length:Int)<3 then (ns.length:Int) else 3 else 2).toNat<=3:=by
  split
  .split <;> omega
  .omega
 walk_at "r"
 refine⟨λk ρ=>∃v1 v2 v3 v4 v5 v6 v7:Option PV,ρ=[some (.dat (.scr ns)),v1,v2,v3,v4,v5,v6,v7],⟨_,_,_,_,_,_,_,rfl⟩,?_,?_⟩
 .rintro k ρ _ hk rfl ⟨v1,v2,v3,v4,v5,v6,v7,rfl⟩;have hk3:k<3:=tj hk hmax;clear hk hmax;walk_at "r";rintro⟨a,b⟩ g;walk_at "r";rintro y ⟨a,b⟩ g hy0 hy1;have hy2:0<=1+y/\1+y<=100/\(0:Int)<8/\(8:Int)<=60:=⟨by omega,by omega,by decide,by decide⟩
  walk_at "r";rintro ps ⟨a,b⟩ g hpl hpp;have hpl:ps.length=(1+y).toNat:=hpl;have hp:Pcs 60 ps:=λw hw=>⟨(hpp w hw).1,by have h:=(hpp w hw).2.1;have h:w.length<=8:=h;omega,(hpp w hw).2.2⟩
  have w0:=zW (ps:=ps) (by omega) λw hw=>(hp w hw).2.1;have wk:=λi (h:i<(bI ps).length)=>yq h;have wp:=vt hp;have w5:(bI ps).length<=4:=by have:=vv ps;omega
  generalize bI ps=ws at w0 wk wp w5;clear hpl hpp hy2 hy0 hy1 hp;have hlm:(ws.map D.str).length=ws.length:=length_map _;have hc2:0<=((ws.map D.str).length:Int)/\((ws.map D.str).length:Int)<=100/\(0:Int)<3/\(3:Int)<=60:=⟨by omega,by omega,by decide,by decide⟩
  walk_at "r";rintro cs ⟨a,b⟩ g hcl hcc;have hcl:cs.length=ws.length:=by rw [hcl,hlm,B_]
  have hcc:∀c∈cs,1<=c/\c<=3:=hcc;have hc9:∀c∈cs,c<=9:=λc h=>by have:=hcc c h;omega
  have hc19:∀c∈cs,1<=c/\c<=9:=λc h=>by have:=hcc c h;omega
  have hcm:(cs.map nD).length=cs.length:=length_map _;have gk:ws.length<=4/\Pcs 60 ws/\(∀i,i<ws.length->bC ws i=true)/\cs.length=ws.length/\∀c∈cs,1<=c/\c<=3:=⟨w5,wp,wk,hcl,hcc⟩
  have gr:∀t:List Nat,t.length<=100000->(ws.length<=4/\Pcs 60 ws/\(∀i,i<ws.length->bC ws i=true)/\cs.length=ws.length/\(∀c∈cs,c<=9)/\t.length<=100000):=λt ht=>⟨w5,wp,wk,hcl,hc9,ht⟩
  walk_at "r"
  refine⟨λj ρ=>∃(s:Int×Int) (p4 p5:PV) (v6:Option PV),SOk s/\((p4=.own (cs.map nD)/\p5=.ins "Often" vy (vz ws cs))\/(p4=.dat (.lst (cs.map nD))/\p5=.dat (.obj "Often" vy (vz ws cs))))/\ρ=[some (.dat (.scr ns)),some (.dat (.int (k:Int))),some (stv s),some (.dat (.lst (ws.map .str))),some p4,some p5,v6,v7],⟨(a,b),_,_,_,g,.inl ⟨rfl,rfl⟩,rfl⟩,?_,?_⟩
  .rintro j ρ _ hj rfl ⟨⟨a,b⟩,p4,p5,v6,g,hpp,rfl⟩;have gp:SOk (a,b)/\0<ws.length/\ws.length<=4/\Pcs 60 ws/\(∀i,i<ws.length->bC ws i=true)/\cs.length=ws.length/\∀c∈cs,1<=c/\c<=9:=⟨g,w0,w5,wp,wk,hcl,hc19⟩
   rcases hpp with ⟨rfl,rfl⟩|⟨rfl,rfl⟩ <;> (
    walk_at "r";rintro s g;walk_at "r";exact⟨s,_,_,_,g,.inr ⟨rfl,rfl⟩,rfl⟩)
  .rintro ρ ⟨⟨a,b⟩,p4,p5,v6,g,hpp,rfl⟩;have gp:SOk (a,b)/\0<ws.length/\ws.length<=4/\Pcs 60 ws/\(∀i,i<ws.length->bC ws i=true)/\cs.length=ws.length/\∀c∈cs,1<=c/\c<=9:=⟨g,w0,w5,wp,wk,hcl,hc19⟩
   have wl:=(wp _ (cf w0)).2.1;have rl:=dq (pw ws 0) 3;have r3:(3:Int).toNat*(pw ws 0).length<=180:=by show 3*_<=_;omega
   have gm:(-1000000:Int)<=3/\(3:Int)<=1000000/\(3:Int).toNat*(pw ws 0).length<=1000000:=⟨by decide,by decide,by omega⟩
   have g2:=gr (nW (pw ws 0) 3) (by omega);have g3:=gr [] (by decide)
   rcases hpp with ⟨rfl,rfl⟩|⟨rfl,rfl⟩ <;> (
    walk_at "r";refine⟨_,cm w0 rfl,?_⟩;walk_at "r";rintro y ⟨a,b⟩ g hy0 hy1;have gp:SOk (a,b)/\0<ws.length/\ws.length<=4/\Pcs 60 ws/\(∀i,i<ws.length->bC ws i=true)/\cs.length=ws.length/\∀c∈cs,1<=c/\c<=9:=⟨g,w0,w5,wp,wk,hcl,hc19⟩
    walk_at "r"
    refine cJ (λc=>?_) (λc=>?_)
    .walk_at "r";rintro s g;walk_at "r";exact⟨_,_,_,_,_,_,_,rfl⟩
    .exact⟨_,_,_,_,_,_,_,rfl⟩)
 .rintro ρ ⟨v1,v2,v3,v4,v5,v6,v7,rfl⟩;have fz:cg (.lst [.int 0]) []=false:=pA (by show 1≠0;decide);have sr:∀d:D,d=.int 0->d.sort=true:=λd e=>by rw [e];rfl
  have h0:Srt (.lst [])/\(bj (.lst [])).length<=60/\([]:List Nat).length<=4/\(∀c∈([]:List Nat),c<=9)/\([]:List Nat).length=([]:List (List Nat)).length/\∀w∈([]:List (List Nat)),w.length<=60:=⟨⟨rfl,λ_ h=>nomatch h⟩,IE _,IE _,(λ_ h=>nomatch h),rfl,λ_ h=>nomatch h⟩
  have h1:Srt (.lst [.int 0])/\(bj (.lst [.int 0])).length<=60/\([]:List Nat).length<=4/\(∀c∈([]:List Nat),c<=9)/\([]:List Nat).length=([]:List (List Nat)).length/\∀w∈([]:List (List Nat)),w.length<=60:=⟨⟨rfl,λd h=>sr d (JL.mp h)⟩,by show 1<=60;decide,IE _,(λ_ h=>nomatch h),rfl,λ_ h=>nomatch h⟩
  have h2:([]:List (List Nat)).length<=4/\Pcs 60 []/\(∀i,i<([]:List (List Nat)).length->bC [] i=true)/\([]:List Nat).length=([]:List (List Nat)).length/\(∀c∈([]:List Nat),c<=9)/\[97,98].length<=100000:=⟨IE _,(λ_ h=>nomatch h),(λi h=>absurd h (Lw _)),rfl,(λ_ h=>nomatch h),by decide⟩
  have full0:cg (.lst []) []=true:=pd (js:=[]) (.inl rfl) (L6 _);walk_at "r";refine⟨[],.inl rfl,[],.inr rfl,⟨IE _,(λ_ h=>nomatch h),(λi h=>absurd h (Lw _)),rfl,(λ_ h=>nomatch h)⟩,rfl,?_⟩;walk_at "r"
  refine⟨[],[],rfl,h0,?_,λjs hs hj=>?_⟩
  .intro z;rw [full0] at z;cases z
  have ej:js=[]:=Jn.mp hj.length_eq;subst ej;walk_at "r";refine⟨[],[],rfl,h2,(λk hk=>absurd hk (Lw _)),λrows ok=>?_⟩;have er:rows=[]:=Jn.mp ok.perm.length_eq;subst er;have sh0:Sh (.tup []):=Sh.tupI [];have eq0:rZ (.tup (([]:List (Nat×Nat)).map λr=>nD r.2)) (.tup []):=rZ.of sh0 sh0;have dq0:deq (.tup (([]:List (Nat×Nat)).map λr=>nD r.2)) (.tup [])=true:=uz sh0
  walk_at "r";refine⟨[],[],rfl,h1,fz,?_⟩;exact q
def Fq:PRl Ba yz A9 1:=λ_ Q h=>match h with|⟨ns,e,h63,q⟩=>e ▸ ⟨rfl,C6 ns h63 Q q⟩
local macro_rules | `(tactic| walk_at "l")=>`(tactic| (intros;rename_i h;split at h <;> first | rfl | exact h.elim))
local macro_rules | `(tactic| walk_at "b0")=>`(tactic| exact fun _ _ _ _ _ _ us hl=>match us,hl with | [],_=>rfl)
local macro_rules | `(tactic| walk_at "b1")=>`(tactic| exact fun _ _ _ _ _ _ us hl=>match us,hl with | [_],_=>rfl)
local macro_rules | `(tactic| walk_at "b2")=>`(tactic| exact fun _ _ _ _ _ _ us hl=>match us,hl with | [_,_],_=>rfl)
local macro_rules | `(tactic| walk_at "b3")=>`(tactic| exact fun _ _ _ _ _ _ us hl=>match us,hl with | [_,_,_],_=>rfl)
local macro_rules | `(tactic| walk_at "b4")=>`(tactic| exact fun _ _ _ _ _ _ us hl=>match us,hl with | [_,_,_,_],_=>rfl)
local macro_rules | `(tactic| walk_at "b5")=>`(tactic| exact fun _ _ _ _ _ _ us hl=>match us,hl with | [_,_,_,_,_],_=>rfl)
local macro_rules | `(tactic| walk_at "b6")=>`(tactic| exact fun _ _ _ _ _ _ us hl=>match us,hl with | [_,_,_,_,_,_],_=>rfl)
local macro_rules | `(tactic| walk_at "b7")=>`(tactic| exact fun _ _ _ _ _ _ us hl=>match us,hl with | [_,_,_,_,_,_,_],_=>rfl)
section
variable (P:pj) (w:World) (K:a_) (mg:Str->Option Value) (base:Heap)
abbrev lZ:=Cal P w K mg base 1 "is_row" ["thing"] (spP K jh)
abbrev gN:=Cal P w K mg base 1 "is_number" ["thing"] (spP K c8)
abbrev iu:=Cal P w K mg base 2 "are_numbers" ["thing","many"] (spP K eF)
abbrev Bd:=Cal P w K mg base 1 "lap" ["one","other"] (spP K rg)
abbrev l0:=Cal P w K mg base 2 "all_laps" ["words"] (spP K fE)
abbrev l5:=Cal P w K mg base 2 "is_whole" ["thing","least","most"] (spP K iP)
abbrev rF:=Cal P w K mg base 1 "places" ["text","piece"] (spP K lD)
abbrev iw:=Cal P w K mg base 1 "first_place" ["text","piece"] (spP K eG)
abbrev vM:=Ea P w K mg base 1 "is_text" ["thing","least","most"] [.int 0,.int 4000] (spP K eU)
abbrev gO:=Cal P w K mg base 2 "check_pieces" ["things"] (spP K cF)
abbrev f7:=Cal P w K mg base 2 "stands_within" ["piece","other"] (spP K ck)
abbrev nI:=Cal P w K mg base 3 "is_kept" ["pieces","at"] (spP K j1)
abbrev l6:=Cal P w K mg base 1 "glue_all" ["words","laps","row"] (spP K iQ)
abbrev iy:=Cal P w K mg base 4 "check_apart" ["pieces"] (spP K cZ)
abbrev gP:=Cal P w K mg base 3 "check_counts" ["counts","many"] (spP K cG)
abbrev l7:=Cal P w K mg base 1 "steps_of" ["counts"] (spP K fF)
abbrev iA:=Cal P w K mg base 3 "is_full_row" ["often","thing"] (spP K eH)
abbrev fP:=Dg P w K mg base 4 "row_text" ["often","row"] (spX K dI)
abbrev l8:=Cy P w K mg base 1 (aK K "NotHeld") "NotHeld" "at"
abbrev jr:=Dg P w K mg base 3 "row_in" ["often","text"] (spX K gH)
abbrev jt:=Cal P w K mg base 1 "_law_stream" ["_law_script","_law_k"] (spP K fH)
abbrev bg:=Cal P w K mg base 1 "_law_next" ["_law_stream_here","_law_many"] (spR K aC)
abbrev fQ:=Cal P w K mg base 2 "_law_word" ["_law_stream_here","_law_letters","_law_most"] (spR K cq)
abbrev nJ:=Cal P w K mg base 2 "_law_cut" ["_law_stream_here","_law_text","_law_most"] (spR K j3)
abbrev l9:=Cal P w K mg base 3 "_law_base" ["_law_stream_here","_law_most"] (spR K iR)
abbrev ju:=Cal P w K mg base 4 "_law_pieces" ["_law_stream_here","_law_many","_law_most"] (spR K fJ)
abbrev jw:=Cal P w K mg base 1 "_law_within" ["_law_pieces_here","_law_k"] (spP K dh)
abbrev kl:=Cal P w K mg base 5 "_law_apart" ["_law_stream_here","_law_many","_law_most"] (spR K gI)
abbrev jx:=Cal P w K mg base 2 "_law_counts" ["_law_stream_here","_law_many","_law_most"] (spR K fK)
abbrev j6:=Cal P w K mg base 1 "_law_lap" ["_law_one","_law_other"] (spP K gZ)
abbrev gQ:=Cal P w K mg base 1 "_law_whole" ["_law_found"] (spP K cu)
abbrev gR:=Cal P w K mg base 2 "_law_shuffled" ["_law_stream_here","_law_row_here"] (spR K dJ)
abbrev jy:=Cal P w K mg base 2 "_law_lesser" ["_law_stream_here","_law_one","_law_other","_law_many"] (spR K fL)
abbrev iV:=Cal P w K mg base 3 "_law_laid" ["_law_stream_here","_law_texts"] (spR K dL)
abbrev j7:=Cal P w K mg base 3 "_law_row" ["_law_stream_here","_law_counts_here"] (spR K cX)
abbrev iW:=Cal P w K mg base 2 "_law_glue" ["_law_texts"] (spP K fM)
abbrev fR:=Cal P w K mg base 1 "_law_places" ["_law_text","_law_piece"] (spP K cH)
abbrev jA:=Cal P w K mg base 2 "_law_enough" ["_law_text","_law_pieces_here","_law_counts_here"] (spP K fN)
abbrev eJ:=Cal P w K mg base 2 "_law_is_full" ["_law_thing","_law_counts_here"] (spP K c5)
abbrev fS:=Cal P w K mg base 5 "_law_no_row" ["_law_often","_law_thing"] (spP K di)
abbrev iB:=Cal P w K mg base 4 "_law_missing" ["_law_often","_law_text","_law_at"] (spP K eI)
abbrev fT:=Cal P w K mg base 5 "_law_read" ["_law_often","_law_pieces_here","_law_counts_here","_law_text"] (spP K bL)
abbrev ma:=Cal P w K mg base 2 "_law_bent" ["_law_stream_here","_law_row_here","_law_many"] (spR K iT)
abbrev md:=Cal P w K mg base 6 "_law_rows" ["_law_stream_here","_law_often","_law_pieces_here","_law_counts_here"] (spR K iU)
abbrev nK:=Cal P w K mg base 6 "_law_far" ["_law_stream_here","_law_often","_law_pieces_here","_law_counts_here"] (spR K j4)
abbrev pU:=Ed P w K mg base 5 (aK K "Often") "Often" ["self","pieces","counts"] (spR K bX)
abbrev Fs:=Cal P w K mg base 7 "law" ["_law_script"] (spP K Ba)
end
section
variable (P:pj) (w:World) {K:a_}{mg:Str->Option Value} (base:Heap)
def yA(D:aV K mg "is_row" oZ)(T:Txt mg)(TC:TxC K)(TX:TxX K mg):lZ P w K mg base:=D.oP2 yf (by walk_at "b1") yt rfl rfl λ_ _ _ _ _ _ _ hr hu=>⟨_,(ak (aI (am (Et K rfl) rfl T.b_isinstance II (paC (pv 0) (paC (hZ (paC (cP (v:=.ty "list") rfl T.b_list boot_list rfl) (paC (cP (v:=.ty "tuple") rfl T.b_tuple J3 rfl) ag))) ag))))),(rn K mg ⟨TC,TX⟩)⟩
def rG(D:aV K mg "is_number" iM)(T:Txt mg)(TC:TxC K)(TX:TxX K mg):gN P w K mg base:=D.oP2 re (by walk_at "b1") rq rfl rfl λ_ _ _ _ _ _ _ hr hu=>⟨_,(ak (aI (eL (am (r0 K rfl) rfl T.b_isinstance II (paC (pv 0) (paC (cP (v:=.ty "int") rfl T.b_int boot_int rfl) ag))) (hX (qa (am (r0 K rfl) rfl T.b_isinstance II (paC (pv 0) (paC (cP (v:=.ty "bool") rfl T.b_bool boot_bool rfl) ag)))))))),(kh K mg ⟨TC,TX⟩)⟩
def mQ(D:aV K mg "are_numbers" fj)(T:Txt mg)(TC:TxC K)(TX:TxX K mg)(C'1:gN P w K mg base)(C'0:lZ P w K mg base):iu P w K mg base:=D.oP2 mB (by walk_at "b2") mE rfl rfl λ_ _ _ _ _ _ _ hr hu=>⟨_,(ak (aI (eL (ao C'0 (hr.m rfl) (paC (pv 0) ag)) (eL (dY (g9 K rfl hu) (am (bG K rfl) rfl T.b_len o_ (paC (pv 0) ag)) (pv 1) (a9 _)) (hX (am (EK K rfl rfl) rfl T.b_all boot_all (paC (bU (wi:=(oi K (bv 0))) (g:=(bS 0)) (tts:=mm) (te:=(eM (spP K c8) [] E0 (aU (bv 0) dQ))) ["item"] [none] rfl (cA K rfl (pv 0)) (λ_ _ _ _=>⟨(aG (i:=0) (by show H_ (["item"]:List Str);decide +kernel) rfl (by walk_at "o")),bM,(ao C'1 (hr.m rfl) (paC (pv 0) ag))⟩) (by kernel_rfl)) ag))))))),(il K mg ⟨TC,TX⟩)⟩
def Ft(D:aV K mg "lap" CU)(T:Txt mg)(TC:TxC K)(TX:TxX K mg):Bd P w K mg base:=D.oP2 A5 (by walk_at "b2") Fp rfl rfl λ_ _ _ _ _ _ _ hr hu=>⟨_,(ah (cK x_ rfl (qv rfl T.b_range (paC (ba vj (am (xc rfl) rfl T.b_min boot_min (paC (am (bG K rfl) rfl T.b_len o_ (paC (pv 0) ag)) (paC (am (bG K rfl) rfl T.b_len o_ (paC (pv 1) ag)) ag))) ar) (paC ar (paC (yL t9 ar) ag)))) (aG (i:=2) A5.nd rfl (by walk_at "o")) (ak (bR (bf (dU K rfl Je PySem.F.slot_str_endswith PySem.F.type_str_endswith Ce (pv 0) (paC (aQ (kc K rfl) (pv 1) bh (bc (pv 2))) ag))) (ak (aI (pv 2))) aN))) (ak (aI ar))),(Bb K mg ⟨TC,TX⟩)⟩
def tN(D:aV K mg "all_laps" jJ)(T:Txt mg)(TC:TxC K)(TX:TxX K mg)(C'3:Bd P w K mg base):l0 P w K mg base:=D.oP2 sJ (by walk_at "b1") sP rfl rfl λ_ _ _ _ _ _ _ hr hu=>⟨_,(ak (aI (bH (gi K rfl) rfl T.b_tuple J3 (paC (bU (wi:=(oi K (bv 0))) (g:=(bS 0)) (tts:=mm) (te:=(tCB (Cc K) (aU (wM [none,some 0] (oi K (bv 1)) (bS 0) mm (eM (spP K rg) [] E0 (aU (bv 1) (aU (bv 0) dQ)))) dQ))) ["one","words"] [none,some 0] rfl (cA K rfl (pv 0)) (λ_ _ _ _=>⟨(aG (i:=0) (by show H_ (["one","words"]:List Str);decide +kernel) rfl (by walk_at "o")),bM,(bH (gi K rfl) rfl T.b_tuple J3 (paC (bU (wi:=(oi K (bv 1))) (g:=(bS 0)) (tts:=mm) (te:=(eM (spP K rg) [] E0 (aU (bv 1) (aU (bv 0) dQ)))) ["other","one"] [none,some 0] rfl (cA K rfl (pv 1)) (λ_ _ _ _=>⟨(aG (i:=0) (by show H_ (["other","one"]:List Str);decide +kernel) rfl (by walk_at "o")),bM,(ao C'3 (hr.m rfl) (paC (pv 1) (paC (pv 0) ag)))⟩) (by kernel_rfl)) ag))⟩) (by kernel_rfl)) ag)))),(lG K mg ⟨TC,TX⟩)⟩
def vN(D:ui K mg "is_text" eS [.int 0,.int 4000])(T:Txt mg)(TC:TxC K)(TX:TxX K mg):Ea P w K mg base 1 "is_text" ["thing","least","most"] [.int 0,.int 4000] (spP K eU):=by
 refine D.ok vx (λdT kV doc pm an cdv ct items us n hi hn hl=>?_) (λvs H Q E h=>?_) (λf cdv A outer s H vs Q E hr h=>?_)
 .obtain⟨i0,i1,rfl⟩:=Fk hi;have hn':n=0\/n=1\/n=2:=by (have:n<=2:=hn);omega
  rcases hn' with rfl|rfl|rfl
  .have hl2:us.length=1:=by (simp at hl;omega)
   obtain⟨_,rfl⟩:=G7 hl2;exact⟨_,rfl,rfl⟩
  .have hl2:us.length=2:=by (simp at hl;omega)
   obtain⟨_,_,rfl⟩:=Fk hl2;exact⟨_,rfl,rfl⟩
  .have hl2:us.length=3:=by (simp at hl;omega)
   obtain⟨_,_,_,rfl⟩:=G8 hl2;exact⟨_,rfl,rfl⟩
 .exact HD (λds Q h=>(j5 ds Q h).1) h
 .have hu:=hr.units;exact⟨_,(ah (bR (PW.pt (mj (bN (bf (am (r0 K rfl) rfl T.b_isinstance II (paC (pv 0) (paC (cP (v:=.ty "str") rfl T.b_str boot_str rfl) ag))))) (iY (bN (yM Af Af (pv 1) (am (bG K rfl) rfl T.b_len o_ (paC (pv 0) ag)) (pv 2)))))) (ak (aI f8)) aN) (ak (aI (am (EK K rfl rfl) rfl T.b_all boot_all (paC (bU (wi:=(oi K (bv 0))) (g:=(bS 0)) (tts:=mm) (te:=(ua FC FC (tC (V.str (S [97]))) (bv 0) (tC (V.str (S [122]))))) ["sign"] [none] rfl (cA K rfl (pv 0)) (λ_ _ _ _=>⟨(aG (i:=0) (by show H_ (["sign"]:List Str);decide +kernel) rfl (by walk_at "o")),bM,(ub Af Af (bF (l:=[97]) (by decide +kernel)) (pv 0) (bF (l:=[122]) (by decide +kernel)))⟩) (by kernel_rfl)) ag))))),fnP (K:=K) (c:=eU) (ps:=nB) (N:=["thing","least","most"]) (aq (bW (mo (bQ (j9 (k9 .str (al (i:=0))))) (bQ (g6 (oh qG qG (al (i:=1)) (ae (aW aY (ac (al (i:=0)) af))) (al (i:=2)))))) (aJ (gg (i:=false))) aP) (aJ (aW Am (ac (ae (bA (ix:=[none]) rfl (cB (ai (i:=0))) (λfs hc=>(ay (i:=0) (kd hc (by decide)))) cM (oh qG qG (ae (le_str (l:=[97]))) (al (i:=0)) (ae (le_str (l:=[122])))))) af)))) (λds Q h=>IG (Mu (j5 ds Q h).1) (by decide)) (λds Q h=>(j5 ds Q h).2) h⟩
def tO(D:aV K mg "is_whole" jK)(T:Txt mg)(TC:TxC K)(TX:TxX K mg)(C'1:gN P w K mg base):l5 P w K mg base:=D.oP2 sK (by walk_at "b3") sR rfl rfl λ_ _ _ _ _ _ _ hr hu=>⟨_,(ak (aI (eL (ao C'1 (hr.m rfl) (paC (pv 0) ag)) (hX (ub Af Af (pv 1) (pv 0) (pv 2)))))),(lH K mg ⟨TC,TX⟩)⟩
def yB(D:aV K mg "places" o0)(T:Txt mg)(TC:TxC K)(TX:TxX K mg):rF P w K mg base:=D.oP2 je (by walk_at "b2") yv rfl rfl λ_ _ _ _ _ _ _ hr hu=>⟨_,(ah (aH (i:=2) je.nd rfl (by walk_at "o") (bO ag)) (ah (aH (i:=3) je.nd rfl (by walk_at "o") (dU K rfl Je Kj Kk ou (pv 0) (paC (pv 1) ag))) (ah (nN x_ (aT GO (pv 3) ar (a9 _)) (ah (dk (dU K rfl Jb J4 J5 eN (pv 2) (paC (pv 3) ag))) (ak (aH (i:=3) je.nd rfl (by walk_at "o") (dU K rfl Je Kj Kk zk (pv 0) (paC (pv 1) (paC (ba (bu K rfl) (pv 3) ar) ag))))))) (ak (aI (bH (gi K rfl) rfl T.b_tuple J3 (paC (pv 2) ag))))))),(rz K mg ⟨TC,TX⟩)⟩
def mR(D:aV K mg "first_place" fk)(T:Txt mg)(TC:TxC K)(TX:TxX K mg):iw P w K mg base:=D.oP2 mC (by walk_at "b2") mG rfl rfl λ_ _ _ _ _ _ _ hr hu=>⟨_,(ak (aI (dU K rfl Je Kj Kk ou (pv 0) (paC (pv 1) ag)))),(im K mg ⟨TC,TX⟩)⟩
def me(D:aV K mg "check_pieces" et)(T:Txt mg)(TC:TxC K)(TX:TxX K mg)(C'5:vM P w K mg base):gO P w K mg base:=D.oP2 dz (by walk_at "b1") lJ rfl rfl λ_ _ _ _ _ _ _ hr hu=>⟨_,(ah (bR (aT zm (am (bG K rfl) rfl T.b_len o_ (paC (pv 0) ag)) (kB rfl T.g_MOST_PIECES) (a9 _)) (ak eW) aN) (ak (cK x_ rfl (kF K rfl rfl T.b_enumerate (paC (pv 0) ag)) (ja K rfl (n:=2) rfl (br (aG (i:=1) dz.nd rfl (by walk_at "o")) (br (aG (i:=2) dz.nd rfl (by walk_at "o")) eX))) (ak (bR (bN (bf (zx 2 C'5 (hr.m rfl) (by decide) (paC (pv 2) (paC ar (paC (kB rfl T.g_MOST_SIGNS) ag)))))) (ak eW) aN))))),(gJ K mg ⟨TC,TX⟩)⟩
def kz(D:aV K mg "stands_within" dy)(T:Txt mg)(TC:TxC K)(TX:TxX K mg)(C'8:iw P w K mg base):f7 P w K mg base:=D.oP2 kr (by walk_at "b2") ky rfl rfl λ_ _ _ _ _ _ _ hr hu=>⟨_,(ak (aI (dY GO (ao C'8 (hr.m rfl) (paC (pv 1) (paC (pv 0) ag))) ar (a9 _)))),(fZ K mg ⟨TC,TX⟩)⟩
def vO(D:aV K mg "is_kept" lv)(T:Txt mg)(TC:TxC K)(TX:TxX K mg)(C'10:f7 P w K mg base):nI P w K mg base:=D.oP2 jY (by walk_at "b2") vD rfl rfl λ_ _ _ _ _ _ _ hr hu=>⟨_,(ah (aH (i:=2) jY.nd rfl (by walk_at "o") (bx (ef K rfl) (pv 0) (pv 1) (λ_ _=>rfl))) (ah (n5 (wi:=(oi K (bv 0))) (g:=(bS 0)) (tts:=(uZ (tOp HB (tCB (k8 K) (aU (bv 0) dQ)) (tCB (k8 K) (aU (bv 1) dQ))))) (te:=(bv 0)) (i:=3) ["other","piece"] [none,some 2] jY.nd rfl (Mh rfl) rfl (cA K rfl (pv 0)) (λ_ _ _ _=>⟨(aG (i:=0) (by show H_ (["other","piece"]:List Str);decide +kernel) rfl (by walk_at "o")),(kZ (aT zm (am (bG K rfl) rfl T.b_len o_ (paC (pv 0) ag)) (am (bG K rfl) rfl T.b_len o_ (paC (pv 1) ag)) (a9 _))),(pv 0)⟩) (by kernel_rfl)) (ak (aI (eL (dY (zJ K rfl) (pv 2) (aQ (kc K rfl) (pv 0) bh (bc (pv 1))) (by with_unfolding_all rfl)) (hX (qa (am (GF K rfl rfl) rfl T.b_any boot_any (paC (bU (wi:=(oi K (bv 3))) (g:=(bS 0)) (tts:=mm) (te:=(eM (spP K ck) [] E0 (aU (bv 1) (aU (bv 0) dQ)))) ["other","piece"] [none,some 2] rfl (cA K rfl (pv 3)) (λ_ _ _ _=>⟨(aG (i:=0) (by show H_ (["other","piece"]:List Str);decide +kernel) rfl (by walk_at "o")),bM,(ao C'10 (hr.m rfl) (paC (pv 1) (paC (pv 0) ag)))⟩) (by kernel_rfl)) ag))))))))),(nC K mg ⟨TC,TX⟩)⟩
def tP(D:aV K mg "glue_all" jM)(T:Txt mg)(TC:TxC K)(TX:TxX K mg):l6 P w K mg base:=D.oP2 dA (by walk_at "b3") sU rfl rfl λ_ _ _ _ _ _ _ hr hu=>⟨_,(ah (aH (i:=3) dA.nd rfl (by walk_at "o") (dU K rfl Je MM MN (uA K rfl) (bF (l:=[]) (by decide +kernel)) (paC (bU (wi:=(oi K (tSl (Ep K) (bv 2) rP (ww (tC (V.int 1)))))) (g:=(bS 0)) (tts:=mm) (te:=(tOp (wW K) (bv 1) (bv 0))) ["number","words"] [none,some 0] rfl (cA K rfl (aQ (kc K rfl) (pv 2) bh (bc ar))) (λ_ _ _ _=>⟨(aG (i:=0) (by show H_ (["number","words"]:List Str);decide +kernel) rfl (by walk_at "o")),bM,(bx (ef K rfl) (pv 1) (pv 0) (λ_ _=>rfl))⟩) (by kernel_rfl)) ag))) (ah (cK x_ rfl (si K rfl rfl T.b_zip (paC (pv 2) (paC (aQ (kc K rfl) (pv 2) (bc ar) bh) ag))) (ja K rfl (n:=2) rfl (br (aG (i:=4) dA.nd rfl (by walk_at "o")) (br (aG (i:=5) dA.nd rfl (by walk_at "o")) eX))) (ak (vW (i:=3) dA.nd rfl (by walk_at "o") (aQ (kc K rfl) (bx (ef K rfl) (pv 0) (pv 5) (λ_ _=>rfl)) (bc (bx (ef K rfl) (bx (ef K rfl) (pv 1) (pv 4) (λ_ _=>rfl)) (pv 5) (λ_ _=>rfl))) bh) Cn))) (ak (aI (pv 3))))),(lK K mg ⟨TC,TX⟩)⟩
def mS(D:aV K mg "check_apart" fm)(T:Txt mg)(TC:TxC K)(TX:TxX K mg)(C'11:nI P w K mg base):iy P w K mg base:=D.oP2 ig (by walk_at "b1") mI rfl rfl λ_ _ _ _ _ _ _ hr hu=>⟨_,(ak (cK x_ rfl (bE rfl T.b_range (paC (am (bG K rfl) rfl T.b_len o_ (paC (pv 0) ag)) ag)) (aG (i:=1) ig.nd rfl (by walk_at "o")) (ak (bR (bN (bf (ao C'11 (hr.m rfl) (paC (pv 0) (paC (pv 1) ag))))) (ak eW) aN)))),(io K mg ⟨TC,TX⟩)⟩
def mf(D:aV K mg "check_counts" eA)(T:Txt mg)(TC:TxC K)(TX:TxX K mg)(C'0:lZ P w K mg base)(C'6:l5 P w K mg base):gP P w K mg base:=D.oP2 dB (by walk_at "b2") lM rfl rfl λ_ _ _ _ _ _ _ hr hu=>⟨_,(ah (bR (bN (bf (ao C'0 (hr.m rfl) (paC (pv 0) ag)))) (ak eW) aN) (ah (cK x_ rfl (kF K rfl rfl T.b_enumerate (paC (aQ (kc K rfl) (pv 0) bh (bc (pv 1))) ag)) (ja K rfl (n:=2) rfl (br (aG (i:=2) dB.nd rfl (by walk_at "o")) (br (aG (i:=3) dB.nd rfl (by walk_at "o")) eX))) (ak (bR (bN (bf (ao C'6 (hr.m rfl) (paC (pv 3) (paC ar (paC (kB rfl T.g_MOST_COUNT) ag)))))) (ak eW) aN))) (ak (bR (aT (sm K rfl hu) (am (bG K rfl) rfl T.b_len o_ (paC (pv 0) ag)) (pv 1) (a9 _)) (ak eW) aN)))),(gK K mg ⟨TC,TX⟩)⟩
def tQ(D:aV K mg "steps_of" jN)(T:Txt mg)(TC:TxC K)(TX:TxX K mg):l7 P w K mg base:=D.oP2 dC (by walk_at "b1") sW rfl rfl λ_ _ _ _ _ _ _ hr hu=>⟨_,(ah (aH (i:=1) dC.nd rfl (by walk_at "o") (bO ag)) (ah (aH (i:=2) dC.nd rfl (by walk_at "o") ar) (ah (cK x_ rfl (cA K rfl (pv 0)) (aG (i:=3) dC.nd rfl (by walk_at "o")) (ah (dk (dU K rfl Jb J4 J5 eN (pv 1) (paC (pv 2) ag))) (ak (vW (i:=2) dC.nd rfl (by walk_at "o") (ba (bu K rfl) (pv 3) ar) CQ)))) (ak (aI (hZ (paC (pv 1) (paC (pv 2) ag)))))))),(lN K mg ⟨TC,TX⟩)⟩
def pV(D:uk K mg (aK K "Often") "Often" "Often.__init__" bV)(T:Txt mg)(TC:TxC K)(TX:TxX K mg)(C'4:l0 P w K mg base)(C'13:iy P w K mg base)(C'14:gP P w K mg base)(C'9:gO P w K mg base)(C'15:l7 P w K mg base):Ed P w K mg base 5 (aK K "Often") "Often" ["self","pieces","counts"] (spR K bX):=by
 refine D.ok o7 (λ_ _ _ _ _ _ us hl=>match us,hl with|[_,_,_],_=>rfl) (λvs H Q E h=>?_) (λf cdv A outer s H vs Q E hr h=>?_)
 .exact HE (λp ds Q h=>(fO p ds Q h).1) h
 .have hu:=hr.units;exact⟨_,(ah (dk (ao C'9 (hr.mono (by decide)) (paC (pv 1) ag))) (ah (dk (ao C'13 (hr.mono (by decide)) (paC (pv 1) ag))) (ah (dk (ao C'14 (hr.mono (by decide)) (paC (pv 2) (paC (am (bG K rfl) rfl T.b_len o_ (paC (pv 1) ag)) ag)))) (ah (bR (aT zm (bx (ef K rfl) (ao C'15 (hr.mono (by decide)) (paC (pv 2) ag)) ar (λ_ _=>rfl)) (kB rfl T.g_MOST_PRODUCT) (a9 _)) (ak eW) aN) (ah (uc (pv 0) (bH (gi K rfl) rfl T.b_tuple J3 (paC (pv 1) ag)) rfl) (ah (uc (pv 0) (bH (gi K rfl) rfl T.b_tuple J3 (paC (pv 2) ag)) rfl) (ah (uc (pv 0) (ao C'4 (hr.mono (by decide)) (paC (e8 K rfl (pv 0) rfl) ag)) rfl) (ak (uc (pv 0) (am (EJ K rfl rfl) rfl T.b_sum boot_sum (paC (bU (wi:=(zg K (aU (C9 K (bv 0) "pieces") (aU (C9 K (bv 0) "counts") dQ)))) (g:=(Df K 2 (qb (bS 0) (qb (bS 1) Dy)))) (tts:=mm) (te:=(tOp BX (tCB (k8 K) (aU (bv 0) dQ)) (bv 1))) ["piece","count"] [none,none] rfl (si K rfl rfl T.b_zip (paC (e8 K rfl (pv 0) rfl) (paC (e8 K rfl (pv 0) rfl) ag))) (λ_ _ _ _=>⟨(ja K rfl (n:=2) rfl (br (aG (i:=0) (by show H_ (["piece","count"]:List Str);decide +kernel) rfl (by walk_at "o")) (br (aG (i:=1) (by show H_ (["piece","count"]:List Str);decide +kernel) rfl (by walk_at "o")) eX))),bM,(ba ko (am (bG K rfl) rfl T.b_len o_ (paC (pv 0) ag)) (pv 1))⟩) (by kernel_rfl)) ag)) rfl))))))))),fnR (K:=K) (c:=bX) (ps:=ji) (N:=["self","pieces","counts"]) (aq (fc (aF (c:=cF) (ac (ae (ai (i:=1))) af))) (aq (fc (aF (c:=cZ) (ac (ae (ai (i:=1))) af))) (aq (fc (aF (c:=cG) (ac (ae (ai (i:=2))) (ac (ae (aW aY (ac (al (i:=1)) af))) af)))) (aq (bW (g6 (ax og (ae (ax bz (ae (aF (c:=fF) (ac (ae (ai (i:=2))) af))) (ae (le_int (i:=1))))) (ae (le_int (i:=500))))) fb aP) (aq (oA (c0:="Often") (ns0:=[]) (i:=0) TC.cl_Often TC.n_Often_pieces (by decide +kernel) (aW dW (ac (al (i:=1)) af))) (aq (oA (c0:="Often") (ns0:=["pieces"]) (i:=0) TC.cl_Often TC.n_Often_counts (by decide +kernel) (aW dW (ac (al (i:=2)) af))) (aq (oA (c0:="Often") (ns0:=["pieces","counts"]) (i:=0) TC.cl_Often TC.n_Often_laps (by decide +kernel) (aF (c:=fE) (ac (ae (i8 (ns0:=["pieces","counts"]) TC.cl_Often TC.n_Often_pieces (i:=0) (by decide +kernel) (al (i:=0)))) af))) (oA (c0:="Often") (ns0:=["pieces","counts","laps"]) (i:=0) TC.cl_Often TC.n_Often_total (by decide +kernel) (aW Cb (ac (ae (bA (ix:=[none,none]) rfl (w6 (ac (ae (i8 (ns0:=["pieces","counts","laps"]) TC.cl_Often TC.n_Often_pieces (i:=0) (by decide +kernel) (al (i:=0)))) (ac (ae (i8 (ns0:=["pieces","counts","laps"]) TC.cl_Often TC.n_Often_counts (i:=1) (by decide +kernel) (al (i:=0)))) af))) (λfs hc=>(gq (n:=2) (bt (ay (i:=0) (kd hc (by decide))) (bt (ay (i:=1) (kd hc (by decide))) e9)))) cM (ax fX (ae (aW aY (ac (al (i:=0)) af))) (al (i:=1))))) af)))))))))) (λp ds Q h=>IG (Mu (fO p ds Q h).1) (by decide)) (λp ds Q _ h=>(fO p ds Q h).2) h⟩
def mT(D:aV K mg "is_full_row" fo)(T:Txt mg)(TC:TxC K)(TX:TxX K mg)(C'2:iu P w K mg base):iA P w K mg base:=D.oP2 ii (by walk_at "b2") mK rfl rfl λ_ _ _ _ _ _ _ hr hu=>⟨_,(ah (zL (wi:=(zf K (aU (C9 K (bv 0) "counts") dQ))) (g:=(Df K 2 (qb (bS 0) (qb (bS 1) Dy)))) (tts:=mm) (wi2:=(qc (aU (bv 1) dQ))) (g2:=(bS 2)) (tts2:=mm) (te:=(bv 0)) (i:=2) ["i","count","again"] [none,none,none] ii.nd rfl (Mh rfl) rfl (kF K rfl rfl T.b_enumerate (paC (e8 K rfl (pv 0) rfl) ag)) (λ_ _ _ _=>⟨(ja K rfl (n:=2) rfl (br (aG (i:=0) (by show H_ (["i","count","again"]:List Str);decide +kernel) rfl (by walk_at "o")) (br (aG (i:=1) (by show H_ (["i","count","again"]:List Str);decide +kernel) rfl (by walk_at "o")) eX))),bM,(bE rfl T.b_range (paC (pv 1) ag)),(aG (i:=2) (by show H_ (["i","count","again"]:List Str);decide +kernel) rfl (by walk_at "o")),bM,(pv 0)⟩) (by kernel_rfl)) (ak (aI (eL (ao C'2 (hr.m rfl) (paC (pv 1) (paC (am (bG K rfl) rfl T.b_len o_ (paC (pv 2) ag)) ag))) (hX (dY (g9 K rfl hu) (am (xq K rfl) rfl T.b_sorted boot_sorted (paC (pv 1) ag)) (pv 2) (a9 _))))))),(ip K mg ⟨TC,TX⟩)⟩
def tR(D:aV K mg "row_text" jO)(T:Txt mg)(TC:TxC K)(TX:TxX K mg)(C'12:l6 P w K mg base)(C'17:iA P w K mg base):fP P w K mg base:=D.oX2 sL (by walk_at "b2") sY rfl rfl λ_ _ _ _ _ _ _ hr hu=>⟨_,(ah (bR (PT.nox (bN (bf (ao C'17 (hr.m rfl) (paC (pv 0) (paC (pv 1) ag)))))) (ak (uF K rfl rfl AE (CB TX.z'e TX.kp'e TX.m'e))) aN) (ak (PS.nox (aI (ao C'12 (hr.m rfl) (paC (e8 K rfl (pv 0) rfl) (paC (e8 K rfl (pv 0) rfl) (paC (pv 1) ag)))))))),(λEc=>lO K mg ⟨TC,TX⟩ Ec _)⟩
def yC(D:aV K mg "row_in" o5)(T:Txt mg)(TC:TxC K)(TX:TxX K mg)(C_NotHeld_init:l8 P w K mg base)(C'7:rF P w K mg base):jr P w K mg base:=D.oX2 eT (by walk_at "b2") yx rfl rfl λ_ _ _ _ _ _ _ hr hu=>⟨_,(ah (PS.nox (aH (i:=2) eT.nd rfl (by walk_at "o") (bO ag))) (ah (cK PassesOwn.leaving rfl (kF K rfl rfl T.b_enumerate (paC (e8 K rfl (pv 0) rfl) ag)) (ja K rfl (n:=2) rfl (br (aG (i:=3) eT.nd rfl (by walk_at "o")) (br (aG (i:=4) eT.nd rfl (by walk_at "o")) eX))) (ah (PS.nox (aH (i:=5) eT.nd rfl (by walk_at "o") (aQ (kc K rfl) (ao C'7 (hr.m rfl) (paC (pv 1) (paC (pv 4) ag))) bh (bc (bx (ef K rfl) (e8 K rfl (pv 0) rfl) (pv 3) (λ_ _=>rfl)))))) (ah (bR (PT.nox (aT Gx (am (bG K rfl) rfl T.b_len o_ (paC (pv 5) ag)) (bx (ef K rfl) (e8 K rfl (pv 0) rfl) (pv 3) (λ_ _=>rfl)) (a9 _))) (ak (uF K rfl rfl AE (Cz C_NotHeld_init (hr.m rfl) (paC (pv 3) ag)))) aN) (ak (PS.nox (vW (i:=2) eT.nd rfl (by walk_at "o") (bU (wi:=(oi K (bv 5))) (g:=(bS 0)) (tts:=mm) (te:=(DG (aU (bv 0) (aU (bv 1) dQ)))) ["place","i"] [none,some 3] rfl (cA K rfl (pv 5)) (λ_ _ _ _=>⟨(aG (i:=0) (by show H_ (["place","i"]:List Str);decide +kernel) rfl (by walk_at "o")),bM,(hZ (paC (pv 0) (paC (pv 1) ag)))⟩) (by kernel_rfl)) Fj)))))) (ak (PS.nox (aI (bH (gi K rfl) rfl T.b_tuple J3 (paC (bU (wi:=(oi K (tCB (x0 K) (aU (bv 2) dQ)))) (g:=(Df K 2 (qb (bS 0) (qb (bS 1) Dy)))) (tts:=mm) (te:=(bv 1)) ["place","i"] [none,none] rfl (cA K rfl (am (CN K rfl) rfl T.b_sorted boot_sorted (paC (pv 2) ag))) (λ_ _ _ _=>⟨(ja K rfl (n:=2) rfl (br (aG (i:=0) (by show H_ (["place","i"]:List Str);decide +kernel) rfl (by walk_at "o")) (br (aG (i:=1) (by show H_ (["place","i"]:List Str);decide +kernel) rfl (by walk_at "o")) eX))),bM,(pv 1)⟩) (by kernel_rfl)) ag))))))),(λEc=>rA K mg ⟨TC,TX⟩ Ec _)⟩
def pW(D:aV K mg "_law_stream" gv)(T:Txt mg)(TC:TxC K)(TX:TxX K mg):jt P w K mg base:=D.oP2 fA (by walk_at "b2") pF rfl rfl λ_ _ _ _ _ _ _ hr hu=>⟨_,(ah (aH (i:=2) fA.nd rfl (by walk_at "o") (ba (bu K rfl) (ba ko ar (pv 1)) ar)) (ah (iD (bR (aT zm (am (bG K rfl) rfl T.b_len o_ (paC (pv 0) ag)) ar (a9 _)) (ak (aH (i:=2) fA.nd rfl (by walk_at "o") (am GE rfl T.b_abs boot_abs (paC (bx (ef K rfl) (pv 0) (ba sg (pv 1) (am (bG K rfl) rfl T.b_len o_ (paC (pv 0) ag))) (λ_ _=>rfl)) ag)))) aN)) (ak (aI (bO (paC (pv 2) (paC (ba (bu K rfl) (ba (bu K rfl) (ba sg (pv 2) ar) (ba ko ar (pv 1))) ar) ag))))))),(jj K mg ⟨TC,TX⟩)⟩
def tS(D:aV K mg "_law_next" jP)(T:Txt mg)(TC:TxC K)(TX:TxX K mg):bg P w K mg base:=D.oR2 lB (by walk_at "b2") tm rfl rfl λ_ _ _ _ _ _ _ hr hu=>⟨_,(ah (bR (aT zm (bx (ef K rfl) (pv 0) ar (λ_ _=>rfl)) ar (a9 _)) (ah (aH (i:=2) lB.nd rfl (by walk_at "o") (ba sg (bx (ef K rfl) (pv 0) ar (λ_ _=>rfl)) (pv 1))) (ah (sG (ba uv (bx (ef K rfl) (pv 0) ar (λ_ _=>rfl)) (pv 1)) (vV (pv 0) ar nQ)) (ak (aI (pv 2))))) aN) (ah (sG (ba sg (ba (bu K rfl) (ba ko (bx (ef K rfl) (pv 0) ar (λ_ _=>rfl)) ar) ar) ar) (vV (pv 0) ar nQ)) (ak (aI (ba sg (ba uv (ba sg (ba ko (bx (ef K rfl) (pv 0) ar (λ_ _=>rfl)) (bx (ef K rfl) (pv 0) ar (λ_ _=>rfl))) ar) ar) (pv 1)))))),(lP K mg ⟨TC,TX⟩)⟩
def tT(D:aV K mg "_law_word" jQ)(T:Txt mg)(TC:TxC K)(TX:TxX K mg)(C'21:bg P w K mg base):fQ P w K mg base:=D.oR2 sM (by walk_at "b3") tu rfl rfl λ_ _ _ _ _ _ _ hr hu=>⟨_,(ak (aI (dU K rfl Je MM MN (uA K rfl) (bF (l:=[]) (by decide +kernel)) (paC (bU (wi:=(qc (aU (tOp (ya K) (tC (V.int 1)) (eM (spR K aC) [] E0 (aU (bv 0) (aU (bv 2) dQ)))) dQ))) (g:=(bS 0)) (tts:=mm) (te:=(tOp (wW K) (bv 1) (eM (spR K aC) [] E0 (aU (bv 2) (aU (tCB (k8 K) (aU (bv 1) dQ)) dQ))))) ["_law_k","_law_letters","_law_stream_here"] [none,some 1,some 0] rfl (bE rfl T.b_range (paC (ba (bu K rfl) ar (ao C'21 (hr.m rfl) (paC (pv 0) (paC (pv 2) ag)))) ag)) (λ_ _ _ _=>⟨(aG (i:=0) (by show H_ (["_law_k","_law_letters","_law_stream_here"]:List Str);decide +kernel) rfl (by walk_at "o")),bM,(bx (ef K rfl) (pv 1) (ao C'21 (hr.m rfl) (paC (pv 2) (paC (am (bG K rfl) rfl T.b_len o_ (paC (pv 1) ag)) ag))) (λ_ _=>rfl))⟩) (by kernel_rfl)) ag)))),(lQ K mg ⟨TC,TX⟩)⟩
def vP(D:aV K mg "_law_cut" lw)(T:Txt mg)(TC:TxC K)(TX:TxX K mg)(C'21:bg P w K mg base):nJ P w K mg base:=D.oR2 nu (by walk_at "b3") vF rfl rfl λ_ _ _ _ _ _ _ hr hu=>⟨_,(ah (aH (i:=3) nu.nd rfl (by walk_at "o") (ao C'21 (hr.m rfl) (paC (pv 0) (paC (am (bG K rfl) rfl T.b_len o_ (paC (pv 1) ag)) ag)))) (ak (aI (aQ (kc K rfl) (pv 1) (bc (pv 3)) (bc (ba (bu K rfl) (ba (bu K rfl) (pv 3) ar) (ao C'21 (hr.m rfl) (paC (pv 0) (paC (pv 2) ag))))))))),(nE K mg ⟨TC,TX⟩)⟩
def tU(D:aV K mg "_law_base" jR)(T:Txt mg)(TC:TxC K)(TX:TxX K mg)(C'21:bg P w K mg base)(C'22:fQ P w K mg base):l9 P w K mg base:=D.oR2 fB (by walk_at "b2") tz rfl rfl λ_ _ _ _ _ _ _ hr hu=>⟨_,(ah (aH (i:=2) fB.nd rfl (by walk_at "o") (bx (ef K rfl) (bO (paC (bF (l:=[97,98]) (by decide +kernel)) (paC (bF (l:=[97,98,99]) (by decide +kernel)) (paC (bF (l:=[97,98,99,100,101,102,103,104,105,106,107,108,109,110,111,112,113,114,115,116,117,118,119,120,121,122]) (by decide +kernel)) ag)))) (ao C'21 (hr.m rfl) (paC (pv 0) (paC ar ag))) (λ_ _=>rfl))) (ah (aH (i:=3) fB.nd rfl (by walk_at "o") (ao C'22 (hr.m rfl) (paC (pv 0) (paC (pv 2) (paC (ba ko ar (pv 1)) ag))))) (ah (iD (bR (aT (g9 K rfl hu) (ao C'21 (hr.m rfl) (paC (pv 0) (paC ar ag))) ar (a9 _)) (ak (aH (i:=3) fB.nd rfl (by walk_at "o") (ba ko (aQ (kc K rfl) (pv 3) bh (bc (ba (bu K rfl) ar (ao C'21 (hr.m rfl) (paC (pv 0) (paC ar ag)))))) (pv 1)))) aN)) (ak (aI (hZ (paC (pv 2) (paC (pv 3) ag)))))))),(lR K mg ⟨TC,TX⟩)⟩
def pX(D:aV K mg "_law_pieces" gy)(T:Txt mg)(TC:TxC K)(TX:TxX K mg)(C'24:l9 P w K mg base)(C'23:nJ P w K mg base)(C'21:bg P w K mg base)(C'22:fQ P w K mg base):ju P w K mg base:=D.oR2 bi (by walk_at "b3") pH rfl rfl λ_ _ _ _ _ _ _ hr hu=>⟨_,(ah (zY (ao C'24 (hr.m rfl) (paC (pv 0) (paC (pv 2) ag))) (ja K rfl (n:=2) rfl (br (aG (i:=3) bi.nd rfl (by walk_at "o")) (br (aG (i:=4) bi.nd rfl (by walk_at "o")) eX)))) (ah (aH (i:=5) bi.nd rfl (by walk_at "o") (bO ag)) (ah (cK x_ rfl (bE rfl T.b_range (paC (pv 1) ag)) (aG (i:=6) bi.nd rfl (by walk_at "o")) (ah (aH (i:=7) bi.nd rfl (by walk_at "o") (ao C'21 (hr.m rfl) (paC (pv 0) (paC ar ag)))) (ah (iD (bR (aT (g9 K rfl hu) (pv 7) ar (a9 _)) (ak (aH (i:=8) bi.nd rfl (by walk_at "o") (ao C'22 (hr.m rfl) (paC (pv 0) (paC (pv 3) (paC (pv 2) ag)))))) (ak (bR (aT (g9 K rfl hu) (pv 7) ar (a9 _)) (ak (aH (i:=8) bi.nd rfl (by walk_at "o") (ba ko (ao C'22 (hr.m rfl) (paC (pv 0) (paC (pv 3) (paC ar ag)))) (pv 2)))) (ak (aH (i:=8) bi.nd rfl (by walk_at "o") (ao C'23 (hr.m rfl) (paC (pv 0) (paC (pv 4) (paC (pv 2) ag)))))))))) (ak (dk (dU K rfl Jb J4 J5 eN (pv 5) (paC (aQ (kc K rfl) (pv 8) bh (bc (pv 2))) ag))))))) (ak (aI (pv 5)))))),(jk K mg ⟨TC,TX⟩)⟩
def pY(D:aV K mg "_law_within" gA)(T:Txt mg)(TC:TxC K)(TX:TxX K mg):jw P w K mg base:=D.oP2 jf (by walk_at "b2") pJ rfl rfl λ_ _ _ _ _ _ _ hr hu=>⟨_,(ah (cK x_ rfl (cA K rfl (pv 0)) (aG (i:=2) jf.nd rfl (by walk_at "o")) (ak (bR (PW.pt (t7 (aT zm (am (bG K rfl) rfl T.b_len o_ (paC (pv 2) ag)) (am (bG K rfl) rfl T.b_len o_ (paC (bx (ef K rfl) (pv 0) (pv 1) (λ_ _=>rfl)) ag)) (a9 _)) (nM (aT GO (dU K rfl Je Kj Kk ou (pv 2) (paC (bx (ef K rfl) (pv 0) (pv 1) (λ_ _=>rfl)) ag)) ar (a9 _))))) (ak (aI f8)) aN))) (ak (aI (dY (G3 K rfl) (bx (ef K rfl) (pv 0) (pv 1) (λ_ _=>rfl)) (aQ (kc K rfl) (pv 0) bh (bc (pv 1))) (by with_unfolding_all rfl))))),(jl K mg ⟨TC,TX⟩)⟩
def rH(D:aV K mg "_law_apart" iN)(T:Txt mg)(TC:TxC K)(TX:TxX K mg)(C'25:ju P w K mg base)(C'26:jw P w K mg base):kl P w K mg base:=D.oR2 kf (by walk_at "b3") rC rfl rfl λ_ _ _ _ _ _ _ hr hu=>⟨_,(ah (aH (i:=3) kf.nd rfl (by walk_at "o") (ao C'25 (hr.m rfl) (paC (pv 0) (paC (pv 1) (paC (pv 2) ag))))) (ak (aI (bU (wi:=(qc (aU (tCB (k8 K) (aU (bv 3) dQ)) dQ))) (g:=(bS 0)) (tts:=(Fw (tB (eM (spP K dh) [] E0 (aU (bv 1) (aU (bv 0) dQ)))))) (te:=(tOp (wW K) (bv 1) (bv 0))) ["_law_k","_law_pieces_here"] [none,some 3] rfl (bE rfl T.b_range (paC (am (bG K rfl) rfl T.b_len o_ (paC (pv 3) ag)) ag)) (λ_ _ _ _=>⟨(aG (i:=0) (by show H_ (["_law_k","_law_pieces_here"]:List Str);decide +kernel) rfl (by walk_at "o")),(kZ (bN (bf (ao C'26 (hr.m rfl) (paC (pv 1) (paC (pv 0) ag)))))),(bx (ef K rfl) (pv 1) (pv 0) (λ_ _=>rfl))⟩) (by kernel_rfl))))),(ki K mg ⟨TC,TX⟩)⟩
def pZ(D:aV K mg "_law_counts" gB)(T:Txt mg)(TC:TxC K)(TX:TxX K mg)(C'21:bg P w K mg base):jx P w K mg base:=D.oR2 o8 (by walk_at "b3") pL rfl rfl λ_ _ _ _ _ _ _ hr hu=>⟨_,(ak (aI (bU (wi:=(qc (aU (bv 1) dQ))) (g:=(bS 0)) (tts:=mm) (te:=(tOp (ya K) (tC (V.int 1)) (eM (spR K aC) [] E0 (aU (bv 1) (aU (bv 2) dQ))))) ["_law_k","_law_stream_here","_law_most"] [none,some 0,some 2] rfl (bE rfl T.b_range (paC (pv 1) ag)) (λ_ _ _ _=>⟨(aG (i:=0) (by show H_ (["_law_k","_law_stream_here","_law_most"]:List Str);decide +kernel) rfl (by walk_at "o")),bM,(ba (bu K rfl) ar (ao C'21 (hr.m rfl) (paC (pv 1) (paC (pv 2) ag))))⟩) (by kernel_rfl)))),(jm K mg ⟨TC,TX⟩)⟩
def vQ(D:aV K mg "_law_lap" ly)(T:Txt mg)(TC:TxC K)(TX:TxX K mg):j6 P w K mg base:=D.oP2 nv (by walk_at "b2") vH rfl rfl λ_ _ _ _ _ _ _ hr hu=>⟨_,(ah (cK x_ rfl (qv rfl T.b_range (paC (ba vj (am (xc rfl) rfl T.b_min boot_min (paC (am (bG K rfl) rfl T.b_len o_ (paC (pv 0) ag)) (paC (am (bG K rfl) rfl T.b_len o_ (paC (pv 1) ag)) ag))) ar) (paC ar (paC (yL t9 ar) ag)))) (aG (i:=2) nv.nd rfl (by walk_at "o")) (ak (bR (aT (g9 K rfl hu) (aQ (kc K rfl) (pv 0) (bc (ba vj (am (bG K rfl) rfl T.b_len o_ (paC (pv 0) ag)) (pv 2))) bh) (aQ (kc K rfl) (pv 1) bh (bc (pv 2))) (a9 _)) (ak (aI (pv 2))) aN))) (ak (aI ar))),(nF K mg ⟨TC,TX⟩)⟩
def rJ(D:aV K mg "_law_whole" iO)(T:Txt mg)(TC:TxC K)(TX:TxX K mg):gQ P w K mg base:=D.oP2 rf (by walk_at "b1") rE rfl rfl λ_ _ _ _ _ _ _ hr hu=>⟨_,(ak (aI (eL (am (r0 K rfl) rfl T.b_isinstance II (paC (pv 0) (paC (cP (v:=.ty "int") rfl T.b_int boot_int rfl) ag))) (hX (qa (am (r0 K rfl) rfl T.b_isinstance II (paC (pv 0) (paC (cP (v:=.ty "bool") rfl T.b_bool boot_bool rfl) ag)))))))),(kj K mg ⟨TC,TX⟩)⟩
def mh(D:aV K mg "_law_shuffled" eB)(T:Txt mg)(TC:TxC K)(TX:TxX K mg)(C'21:bg P w K mg base):gR P w K mg base:=D.oR2 dD (by walk_at "b2") lT rfl rfl λ_ _ _ _ _ _ _ hr hu=>⟨_,(ah (aH (i:=2) dD.nd rfl (by walk_at "o") (bH (xf K rfl) rfl T.b_list boot_list (paC (pv 1) ag))) (ah (aH (i:=3) dD.nd rfl (by walk_at "o") (bO ag)) (ah (nN x_ (aT (sm K rfl hu) (pv 2) (bO ag) (a9 _)) (ak (dk (dU K rfl Jb J4 J5 eN (pv 3) (paC (dU K rfl Jb PySem.F.slot_list_pop PySem.F.type_list_pop yT (pv 2) (paC (ao C'21 (hr.m rfl) (paC (pv 0) (paC (am (bG K rfl) rfl T.b_len o_ (paC (pv 2) ag)) ag))) ag)) ag))))) (ak (aI (pv 3)))))),(gM K mg ⟨TC,TX⟩)⟩
def p3(D:aV K mg "_law_lesser" gC)(T:Txt mg)(TC:TxC K)(TX:TxX K mg)(C'21:bg P w K mg base):jy P w K mg base:=D.oR2 jg (by walk_at "b4") pN rfl rfl λ_ _ _ _ _ _ _ hr hu=>⟨_,(ah (nN x_ (aT zm (pv 3) ar (a9 _)) (ah (bR (PW.pt (t7 (aT (g9 K rfl hu) (aQ (kc K rfl) (pv 1) (bc (ba vj (am (bG K rfl) rfl T.b_len o_ (paC (pv 1) ag)) (pv 3))) bh) (aQ (kc K rfl) (pv 2) bh (bc (pv 3))) (a9 _)) (nM (aT (g9 K rfl hu) (ao C'21 (hr.m rfl) (paC (pv 0) (paC ar ag))) ar (a9 _))))) (ak (aI (pv 3))) aN) (ak (aH (i:=3) jg.nd rfl (by walk_at "o") (ba vj (pv 3) ar))))) (ak (aI ar))),(jn K mg ⟨TC,TX⟩)⟩
def tV(D:aV K mg "_law_laid" jT)(T:Txt mg)(TC:TxC K)(TX:TxX K mg)(C'29:j6 P w K mg base)(C'32:jy P w K mg base)(C'21:bg P w K mg base):iV P w K mg base:=D.oR2 bq (by walk_at "b2") tE rfl rfl λ_ _ _ _ _ _ _ hr hu=>⟨_,(ah (aH (i:=2) bq.nd rfl (by walk_at "o") (aQ (kc K rfl) (bF (l:=[112,113]) (by decide +kernel)) bh (bc (ba uv (ao C'21 (hr.m rfl) (paC (pv 0) (paC ar ag))) ar)))) (ah (aH (i:=3) bq.nd rfl (by walk_at "o") (bF (l:=[]) (by decide +kernel))) (ah (cK x_ rfl (cA K rfl (pv 1)) (aG (i:=4) bq.nd rfl (by walk_at "o")) (ah (aH (i:=5) bq.nd rfl (by walk_at "o") (ao C'21 (hr.m rfl) (paC (pv 0) (paC ar ag)))) (ah (aH (i:=6) bq.nd rfl (by walk_at "o") ar) (ah (iD (bR (PW.pt (t7 (aT (sm K rfl hu) (pv 3) (bF (l:=[]) (by decide +kernel)) (a9 _)) (nM (aT zm (pv 5) ar (a9 _))))) (ak (aH (i:=6) bq.nd rfl (by walk_at "o") (ao C'29 (hr.m rfl) (paC (pv 3) (paC (pv 4) ag))))) aN)) (ah (iD (bR (aT (g9 K rfl hu) (pv 5) ar (a9 _)) (ak (aH (i:=6) bq.nd rfl (by walk_at "o") (ao C'32 (hr.m rfl) (paC (pv 0) (paC (pv 3) (paC (pv 4) (paC (pv 6) ag))))))) aN)) (ah (iD (bR (aT (g9 K rfl hu) (pv 5) ar (a9 _)) (ak (aH (i:=2) bq.nd rfl (by walk_at "o") (ba (bu K rfl) (pv 2) (aQ (kc K rfl) (bF (l:=[98,97]) (by decide +kernel)) bh (bc (ao C'21 (hr.m rfl) (paC (pv 0) (paC ar ag)))))))) aN)) (ah (aH (i:=2) bq.nd rfl (by walk_at "o") (ba (bu K rfl) (pv 2) (aQ (kc K rfl) (pv 4) (bc (pv 6)) bh))) (ak (aH (i:=3) bq.nd rfl (by walk_at "o") (pv 4)))))))))) (ak (aI (ba (bu K rfl) (pv 2) (aQ (kc K rfl) (bF (l:=[113,112]) (by decide +kernel)) bh (bc (ba uv (ao C'21 (hr.m rfl) (paC (pv 0) (paC ar ag))) ar))))))))),(lU K mg ⟨TC,TX⟩)⟩
def vR(D:aV K mg "_law_row" lz)(T:Txt mg)(TC:TxC K)(TX:TxX K mg)(C'31:gR P w K mg base):j7 P w K mg base:=D.oR2 jZ (by walk_at "b2") vJ rfl rfl λ_ _ _ _ _ _ _ hr hu=>⟨_,(ah (aH (i:=2) jZ.nd rfl (by walk_at "o") (bO ag)) (ah (cK x_ rfl (bE rfl T.b_range (paC (am (bG K rfl) rfl T.b_len o_ (paC (pv 1) ag)) ag)) (aG (i:=3) jZ.nd rfl (by walk_at "o")) (ak (dk (dU K rfl Jb Ms Mt qs (pv 2) (paC (ba ko (bO (paC (pv 3) ag)) (bx (ef K rfl) (pv 1) (pv 3) (λ_ _=>rfl))) ag))))) (ak (aI (ao C'31 (hr.m rfl) (paC (pv 0) (paC (pv 2) ag))))))),(nG K mg ⟨TC,TX⟩)⟩
def tW(D:aV K mg "_law_glue" jU)(T:Txt mg)(TC:TxC K)(TX:TxX K mg)(C'29:j6 P w K mg base):iW P w K mg base:=D.oP2 cW (by walk_at "b1") tG rfl rfl λ_ _ _ _ _ _ _ hr hu=>⟨_,(ah (aH (i:=1) cW.nd rfl (by walk_at "o") (bF (l:=[]) (by decide +kernel))) (ah (cK x_ rfl (bE rfl T.b_range (paC (am (bG K rfl) rfl T.b_len o_ (paC (pv 0) ag)) ag)) (aG (i:=2) cW.nd rfl (by walk_at "o")) (ah (aH (i:=3) cW.nd rfl (by walk_at "o") ar) (ah (iD (bR (aT zm (pv 2) ar (a9 _)) (ak (aH (i:=3) cW.nd rfl (by walk_at "o") (ao C'29 (hr.m rfl) (paC (bx (ef K rfl) (pv 0) (ba vj (pv 2) ar) (λ_ _=>rfl)) (paC (bx (ef K rfl) (pv 0) (pv 2) (λ_ _=>rfl)) ag))))) aN)) (ak (aH (i:=1) cW.nd rfl (by walk_at "o") (ba (bu K rfl) (pv 1) (aQ (kc K rfl) (bx (ef K rfl) (pv 0) (pv 2) (λ_ _=>rfl)) (bc (pv 3)) bh))))))) (ak (aI (pv 1))))),(lV K mg ⟨TC,TX⟩)⟩
def p6(D:aV K mg "_law_places" gD)(T:Txt mg)(TC:TxC K)(TX:TxX K mg):fR P w K mg base:=D.oP2 o9 (by walk_at "b2") pP rfl rfl λ_ _ _ _ _ _ _ hr hu=>⟨_,(ak (aI (bU (wi:=(qc (aU (tCB (k8 K) (aU (bv 0) dQ)) dQ))) (g:=(bS 0)) (tts:=(uZ (tOp (xm K false) (tSl (Ep K) (bv 2) (ww (bv 0)) (ww (tOp (ya K) (bv 0) (tCB (k8 K) (aU (bv 1) dQ))))) (bv 1)))) (te:=(bv 0)) ["_law_at","_law_piece","_law_text"] [none,some 1,some 0] rfl (bE rfl T.b_range (paC (am (bG K rfl) rfl T.b_len o_ (paC (pv 0) ag)) ag)) (λ_ _ _ _=>⟨(aG (i:=0) (by show H_ (["_law_at","_law_piece","_law_text"]:List Str);decide +kernel) rfl (by walk_at "o")),(kZ (aT (g9 K rfl hu) (aQ (kc K rfl) (pv 2) (bc (pv 0)) (bc (ba (bu K rfl) (pv 0) (am (bG K rfl) rfl T.b_len o_ (paC (pv 1) ag))))) (pv 1) (a9 _))),(pv 0)⟩) (by kernel_rfl)))),(jo K mg ⟨TC,TX⟩)⟩
def p7(D:aV K mg "_law_enough" gE)(T:Txt mg)(TC:TxC K)(TX:TxX K mg)(C'36:fR P w K mg base):jA P w K mg base:=D.oP2 fC (by walk_at "b3") pR rfl rfl λ_ _ _ _ _ _ _ hr hu=>⟨_,(ah (cK x_ rfl (si K rfl rfl T.b_zip (paC (pv 1) (paC (pv 2) ag))) (ja K rfl (n:=2) rfl (br (aG (i:=3) fC.nd rfl (by walk_at "o")) (br (aG (i:=4) fC.nd rfl (by walk_at "o")) eX))) (ak (bR (aT Gx (am (bG K rfl) rfl T.b_len o_ (paC (ao C'36 (hr.m rfl) (paC (pv 0) (paC (pv 3) ag))) ag)) (pv 4) (a9 _)) (ak (aI f8)) aN))) (ak (aI f8))),(jp K mg ⟨TC,TX⟩)⟩
def mU(D:aV K mg "_law_is_full" fq)(T:Txt mg)(TC:TxC K)(TX:TxX K mg)(C'30:gQ P w K mg base):eJ P w K mg base:=D.oP2 eC (by walk_at "b2") mM rfl rfl λ_ _ _ _ _ _ _ hr hu=>⟨_,(ah (bR (PW.pt (mj (bN (bf (am (Et K rfl) rfl T.b_isinstance II (paC (pv 0) (paC (hZ (paC (cP (v:=.ty "list") rfl T.b_list boot_list rfl) (paC (cP (v:=.ty "tuple") rfl T.b_tuple J3 rfl) ag))) ag))))) (iY (aT (sm K rfl hu) (bU (wi:=(oi K (bv 0))) (g:=(bS 0)) (tts:=(Fw (tB (eM (spP K cu) [] E0 (aU (bv 0) dQ))))) (te:=(bv 0)) ["_law_one"] [none] rfl (cA K rfl (pv 0)) (λ_ _ _ _=>⟨(aG (i:=0) (by show H_ (["_law_one"]:List Str);decide +kernel) rfl (by walk_at "o")),(kZ (bN (bf (ao C'30 (hr.m rfl) (paC (pv 0) ag))))),(pv 0)⟩) (by kernel_rfl)) (bO ag) (a9 _))))) (ak (aI f8)) aN) (ah (aH (i:=2) eC.nd rfl (by walk_at "o") (bO ag)) (ah (cK x_ rfl (bE rfl T.b_range (paC (am (bG K rfl) rfl T.b_len o_ (paC (pv 1) ag)) ag)) (aG (i:=3) eC.nd rfl (by walk_at "o")) (ak (dk (dU K rfl Jb Ms Mt qs (pv 2) (paC (ba ko (bO (paC (pv 3) ag)) (bx (ef K rfl) (pv 1) (pv 3) (λ_ _=>rfl))) ag))))) (ak (aI (dY (g9 K rfl hu) (am (xq K rfl) rfl T.b_sorted boot_sorted (paC (pv 0) ag)) (pv 2) (a9 _))))))),(iq K mg ⟨TC,TX⟩)⟩
def p8(D:aV K mg "_law_no_row" gF)(T:Txt mg)(TC:TxC K)(TX:TxX K mg)(C'18:fP P w K mg base):fS P w K mg base:=D.oP2 dg (by walk_at "b2") pT rfl rfl λ_ _ _ _ _ _ _ hr hu=>⟨_,(ah (aH (i:=2) dg.nd rfl (by walk_at "o") t6) (ah (AG rfl rfl (λJ pn E px=>ah (dk (jI C'18 (hr.m rfl) px (paC (pv 0) (paC (pv 1) ag)))) aN) (AJ 3 K rfl TX.d'a TX.m'a dg.nd rfl rfl (λ_=>(ak (aH (i:=2) dg.nd rfl (by walk_at "o") (pv 3)))) AF)) (ah (bR (PW.pt (mj (bN (bf (am (E2 K rfl) rfl T.b_isinstance II (paC (pv 2) (paC (gu TX.m'e) ag))))) (iY (bN (bf (am (E3 K rfl) rfl T.b_isinstance II (paC (pv 2) (paC (cP (v:=.ty "ValueError") rfl T.b_ValueError PyProof.Rows.Boot.«ValueError» rfl) ag)))))))) (ak (aI f8)) aN) (ak (aI (qa (am (AK K rfl) rfl T.b_isinstance II (paC (pv 2) (paC (hZ (paC (gu TX.m'l) (paC (gu TX.m'k) (paC (gu TX.m'f) ag)))) ag))))))))),(jq K mg ⟨TC,TX⟩)⟩
def mW(D:aV K mg "_law_missing" fu)(T:Txt mg)(TC:TxC K)(TX:TxX K mg)(C'30:gQ P w K mg base)(C'19:jr P w K mg base):iB P w K mg base:=D.oP2 cY (by walk_at "b3") mP rfl rfl λ_ _ _ _ _ _ _ hr hu=>⟨_,(ah (aH (i:=3) cY.nd rfl (by walk_at "o") t6) (ah (AG rfl rfl (λJ pn E px=>ah (dk (jI C'19 (hr.m rfl) px (paC (pv 0) (paC (pv 1) ag)))) aN) (AJ 4 K rfl TX.d'a TX.m'a cY.nd rfl rfl (λ_=>(ak (aH (i:=3) cY.nd rfl (by walk_at "o") (pv 4)))) AF)) (ah (bR (PW.pt (mj (bN (bf (am (E2 K rfl) rfl T.b_isinstance II (paC (pv 3) (paC (gu TX.m'f) ag))))) (iY (bN (bf (am (E3 K rfl) rfl T.b_isinstance II (paC (pv 3) (paC (cP (v:=.ty "ValueError") rfl T.b_ValueError PyProof.Rows.Boot.«ValueError» rfl) ag)))))))) (ak (aI f8)) aN) (ak (aI (eL (qa (am (AK K rfl) rfl T.b_isinstance II (paC (pv 3) (paC (hZ (paC (gu TX.m'l) (paC (gu TX.m'e) (paC (gu TX.m'k) ag)))) ag)))) (eL (ao C'30 (hr.m rfl) (paC (uE K rfl (pv 3) rfl) ag)) (hX (dY (g9 K rfl hu) (uE K rfl (pv 3) rfl) (pv 2) (a9 _)))))))))),(ir K mg ⟨TC,TX⟩)⟩
def tX(D:aV K mg "_law_read" jV)(T:Txt mg)(TC:TxC K)(TX:TxX K mg)(C'37:jA P w K mg base)(C'35:iW P w K mg base)(C'38:eJ P w K mg base)(C'40:iB P w K mg base)(C'36:fR P w K mg base)(C'19:jr P w K mg base):fT P w K mg base:=D.oP2 bB (by walk_at "b4") tI rfl rfl λ_ _ _ _ _ _ _ hr hu=>⟨_,(ah (aH (i:=4) bB.nd rfl (by walk_at "o") (bU (wi:=(oi K (bv 1))) (g:=(bS 0)) (tts:=mm) (te:=(eM (spP K cH) [] E0 (aU (bv 1) (aU (bv 0) dQ)))) ["_law_piece","_law_text"] [none,some 3] rfl (cA K rfl (pv 1)) (λ_ _ _ _=>⟨(aG (i:=0) (by show H_ (["_law_piece","_law_text"]:List Str);decide +kernel) rfl (by walk_at "o")),bM,(ao C'36 (hr.m rfl) (paC (pv 1) (paC (pv 0) ag)))⟩) (by kernel_rfl))) (ah (n5 (wi:=(qc (aU (tCB (k8 K) (aU (bv 1) dQ)) dQ))) (g:=(bS 0)) (tts:=(uZ (tOp Gw (tCB (k8 K) (aU (tOp (wW K) (bv 2) (bv 0)) dQ)) (tOp (wW K) (bv 1) (bv 0))))) (te:=(bv 0)) (i:=5) ["_law_k","_law_counts_here","_law_rows_here"] [none,some 2,some 4] bB.nd rfl (Mh rfl) rfl (bE rfl T.b_range (paC (am (bG K rfl) rfl T.b_len o_ (paC (pv 1) ag)) ag)) (λ_ _ _ _=>⟨(aG (i:=0) (by show H_ (["_law_k","_law_counts_here","_law_rows_here"]:List Str);decide +kernel) rfl (by walk_at "o")),(kZ (aT Gx (am (bG K rfl) rfl T.b_len o_ (paC (bx (ef K rfl) (pv 2) (pv 0) (λ_ _=>rfl)) ag)) (bx (ef K rfl) (pv 1) (pv 0) (λ_ _=>rfl)) (a9 _))),(pv 0)⟩) (by kernel_rfl)) (ah (bR (aT (sm K rfl hu) (pv 5) (bO ag) (a9 _)) (ak (aI (ao C'40 (hr.m rfl) (paC (pv 0) (paC (pv 3) (paC (bx (ef K rfl) (pv 5) ar (λ_ _=>rfl)) ag)))))) aN) (ah (aH (i:=6) bB.nd rfl (by walk_at "o") (jI C'19 (hr.m rfl) px0 (paC (pv 0) (paC (pv 3) ag)))) (ah (bR (PW.pt (mj (bN (bf (am (r0 K rfl) rfl T.b_isinstance II (paC (pv 6) (paC (cP (v:=.ty "tuple") rfl T.b_tuple J3 rfl) ag))))) (iY (bN (bf (ao C'38 (hr.m rfl) (paC (pv 6) (paC (pv 2) ag)))))))) (ak (aI f8)) aN) (ah (aH (i:=7) bB.nd rfl (by walk_at "o") (ba ko (bO (paC ar ag)) (am (bG K rfl) rfl T.b_len o_ (paC (pv 1) ag)))) (ah (aH (i:=8) bB.nd rfl (by walk_at "o") (yL t9 ar)) (ah (cK x_ rfl (cA K rfl (pv 6)) (aG (i:=9) bB.nd rfl (by walk_at "o")) (ah (aH (i:=10) bB.nd rfl (by walk_at "o") (bx (ef K rfl) (bx (ef K rfl) (pv 4) (pv 9) (λ_ _=>rfl)) (bx (ef K rfl) (pv 7) (pv 9) (λ_ _=>rfl)) (λ_ _=>rfl))) (ah (bR (aT Af (pv 10) (pv 8) (a9 _)) (ak (aI f8)) aN) (ah (aH (i:=8) bB.nd rfl (by walk_at "o") (pv 10)) (ak (sG (ba (bu K rfl) (bx (ef K rfl) (pv 7) (pv 9) (λ_ _=>rfl)) ar) (vV (pv 7) (pv 9) nQ))))))) (ah (aH (i:=11) bB.nd rfl (by walk_at "o") (ao C'35 (hr.m rfl) (paC (bU (wi:=(oi K (bv 6))) (g:=(bS 0)) (tts:=mm) (te:=(tOp (wW K) (bv 1) (bv 0))) ["_law_one","_law_pieces_here"] [none,some 1] rfl (cA K rfl (pv 6)) (λ_ _ _ _=>⟨(aG (i:=0) (by show H_ (["_law_one","_law_pieces_here"]:List Str);decide +kernel) rfl (by walk_at "o")),bM,(bx (ef K rfl) (pv 1) (pv 0) (λ_ _=>rfl))⟩) (by kernel_rfl)) ag))) (ak (aI (eL (dY Af (am (bG K rfl) rfl T.b_len o_ (paC (pv 11) ag)) (am (bG K rfl) rfl T.b_len o_ (paC (pv 3) ag)) (a9 _)) (hX (ao C'37 (hr.m rfl) (paC (pv 11) (paC (pv 1) (paC (pv 2) ag))))))))))))))))),(lW K mg ⟨TC,TX⟩)⟩
def tY(D:aV K mg "_law_bent" jW)(T:Txt mg)(TC:TxC K)(TX:TxX K mg)(C'21:bg P w K mg base):ma P w K mg base:=D.oR2 dE (by walk_at "b3") tK rfl rfl λ_ _ _ _ _ _ _ hr hu=>⟨_,(ah (aH (i:=3) dE.nd rfl (by walk_at "o") (ao C'21 (hr.m rfl) (paC (pv 0) (paC (am (bG K rfl) rfl T.b_len o_ (paC (pv 1) ag)) ag)))) (ah (aH (i:=4) dE.nd rfl (by walk_at "o") (bO (paC (pv 2) (paC (yL t9 ar) (paC f8 (paC t6 (paC (bF (l:=[48]) (by decide +kernel)) (paC (hZ (paC ar ag)) (paC (ba GN ar ar) (paC (ba sg (ba (bu K rfl) (bx (ef K rfl) (pv 1) (pv 3) (λ_ _=>rfl)) ar) (ba (bu K rfl) (pv 2) ar)) ag)))))))))) (ah (aH (i:=5) dE.nd rfl (by walk_at "o") (bO (paC (ba (bu K rfl) (ba (bu K rfl) (aQ (kc K rfl) (pv 1) bh (bc (pv 3))) (bO (paC (bx (ef K rfl) (pv 4) (ao C'21 (hr.m rfl) (paC (pv 0) (paC ar ag))) (λ_ _=>rfl)) ag))) (aQ (kc K rfl) (pv 1) (bc (ba (bu K rfl) (pv 3) ar)) bh)) (paC (ba (bu K rfl) (aQ (kc K rfl) (pv 1) bh (bc (pv 3))) (aQ (kc K rfl) (pv 1) (bc (ba (bu K rfl) (pv 3) ar)) bh)) (paC (ba (bu K rfl) (pv 1) (bO (paC (bx (ef K rfl) (pv 1) (pv 3) (λ_ _=>rfl)) ag))) ag))))) (ah (aH (i:=5) dE.nd rfl (by walk_at "o") (ba (bu K rfl) (pv 5) (bO (paC t6 (paC ar (paC (bF (l:=[48]) (by decide +kernel)) (paC za (paC f8 ag)))))))) (ak (aI (bx (ef K rfl) (pv 5) (ao C'21 (hr.m rfl) (paC (pv 0) (paC ar ag))) (λ_ _=>rfl)))))))),(lX K mg ⟨TC,TX⟩)⟩
def tZ(D:aV K mg "_law_rows" jX)(T:Txt mg)(TC:TxC K)(TX:TxX K mg)(C'42:ma P w K mg base)(C'35:iW P w K mg base)(C'38:eJ P w K mg base)(C'33:iV P w K mg base)(C'21:bg P w K mg base)(C'39:fS P w K mg base)(C'41:fT P w K mg base)(C'34:j7 P w K mg base)(C'18:fP P w K mg base):md P w K mg base:=D.oR2 cp (by walk_at "b4") tM rfl rfl λ_ _ _ _ _ _ _ hr hu=>⟨_,(ah (aH (i:=4) cp.nd rfl (by walk_at "o") (ao C'34 (hr.m rfl) (paC (pv 0) (paC (pv 3) ag)))) (ah (aH (i:=5) cp.nd rfl (by walk_at "o") (bx (ef K rfl) (bO (paC (pv 4) (paC (bH (gi K rfl) rfl T.b_tuple J3 (paC (pv 4) ag)) ag))) (ao C'21 (hr.m rfl) (paC (pv 0) (paC ar ag))) (λ_ _=>rfl))) (ah (aH (i:=6) cp.nd rfl (by walk_at "o") (bH (xf K rfl) rfl T.b_list boot_list (paC (pv 4) ag))) (ah (aH (i:=7) cp.nd rfl (by walk_at "o") (jI C'18 (hr.m rfl) px0 (paC (pv 1) (paC (pv 5) ag)))) (ah (bR (PW.pt (mj (bN (bf (am (r0 K rfl) rfl T.b_isinstance II (paC (pv 7) (paC (cP (v:=.ty "str") rfl T.b_str boot_str rfl) ag))))) (mj (aT (sm K rfl hu) (pv 7) (ao C'35 (hr.m rfl) (paC (bU (wi:=(oi K (bv 4))) (g:=(bS 0)) (tts:=mm) (te:=(tOp (wW K) (bv 1) (bv 0))) ["_law_one","_law_pieces_here"] [none,some 2] rfl (cA K rfl (pv 4)) (λ_ _ _ _=>⟨(aG (i:=0) (by show H_ (["_law_one","_law_pieces_here"]:List Str);decide +kernel) rfl (by walk_at "o")),bM,(bx (ef K rfl) (pv 1) (pv 0) (λ_ _=>rfl))⟩) (by kernel_rfl)) ag)) (a9 _)) (iY (aT (sm K rfl hu) (bH (xf K rfl) rfl T.b_list boot_list (paC (pv 5) ag)) (pv 6) (a9 _)))))) (ak (aI f8)) aN) (ah (aH (i:=8) cp.nd rfl (by walk_at "o") (ao C'42 (hr.m rfl) (paC (pv 0) (paC (pv 4) (paC (am (bG K rfl) rfl T.b_len o_ (paC (pv 2) ag)) ag))))) (ah (bR (PW.pt (mj (bf (ao C'38 (hr.m rfl) (paC (pv 8) (paC (pv 3) ag)))) (iY (bN (bf (ao C'39 (hr.m rfl) (paC (pv 1) (paC (pv 8) ag)))))))) (ak (aI f8)) aN) (ah (n5 (wi:=(oi K (eM (spR K cX) [] E0 (aU (bv 0) (aU (bv 3) dQ))))) (g:=(bS 0)) (tts:=mm) (te:=(tOp (wW K) (bv 1) (bv 0))) (i:=9) ["_law_one","_law_pieces_here"] [none,some 2] cp.nd rfl (Mh rfl) rfl (cA K rfl (ao C'34 (hr.m rfl) (paC (pv 0) (paC (pv 3) ag)))) (λ_ _ _ _=>⟨(aG (i:=0) (by show H_ (["_law_one","_law_pieces_here"]:List Str);decide +kernel) rfl (by walk_at "o")),bM,(bx (ef K rfl) (pv 1) (pv 0) (λ_ _=>rfl))⟩) (by kernel_rfl)) (ah (bR (PW.pt (mj (bN (bf (ao C'41 (hr.m rfl) (paC (pv 1) (paC (pv 2) (paC (pv 3) (paC (pv 7) ag))))))) (iY (bN (bf (ao C'41 (hr.m rfl) (paC (pv 1) (paC (pv 2) (paC (pv 3) (paC (ao C'33 (hr.m rfl) (paC (pv 0) (paC (pv 9) ag))) ag)))))))))) (ak (aI f8)) aN) (ak (aI (ao C'41 (hr.m rfl) (paC (pv 1) (paC (pv 2) (paC (pv 3) (paC (ao C'33 (hr.m rfl) (paC (pv 0) (paC (aQ (kc K rfl) (pv 9) (bc (ba (bu K rfl) ar (ao C'21 (hr.m rfl) (paC (pv 0) (paC (am (bG K rfl) rfl T.b_len o_ (paC (pv 9) ag)) ag))))) bh) ag))) ag)))))))))))))))),(lY K mg ⟨TC,TX⟩)⟩
def vS(D:aV K mg "_law_far" lA)(T:Txt mg)(TC:TxC K)(TX:TxX K mg)(C'33:iV P w K mg base)(C'41:fT P w K mg base)(C'34:j7 P w K mg base)(C'22:fQ P w K mg base):nK P w K mg base:=D.oR2 gY (by walk_at "b4") vL rfl rfl λ_ _ _ _ _ _ _ hr hu=>⟨_,(ah (n5 (wi:=(oi K (eM (spR K cX) [] E0 (aU (bv 0) (aU (bv 3) dQ))))) (g:=(bS 0)) (tts:=mm) (te:=(tOp (wW K) (bv 1) (bv 0))) (i:=4) ["_law_one","_law_pieces_here"] [none,some 2] gY.nd rfl (Mh rfl) rfl (cA K rfl (ao C'34 (hr.m rfl) (paC (pv 0) (paC (pv 3) ag)))) (λ_ _ _ _=>⟨(aG (i:=0) (by show H_ (["_law_one","_law_pieces_here"]:List Str);decide +kernel) rfl (by walk_at "o")),bM,(bx (ef K rfl) (pv 1) (pv 0) (λ_ _=>rfl))⟩) (by kernel_rfl)) (ah (aH (i:=5) gY.nd rfl (by walk_at "o") (ao C'22 (hr.m rfl) (paC (pv 0) (paC (bF (l:=[97,98,120,121]) (by decide +kernel)) (paC ar ag))))) (ah (aH (i:=6) gY.nd rfl (by walk_at "o") (ba (bu K rfl) (ba (bu K rfl) (pv 5) (ao C'33 (hr.m rfl) (paC (pv 0) (paC (pv 4) ag)))) (ao C'22 (hr.m rfl) (paC (pv 0) (paC (bF (l:=[97,98,120,121]) (by decide +kernel)) (paC ar ag)))))) (ak (aI (eL (ao C'41 (hr.m rfl) (paC (pv 1) (paC (pv 2) (paC (pv 3) (paC (pv 6) ag))))) (hX (ao C'41 (hr.m rfl) (paC (pv 1) (paC (pv 2) (paC (pv 3) (paC (pv 5) ag)))))))))))),(nH K mg ⟨TC,TX⟩)⟩
def Fu(D:aV K mg "law" zM)(T:Txt mg)(TC:TxC K)(TX:TxX K mg)(C'16:pU P w K mg base)(C'27:kl P w K mg base)(C'28:jx P w K mg base)(C'44:nK P w K mg base)(C'21:bg P w K mg base)(C'39:fS P w K mg base)(C'41:fT P w K mg base)(C'43:md P w K mg base)(C'20:jt P w K mg base)(C'19:jr P w K mg base)(C'18:fP P w K mg base):Fs P w K mg base:=D.oP2 kg (by walk_at "b1") Fq rfl rfl λ_ _ _ _ _ _ _ hr hu=>⟨_,(ah (cK x_ rfl (bE rfl T.b_range (paC (am (EE rfl) rfl T.b_max boot_max (paC ar (paC (am (xc rfl) rfl T.b_min boot_min (paC ar (paC (am (bG K rfl) rfl T.b_len o_ (paC (pv 0) ag)) ag))) ag))) ag)) (aG (i:=1) kg.nd rfl (by walk_at "o")) (ah (aH (i:=2) kg.nd rfl (by walk_at "o") (ao C'20 (hr.m rfl) (paC (pv 0) (paC (pv 1) ag)))) (ah (aH (i:=3) kg.nd rfl (by walk_at "o") (ao C'27 (hr.m rfl) (paC (pv 2) (paC (ba (bu K rfl) ar (ao C'21 (hr.m rfl) (paC (pv 2) (paC ar ag)))) (paC ar ag))))) (ah (aH (i:=4) kg.nd rfl (by walk_at "o") (ao C'28 (hr.m rfl) (paC (pv 2) (paC (am (bG K rfl) rfl T.b_len o_ (paC (pv 3) ag)) (paC ar ag))))) (ah (aH (i:=5) kg.nd rfl (by walk_at "o") (uD C'16 (hr.m rfl) (paC (pv 3) (paC (bH (gi K rfl) rfl T.b_tuple J3 (paC (pv 4) ag)) ag)))) (ah (cK x_ rfl (bE rfl T.b_range (paC ar ag)) (aG (i:=6) kg.nd rfl (by walk_at "o")) (ak (bR (bN (bf (ao C'43 (hr.m rfl) (paC (pv 2) (paC (pv 5) (paC (pv 3) (paC (pv 4) ag))))))) (ak (aI f8)) aN))) (ah (bR (PW.pt (mj (bN (bf (ao C'41 (hr.m rfl) (paC (pv 5) (paC (pv 3) (paC (pv 4) (paC (ba ko (bx (ef K rfl) (pv 3) ar (λ_ _=>rfl)) ar) ag))))))) (iY (bN (bf (ao C'41 (hr.m rfl) (paC (pv 5) (paC (pv 3) (paC (pv 4) (paC (bF (l:=[]) (by decide +kernel)) ag)))))))))) (ak (aI f8)) aN) (ak (bR (PW.pt (t7 (aT (g9 K rfl hu) (ao C'21 (hr.m rfl) (paC (pv 2) (paC ar ag))) ar (a9 _)) (nM (bN (bf (ao C'44 (hr.m rfl) (paC (pv 2) (paC (pv 5) (paC (pv 3) (paC (pv 4) ag)))))))))) (ak (aI f8)) aN))))))))) (ah (aH (i:=7) kg.nd rfl (by walk_at "o") (uD C'16 (hr.m rfl) (paC (bO ag) (paC (hZ ag) ag)))) (ak (aI (eL (dY (g9 K rfl hu) (jI C'18 (hr.m rfl) px0 (paC (pv 7) (paC (bO ag) ag))) (bF (l:=[]) (by decide +kernel)) (a9 _)) (eL (dY (g9 K rfl hu) (jI C'19 (hr.m rfl) px0 (paC (pv 7) (paC (bF (l:=[97,98]) (by decide +kernel)) ag))) (hZ ag) (a9 _)) (hX (ao C'39 (hr.m rfl) (paC (pv 7) (paC (bO (paC ar ag)) ag)))))))))),(Bc K mg ⟨TC,TX⟩)⟩
end
def Fv{l:MK}{w:World}{K:a_}{h:Heap}{mg:Str->Option Value}{fa:Addr}(X:K.In h)(G:h.Ns mainGlobals mg)(hfa:mg "law"=some (.ref fa))
  {C_Often:Addr} (aC_Often:tf K mainGlobals "Often"=some (some (.ref C_Often))) (pg_Often:Lb K C_Often Str.empty=true) (hd_Often:KU K C_Often=true) (po_Often:Mc K C_Often=true) (sa_Often:h_ K (.ref C_Often) "__setattr__"=some (some (.builtin "object.__setattr__"))) (mk_Often:MJ K C_Often=true) (kc_Often:z_ K (.ref C_Often)=true)
  (n_Often_pieces:h_ K (.ref C_Often) "pieces"=some none)
  (n_Often_counts:h_ K (.ref C_Often) "counts"=some none)
  (n_Often_laps:h_ K (.ref C_Often) "laps"=some none)
  (n_Often_total:h_ K (.ref C_Often) "total"=some none)
  {C'a:Addr} (aC'a:tf K mainGlobals "GlueError"=some (some (.ref C'a))) {q'a:Str}{N'a:Addr}{bs'a sub'a:List Value}{sn'a:List Str}{ab'a:Bool}{col'a:Option Bool}{k0'a k1'a k2'a k3'a k5'a:Option Value} (lC'a:K.lookup C'a=some (excClassObj "GlueError" q'a C'a N'a bs'a [.type "ValueError",.type "Exception",.type "BaseException",.type "object"] true sn'a sub'a ab'a col'a none k0'a k1'a k2'a k3'a k5'a "ValueError.__new__")) (xq'a:Lm K C'a [.type "ValueError",.type "Exception",.type "BaseException",.type "object"] "ValueError.__new__"=true)
  {C'e:Addr} (b'e:XI K C'a "NoOrder" C'e)
  (xq'e:Lm K C'e [.type "ValueError",.type "Exception",.type "BaseException",.type "object"] "ValueError.__new__"=true)
  {C'f:Addr} (b'f:XI K C'a "NotHeld" C'f)
  (j'f:XJ K C'f "NotHeld.__init__" "at" eE)
  {C'k:Addr} (b'k:XI K C'a "NotApart" C'k)
  (j'k:XJ K C'k "NotApart.__init__" "at" dF)
  {C'l:Addr} (b'l:XI K C'a "NoCounts" C'l)
  (j'l:XJ K C'l "NoCounts.__init__" "at" dG)
  (d1:dN K "is_row" oZ)
  (d2:dN K "is_number" iM)
  (d3:dN K "lap" CU)
  {f4:Addr}{oc4 kV4 dc4 pm4 cd4 ct4:Value}{od4 an4 dd4:Option Addr}{sl4 st4:Array (Option Value)}{dT4:Addr}{n4:Nat}{u4_0 u4_1:Tok} (a4:tf K mainGlobals "is_text"=some (some (.ref f4))) (l4:K.lookup f4=some ⟨oc4,od4,.func (F_ "is_text" "is_text" (bK eS) (aX eS) (aj eS) (.ref dT4) kV4 dc4 pm4 an4 cd4 ct4),sl4⟩) (c4:Jk K cd4 "is_text"=true) (k4:z_ K (.ref f4)=true) (t4:K.lookup dT4=some ⟨.type "tuple",dd4,.seq [.int 0 u4_0,.int 4000 u4_1].toArray n4,st4⟩)
  (d5:dN K "places" o0)
  (d6:dN K "first_place" fk)
  (d7:dN K "glue_all" jM)
  (d8:dN K "steps_of" jN)
  (d9:dN K "_law_stream" gv)
  (d10:dN K "_law_next" jP)
  (d11:dN K "_law_within" gA)
  (d12:dN K "_law_lap" ly)
  (d13:dN K "_law_whole" iO)
  (d14:dN K "_law_places" gD)
  (d15:dN K "are_numbers" fj)
  (d16:dN K "all_laps" jJ)
  (d17:dN K "is_whole" jK)
  (d18:dN K "check_pieces" et)
  (d19:dN K "stands_within" dy)
  (d20:dN K "_law_word" jQ)
  (d21:dN K "_law_cut" lw)
  (d22:dN K "_law_counts" gB)
  (d23:dN K "_law_shuffled" eB)
  (d24:dN K "_law_lesser" gC)
  (d25:dN K "_law_glue" jU)
  (d26:dN K "_law_enough" gE)
  (d27:dN K "_law_is_full" fq)
  (d28:dN K "_law_bent" jW)
  (d29:dN K "is_kept" lv)
  (d30:dN K "check_counts" eA)
  (d31:dN K "is_full_row" fo)
  (d32:dN K "row_in" o5)
  (d33:dN K "_law_base" jR)
  (d34:dN K "_law_laid" jT)
  (d35:dN K "_law_row" lz)
  (d36:dN K "check_apart" fm)
  (d37:dN K "row_text" jO)
  (d38:dN K "_law_pieces" gy)
  (d39:dN K "_law_missing" fu)
  {f40:Addr}{oc40 kV40 dc40 pm40 cd40 ct40:Value}{od40 an40:Option Addr}{sl40:Array (Option Value)} (a40:h_ K (.ref C_Often) "__init__"=some (some (.ref f40))) (i40:PySem.W.isFn K (.ref f40)=true) (l40:K.lookup f40=some ⟨oc40,od40,.func (F_ "__init__" "Often.__init__" (bK bV) (aX bV) (aj bV) .none kV40 dc40 pm40 an40 cd40 ct40),sl40⟩) (c40:Jk K cd40 "Often.__init__"=true) (k40:z_ K (.ref f40)=true)
  (d41:dN K "_law_apart" iN)
  (d42:dN K "_law_no_row" gF)
  (d43:dN K "_law_read" jV)
  (d44:dN K "_law_rows" jX)
  (d45:dN K "_law_far" lA)
  (d46:dN K "law" zM)
  (z1:tf K mainGlobals "ValueError"=some none)
  (z2:tf K mainGlobals "abs"=some none)
  (z3:tf K mainGlobals "all"=some none)
  (z4:tf K mainGlobals "any"=some none)
  (z5:tf K mainGlobals "bool"=some none)
  (z6:tf K mainGlobals "enumerate"=some none)
  (z7:tf K mainGlobals "int"=some none)
  (z8:tf K mainGlobals "isinstance"=some none)
  (z9:tf K mainGlobals "len"=some none)
  (z10:tf K mainGlobals "list"=some none)
  (z11:tf K mainGlobals "max"=some none)
  (z12:tf K mainGlobals "min"=some none)
  (z13:tf K mainGlobals "range"=some none)
  (z14:tf K mainGlobals "sorted"=some none)
  (z15:tf K mainGlobals "str"=some none)
  (z16:tf K mainGlobals "sum"=some none)
  (z17:tf K mainGlobals "tuple"=some none)
  (z18:tf K mainGlobals "zip"=some none)
  {ty1:Tok} (y1:tf K mainGlobals "MOST_COUNT"=some (some (.int 9 ty1)))
  {ty2:Tok} (y2:tf K mainGlobals "MOST_PIECES"=some (some (.int 40 ty2)))
  {ty3:Tok} (y3:tf K mainGlobals "MOST_PRODUCT"=some (some (.int 500 ty3)))
  {ty4:Tok} (y4:tf K mainGlobals "MOST_SIGNS"=some (some (.int 60 ty4))) :
  ∃fd:Jp,(∀(s:cy) (v:Value),MA s fd ⟨[v],[]⟩ [("_law_script",v)])/\∀base:Heap,K.In base->base.Ns mainGlobals mg->nP l.prog w K mg base CX0 7 fa fd ["_law_script"] (vh K):=by
 have eC_Often:=gW aC_Often;have TC:TxC K:=⟨by rw [eC_Often];exact⟨pg_Often,hd_Often,po_Often,sa_Often⟩,by show h_ K (.ref (aK K "Often")) "pieces"=some none;rw [eC_Often];exact n_Often_pieces,by show h_ K (.ref (aK K "Often")) "counts"=some none;rw [eC_Often];exact n_Often_counts,by show h_ K (.ref (aK K "Often")) "laps"=some none;rw [eC_Often];exact n_Often_laps,by show h_ K (.ref (aK K "Often")) "total"=some none;rw [eC_Often];exact n_Often_total⟩
 have eC'a:=gW aC'a;have tl_:=CA xq'a ⟨_,_,_,_,_,_,_,_,_,_,_,_,_,lC'a⟩;obtain⟨aC'e,⟨_,_,_,_,_,_,_,_,_,_,_,_,lC'e⟩,ga'e,gh'e,sa'e,cl'e,kc'e⟩:=b'e;have eC'e:=gW aC'e;have xc'e:XC K C'e C'a:=⟨⟨_,_,_,_,_,_,_,_,_,_,_,_,_,lC'e⟩,ga'e,gh'e,sa'e,cl'e⟩
 obtain⟨aC'f,⟨_,_,_,_,_,_,_,_,_,_,_,_,lC'f⟩,ga'f,gh'f,sa'f,cl'f,kc'f⟩:=b'f;have eC'f:=gW aC'f;have xc'f:XC K C'f C'a:=⟨⟨_,_,_,_,_,_,_,_,_,_,_,_,_,lC'f⟩,ga'f,gh'f,sa'f,cl'f⟩
 obtain⟨_,_,_,_,_,_,_,_,_,_,xi'f,xt'f,xl'f,xc0'f,xk'f,xn'f⟩:=j'f;obtain⟨aC'k,⟨_,_,_,_,_,_,_,_,_,_,_,_,lC'k⟩,ga'k,gh'k,sa'k,cl'k,kc'k⟩:=b'k;have eC'k:=gW aC'k;have xc'k:XC K C'k C'a:=⟨⟨_,_,_,_,_,_,_,_,_,_,_,_,_,lC'k⟩,ga'k,gh'k,sa'k,cl'k⟩
 obtain⟨_,_,_,_,_,_,_,_,_,_,xi'k,xt'k,xl'k,xc0'k,xk'k,xn'k⟩:=j'k;obtain⟨aC'l,⟨_,_,_,_,_,_,_,_,_,_,_,_,lC'l⟩,ga'l,gh'l,sa'l,cl'l,kc'l⟩:=b'l;have eC'l:=gW aC'l;have xc'l:XC K C'l C'a:=⟨⟨_,_,_,_,_,_,_,_,_,_,_,_,_,lC'l⟩,ga'l,gh'l,sa'l,cl'l⟩
 obtain⟨_,_,_,_,_,_,_,_,_,_,xi'l,xt'l,xl'l,xc0'l,xk'l,xn'l⟩:=j'l
 have TX:TxX K mg:=⟨⟨by rw [XCl,eC'a];exact⟨_,_,_,lC'a,rfl⟩,λc hc=>by
  simp only [xcs,mem_cons,not_mem_nil,or_false] at hc
  rcases hc with rfl|rfl|rfl|rfl
  .rw [XCl,eC'e];exact⟨_,_,_,lC'e,rfl⟩
  .rw [XCl,eC'f];exact⟨_,_,_,lC'f,rfl⟩
  .rw [XCl,eC'k];exact⟨_,_,_,lC'k,rfl⟩
  .rw [XCl,eC'l];exact⟨_,_,_,lC'l,rfl⟩,λc hc=>by
  simp only [xcs,mem_cons,not_mem_nil,or_false] at hc
  rcases hc with rfl|rfl|rfl|rfl
  .rw [eC'e,eC'a];exact xc'e
  .rw [eC'f,eC'a];exact xc'f
  .rw [eC'k,eC'a];exact xc'k
  .rw [eC'l,eC'a];exact xc'l⟩,λc g hc=>by
  simp only [HR,mem_cons,not_mem_nil,or_false,Lg] at hc
  rcases hc with ⟨rfl,rfl⟩|⟨rfl,rfl⟩|⟨rfl,rfl⟩
  .rw [eC'f];exact xn'f
  .rw [eC'k];exact xn'k
  .rw [eC'l];exact xn'l,by rw [eC'e];exact IW X G aC'e,by rw [eC'f];exact IW X G aC'f,by rw [eC'k];exact IW X G aC'k,by rw [eC'l];exact IW X G aC'l,by rw [eC'a];exact IW X G aC'a,by rw [eC'e];exact⟨_,_,_,_,_,_,_,_,_,_,_,_,_,_,_,_,_,lC'e,rfl⟩,by rw [eC'f];exact⟨_,_,_,_,_,_,_,_,_,_,_,_,_,_,_,_,_,lC'f,rfl⟩,by rw [eC'k];exact⟨_,_,_,_,_,_,_,_,_,_,_,_,_,_,_,_,_,lC'k,rfl⟩,by rw [eC'l];exact⟨_,_,_,_,_,_,_,_,_,_,_,_,_,_,_,_,_,lC'l,rfl⟩,by rw [eC'a];exact⟨_,_,_,_,_,_,_,_,_,_,_,_,_,_,_,_,_,lC'a,rfl⟩,by rw [eC'e];exact EY xq'e,by rw [eC'e];exact kc'e⟩
 have D'0:=aS d1 X G;have D'1:=aS d2 X G;have D'3:=aS d3 X G;have D'5:ui K mg "is_text" eS [.int 0,.int 4000]:=⟨⟨f4,dT4,oc4,od4,an4,dd4,kV4,dc4,pm4,cd4,ct4,sl4,st4,[.int 0 u4_0,.int 4000 u4_1],n4,l4,c4,k4,IW X G a4,t4,(.cons ⟨_,rfl⟩ (.cons ⟨_,rfl⟩ .nil))⟩⟩
 have D'7:=aS d5 X G;have D'8:=aS d6 X G;have D'12:=aS d7 X G;have D'15:=aS d8 X G;have D'20:=aS d9 X G;have D'21:=aS d10 X G;have D'26:=aS d11 X G;have D'29:=aS d12 X G;have D'30:=aS d13 X G;have D'36:=aS d14 X G;have D'2:=aS d15 X G;have D'4:=aS d16 X G;have D'6:=aS d17 X G;have D'9:=aS d18 X G
 have D'10:=aS d19 X G;have D'22:=aS d20 X G;have D'23:=aS d21 X G;have D'28:=aS d22 X G;have D'31:=aS d23 X G;have D'32:=aS d24 X G;have D'35:=aS d25 X G;have D'37:=aS d26 X G;have D'38:=aS d27 X G;have D'42:=aS d28 X G;have D'11:=aS d29 X G;have D'14:=aS d30 X G;have D'17:=aS d31 X G;have D'19:=aS d32 X G
 have D'24:=aS d33 X G;have D'33:=aS d34 X G;have D'34:=aS d35 X G;have D'13:=aS d36 X G;have D'18:=aS d37 X G;have D'25:=aS d38 X G;have D'40:=aS d39 X G;have D'16:uk K mg (aK K "Often") "Often" "Often.__init__" bV:=by rw [eC_Often];exact⟨⟨f40,_,qt (st:=bV) l40 c40 k40,⟨mk_Often,a40,i40,kc_Often⟩,IW X G aC_Often⟩⟩
 have D'27:=aS d41 X G;have D'39:=aS d42 X G;have D'41:=aS d43 X G;have D'43:=aS d44 X G;have D'44:=aS d45 X G;have D'45:=aS d46 X G;have T:Txt mg:=⟨u_ X G z1,u_ X G z2,u_ X G z3,u_ X G z4,u_ X G z5,u_ X G z6,u_ X G z7,u_ X G z8,u_ X G z9,u_ X G z10,u_ X G z11,u_ X G z12,u_ X G z13,u_ X G z14,u_ X G z15,u_ X G z16,u_ X G z17,u_ X G z18,⟨_,IW X G y1⟩,⟨_,IW X G y2⟩,⟨_,IW X G y3⟩,⟨_,IW X G y4⟩⟩
 refine D5 (st:=zM) hfa D'45 (λ_ _ _ _ _ _ s v=>.of_eq rfl) λbase=>?_
 have C_NotHeld_init:Cy l.prog w K mg base 1 (aK K "NotHeld") "NotHeld" "at":=by
  rw [eC'f];exact sy (qt (st:=eE) xl'f xc0'f xk'f) lC rfl (λ_ _ _ _ _ _ us hl=>match us,hl with|[_,_],_=>rfl) (λcdv A outer s H E=>ak (oN K rfl (pv 0) (pv 1) rfl)) ⟨xc'f,tl_,xi'f,xt'f,kc'f⟩ xn'f (IW X G aC'f)
 have C_NotApart_init:Cy l.prog w K mg base 1 (aK K "NotApart") "NotApart" "at":=by
  rw [eC'k];exact sy (qt (st:=dF) xl'k xc0'k xk'k) kt rfl (λ_ _ _ _ _ _ us hl=>match us,hl with|[_,_],_=>rfl) (λcdv A outer s H E=>ak (oN K rfl (pv 0) (pv 1) rfl)) ⟨xc'k,tl_,xi'k,xt'k,kc'k⟩ xn'k (IW X G aC'k)
 have C_NoCounts_init:Cy l.prog w K mg base 1 (aK K "NoCounts") "NoCounts" "at":=by
  rw [eC'l];exact sy (qt (st:=dG) xl'l xc0'l xk'l) ku rfl (λ_ _ _ _ _ _ us hl=>match us,hl with|[_,_],_=>rfl) (λcdv A outer s H E=>ak (oN K rfl (pv 0) (pv 1) rfl)) ⟨xc'l,tl_,xi'l,xt'l,kc'l⟩ xn'l (IW X G aC'l)
 have C'0:=yA l.prog w base D'0 T TC TX;have C'1:=rG l.prog w base D'1 T TC TX;have C'3:=Ft l.prog w base D'3 T TC TX;have C'5:=vN l.prog w base D'5 T TC TX;have C'7:=yB l.prog w base D'7 T TC TX;have C'8:=mR l.prog w base D'8 T TC TX;have C'12:=tP l.prog w base D'12 T TC TX;have C'15:=tQ l.prog w base D'15 T TC TX
 have C'20:=pW l.prog w base D'20 T TC TX;have C'21:=tS l.prog w base D'21 T TC TX;have C'26:=pY l.prog w base D'26 T TC TX;have C'29:=vQ l.prog w base D'29 T TC TX;have C'30:=rJ l.prog w base D'30 T TC TX;have C'36:=p6 l.prog w base D'36 T TC TX;have C'2:=mQ l.prog w base D'2 T TC TX C'1 C'0
 have C'4:=tN l.prog w base D'4 T TC TX C'3;have C'6:=tO l.prog w base D'6 T TC TX C'1;have C'9:=me l.prog w base D'9 T TC TX C'5;have C'10:=kz l.prog w base D'10 T TC TX C'8;have C'22:=tT l.prog w base D'22 T TC TX C'21;have C'23:=vP l.prog w base D'23 T TC TX C'21;have C'28:=pZ l.prog w base D'28 T TC TX C'21
 have C'31:=mh l.prog w base D'31 T TC TX C'21;have C'32:=p3 l.prog w base D'32 T TC TX C'21;have C'35:=tW l.prog w base D'35 T TC TX C'29;have C'37:=p7 l.prog w base D'37 T TC TX C'36;have C'38:=mU l.prog w base D'38 T TC TX C'30;have C'42:=tY l.prog w base D'42 T TC TX C'21
 have C'11:=vO l.prog w base D'11 T TC TX C'10;have C'14:=mf l.prog w base D'14 T TC TX C'0 C'6;have C'17:=mT l.prog w base D'17 T TC TX C'2;have C'19:=yC l.prog w base D'19 T TC TX C_NotHeld_init C'7;have C'24:=tU l.prog w base D'24 T TC TX C'21 C'22;have C'33:=tV l.prog w base D'33 T TC TX C'29 C'32 C'21
 have C'34:=vR l.prog w base D'34 T TC TX C'31;have C'13:=mS l.prog w base D'13 T TC TX C'11;have C'18:=tR l.prog w base D'18 T TC TX C'12 C'17;have C'25:=pX l.prog w base D'25 T TC TX C'24 C'23 C'21 C'22;have C'40:=mW l.prog w base D'40 T TC TX C'30 C'19;have C'16:=pV l.prog w base D'16 T TC TX C'4 C'13 C'14 C'9 C'15
 have C'27:=rH l.prog w base D'27 T TC TX C'25 C'26;have C'39:=p8 l.prog w base D'39 T TC TX C'18;have C'41:=tX l.prog w base D'41 T TC TX C'37 C'35 C'38 C'40 C'36 C'19;have C'43:=tZ l.prog w base D'43 T TC TX C'42 C'35 C'38 C'33 C'21 C'39 C'41 C'34 C'18
 have C'44:=vS l.prog w base D'44 T TC TX C'33 C'41 C'34 C'22;exact (Fu l.prog w base D'45 T TC TX C'16 C'27 C'28 C'44 C'21 C'39 C'41 C'43 C'20 C'19 C'18).imp λ_ _ _ _ h=>B8 h
end K54

open PySem PySem.W PyProof.Rows
local macro_rules | `(tactic| walk_at "fn") => `(tactic| (refine' L2.Fh ?a ?l ?c ?k; (case a => k_is); (case l => k_is); (case c => k_is); (case k => k_is)))
local macro_rules | `(tactic| walk_at "xi") => `(tactic| (refine' L2.G5 ?a ?l ?g ?h ?s ?c ?k; (case a => k_is); (case l => k_is); (case g => k_is); (case h => k_is); (case s => k_is); (case c => k_is); (case k => k_is)))
local macro_rules | `(tactic| walk_at "xj") => `(tactic| (refine' L2.G6 ?i ?t ?l ?c ?k ?n; (case i => k_is); (case t => k_is); (case l => k_is); (case c => k_is); (case k => k_is); (case n => k_is)))
set_option maxRecDepth 100000 in
set_option maxHeartbeats 0 in
theorem PySem.Challenge.cw_shortglue_k54_row_in_holds : PySem.Challenge.rw_shortglue_k54_row_in.Holds := by
  refine topHd ?_
  k_fill
  refine L2.D6 (l := PySem.Challenge.rw_shortglue_k54_row_in) (k := 7) (x := "_law_script") rfl rfl ⟨rfl, by decide, by decide⟩ (fun w h Y => PySem.W.kIn_of Y) ?F
  case F =>
    intro w mg fa h KX G hmg
    refine' K54.Fv KX G hmg ?aC_Often ?pg_Often ?hd_Often ?po_Often ?sa_Often ?mk_Often ?kc_Often ?n_Often_pieces ?n_Often_counts ?n_Often_laps ?n_Often_total ?aC'a ?lC'a ?xq'a ?b'e ?xq'e ?b'f ?j'f ?b'k ?j'k ?b'l ?j'l ?d1 ?d2 ?d3 ?a4 ?l4 ?c4 ?k4 ?t4 ?d5 ?d6 ?d7 ?d8 ?d9 ?d10 ?d11 ?d12 ?d13 ?d14 ?d15 ?d16 ?d17 ?d18 ?d19 ?d20 ?d21 ?d22 ?d23 ?d24 ?d25 ?d26 ?d27 ?d28 ?d29 ?d30 ?d31 ?d32 ?d33 ?d34 ?d35 ?d36 ?d37 ?d38 ?d39 ?a40 ?i40 ?l40 ?c40 ?k40 ?d41 ?d42 ?d43 ?d44 ?d45 ?d46 ?z1 ?z2 ?z3 ?z4 ?z5 ?z6 ?z7 ?z8 ?z9 ?z10 ?z11 ?z12 ?z13 ?z14 ?z15 ?z16 ?z17 ?z18 ?y1 ?y2 ?y3 ?y4
    (case aC_Often => k_is)
    (case pg_Often => k_is)
    (case hd_Often => k_is)
    (case po_Often => k_is)
    (case sa_Often => k_is)
    (case mk_Often => k_is)
    (case kc_Often => k_is)
    (case n_Often_pieces => k_is)
    (case n_Often_counts => k_is)
    (case n_Often_laps => k_is)
    (case n_Often_total => k_is)
    (case aC'a => k_is)
    (case lC'a => k_is)
    (case xq'a => k_exc)
    (case b'e => walk_at "xi")
    (case xq'e => k_exc)
    (case b'f => walk_at "xi")
    (case j'f => walk_at "xj")
    (case b'k => walk_at "xi")
    (case j'k => walk_at "xj")
    (case b'l => walk_at "xi")
    (case j'l => walk_at "xj")
    (case d1 => walk_at "fn")
    (case d2 => walk_at "fn")
    (case d3 => walk_at "fn")
    (case a4 => k_is)
    (case l4 => k_is)
    (case c4 => k_is)
    (case k4 => k_is)
    (case t4 => k_is)
    (case d5 => walk_at "fn")
    (case d6 => walk_at "fn")
    (case d7 => walk_at "fn")
    (case d8 => walk_at "fn")
    (case d9 => walk_at "fn")
    (case d10 => walk_at "fn")
    (case d11 => walk_at "fn")
    (case d12 => walk_at "fn")
    (case d13 => walk_at "fn")
    (case d14 => walk_at "fn")
    (case d15 => walk_at "fn")
    (case d16 => walk_at "fn")
    (case d17 => walk_at "fn")
    (case d18 => walk_at "fn")
    (case d19 => walk_at "fn")
    (case d20 => walk_at "fn")
    (case d21 => walk_at "fn")
    (case d22 => walk_at "fn")
    (case d23 => walk_at "fn")
    (case d24 => walk_at "fn")
    (case d25 => walk_at "fn")
    (case d26 => walk_at "fn")
    (case d27 => walk_at "fn")
    (case d28 => walk_at "fn")
    (case d29 => walk_at "fn")
    (case d30 => walk_at "fn")
    (case d31 => walk_at "fn")
    (case d32 => walk_at "fn")
    (case d33 => walk_at "fn")
    (case d34 => walk_at "fn")
    (case d35 => walk_at "fn")
    (case d36 => walk_at "fn")
    (case d37 => walk_at "fn")
    (case d38 => walk_at "fn")
    (case d39 => walk_at "fn")
    (case a40 => k_is)
    (case i40 => k_is)
    (case l40 => k_is)
    (case c40 => k_is)
    (case k40 => k_is)
    (case d41 => walk_at "fn")
    (case d42 => walk_at "fn")
    (case d43 => walk_at "fn")
    (case d44 => walk_at "fn")
    (case d45 => walk_at "fn")
    (case d46 => walk_at "fn")
    (case z1 => k_is)
    (case z2 => k_is)
    (case z3 => k_is)
    (case z4 => k_is)
    (case z5 => k_is)
    (case z6 => k_is)
    (case z7 => k_is)
    (case z8 => k_is)
    (case z9 => k_is)
    (case z10 => k_is)
    (case z11 => k_is)
    (case z12 => k_is)
    (case z13 => k_is)
    (case z14 => k_is)
    (case z15 => k_is)
    (case z16 => k_is)
    (case z17 => k_is)
    (case z18 => k_is)
    (case y1 => k_is)
    (case y2 => k_is)
    (case y3 => k_is)
    (case y4 => k_is)
