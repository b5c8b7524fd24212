import PyProof.Rows.All
import Wide.All
import OpenK.AllK
import Wide.FinOn
import Lean
import PyProof.EqAt
import PyProof.EqKinds
import PyProof.TupleCall
import KE.KSortTup
import PyProof.FString
import PyProof.StrBlock
import KE.KRevSl
import PyProof.StrLawsReplace
import PyProof.StrCalls6
import PyProof.MinMaxWalk
import PyProof.WalkInts
import PyProof.NeKinds
import KE.KEqDict
import PyProof.Rows.SumAny
import KE.KMinKey
import PyProof.Rows.CallKwBuiltin
import KE.KIntText
import PySem.Challenge.RW_shortglue_k56_shortest_often
set_option Elab.async false
set_option linter.all false
set_option maxRecDepth 100000
open List (all_cons all_eq_true all_map any_cons any_eq_false any_map append_assoc append_eq_nil_iff append_nil append_toArray concat_eq_append cons_append cons_lt_cons_iff contains_iff_mem count_append count_cons count_pos_iff count_replicate drop_drop drop_eq_getElem_cons drop_eq_nil_of_le drop_left drop_one drop_suffix drop_take drop_zero eq_nil_iff_forall_not_mem eq_nil_or_concat eq_of_mem_replicate eraseIdxIfInBounds_toArray eraseIdx_eq_take_drop_succ ext_getElem ext_getElem? extract_eq_take_drop extract_toArray filterMap_append filterMap_cons filterMap_eq_map filterMap_map filter_append filter_congr filter_cons filter_cons_of_neg filter_cons_of_pos filter_eq_nil_iff find?_cons find?_eq_none find?_eq_some_iff_append flatMap_append flatMap_cons flatMap_nil flatten_append flatten_cons flatten_nil foldl_cons forIn_cons forIn_nil getD_eq_getElem?_getD getElem?_append_left getElem?_append_right getElem?_cons_succ getElem?_eq_getElem getElem?_eq_none getElem?_inj getElem?_map getElem?_range getElem?_replicate getElem?_set getElem?_set_ne getElem?_set_self getElem?_take getElem?_take_of_lt getElem?_zip_eq_some getElem_cons_drop getElem_inj getElem_map getElem_mem getElem_of_mem getElem_range getElem_toArray getElem_zip isEmpty_iff length_append length_cons length_drop length_eq_zero_iff length_eraseIdx length_erase_of_mem length_filter_le length_flatten length_map length_nil length_pos_iff length_pos_of_mem length_range length_replicate length_set length_singleton length_take length_zip lookup_append lookup_cons map_append map_congr_left map_cons map_drop map_eq_nil_iff map_map map_nil map_replicate map_take mem_append mem_append_left mem_append_right mem_cons mem_cons_of_mem mem_cons_self mem_erase_of_ne mem_filter mem_filterMap mem_flatMap mem_flatten mem_iff_getElem mem_iff_getElem? mem_map mem_map_of_mem mem_of_getElem? mem_of_mem_drop mem_of_mem_take mem_range mem_range'_1 mem_replicate mem_singleton mergeSort_perm nil_append nil_lt_cons nil_prefix nil_suffix nodup_cons not_lt_nil not_mem_nil of_mem_zip pairwise_append pairwise_cons pairwise_flatten pairwise_iff_getElem pairwise_lt_range pairwise_map pairwise_mergeSort pairwise_replicate perm_append_comm perm_append_singleton perm_iff_count perm_nil perm_replicate prefix_append prefix_refl range_add range_succ range_succ_eq_map replicate_succ reverse_cons reverse_reverse set_cons_succ set_cons_zero set_eq_take_append_cons_drop size_toArray suffix_iff_eq_drop sum_append sum_cons sum_eq_zero_iff_forall_eq_nat sum_replicate_nat tail_cons take_add take_add_one take_append_drop take_left take_length take_nil take_of_length_le take_prefix take_range take_sublist take_succ take_succ_cons take_take take_zero zipIdx_cons zipIdx_nil)
open Nat (add_comm add_mul add_mul_div_right add_mul_mod_self_right add_sub_cancel div_eq_of_lt eq_zero_or_pos le_add_right le_antisymm le_mul_of_pos_right le_of_ble_eq_true le_of_eq le_of_lt le_of_not_lt le_of_succ_le le_refl le_succ le_total le_trans lt_of_lt_of_le lt_or_ge lt_succ_of_lt lt_succ_self lt_trans lt_trichotomy max_le min_eq_left min_eq_right min_le_right min_self mod_eq_of_lt mul_add mul_assoc mul_comm mul_le_mul mul_le_mul_right mul_pos mul_succ mul_zero ne_of_gt ne_of_lt not_lt not_lt_zero not_succ_le_self one_mul one_pos pow_le_pow_right sub_self succ_le_succ succ_mul succ_pos zero_le zero_mod)
open Int (ediv_nonneg ediv_one emod_lt_of_pos emod_nonneg fdiv_eq_ediv_of_nonneg fmod_eq_emod_of_nonneg le_ediv_of_mul_le mul_le_mul_of_nonneg_left natCast_ediv natCast_emod natCast_mul natCast_zero neg_neg toNat_natCast toNat_of_nonneg zero_mul)
open Bool (and_eq_false_imp and_eq_true and_eq_true_iff beq_eq_decide_eq false_eq_true not_eq_true or_eq_true)
local macro_rules | `(tactic| walk_at "o")=>`(tactic| first | exact Or.inl rfl | exact Or.inr rfl | exact Or.inr (Or.inl rfl) | exact Or.inr (Or.inr rfl))
set_option maxHeartbeats 4000000
noncomputable section
open And renaming intro→pj
open Array renaming getElem?_eq_none→JP,getElem?_toList→IA,length_toList→G2,mk→HD,toList→JE
open Bool renaming and_false→Ka,eq_iff_iff→HX,false_and→J6,false_ne_true→k_,not_eq_true'→Jn
open Classical renaming choose_spec→JY
open False renaming elim→He
open ForInStep renaming yield→HE
open Int renaming emod_lt_of_pos→Kh,emod_nonneg→Kg
open List renaming Nodup→y_,all_eq_true→Jm,cons_lt_cons_iff→GH,contains_iff_mem→HP,drop_eq_nil_of_le→HJ,ext_getElem?→IW,filterMap_cons→Im,filterMap_map→Jt,getD_eq_getElem?_getD→cx,getElem?_append_left→G8,getElem?_append_right→G3,getElem?_cons_succ→Ie,getElem?_eq_getElem→cy,getElem?_eq_none→we,getElem?_eq_some_iff→h_,getElem?_map→i_,getElem?_range→GK,getElem?_set_ne→n_,getElem?_set_self→p_,getElem_cons_drop→Jp,getElem_mem→Hy,getElem_of_mem→Iz,length_eq_zero_iff→Hl,length_filter_le→JB,length_pos_iff→Jg,length_range→B_,length_set→GN,length→J_,lookup_cons→G9,lookup→HM,map_congr_left→Ja,map_eq_nil_iff→Je,mem_append_left→HW,mem_append_right→C0,mem_append→HB,mem_cons_of_mem→m_,mem_cons→w_,mem_filterMap→IG,mem_filter→GW,mem_iff_getElem?→IE,mem_map→Hb,mem_of_getElem?→GD,mem_of_mem_take→JV,mem_range'_1→IT,mem_range→GQ,mem_replicate→HH,mem_singleton→v_,nil_suffix→Jc,nodup_cons→Ia,of_mem_zip→IZ,pairwise_cons→Ju,pairwise_iff_getElem→IP,pairwise_lt_range→Jo,perm_iff_count→Hx,range'→Ik,range→e_,replicate→f_,size_toArray→so,sum_eq_zero_iff_forall_eq_nat→Ha,take_append_drop→GM,take_of_length_le→G0
open List.Pairwise renaming nil→Jl
open List.Perm renaming refl→Kf
open Nat renaming ble→Ki,le_add_right→IU,le_of_ble_eq_true→Jq,le_of_eq→J9,le_of_succ_le→IH,le_refl→o_,le_trans→E_,lt_irrefl→GF,lt_of_lt_of_le→u_,lt_or_ge→GX,lt_succ_self→JG,min_eq_left→Ii,min_eq_right→JN,mul_comm→Jz,mul_le_mul_right→JA,mul_le_mul→Jf,mul_one→Kc,ne_of_gt→Jx,ne_of_lt→GR,not_lt_zero→G_,sub_zero→IS,succ_pos→Ke,zero_add→IV,zero_le→G4
open Nat.succ renaming inj→JQ
open Ne renaming symm→HA
open Option renaming isSome_iff_exists→Hs,map_eq_some_iff→Hz
open Option.some renaming inj→q_
open Prod renaming fst→G1,snd→IL
open Prod.mk renaming injEq→Jr
open PyProof renaming noPylong_small→JF
open PyProof.Rows renaming AllBare→Jj,boot_isinstance→HY,boot_list→JC,boot_max→JD,boot_tuple→Jh,callWith_type1→GY,slot_tuple_getitem→F_
open PySem renaming Around→z_,BindsTo→JH,DictEntry→Kj,FuncData→G7,IsPair→Ic,IsPart→JK,NameKind→GZ,OsState→IF,Params→IX,Program→s_,PyData→ID,Shared→c_,Within→Km,boot_len→g_,call_meets→JM,codeAny_builtin→JW,codeAny_mono→JI,concat_meets→JJ,mem_of_lookup→Hw,noFill_tuple_add→Jy,plainId_quiet→Jv,pushCells_keeps→JU,sizeLine_eq→IJ,wpAny_Call_Name_kw→H_,wpAny_bind→b_,wpAny_callSpecial?_slot→GI,wpAny_call_entry→Hi,wpAny_execs_nil→IQ,wpAny_field→GJ,wpAny_holding→GS,wpAny_letGo→Ij,wpAny_mono→HL,wpAny_newObj_type→GP,wpAny_onRaise→II,wpAny_passesOwn→Ho,wpAny_pure→gV,wpAny_pyIter_list→HK,wpAny_pyIter_tuple→Jb,wpAny_seqItems→GU,wpAny_setField_rec→Hm,wpAny_standAt→Js,wpAny_truthy_bool→D_,wpAny_tryCatch→Jd,wpAny_updateSeq_pair→IK,wpAny_updateSeq→JX
open PySem.Around renaming under_plainId→IM
open PySem.AutoSeq1 renaming wpAny_loadPart'→Hv
open PySem.Builtin.List renaming listTooLong→Hu
open PySem.Builtin.Range renaming rangeSize→Ig
open PySem.Builtin.Slice renaming sliceAdjust→HQ,sliceApplied→I0,slicePlaces→Hn
open PySem.Builtin.SmallTypes renaming nextOf→t_,ownedTupleHandOut→HR,ownedTupleIsFree→GV
open PySem.Builtin.Str renaming occurrences→Il,strSliceIndices→Hf,subAt→Iw
open PySem.Builtin.Tuple renaming tupleExact→Ht,tupleItemsOf→I_
open PySem.Calls renaming Name_function_global→IY
open PySem.F renaming args_tuple_add_2→HS,entry_tuple_add→Ih,plainAttrs_list→GE,plainAttrs_str→Hh,slot_list_append→G5,slot_list_pop→J3,slot_str_find→JZ,slot_str_join→J1,slot_tuple_add→Iv,type_list_append→G6,type_list_pop→J4,type_str_find→J0,type_str_join→J2
open PySem.Heap renaming ExtBut→Kb,SameBut→Io,get?_push_of_some→d_,get?_push_size→j_,get?_update_other→Eo,get?_update_self→HI,lt_size→l_,size_push→GG
open PySem.NameKind renaming cell→HG,free→HV
open PySem.Obj renaming mapSeq→JL
open PySem.PassesOwn renaming never→r_
open PySem.PyData renaming eqvAll→HU,eqv→Ib,int→JO
open PySem.SeqAt renaming shaped→Hg
open PySem.Str renaming ofString→HN
open PySem.StrLaws renaming occBody→IR
open PySem.Value renaming bool→Hc,float→J5,int→Jw,none→Hr,ref→u1,str→IB,type→HZ
open PySem.W renaming Frag→a_,OpenLaw→JT,boot_heap→x_,cellsFrom_some→HC,codeIn→GT,emptyDict→GO,findIn→pf,fnOf→C_,hasDictIn→Iq,instObj→Hd,keepIn→A_,kia_one→GL,kitAny→Iy,kitOne→Hk,kitx_dict→Iu,kitx_list→Ir,lookIn→J7,makesIn→JS,methodObj→Ji,mg_none_of→tj,mg_of→HF,nsIn→tf,plainGet→IC,plainOver→Jk,takerIn→JR,typeIn→J8
open Sum renaming inl→Kk,inr→Kl
open True renaming intro→Hj
namespace L2
open PySem PySem.W
noncomputable def kQ(tb:String->Option Builtin)(p:s_)(w:World)(n₀:Nat)(ann:Option Value):Nat->SharedT->Thread->Option SharedT
 | 0,_,_=>none
 | n+1,s,t=>match through t with
  | true=>some s
  | false=>match stepOk n₀ ann t with
   | false=>none
   | true=>match stepT (denote tb) p w s t with
    | some (s',t')=>kQ tb p w n₀ ann n s' t'
    | none=>none
theorem kR{tb:String->Option Builtin}{p:s_}{w:World}{n₀:Nat}{ann:Option Value}:∀{n:Nat}{s s':SharedT}{t:Thread},kQ tb p w n₀ ann n s t=some s'->topRun tb p w n₀ ann n s.abs t=some s'.abs
 | 0,_,_,_,h=>by cases h
 | n+1,s,s',t,h=>by
  unfold kQ at h;unfold topRun
  cases he:through t with
  | true=>rw [he] at h;cases h;rfl
  | false =>
   rw [he] at h
   cases hk:stepOk n₀ ann t with
   | false=>rw [hk] at h;cases h
   | true =>
    rw [hk] at h
    cases hs:stepT (denote tb) p w s t with
    | none=>rw [hs] at h;cases h
    | some r=>obtain⟨s₂,t₂⟩:=r;rw [hs] at h;rw [stepT_spec hs];exact kR h
noncomputable def sX:List Obj->Nat->BT->BT
 | [],_,t=>t
 | o::r,i,t=>sX r (i+1) (t.ins i o)
noncomputable def zG(P:IX):BT:=sX (x_ P).objs.toList 0 .nil
theorem xE:∀P,absHeap (zG P) (x_ P).objs.size (x_ P).life=x_ P:=λP=>by kernel_rfl
theorem Fe{p q:s_}{loose:List Str}{Xt:c_->Bool}{α:Type}{Yf:c_->α}{Ya:World->α}{N:Nat}{g0:Bool}{m₀:Nat}{ann:Option Value}
  (e:opening p=plainProg p.main.scope.names) (hN:Ki 600 N=true) (f:∀s,fenceModules? p s=some s)
  (size:∀w:World,((x_ w.params).isNs mainGlobals && (HD []:Array GenState).size == 0,(x_ w.params).objs.size,(x_ w.params).nsMap mainGlobals "__annotations__")=(true,m₀,ann))
  (run:∀(w:World) (os:IF),(kQ treeTable p w m₀ ann N ⟨zG w.params,m₀,(x_ w.params).life,HD [],boot_drawn,boot_toks,os⟩ (topStub p)).map (λsT=>((staticsOk (importedModules p.main.body) (x_ w.params) sT.abs.heap && namesBound p sT.abs.heap && gensDone sT.abs && laidKept (x_ w.params) sT.abs.heap),openSeen q loose (importedModules p.main.body) Xt g0 sT.abs,Yf sT.abs))=some (true,openGood q loose,Ya w)):LeftO p q loose Xt Yf Ya N g0:=λw=>by
 obtain⟨⟨h,gs,d,k,os⟩,e,e'⟩:=Hz.mp (boot_open e hN f w);obtain⟨rfl,rfl,rfl,rfl⟩:h=x_ w.params/\gs=HD []/\d=boot_drawn/\k=boot_toks:=by simpa using e'
 obtain⟨z1,z2,z3⟩:_/\_/\_:=by simpa only [Jr] using size w
 obtain⟨sT,r,l⟩:=Hz.mp (run w os);obtain⟨l1,l2,l3⟩:_/\_/\_:=by simpa only [Jr] using l
 have r:=kR r
 rw [show SharedT.abs ⟨zG w.params,m₀,(x_ w.params).life,HD [],boot_drawn,boot_toks,os⟩=⟨x_ w.params,HD [],boot_drawn,boot_toks,os⟩ by
  unfold SharedT.abs;dsimp only;rw [<- z2,xE]] at r
 have t:topFrom treeTable p w N ⟨x_ w.params,HD [],boot_drawn,boot_toks,os⟩=some sT.abs:=by
  unfold topFrom;dsimp only;rw [z1,z2,z3,r];show (match staticsOk (importedModules p.main.body) (x_ w.params) sT.abs.heap && namesBound p sT.abs.heap && gensDone sT.abs && laidKept (x_ w.params) sT.abs.heap with|true=>_|false=>_)=_;rw [l1]
 unfold openEnds;rw [e];show (topFrom treeTable p w N _).map _=_;rw [t];exact congrArg some (Prod.ext l2 l3)
end L2
namespace L2
open PySem PySem.W
theorem zH{p q:s_}{loose:List Str}{Xt:c_->Bool}{α:Type}{Yf:c_->α}{Ya:World->α}{N:Nat}{g0:Bool}{m₀:Nat}{ann:Option Value}{l rest:List Stmt}{env:Env}{c:Code}{qp pa pb p1:Pos}{n0 nb n1 n2:Nat}{SA S1:World->IF->SharedT}
  (e:opening p=plainProg p.main.scope.names) (hN:Ki 600 N=true) (f:∀s,fenceModules? p s=some s)
  (size:∀w:World,((x_ w.params).isNs mainGlobals && (HD []:Array GenState).size == 0,(x_ w.params).objs.size,(x_ w.params).nsMap mainGlobals "__annotations__")=(true,m₀,ann))
  (pre:∀(w:World) (os:IF),topGo treeTable p w m₀ ann n0 ⟨x_ w.params,HD [],boot_drawn,boot_toks,os⟩ (topStub p)=some ((SA w os).abs,⟨denote treeTable (.body (l++rest) env),c,pa,[topFrame qp]⟩))
  (blk:∀(w:World) (os:IF),segRun treeTable p w m₀ ann 1 nb (SA w os).abs (blockOf (l++rest) env c pa [topFrame qp])=some (.next,(SA w os).abs,c,pb))
  (one:∀(w:World) (os:IF),segRunT treeTable p w m₀ ann 1 n1 (SA w os) (piecesOf l env c pb [topFrame qp])=some (.next,S1 w os,c,p1))
  (hn:N=n0+(nb+(n1+n2)))
  (run:∀(w:World) (os:IF),(kQ treeTable p w m₀ ann n2 (S1 w os) (restOf rest env c p1 [topFrame qp])).map (λsT=>((staticsOk (importedModules p.main.body) (x_ w.params) sT.abs.heap && namesBound p sT.abs.heap && gensDone sT.abs && laidKept (x_ w.params) sT.abs.heap),openSeen q loose (importedModules p.main.body) Xt g0 sT.abs,Yf sT.abs))=some (true,openGood q loose,Ya w)):LeftO p q loose Xt Yf Ya N g0:=λw=>by
 obtain⟨⟨h,gs,d,k,os⟩,e,e'⟩:=Hz.mp (boot_open e hN f w);obtain⟨rfl,rfl,rfl,rfl⟩:h=x_ w.params/\gs=HD []/\d=boot_drawn/\k=boot_toks:=by simpa using e'
 obtain⟨z1,z2,z3⟩:_/\_/\_:=by simpa only [Jr] using size w
 obtain⟨sT,r,l⟩:=Hz.mp (run w os);obtain⟨l1,l2,l3⟩:_/\_/\_:=by simpa only [Jr] using l
 have r:=go_top (pre w os) (piece_block (blk w os) (piece_app (segRun_of (one w os)) (kR r)));rw [<- hn] at r
 have t:topFrom treeTable p w N ⟨x_ w.params,HD [],boot_drawn,boot_toks,os⟩=some sT.abs:=by
  unfold topFrom;dsimp only;rw [z1,z2,z3,r];show (match staticsOk (importedModules p.main.body) (x_ w.params) sT.abs.heap && namesBound p sT.abs.heap && gensDone sT.abs && laidKept (x_ w.params) sT.abs.heap with|true=>_|false=>_)=_;rw [l1]
 unfold openEnds;rw [e];show (topFrom treeTable p w N _).map _=_;rw [t];exact congrArg some (Prod.ext l2 l3)
noncomputable def zhE(P:IX)(x:Str)(t:Nat)(v:Value):Kj:=⟨PyData.keyHash P x,.str x t,v⟩
noncomputable def zhT(xs:List Value):Obj:=⟨.type "tuple",none,.seq xs.toArray 0,#[]⟩
noncomputable def zhF(xs:List Value):Obj:=⟨.none,none,.fields xs.toArray,#[]⟩
noncomputable def zhD(es:List Kj)(n:Nat):Obj:=⟨.type "dict",none,.dict es.toArray n,#[]⟩
noncomputable def zhG(c:Str)(xs:List Value):Obj:=⟨.type c.toString,none,.fields xs.toArray,#[]⟩
noncomputable def BM(xs:List Obj):List (Nat×Obj)->List Obj
 | []=>xs
 | p::r=>BM (xs.set p.1 p.2) r
noncomputable def zhM(p:s_)(i j:Nat):Stmt:=match p.main.body.getD i (.Pass ⟨0,0,0,0⟩) with
 | .ClassDef _ _ _ body _ _ _ _ _ _ _=>body.getD j (.Pass ⟨0,0,0,0⟩)
 | s=>s
noncomputable def zhN(k:Value)(s:Stmt)(x q:Str)(g:Addr)(m c:Value):Obj:=match s with
 | .FunctionDef _ a b _ _ _ sc _ _ _=>⟨k,none,.func { name:=x,qualname:=q,params:=a,body:=.stmts b,scope:=sc,globals:=g,closure:=[],defaults:=.none,kwdefaults:=.none,pyModule:=m,code:=c },#[]⟩
 | _=>default
noncomputable def zhK(x q:Str)(t l n f e:Nat)(b:Bool)(j k r:Value)(u:Nat):Obj:=⟨.type "code",none,.fields #[.str x t,.str q (t+1),.str "/claim/cut.py" (t+2),.int l 0,.int n 0,.int 0 0,.int 0 0,.int f 0,.ref e,.bool b,.int 181 0,.ref (e+1),.none,j,k,r,.int u 0,.int l 0,.str "/claim/cut.py" (u+1)],#[]⟩
noncomputable def zhQ:Value:=.str "shortglue.errors" 187
noncomputable def zhU(P:IX)(x:Str)(a t l n:Nat)(es:List Kj)(f:List Value):List Obj:=[zhT [.ref 24],zhG "builtin_function_or_method" [.builtin "type.__prepare__",.type "type"],zhD (zhE P "__module__" (t+7) zhQ::zhE P "__qualname__" (t+9) (.str x (t+8))::zhE P "__firstlineno__" (t+11) (.int l (t+10))::es) n,zhT [],zhF f,zhK x x (t+2) l 0 0 (a+3) false .none .none .none (t+5),⟨.type "frame",none,.plain,#[some (.ref (a+5)),some (.ref 3),some (.ref (a+2)),none,some zhQ,none,some (.ref 0)]⟩,zhT []]
noncomputable def zhV(P:IX)(x:Str)(a t l c:Nat)(es:List Kj):List Obj:=[zhD (zhE P "__module__" (t+7) zhQ::zhE P "__firstlineno__" (t+11) (.int l (t+10))::es) 2,⟨.type "type",none,.cls { name:=x,bases:=[.ref 24],mro:=[.ref c,.ref 24,.type "ValueError",.type "Exception",.type "BaseException",.type "object"],ns:=c - 1,qualname:=x,hasDict:=true,slotNames:=[],subclasses:=[],abstract:=false,collection:=none,hasDel:=false },#[some (.ref a),none,some (.str x t),some (.str x (t+8)),some (.builtin "ValueError.__new__"),some (.bool true)]⟩,zhG "super" [.ref c,.ref c,.ref c],zhG "builtin_function_or_method" [.builtin "object.__init_subclass__",.ref c]]
noncomputable def zhX(P:IX)(x:Str)(a t l:Nat):List Obj:=zhU P x a t l 4 [zhE P "__static_attributes__" (t+12) (.ref (a+7))] []++zhV P x a t l (a+9) [zhE P "__static_attributes__" (t+12) (.ref (a+7)),zhE P "__doc__" (t+13) .none]
noncomputable def zhY(P:IX)(p:s_)(x q f:Str)(i a t l:Nat):List Obj:=zhU P x a t l 5 [zhE P "__init__" (t+19) (.ref (a+13)),zhE P "__static_attributes__" (t+21) (.ref (a+14))] [.int (l+2:Nat) 0,.int 4 0,.ref (a+12)]++[zhF [],zhT [.str "self" (t+15),.str f (t+16)],zhT [],zhN .none (zhM p i 0) "__init__" q 0 .none .none,zhK "__init__" q (t+12) (l+2) 2 3 (a+7) true (.ref (a+9)) (.ref (a+10)) (.ref (a+11)) (t+17),zhN (.type "function") (zhM p i 0) "__init__" q 3 zhQ (.ref (a+12)),zhT [.str f (t+20)]]++zhV P x a t l (a+16) [zhE P "__init__" (t+19) (.ref (a+13)),zhE P "__static_attributes__" (t+21) (.ref (a+14)),zhE P "__doc__" (t+22) .none]
end L2
section
open PySem PySem.W PyProof.Rows L2
noncomputable def zzA(P:IX):BT:=sX ((x_ P).objs.toList++[zhT [],
  zhF [],
  ⟨(.type "code"),none,(.fields #[(.str "<module>" 182),(.str "<module>" 183),(.str "/claim/cut.py" 184),(.int (1) 0),(.int (0) 0),(.int (0) 0),(.int (0) 0),(.int (0) 0),(.ref 11),(.bool false),(.int (181) 0),(.ref 12),.none,.none,.none,.none,(.int (185) 0),(.int (1) 0),(.str "/claim/cut.py" 186)]),#[]⟩,
  ⟨(.type "frame"),none,.plain,#[(some (.ref 13)),(some (.ref 3)),(some (.ref 3)),none,(some (.str "__main__" 164)),none,(some (.ref 0))]⟩]) 0 .nil
noncomputable def zz1(P:IX):BT:=sX (BM (x_ P).objs.toList [(3,zhD [zhE P "__name__" 165 (.str "shortglue.kinds" 332),zhE P "__doc__" 166 .none,zhE P "__package__" 167 .none,zhE P "__loader__" 168 (.builtin "__main__.__loader__#opaque"),zhE P "__spec__" 169 .none,zhE P "__annotations__" 170 (.ref 6),zhE P "__builtins__" 171 (.ref 4),zhE P "__file__" 173 (.str "/claim/cut.py" 172),zhE P "__cached__" 174 .none,zhE P "GlueError" 206 (.ref 24),zhE P "TooMany" 231 (.ref 44),zhE P "NoPiece" 256 (.ref 63),zhE P "TooGreat" 281 (.ref 82),zhE P "NotApart" 306 (.ref 101),zhE P "NoCounts" 331 (.ref 120),zhE P "is_row" 340 (.ref 129)] 16)]++[zhT [],
  zhF [(.int (2) 0),(.int (0) 0),(.ref 20),(.int (4) 0),(.int (0) 0),(.ref 33),(.int (8) 0),(.int (0) 0),(.ref 52),(.int (12) 0),(.int (0) 0),(.ref 71),(.int (16) 0),(.int (0) 0),(.ref 90),(.int (20) 0),(.int (0) 0),(.ref 109),(.int (25) 0),(.int (0) 0),(.ref 128)],
  ⟨(.type "code"),none,(.fields #[(.str "<module>" 182),(.str "<module>" 183),(.str "/claim/cut.py" 184),(.int (1) 0),(.int (0) 0),(.int (0) 0),(.int (0) 0),(.int (0) 0),(.ref 11),(.bool false),(.int (181) 0),(.ref 12),.none,.none,.none,.none,(.int (185) 0),(.int (1) 0),(.str "/claim/cut.py" 186)]),#[]⟩,
  ⟨(.type "frame"),none,.plain,#[(some (.ref 13)),(some (.ref 3)),(some (.ref 3)),none,(some (.str "__main__" 164)),none,(some (.ref 0))]⟩,
  zhT [(.type "ValueError")],
  zhG "builtin_function_or_method" [(.builtin "type.__prepare__"),(.type "type")],
  zhD [zhE P "__module__" 196 (.str "shortglue.errors" 187),zhE P "__qualname__" 198 (.str "GlueError" 197),zhE P "__firstlineno__" 200 (.int (2) 199),zhE P "__static_attributes__" 201 (.ref 22)] 4,
  zhT [],
  zhF [],
  ⟨(.type "code"),none,(.fields #[(.str "GlueError" 191),(.str "GlueError" 192),(.str "/claim/cut.py" 193),(.int (2) 0),(.int (0) 0),(.int (0) 0),(.int (0) 0),(.int (0) 0),(.ref 18),(.bool false),(.int (181) 0),(.ref 19),.none,.none,.none,.none,(.int (194) 0),(.int (2) 0),(.str "/claim/cut.py" 195)]),#[]⟩,
  ⟨(.type "frame"),none,.plain,#[(some (.ref 20)),(some (.ref 3)),(some (.ref 17)),none,(some (.str "shortglue.errors" 187)),none,(some (.ref 0))]⟩,
  zhT [],
  zhD [zhE P "__module__" 196 (.str "shortglue.errors" 187),zhE P "__firstlineno__" 200 (.int (2) 199),zhE P "__static_attributes__" 201 (.ref 22),zhE P "__weakref__" 203 (.ref 25),zhE P "__doc__" 204 .none] 3,
  ⟨(.type "type"),none,(.cls { name:="GlueError",bases:=[(.type "ValueError")],mro:=[(.ref 24),(.type "ValueError"),(.type "Exception"),(.type "BaseException"),(.type "object")],ns:=23,qualname:="GlueError",hasDict:=true,slotNames:=[],subclasses:=[(.ref 44),(.ref 63),(.ref 82),(.ref 101),(.ref 120)],abstract:=false,collection:=none,hasDel:=false }),#[(some (.ref 15)),none,(some (.str "GlueError" 189)),(some (.str "GlueError" 197)),(some (.builtin "ValueError.__new__")),(some (.bool true))]⟩,
  ⟨(.type "getset_descriptor"),none,(.fields #[(.str "__weakref__" 202),(.ref 24),(.builtin "ExceptionGroup.__weakref__"),.none]),#[]⟩,
  zhG "super" [(.ref 24),(.ref 24),(.ref 24)],
  zhG "builtin_function_or_method" [(.builtin "object.__init_subclass__"),(.ref 24)]]++zhY P PySem.Challenge.pw_shortglue_k56_shortest_often "TooMany" "TooMany.__init__" "most" 2 28 207 4++zhY P PySem.Challenge.pw_shortglue_k56_shortest_often "NoPiece" "NoPiece.__init__" "at" 3 47 232 8++zhY P PySem.Challenge.pw_shortglue_k56_shortest_often "TooGreat" "TooGreat.__init__" "most" 4 66 257 12++zhY P PySem.Challenge.pw_shortglue_k56_shortest_often "NotApart" "NotApart.__init__" "at" 5 85 282 16++zhY P PySem.Challenge.pw_shortglue_k56_shortest_often "NoCounts" "NoCounts.__init__" "at" 6 104 307 20++[zhT [],
  zhF [],
  zhT [(.str "thing" 337)],
  zhT [],
  zhN .none (zhM PySem.Challenge.pw_shortglue_k56_shortest_often 8 0) "is_row" "is_row" 0 .none .none,
  ⟨(.type "code"),none,(.fields #[(.str "is_row" 334),(.str "is_row" 335),(.str "/claim/cut.py" 336),(.int (25) 0),(.int (1) 0),(.int (0) 0),(.int (0) 0),(.int (3) 0),(.ref 123),(.bool true),(.int (181) 0),(.ref 124),.none,(.ref 125),(.ref 126),(.ref 127),(.int (338) 0),(.int (25) 0),(.str "/claim/cut.py" 339)]),#[]⟩,
  zhN (.type "function") (zhM PySem.Challenge.pw_shortglue_k56_shortest_often 8 0) "is_row" "is_row" 3 (.str "shortglue.kinds" 332) (.ref 128)]) 0 .nil
noncomputable def zzV:Env:={ scope:=(PySem.Challenge.pw_shortglue_k56_shortest_often).main.scope,locals:=mainNs,globals:=mainNs,cells:=[],code:=(.ref 13),frame:=some 14 }
abbrev zzC:Code:=.body ((behindTheImports PySem.Challenge.pw_shortglue_k56_shortest_often).take 9++(behindTheImports PySem.Challenge.pw_shortglue_k56_shortest_often).drop 9) zzV
abbrev BN(w:World)(os:IF):SharedT:=⟨zzA w.params,15,(x_ w.params).life,HD [],boot_drawn,187,os⟩
abbrev Ff(w:World)(os:IF):SharedT:=⟨zz1 w.params,130,(x_ w.params).life,HD [],boot_drawn,341,os⟩
theorem BO:∀(w:World) (os:IF),topGo treeTable PySem.Challenge.pw_shortglue_k56_shortest_often w 11 (some (.ref 6)) 12 ⟨x_ w.params,HD [],boot_drawn,boot_toks,os⟩ (topStub PySem.Challenge.pw_shortglue_k56_shortest_often)=some ((BN w os).abs,⟨denote treeTable zzC,zzC,⟨0,0,0,0⟩,[topFrame ⟨0,0,0,0⟩]⟩):=by intro w os;kernel_rfl
theorem BP:∀(w:World) (os:IF),segRun treeTable PySem.Challenge.pw_shortglue_k56_shortest_often w 11 (some (.ref 6)) 1 1 (BN w os).abs (blockOf ((behindTheImports PySem.Challenge.pw_shortglue_k56_shortest_often).take 9++(behindTheImports PySem.Challenge.pw_shortglue_k56_shortest_often).drop 9) zzV zzC ⟨0,0,0,0⟩ [topFrame ⟨0,0,0,0⟩])=some (.next,(BN w os).abs,zzC,⟨0,0,0,0⟩):=by intro w os;kernel_rfl
theorem BQ:∀(w:World) (os:IF),segRunT treeTable PySem.Challenge.pw_shortglue_k56_shortest_often w 11 (some (.ref 6)) 1 1459 (BN w os) (piecesOf ((behindTheImports PySem.Challenge.pw_shortglue_k56_shortest_often).take 9) zzV zzC ⟨0,0,0,0⟩ [topFrame ⟨0,0,0,0⟩])=some (.next,Ff w os,zzC,⟨25,0,26,43⟩):=by intro w os;kernel_rfl
end
section
open PySem PySem.W PyProof.Rows
noncomputable def zI:s_:=PySem.W.view PySem.Challenge.pw_shortglue_k56_shortest_often [1,2,3,4,5,6,8,9,11,12,14,15,16,18,19,21,22,23,25,26,27,28,29,30,32,33,34,35,36,38,39,41,42,43,44,45,46,47,48,49,50,51,52,53,54,55,56,57,58,59,60,61,62,63]
local macro_rules | `(tactic| o_head $H)=>`(tactic| (refine holds_open (q:=zI) (loose:=[PySem.Str.ofString "is_text"]) (Xt:=fun s=>xlAt zI [] s && recOk (RowW.records (OpenRow.toRowW (OpenLaw.row PySem.Challenge.rw_shortglue_k56_shortest_often))) s) (XP:=XL zI []) (Yf:=Hook.obs $H) (Ya:=Hook.val $H) (YP:=Hook.says $H) (N:=3102) ?hl (Hook.of $H) (Hook.keeps $H) (fun s e=>xl_of s (and_eq_true_iff.mp e).1) XL.keeps (by rfl) (by rfl) (by rfl) (fun s e=>recFacts_of (and_eq_true_iff.mp e).2) (by rfl) (by first | assumption | decide +kernel) (by decide +kernel) ⟨rfl,rfl,rfl,rfl,rfl,by decide +kernel⟩ ?hw ?hc;(case hl=>(refine L2.zH (m₀:=11) (ann:=some (.ref 6)) (SA:=BN) (S1:=Ff) (n2:=1630) (by kernel_rfl) (by rfl) (fun s=>by kernel_rfl) (fun w=>by kernel_rfl) BO BP BQ (by rfl) ?_;intro w os;kernel_rfl))))
set_option maxRecDepth 100000 in
set_option maxHeartbeats 0 in
open_top topHd for PySem.Challenge.rw_shortglue_k56_shortest_often
end
-- CHANGE: your row's module here,as the last of these rows
namespace L2
open PySem PySem.Spec PyProof.Rows
abbrev Key:=Sum Int Str
noncomputable def BR:Key->Value->Bool
 | .inl k,v=>Value.isInt k v
 | .inr x,v=>Value.isStrOf x v
noncomputable def F9(w:World):Key->Int
 | .inl k=>hashInt k
 | .inr x=>hashStr w x
theorem bO:∀{k:Key}{v:Value},BR k v=true->(∃i t,k=Kk i/\v=Jw i t)\/(∃x t,k=Kl x/\v=IB x t)
 | .inl i,v,h=>by
  obtain⟨t,e⟩:=Value.isInt_shape (k:=i) (v:=v) h;exact .inl ⟨i,t,rfl,e⟩
 | .inr x,v,h=>by
  obtain⟨t,e⟩:=Value.isStrOf_shape (x:=x) (v:=v) h;exact .inr ⟨x,t,rfl,e⟩
def BS(a b:Int):decide ((Kk a:Key)=Kk b)=(a == b):=by
 by_cases e:a=b
 .subst e;simp
 .have h:¬ (Kk a:Key)=Kk b:=λq=>e (Sum.inl.inj q);rw [decide_eq_false h];exact (beq_eq_false_iff_ne.mpr e).symm
def BU(a b:Str):decide ((Kl a:Key)=Kl b)=decide (a=b):=by
 by_cases e:a=b
 .subst e;simp
 .have h:¬ (Kl a:Key)=Kl b:=λq=>e (Sum.inr.inj q);rw [decide_eq_false h,decide_eq_false e]
def BV(a:Int)(b:Str):decide ((Kk a:Key)=Kl b)=false:=decide_eq_false (λq=>nomatch q)
def BW(a:Str)(b:Int):decide ((Kl a:Key)=Kk b)=false:=decide_eq_false (λq=>nomatch q)
noncomputable def nG(prog:s_)(w:World):PySem.KeyKind prog w Key where
 is:=BR
 hash:=F9 w
 inj:=λv a b ha hb=>by
  rcases bO ha with ⟨i,t,rfl,rfl⟩|⟨x,t,rfl,rfl⟩
  .rcases bO hb with ⟨j,u,rfl,e⟩|⟨y,u,rfl,e⟩
   .injection e with e1 _;rw [e1]
   .exact nomatch e
  .rcases bO hb with ⟨j,u,rfl,e⟩|⟨y,u,rfl,e⟩
   .exact nomatch e
   .injection e with e1 _;rw [e1]
 byValue:=λk v h=>by
  rcases bO h with ⟨i,t,rfl,rfl⟩|⟨x,t,rfl,rfl⟩ <;> rfl
 pyHash:=λhv h=>by
  rcases bO hv with ⟨i,t,rfl,rfl⟩|⟨x,t,rfl,rfl⟩
  .exact wpAny_pyHash_int h
  .exact wpAny_pyHash_str h
 eqBool:=λhu hv h=>by
  rcases bO hu with ⟨i,t,rfl,rfl⟩|⟨x,t,rfl,rfl⟩
  .rcases bO hv with ⟨j,u,rfl,rfl⟩|⟨y,u,rfl,rfl⟩
   .rw [BS] at h;exact wpAny_eqBool_int h
   .rw [BV] at h;exact SeqAt.EqAt.int_str i t y u _ _ _ _ h
  .rcases bO hv with ⟨j,u,rfl,rfl⟩|⟨y,u,rfl,rfl⟩
   .rw [BW] at h;exact SeqAt.EqAt.str_int x t j u _ _ _ _ h
   .rw [BU] at h;exact wpAny_eqBool_str h
 «strs»:=λk x t v h=>by
  rcases bO h with ⟨i,u,rfl,e⟩|⟨y,u,rfl,e⟩
  .exact nomatch e
  .injection e with e1 _;subst e1;cases v <;> rfl
inductive V where
 | non|bl (b:Bool)|int (i:Int)|str (x:Str)|byt (b:Array UInt8)|flt (b:UInt64)|ref (a:Addr)|ty (n:String)
 deriving DecidableEq
noncomputable def cY:V->Value->Prop
 | .non,u=>u=Hr
 | .bl b,u=>u=Hc b
 | .int i,u=>∃t,u=Jw i t
 | .str x,u=>∃t,u=IB x t
 | .byt b,u=>∃t,u=Value.bytes b t
 | .flt b,u=>∃t,u=J5 b t
 | .ref a,u=>u=u1 a
 | .ty n,u=>u=HZ n
abbrev bJ:List V->List Value->Prop:=Paired cY
def bJ.length{xs:List V}{us:List Value}(r:bJ xs us):xs.length=us.length:=Paired.length r
theorem bJ.get:∀{xs:List V}{us:List Value}{i:Nat}{x:V},bJ xs us->xs[i]?=some x->∃u,us[i]?=some u/\cY x u
 | _,_,_,_,.nil,e=>by simp at e
 | _,_,0,_,.cons r _,e=>by simp at e;subst e;exact⟨_,rfl,r⟩
 | _,_,i+1,x,.cons _ t,e=>by
  obtain⟨u,h1,h2⟩:=bJ.get (i:=i) (x:=x) t (by simpa using e);exact⟨u,by simpa using h1,h2⟩
theorem bJ.set{x:V}{u:Value}(r:cY x u):∀{xs:List V}{us:List Value} (i:Nat),bJ xs us->bJ (xs.set i x) (us.set i u)
 | _,_,_,.nil=>.nil
 | _,_,0,.cons _ t=>.cons r t
 | _,_,i+1,.cons q t=>.cons q (bJ.set r i t)
theorem bJ.append:∀{xs ys:List V}{us ws:List Value},bJ xs us->bJ ys ws->bJ (xs++ys) (us++ws)
 | _,_,_,_,.nil,s=>s
 | _,_,_,_,.cons r t,s=>.cons r (bJ.append t s)
theorem bJ.take:∀{xs:List V}{us:List Value} (n:Nat),bJ xs us->bJ (xs.take n) (us.take n)
 | _,_,0,_=>.nil
 | _,_,_+1,.nil=>.nil
 | _,_,n+1,.cons r t=>.cons r (bJ.take n t)
theorem bJ.drop:∀{xs:List V}{us:List Value} (n:Nat),bJ xs us->bJ (xs.drop n) (us.drop n)
 | _,_,0,r=>r
 | _,_,_+1,.nil=>.nil
 | _,_,n+1,.cons _ t=>bJ.drop n t
noncomputable def zJ:Option V->Option Value->Prop
 | some v,some u=>cY v u
 | none,none=>True
 | _,_=>False
noncomputable def KV{κ:Type}:List (κ×V)->List (κ×Value)->Prop:=Paired λ(p:κ×V) (q:κ×Value)=>p.1=q.1/\cY p.2 q.2
noncomputable def kV:Key->V
 | .inl i=>.int i
 | .inr x=>.str x
inductive HO where
 | lst (xs:List V)
 | tup (xs:List V)
 | dK (kvs:List (Key×V))|dT (kvs:List (List Key×V))
 | set (S:Int->Bool) (n:Nat)
 | ins (C dx:Addr) (fs:List (Str×V))
 | own (x:Addr)
 | xd (fs:List (Str×V))
 | met (f x:Addr)
 | rng (lo hi:Int)
 | frz (o:Obj) (u:HO)
 | tbl (ps:Array Value)
 | ext (φ:Heap->Prop)
abbrev Hp:=Addr->Option HO
noncomputable def upd(H:Hp)(a:Addr)(o:HO):Hp:=λb=>if b=a then some o else H b
def bd{H:Hp}{a:Addr}{o:HO}:upd H a o a=some o:=by unfold upd;rw [if_pos rfl]
def aR{H:Hp}{a b:Addr}{o:HO}(h:b≠a):upd H a o b=H b:=by unfold upd;rw [if_neg h]
def bb{H:Hp}{a b:Addr}{o:HO}(h:H a=some o)(h':H b=none):a≠b:=by
 intro e;subst e;rw [h] at h';cases h'
section
variable (P:s_) (w:World)
noncomputable def bZ(H:Hp)(h:Heap)(a:Addr):HO->Prop
 | .lst xs=>xs.length<=sizeLine/\∃(its:List Value) (n:Nat),bJ xs its/\h.get? a=some { cls:=.type "list",data:=.seq its.toArray n }
 | .tup xs=>xs.length<=sizeLine/\∃its:List Value,bJ xs its/\IsTup h a its.toArray
 | .dK kvs=>kvs.length<=sizeLine/\(a == sysModules)=false/\∃vs,KV kvs vs/\h.DictOf (nG P w) a vs
 | .dT kvs=>kvs.length<=sizeLine/\(a == sysModules)=false/\∃xs:List (List Key×Addr×Value),
   Paired (λ(p:List Key×V) (q:List Key×Addr×Value)=>p.1=q.1/\H q.2.1=some (.tup (p.1.map kV))/\cY p.2 q.2.2) kvs xs /\
   ∃o es ep,h.get? a=some o/\o.ExactDict/\o.data=.dict es ep/\es.toList=xs.map (entryOfKey (tupleKind (nG P w)))/\(xs.map (·.1)).Nodup
 | .set S n=>h.SetOf (intKind P w) a S n
 | .ins C dx fs=>H dx=some (.own a)/\fs.length<=1000/\dx≠a/\h.get? a=some (Hd C dx) /\
   ∃mA,h.Ns1 dx mA/\(∀f,zJ (fs.lookup f) (mA f))/\Km mA (fs.map (·.1))
 | .own _=>∃o,h.get? a=some o
 | .xd fs=>∃mA,h.Ns1 a mA/\∀f,zJ (fs.lookup f) (mA f)
 | .rng lo hi=>∃t u v,h.get? a=some { cls:=.type "range",data:=.fields #[.int lo t,.int hi u,.int 1 v] }
 | .frz o u=>h.get? a=some o/\bZ H h a u
 | .tbl ps=>h.get? a=some { cls:=.none,data:=.fields ps }
 | .met f x=>h.get? a=some (Ji (.ref f) (.ref x))
 | .ext φ=>φ h/\(∃o,h.get? a=some o)/\∀h1 h2:Heap,φ h1->(∀o,h1.get? a=some o->h2.get? a=some o)->φ h2
noncomputable def HOk(H:Hp)(h:Heap):Prop:=∀a o,H a=some o->bZ P w H h a o
end
section
variable {P:s_}{w:World}{H H':Hp}{h h':Heap}{a:Addr}{o:HO}
def bZ.lt(x:bZ P w H h a o):a<h.objs.size:=by
 cases o with
 | lst xs=>obtain⟨_,_,_,_,e⟩:=x;exact l_ e
 | tup xs=>obtain⟨_,_,_,p⟩:=x;exact p.lt
 | dK kvs=>obtain⟨_,_,_,_,o,_,_,e,_⟩:=x;exact l_ e
 | dT kvs=>obtain⟨_,_,_,_,o,_,_,e,_⟩:=x;exact l_ e
 | set S n=>obtain⟨o,_,_,_,e,_⟩:=x;exact l_ e
 | ins C dx fs=>obtain⟨_,_,_,e,_⟩:=x;exact l_ e
 | own y=>obtain⟨_,e⟩:=x;exact l_ e
 | xd fs=>obtain⟨_,⟨_,_,_,e,_⟩,_⟩:=x;exact l_ e
 | rng lo hi=>obtain⟨_,_,_,e⟩:=x;exact l_ e
 | frz ob u=>obtain⟨e,_⟩:=x;exact l_ e
 | tbl ps=>exact l_ (show h.get? a=some _ from x)
 | met f y=>exact l_ (show h.get? a=some _ from x)
 | ext φ=>obtain⟨_,⟨_,e⟩,_⟩:=x;exact l_ e
theorem Paired.mapP{α β:Type}{F G:α->β->Prop}:∀{l₁:List α}{l₂:List β},Paired F l₁ l₂->(∀a b,F a b->G a b)->Paired G l₁ l₂
 | _,_,.nil,_=>.nil
 | _,_,.cons r t,f=>.cons (f _ _ r) (Paired.mapP t f)
def bZ.stay(x:bZ P w H h a o)(k:∀b u,(b=a\/H b=some (.own a))->h.get? b=some u->h'.get? b=some u)
  (ho:∀b,H b=some (.own a)->H' b=some (.own a)) (ht:∀b xs,H b=some (.tup xs)->H' b=some (.tup xs)):bZ P w H' h' a o:=by
 induction o with
 | lst xs=>obtain⟨z,its,n,r,e⟩:=x;exact⟨z,its,n,r,k _ _ (.inl rfl) e⟩
 | tup xs=>obtain⟨z,its,r,ob,e,c⟩:=x;exact⟨z,its,r,ob,k _ _ (.inl rfl) e,c⟩
 | dK kvs=>obtain⟨z,y,vs,r,ob,es,ep,e,c⟩:=x;exact⟨z,y,vs,r,ob,es,ep,k _ _ (.inl rfl) e,c⟩
 | dT kvs =>
  obtain⟨z,y,xs,r,ob,es,ep,e,c⟩:=x;exact⟨z,y,xs,Paired.mapP r λp q z=>⟨z.1,ht _ _ z.2.1,z.2.2⟩,ob,es,ep,k _ _ (.inl rfl) e,c⟩
 | set S n=>obtain⟨ob,es,ep,t,e,c⟩:=x;exact⟨ob,es,ep,t,k _ _ (.inl rfl) e,c⟩
 | ins C dx fs =>
  obtain⟨d,z,ne,e,mA,⟨od,es,ep,e2,c⟩,r⟩:=x;exact⟨ho _ d,z,ne,k _ _ (.inl rfl) e,mA,⟨od,es,ep,k _ _ (.inr d) e2,c⟩,r⟩
 | own y=>obtain⟨ob,e⟩:=x;exact⟨ob,k _ _ (.inl rfl) e⟩
 | xd fs=>obtain⟨mA,⟨od,es,ep,e,c⟩,r⟩:=x;exact⟨mA,⟨od,es,ep,k _ _ (.inl rfl) e,c⟩,r⟩
 | rng lo hi=>obtain⟨t,u,v,e⟩:=x;exact⟨t,u,v,k _ _ (.inl rfl) e⟩
 | frz ob u ih=>obtain⟨e,q⟩:=x;exact⟨k _ _ (.inl rfl) e,ih q⟩
 | tbl ps =>
  have e:h.get? a=some { cls:=.none,data:=.fields ps }:=x;show h'.get? a=some { cls:=.none,data:=.fields ps };exact k a _ (.inl rfl) e
 | met f y =>
  have e:h.get? a=some (Ji (.ref f) (.ref y)):=x;show h'.get? a=some (Ji (.ref f) (.ref y));exact k a _ (.inl rfl) e
 | ext φ=>obtain⟨p,⟨o,e⟩,st⟩:=x;exact⟨st _ _ p λo q=>k _ _ (.inl rfl) q,⟨o,k _ _ (.inl rfl) e⟩,st⟩
def HOk.lt(x:HOk P w H h)(e:H a=some o):a<h.objs.size:=(x a o e).lt
def HOk.fresh(x:HOk P w H h)(e:h.objs.size<=a):H a=none:=by
 cases q:H a with
 | none=>rfl
 | some u=>exact absurd (u_ (x.lt q) e) (GF _)
def HOk.kept(x:HOk P w H h)(k:∀b u,h.get? b=some u->h'.get? b=some u):HOk P w H h':=λa o e =>
 (x a o e).stay (λb u _ q=>k b u q) (λ_ q=>q) λ_ _ q=>q
def HOk.laid(x:HOk P w H h)(k:∀b u,h.get? b=some u->h'.get? b=some u)(hp:h.objs.size<=a)(new:bZ P w (upd H a o) h' a o):HOk P w (upd H a o) h':=λb u e=>by
 have hn:=x.fresh hp
 by_cases hb:b=a
 .subst hb;rw [bd] at e;cases e;exact new
 .rw [aR hb] at e;exact (x b u e).stay (λc v _ q=>k c v q) (λc q=>by rw [aR (bb q hn)];exact q) λc xs q=>by rw [aR (bb q hn)];exact q
end
noncomputable def Rd(H:Hp)(a:Addr)(u:HO):Prop:=H a=some u\/∃o,H a=some (.frz o u)
def Rd.ok{P:s_}{w:World}{H:Hp}{h:Heap}{a:Addr}{u:HO}(r:Rd H a u)(x:HOk P w H h):bZ P w H h a u:=by
 rcases r with r|⟨o,r⟩
 .exact x a u r
 .obtain⟨_,q⟩:=x a _ r;exact q
noncomputable def Mut:Option HO->Prop
 | some (.lst _)=>True
 | some (.dK _)=>True
 | some (.dT _)=>True
 | some (.set _ _)=>True
 | some (.ins _ _ _)=>True
 | some (.ext _)=>True
 | _=>False
section
variable {P:s_}{w:World}{H:Hp}{h h':Heap}{x e:Addr}{o':HO}
def HOk.write(ok:HOk P w H h)(mu:Mut (H x))(he:e=x\/H e=some (.own x))(k:∀b u,b≠e->h.get? b=some u->h'.get? b=some u)(heo:∃u,h'.get? e=some u)
  (new:bZ P w (upd H x o') h' x o'):HOk P w (upd H x o') h':=λb u q=>by
 have nown:∀c y,H c=some (.own y)->c≠x:=λc y r z=>by subst z;rw [r] at mu;exact mu
 have ntup:∀c xs,H c=some (.tup xs)->c≠x:=λc xs r z=>by subst z;rw [r] at mu;exact mu
 by_cases hb:b=x
 .subst hb;rw [bd] at q;cases q;exact new
 .rw [aR hb] at q
  by_cases hbe:b=e
  .have q':H b=some (.own x):=by
    rcases he with z|z
    .exact absurd (hbe.trans z) hb
    .rw [hbe];exact z
   rw [q] at q';cases q';obtain⟨v,hv⟩:=heo;exact⟨v,by rw [hbe];exact hv⟩
  .refine (ok b u q).stay (λc v hc r=>k c v ?_ r) (λc r=>by rw [aR (nown c b r)];exact r) λc xs r=>by rw [aR (ntup c xs r)];exact r
   rcases hc with rfl|hc
   .exact hbe
   .rintro rfl
    rcases he with z|z
    .exact nown c b hc z
    .rw [hc] at z;cases z;exact hb rfl
end
structure Un (fs ex:List Addr) (H H':Hp) (h h':Heap):Prop where
 keep:∀b o,h.get? b=some o->H b=none->b∉fs->b∉ex->h'.get? b=some o
 slot:∀b o,h.get? b=some o->H b=none->b∈fs->b∉ex->∃sl,h'.get? b=some { o with slots:=sl }
 free:∀b o,h.get? b=some o->H b=none->b∉ex->H' b=none
 there:∀b o,h.get? b=some o->b∉ex->∃o',h'.get? b=some o'
 tups:∀b xs,H b=some (.tup xs)->H' b=some (.tup xs)
 frzs:∀b o u,H b=some (.frz o u)->H' b=some (.frz o u)
 tbls:∀b ps,H b=some (.tbl ps)->∃more,H' b=some (.tbl (ps++more))
section
variable {fs fs' ex ex':List Addr}{H H1 H2:Hp}{h h1 h2 h':Heap}{a x e:Addr}{o:HO}
def Un.any(u:Un fs ex H H1 h h1){b:Addr}{ob:Obj}(q:h.get? b=some ob)(n:H b=none)(hx:b∉ex):∃sl,h1.get? b=some { ob with slots:=sl }:=by
 by_cases hb:b∈fs
 .exact u.slot b ob q n hb hx
 .exact⟨ob.slots,u.keep b ob q n hb hx⟩
def Un.kept(k:∀b u,h.get? b=some u->h'.get? b=some u):Un fs ex H H h h' :=
 ⟨λb ob q _ _ _=>k b ob q,λb ob q _ _ _=>⟨ob.slots,k b ob q⟩,λ_ _ _ n _=>n,λb ob q _=>⟨ob,k b ob q⟩,λ_ _ q=>q,λ_ _ _ q=>q,λ_ ps q=>⟨#[],by rw [q];simp⟩⟩
def Un.refl:Un fs ex H H h h:=Un.kept λ_ _ q=>q
def Un.laid(k:∀b u,h.get? b=some u->h'.get? b=some u)(hp:h.objs.size<=a)(hn:H a=none):Un fs ex H (upd H a o) h h' where
 keep:=λb u q _ _ _=>k b u q
 slot:=λb u q _ _ _=>⟨u.slots,k b u q⟩
 free:=λb u q n _=>by rw [aR (GR (u_ (l_ q) hp))];exact n
 there:=λb u q _=>⟨u,k b u q⟩
 tups:=λb xs q=>by rw [aR (bb q hn)];exact q
 frzs:=λb u xs q=>by rw [aR (bb q hn)];exact q
 tbls:=λb ps q=>⟨#[],by rw [aR (bb q hn),q];simp⟩
def Un.write(mu:Mut (H x))(he:e=x\/H e=some (.own x))(k:∀b u,b≠e->h.get? b=some u->h'.get? b=some u)(heo:∃u,h'.get? e=some u):Un fs ex H (upd H x o) h h':=by
 have hx:∀b,H b=none->b≠x:=λb n z=>by subst z;rw [n] at mu;exact mu
 have hb:∀b,H b=none->b≠e:=λb n z=>by
  subst z
  rcases he with r|r
  .exact hx b n r
  .rw [n] at r;cases r
 have hm:∀b u,H b=some u->¬ Mut (some u)->b≠x:=λb u q nm z=>by subst z;rw [q] at mu;exact nm mu
 refine⟨λb u q n _ _=>k b u (hb b n) q,λb u q n _ _=>⟨u.slots,k b u (hb b n) q⟩,λb u q n _=>by rw [aR (hx b n)];exact n,λb u q _=>?_,
  λb xs q=>by rw [aR (hm b _ q λz=>z)];exact q,λb u xs q=>by rw [aR (hm b _ q λz=>z)];exact q,λb ps q=>⟨#[],by rw [aR (hm b _ q λz=>z),q];simp⟩⟩
 by_cases hbe:b=e
 .subst hbe;exact heo
 .exact⟨u,k b u hbe q⟩
end
noncomputable def trk(h:Heap)(H:Hp):List Addr:=(e_ h.objs.size).filter λa=>(H a).isSome
noncomputable def xF(h:Heap)(H:Hp):Heap:=PySem.W.hideAll h (trk h H)
def vm(h:Heap)(H:Hp):(xF h H).objs.size=h.objs.size:=PySem.W.hideAll_size _ _
def xG{h:Heap}{H:Hp}{b:Addr}{o:Obj}(e:h.get? b=some o)(n:H b=none):(xF h H).get? b=some o :=
 PySem.W.hideAll_get _ e λhm=>by
  have q:(H b).isSome=true:=(GW.mp hm).2;rw [n] at q;simp at q
def zK{h:Heap}{H:Hp}{b:Addr}{o:Obj}(e:(xF h H).get? b=some o):h.get? b=some o/\H b=none:=by
 have e':h.get? b=some o:=PySem.W.of_hideAll (trk h H) e;refine⟨e',?_⟩
 cases q:H b with
 | none=>rfl
 | some x =>
  have hm:b∈trk h H:=GW.mpr ⟨GQ.mpr (l_ e'),by simp [q]⟩;have z:(xF h H).get? b=none:=PySem.W.hideAll_none (trk h H) hm;rw [z] at e;cases e
structure Mod (K:a_) (mg:Str->Option Value) (base:Heap):Prop where
 kin:K.In base
 glob:base.Ns mainGlobals mg
 blt:∃mb,base.Ns builtinsNs mb/\∀x:Str,x≠"__name__"->mb x=bootBuiltins x
 nolimit:base.NoLimit
structure Cx where
 prog:s_
 w:World
 K:a_
 mg:Str->Option Value
 base:Heap
 A:z_
 N:List Str
 s₀:c_
 H₀:Hp
 env:Env
 outer:List Env
 stack:List Env
 ex:List Addr
 fn:Str->Bool
 calm:Bool
 pn:List (Addr×Obj)
 xe:Value->c_->Prop
noncomputable def frs(l:List Env):List Addr:=l.filterMap (·.frame)
abbrev Cx.fs(X:Cx):List Addr:=frs X.outer
noncomputable def Vis(sc:Scope)(x:Str):Prop:=sc.names.lookup x=some .local\/sc.names.lookup x=some .cell\/sc.names.lookup x=some .free
noncomputable def Loc(sc:Scope)(x:Str):Prop:=sc.names.lookup x=some .local\/sc.names.lookup x=some .cell
noncomputable def Ga(env:Env)(h:Heap)(m:Str->Option Value)(x:Str)(u:Value):Prop :=
 (env.kindOf x=some .local/\m x=some u)\/((env.kindOf x=some .cell\/env.kindOf x=some .free)/\∃c,env.cells.lookup x=some c/\h.IsCell c (some u))
structure Cx.Ok (X:Cx):Prop where
 mod:Mod X.K X.mg X.base
 kind:X.env.scope.kind=.function
 glob:X.env.globals=mainGlobals
 blt:X.env.builtins=builtinsNs
 above:X.s₀.heap.objs.size<=X.env.locals
 inj:∀x y c,X.env.cells.lookup x=some c->X.env.cells.lookup y=some c->x=y
 has:∀x,(X.env.kindOf x=some .cell\/X.env.kindOf x=some .free)->∃c,X.env.cells.lookup x=some c
 cab:∀x c,X.fn x=true->X.env.cells.lookup x=some c->X.s₀.heap.objs.size<=c
 hd:X.calm=true->X.A.handled=none
 frames:X.A.frames=some X.stack
 stk:X.stack=X.outer\/(X.stack=X.env::X.outer/\X.env.frame=some X.env.locals)
 exf:∀b∈X.ex,b≠X.env.locals/\∀x c,X.env.cells.lookup x=some c->c≠b
 bs:∀b o,X.base.get? b=some o->X.s₀.heap.get? b=some o/\X.H₀ b=none
 bsz:X.base.objs.size<=X.s₀.heap.objs.size
 noex:∀b o,X.base.get? b=some o->b∉X.ex
 exfs:∀b∈X.ex,b∉X.fs
 funs:X.s₀.heap.FunFrames X.base X.outer
 frf:∀b∈X.fs,X.H₀ b=none
structure Inv (X:Cx) (pins:List (Addr×Obj)) (σ:List (Option V)) (H:Hp) (s:c_):Prop where
 ok:X.Ok
 os:s.os=X.s₀.os
 bare:Jj s.gens
 base:Un X.fs X.ex X.H₀ H X.s₀.heap s.heap
 loc:∃m,s.heap.Ns X.env.locals m/\∀(i:Nat) (x:Str) (v:V),X.N[i]?=some x->σ[i]?=some (some v)->Vis X.env.scope x->∃u,cY v u/\Ga X.env s.heap m x u
 cell:∀x c,X.env.cells.lookup x=some c->∃v,s.heap.IsCell c v
 free:H X.env.locals=none
 freeC:∀x c,X.env.cells.lookup x=some c->H c=none
 pin:∀p∈X.pn++pins,s.heap.get? p.1=some p.2/\H p.1=none/\p.1≠X.env.locals/\p.1∉X.fs/\∀v,p.2.data≠.cell v
 hok:HOk X.prog X.w H s.heap
 len:σ.length=X.N.length
section
variable {X:Cx}{pins:List (Addr×Obj)}{σ:List (Option V)}{H H':Hp}{s:c_}{h':Heap}
def Cx.Ok.nofr(ok:X.Ok){b:Addr}{o:Obj}(e:X.base.get? b=some o):b∉X.fs:=λhb=>by
 have:=(ok.funs.mem hb).1;rw [e] at this;cases this
def Inv.bs(I:Inv X pins σ H s):∀b o,X.base.get? b=some o->s.heap.get? b=some o/\H b=none:=λb o e =>
 ⟨I.base.keep b o (I.ok.bs b o e).1 (I.ok.bs b o e).2 (I.ok.nofr e) (I.ok.noex b o e),I.base.free b o (I.ok.bs b o e).1 (I.ok.bs b o e).2 (I.ok.noex b o e)⟩
def Inv.bk(I:Inv X pins σ H s):∀b o,X.base.get? b=some o->s.heap.get? b=some o:=λb o e=>(I.bs b o e).1
def Inv.mod(I:Inv X pins σ H s):Mod X.K X.mg X.base:=I.ok.mod
def Inv.kIn(I:Inv X pins σ H s):X.K.In s.heap:=I.ok.mod.kin.keeps I.bk
def Inv.lt(I:Inv X pins σ H s):X.env.locals<s.heap.objs.size:=let ⟨_,hn,_⟩:=I.loc;hn.lt
def Inv.sz(I:Inv X pins σ H s):X.s₀.heap.objs.size<=s.heap.objs.size:=E_ I.ok.above (le_of_lt I.lt)
def Inv.nofs(I:Inv X pins σ H s){a:Addr}(h:s.heap.objs.size<=a):a∉X.fs:=λhb=>by
 obtain⟨_,o,ho,_⟩:=I.ok.funs.mem hb;exact absurd (u_ (l_ ho) (E_ I.sz h)) (GF _)
def Inv.cne(I:Inv X pins σ H s):∀x c,X.env.cells.lookup x=some c->c≠X.env.locals:=λx c e z=>by
 obtain⟨v,o,ho,hd⟩:=I.cell x c e;obtain⟨m,⟨o',es,ep,ho',hd',_⟩,_⟩:=I.loc;rw [z,ho'] at ho;cases ho;rw [hd'] at hd;cases hd
def Inv.funs(I:Inv X pins σ H s):s.heap.FunFrames X.base X.outer:=by
 have all:∀(l:List Env),(∀b∈frs l,b∈X.fs)->X.s₀.heap.FunFrames X.base l->s.heap.FunFrames X.base l:=by
  intro l
  induction l with
  | nil=>intro _ _;trivial
  | cons env r ih =>
   intro hs hl;obtain⟨hk,⟨L,o,hf,hn,ho,hd⟩,hr⟩:=hl;have hL:L∈X.fs:=hs L (by unfold frs;rw [Im,hf];exact mem_cons_self);obtain⟨sl,e⟩:=I.base.slot L o ho (I.ok.frf L hL) hL λz=>I.ok.exfs L z hL;exact⟨hk,⟨L,_,hf,hn,e,hd⟩,ih (λb hb=>hs b (by unfold frs;rw [Im,hf];exact m_ _ hb)) hr⟩
 exact all X.outer (λ_ hb=>hb) I.ok.funs
def Inv.stack(I:Inv X pins σ H s):s.heap.FunFrames X.base X.stack:=by
 rcases I.ok.stk with e|⟨e,hf⟩
 .rw [e];exact I.funs
 .rw [e];obtain⟨m,hn,_⟩:=I.loc;refine .cons (by rw [I.ok.kind];decide) hf hn ?_ I.funs;exact Heap.get?_none_of_le (E_ I.ok.bsz I.ok.above)
def Inv.stkSub(I:Inv X pins σ H s):∀b∈frs X.stack,b∈X.env.locals::X.fs:=λb hb=>by
 rcases I.ok.stk with e|⟨e,hf⟩
 .rw [e] at hb;exact m_ _ hb
 .rw [e] at hb;unfold frs at hb;rw [Im,hf] at hb;exact hb
def Inv.stkFree(I:Inv X pins σ H s):∀b∈frs X.stack,H b=none:=λb hb=>by
 rcases w_.mp (I.stkSub b hb) with e|hb
 .rw [e];exact I.free
 .obtain⟨_,o,ho,_⟩:=I.ok.funs.mem hb;exact I.base.free b o ho (I.ok.frf b hb) λz=>I.ok.exfs b z hb
def Inv.step{g':Array GenState}{t':Nat}{d':Drawn}{ch:List Addr}(I:Inv X pins σ H s)
  (hch:∀b∈ch,(b∈X.ex\/X.s₀.heap.objs.size<=b)/\b≠X.env.locals/\(∀x c,X.env.cells.lookup x=some c->c≠b)/\∀p∈X.pn++pins,p.1≠b)
  (keep:∀b o,b≠X.env.locals->b∉X.fs->b∉ch->s.heap.get? b=some o->H b=none->h'.get? b=some o)
  (slot:∀b o,b≠X.env.locals->b∈X.fs->b∉ch->s.heap.get? b=some o->H b=none->∃sl,h'.get? b=some { o with slots:=sl }) (free:∀b o,b∉ch->s.heap.get? b=some o->H b=none->H' b=none)
  (there:∀b o,b∉ch->s.heap.get? b=some o->∃o',h'.get? b=some o')
  (tups:∀b xs,H b=some (.tup xs)->H' b=some (.tup xs)) (frzs:∀b o u,H b=some (.frz o u)->H' b=some (.frz o u)) (tbls:∀b ps,H b=some (.tbl ps)->∃more,H' b=some (.tbl (ps++more)))
  (ns:∀m,s.heap.Ns X.env.locals m->h'.Ns X.env.locals m) (hok:HOk X.prog X.w H' h') (hg:Jj g') :
  Inv X pins σ H' { s with heap:=h',gens:=g',drawn:=d',toks:=t' }:=by
 have neL:∀b o,X.s₀.heap.get? b=some o->b≠X.env.locals:=λb o e=>GR (u_ (l_ e) I.ok.above)
 have neC:∀b o,X.s₀.heap.get? b=some o->b∉X.ex->b∉ch:=λb o e hx hb=>by
  rcases (hch b hb).1 with z|z
  .exact hx z
  .exact absurd (u_ (l_ e) z) (GF _)
 have cellK:∀x c,X.env.cells.lookup x=some c->∀v,s.heap.IsCell c v->h'.IsCell c v:=λx c e v ⟨o,ho,hd⟩=>by
  have nch:c∉ch:=λz=>(hch c z).2.2.1 x c e rfl
  by_cases hc:c∈X.fs
  .obtain⟨sl,q⟩:=slot c o (I.cne x c e) hc nch ho (I.freeC x c e);exact⟨_,q,hd⟩
  .exact⟨o,keep c o (I.cne x c e) hc nch ho (I.freeC x c e),hd⟩
 refine⟨I.ok,I.os,hg,⟨λb o e n hb hx=>?_,λb o e n hb hx=>?_,λb o e n hx=>?_,λb o e hx=>?_,λb xs e=>tups b xs (I.base.tups b xs e),λb o xs e=>frzs b o xs (I.base.frzs b o xs e),λb ps e=>?_⟩,?_,λx c e=>?_,?_,λx c e=>?_,λp hp=>?_,hok,I.len⟩
 .exact keep b o (neL b o e) hb (neC b o e hx) (I.base.keep b o e n hb hx) (I.base.free b o e n hx)
 .obtain⟨sl,e1⟩:=I.base.slot b o e n hb hx;obtain⟨sl',e2⟩:=slot b _ (neL b o e) hb (neC b o e hx) e1 (I.base.free b o e n hx);exact⟨sl',e2⟩
 .obtain⟨o',e1⟩:=I.base.there b o e hx;exact free b o' (neC b o e hx) e1 (I.base.free b o e n hx)
 .obtain⟨o',e1⟩:=I.base.there b o e hx;exact there b o' (neC b o e hx) e1
 .obtain⟨m1,e1⟩:=I.base.tbls b ps e;obtain⟨m2,e2⟩:=tbls b _ e1;exact⟨m1++m2,by rw [e2,Array.append_assoc]⟩
 .obtain⟨m,hn,hl⟩:=I.loc;refine⟨m,ns m hn,λi x v e1 e2 e3=>?_⟩;obtain⟨u,r,l⟩:=hl i x v e1 e2 e3;refine⟨u,r,?_⟩
  rcases l with l|⟨k,c,e,z⟩
  .exact .inl l
  .exact .inr ⟨k,c,e,cellK x c e _ z⟩
 .obtain⟨v,z⟩:=I.cell x c e;exact⟨v,cellK x c e v z⟩
 .obtain⟨m,⟨o,_,_,ho,_⟩,_⟩:=I.loc;exact free _ o (λz=>(hch _ z).2.1 rfl) ho I.free
 .obtain⟨v,o,ho,hd⟩:=I.cell x c e;exact free c o (λz=>(hch c z).2.2.1 x c e rfl) ho (I.freeC x c e)
 .obtain⟨e,n,ne,nf,d⟩:=I.pin p hp;have nch:p.1∉ch:=λz=>(hch p.1 z).2.2.2 p hp rfl;exact⟨keep p.1 p.2 ne nf nch e n,free p.1 p.2 nch e n,ne,nf,d⟩
def Inv.un{t':Nat}(I:Inv X pins σ H s)(u:Un X.fs [] H H' s.heap h')(hok:HOk X.prog X.w H' h'):Inv X pins σ H' { s with heap:=h',toks:=t' }:=by
 obtain⟨m,⟨o,es,ep,ho,r⟩,_⟩:=id I.loc;obtain⟨sl,hL⟩:=u.any ho I.free (by simp)
 exact I.step (g':=s.gens) (d':=s.drawn) (ch:=[]) (λ_ z=>nomatch z) (λb o _ hb _ e n=>u.keep b o e n hb (by simp)) (λb o _ hb _ e n=>u.slot b o e n hb (by simp)) (λb o _ e n=>u.free b o e n (by simp)) (λb o _ e=>u.there b o e (by simp)) u.tups u.frzs u.tbls (λm' hm=>by
  obtain⟨o',es',ep',ho',r'⟩:=hm;rw [ho] at ho';cases ho';exact⟨_,es',ep',hL,r'⟩) hok I.bare
def Inv.call{g':Array GenState}{t':Nat}{d':Drawn}{ch:List Addr}(I:Inv X pins σ H s)(u:Un (frs X.stack) ch H H' s.heap h')(hok:HOk X.prog X.w H' h')(hg:Jj g')
  (hch:∀b∈ch,(b∈X.ex\/X.s₀.heap.objs.size<=b)/\b≠X.env.locals/\(∀x c,X.env.cells.lookup x=some c->c≠b)/\∀p∈X.pn++pins,p.1≠b) :
  Inv X pins σ H' { s with heap:=h',gens:=g',drawn:=d',toks:=t' }:=by
 obtain⟨m,⟨o,es,ep,ho,r⟩,_⟩:=id I.loc;obtain⟨sl,hL⟩:=u.any ho I.free λz=>(hch _ z).2.1 rfl
 exact I.step (ch:=ch) hch (λb o hL hb hc e n=>u.keep b o e n (λz=>(w_.mp (I.stkSub b z)).elim hL hb) hc) (λb o _ _ hc e n=>u.any e n hc) (λb o hc e n=>u.free b o e n hc) (λb o hc e=>u.there b o e hc) u.tups u.frzs u.tbls (λm' hm=>by
  obtain⟨o',es',ep',ho',r'⟩:=hm;rw [ho] at ho';cases ho';exact⟨_,es',ep',hL,r'⟩) hok hg
def Inv.turned{t':Nat}{it:Addr}(I:Inv X pins σ H s)(k:∀b o,b≠it->s.heap.get? b=some o->h'.get? b=some o)(hn:H it=none)(hL:it≠X.env.locals)
  (h1:it∈X.ex\/X.s₀.heap.objs.size<=it) (h2:∀x c,X.env.cells.lookup x=some c->c≠it) (h3:∀p∈X.pn++pins,p.1≠it):Inv X pins σ H { s with heap:=h',toks:=t' }:=by
 have nit:∀b u,H b=some u->b≠it:=λb u e z=>by rw [z,hn] at e;cases e
 refine I.step (g':=s.gens) (d':=s.drawn) (ch:=[it]) (λb hb=>?_) (λb o _ _ hc e _=>k b o (λz=>hc (by simp [z])) e) (λb o _ _ hc e _=>⟨o.slots,k b o (λz=>hc (by simp [z])) e⟩) (λ_ _ _ _ n=>n)
  (λb o hc e=>⟨o,k b o (λz=>hc (by simp [z])) e⟩) (λ_ _ e=>e) (λ_ _ _ e=>e) (λb ps e=>⟨#[],by rw [e];simp⟩) (λm hm=>?_) (λb u e=>?_) I.bare
 .have e:b=it:=by simpa using hb
  subst e;exact⟨h1,hL,h2,h3⟩
 .obtain⟨o,es,ep,ho,r⟩:=hm;exact⟨o,es,ep,k _ o (HA hL) ho,r⟩
 .refine (I.hok b u e).stay (λc v hc q=>k c v ?_ q) (λ_ q=>q) λ_ _ q=>q
  rcases hc with z|z
  .rw [z];exact nit b u e
  .exact nit c _ z
def Inv.tok(I:Inv X pins σ H s)(t:Nat):Inv X pins σ H { s with toks:=t }:=I.un (h':=s.heap) (t':=t) Un.refl I.hok
def Inv.kept{t':Nat}(I:Inv X pins σ H s)(k:∀b u,s.heap.get? b=some u->h'.get? b=some u):Inv X pins σ H { s with heap:=h',toks:=t' }:=I.un (Un.kept k) (I.hok.kept k)
def Inv.laid{a:Addr}{o:HO}{t':Nat}(I:Inv X pins σ H s)(k:∀b u,s.heap.get? b=some u->h'.get? b=some u)(hp:s.heap.objs.size<=a)(new:bZ X.prog X.w (upd H a o) h' a o) :
  Inv X pins σ (upd H a o) { s with heap:=h',toks:=t' }:=I.un (Un.laid k hp (I.hok.fresh hp)) (I.hok.laid k hp new)
def Inv.write{x e:Addr}{o:HO}{t':Nat}(I:Inv X pins σ H s)(mu:Mut (H x))(he:e=x\/H e=some (.own x))(k:∀b u,b≠e->s.heap.get? b=some u->h'.get? b=some u)(heo:∃u,h'.get? e=some u)
  (new:bZ X.prog X.w (upd H x o) h' x o):Inv X pins σ (upd H x o) { s with heap:=h',toks:=t' }:=I.un (Un.write mu he k heo) (I.hok.write mu he k heo new)
def Inv.pins_of{pins':List (Addr×Obj)}(I:Inv X pins σ H s)(h:∀p∈pins',s.heap.get? p.1=some p.2/\H p.1=none/\p.1≠X.env.locals/\p.1∉X.fs/\∀v,p.2.data≠.cell v):Inv X pins' σ H s :=
 ⟨I.ok,I.os,I.bare,I.base,I.loc,I.cell,I.free,I.freeC,λp hp=>(HB.mp hp).elim (λz=>I.pin p (HW _ z)) (h p),I.hok,I.len⟩
def sY{N:List Str}(hN:N.Nodup){i j:Nat}{x:Str}(a:N[i]?=some x)(b:N[j]?=some x):i=j:=by
 obtain⟨h1,e1⟩:=h_.mp a;obtain⟨h2,e2⟩:=h_.mp b;exact (getElem_inj hN).mp (e1.trans e2.symm)
theorem vn{M:Model}{A:z_}{E:Value->c_->Prop}{i:Nat}{x:Str}{v:V}{u:Value}{Q:Unit->c_->Prop}(I:Inv X pins σ H s)(hN:X.N.Nodup)(hi:X.N[i]?=some x)(hx:Loc X.env.scope x)(r:cY v u)
  (h:∀s',Inv X pins (σ.set i (some v)) H s'->(∃a,Io a s.heap s'.heap/\(a=X.env.locals\/X.env.cells.lookup x=some a))->Q () s') (hf:X.fn x=true\/X.env.scope.names.lookup x=some .local:=by first|exact .inl rfl|exact .inr rfl|assumption):wpAny M A (storeName X.env x u) Q E s:=by
 obtain⟨m,hn,hl⟩:=id I.loc;have hcls:(X.env.scope.kind == .class || (X.env.scope.kind == .module && X.env.locals != X.env.globals))=false:=by rw [I.ok.kind];rfl
 have hiσ:i<σ.length:=by rw [I.len];exact (h_.mp hi).1
 have cne:=I.cne
 have tracked:∀{a:Addr}{h':Heap},(∃o,s.heap.get? a=some o/\H a=none)->Io a s.heap h'->HOk X.prog X.w H h':=λ{a h'} ha hs b ob e=>by
  obtain⟨_,_,hfree⟩:=ha;refine (I.hok b ob e).stay (λc w' hc q=>(hs.2 c ?_).trans q) (λ_ q=>q) λ_ _ q=>q;rintro rfl
  rcases hc with rfl|hc
  .rw [hfree] at e;cases e
  .rw [hfree] at hc;cases hc
 rcases hx with hk|hk
 .refine wpAny_storeName_local hk hn (λh' hn' hs=>?_) hcls;obtain⟨oL,_,_,hoL,_⟩:=id hn
  refine h _ ⟨I.ok,I.os,I.bare,⟨λb o e n hb hx=>?_,λb o e n hb hx=>?_,I.base.free,λb o e hx=>?_,I.base.tups,I.base.frzs,I.base.tbls⟩,⟨_,hn',λj y v' e1 e2 e3=>?_⟩,λy c e=>?_,I.free,I.freeC,λp hp=>?_,tracked ⟨oL,hoL,I.free⟩ hs,by simpa using I.len⟩ ⟨_,hs,.inl rfl⟩
  .exact (hs.2 b (GR (u_ (l_ e) I.ok.above))).trans (I.base.keep b o e n hb hx)
  .obtain⟨sl,e1⟩:=I.base.slot b o e n hb hx;exact⟨sl,(hs.2 b (GR (u_ (l_ e) I.ok.above))).trans e1⟩
  .obtain⟨o',e1⟩:=I.base.there b o e hx;exact⟨o',(hs.2 b (GR (u_ (l_ e) I.ok.above))).trans e1⟩
  .by_cases hj:j=i
   .subst hj;rw [hi] at e1;cases e1;rw [p_ hiσ] at e2;cases e2;exact⟨u,r,.inl ⟨hk,by simp⟩⟩
   .rw [n_ (HA hj)] at e2;obtain⟨u',r',q⟩:=hl j y v' e1 e2 e3;refine⟨u',r',?_⟩
    rcases q with ⟨k,e⟩|⟨k,c,e,z⟩
    .refine .inl ⟨k,?_⟩;have:y≠x:=λe=>hj (sY hN e1 (e ▸ hi));simp [this,e]
    .exact .inr ⟨k,c,e,z.sameBut hs (cne y c e)⟩
  .obtain⟨w',z⟩:=I.cell y c e;exact⟨w',z.sameBut hs (cne y c e)⟩
  .obtain⟨e,n,ne,nf,d⟩:=I.pin p hp;exact⟨(hs.2 p.1 ne).trans e,n,ne,nf,d⟩
 .have hfn:X.fn x=true:=by
   rcases hf with z|z
   .exact z
   .rw [z] at hk;cases hk
  obtain⟨c,hc⟩:=I.ok.has x (.inl hk);obtain⟨w',z⟩:=I.cell x c hc;refine wpAny_storeName_cell I.ok.kind hk hc z (λh' hc' hs=>?_);obtain⟨oc,hoc,hocd⟩:=id z
  refine h { s with heap:=h' } ⟨I.ok,I.os,I.bare,⟨λb o e n hb hx=>?_,λb o e n hb hx=>?_,I.base.free,λb o e hx=>?_,I.base.tups,I.base.frzs,I.base.tbls⟩,⟨m,hn.sameBut hs (HA (cne x c hc)),λj y v' e1 e2 e3=>?_⟩,λy c' e=>?_,I.free,I.freeC,λp hp=>?_,tracked ⟨oc,hoc,I.freeC x c hc⟩ hs,by simpa using I.len⟩ ⟨c,hs,.inr hc⟩
  .exact (hs.2 b (GR (u_ (l_ e) (I.ok.cab x c hfn hc)))).trans (I.base.keep b o e n hb hx)
  .obtain⟨sl,e1⟩:=I.base.slot b o e n hb hx;exact⟨sl,(hs.2 b (GR (u_ (l_ e) (I.ok.cab x c hfn hc)))).trans e1⟩
  .obtain⟨o',e1⟩:=I.base.there b o e hx;exact⟨o',(hs.2 b (GR (u_ (l_ e) (I.ok.cab x c hfn hc)))).trans e1⟩
  .by_cases hj:j=i
   .subst hj;rw [hi] at e1;cases e1;rw [p_ hiσ] at e2;cases e2;exact⟨u,r,.inr ⟨.inl hk,c,hc,hc'⟩⟩
   .rw [n_ (HA hj)] at e2;obtain⟨u',r',q⟩:=hl j y v' e1 e2 e3;refine⟨u',r',?_⟩
    rcases q with q|⟨k,c',e,z'⟩
    .exact .inl q
    .refine .inr ⟨k,c',e,z'.sameBut hs ?_⟩;rintro rfl;exact hj (sY hN e1 (I.ok.inj _ _ _ e hc ▸ hi))
  .by_cases hcc:c'=c
   .subst hcc;exact⟨_,hc'⟩
   .obtain⟨w2,z2⟩:=I.cell y c' e;exact⟨w2,z2.sameBut hs hcc⟩
  .obtain⟨e,n,ne,nf,d⟩:=I.pin p hp;refine⟨(hs.2 p.1 ?_).trans e,n,ne,nf,d⟩;intro q;rw [q,hoc] at e;have q':oc=p.2:=q_ e;exact d w' (by rw [<- q'];exact hocd)
theorem kL{M:Model}{A:z_}{E:Value->c_->Prop}{i:Nat}{x:Str}{v:V}{u:Value}{Q:Unit->c_->Prop}(I:Inv X pins σ H s)(hN:X.N.Nodup)(hi:X.N[i]?=some x)(hx:Loc X.env.scope x)(r:cY v u)
  (h:∀s',Inv X pins (σ.set i (some v)) H s'->Q () s') (hf:X.fn x=true\/X.env.scope.names.lookup x=some .local:=by first|exact .inl rfl|exact .inr rfl|assumption):wpAny M A (storeName X.env x u) Q E s :=
 vn I hN hi hx r (λs' I' _=>h s' I') hf
def Inv.call'{s':c_}{ch:List Addr}(I:Inv X pins σ H s)(ho:s'.os=s.os)(u:Un (frs X.stack) ch H H' s.heap s'.heap)(hok:HOk X.prog X.w H' s'.heap)(hg:Jj s'.gens)
  (hch:∀b∈ch,(b∈X.ex\/X.s₀.heap.objs.size<=b)/\b≠X.env.locals/\(∀x c,X.env.cells.lookup x=some c->c≠b)/\∀p∈X.pn++pins,p.1≠b):Inv X pins σ H' s':=by
 obtain⟨h',g',d',t',o'⟩:=s';have e:o'=s.os:=ho;subst e;exact I.call (g':=g') (t':=t') (d':=d') u hok hg hch
end
abbrev XK:=Value->Option Addr->Hp->Prop
abbrev St:=List (Option V)
abbrev VK:=V->Hp->Prop
abbrev TE:=St->Hp->VK->Prop
abbrev TT:=St->Hp->(Bool->Hp->Prop)->Prop
abbrev TA:=St->Hp->(List V->Hp->Prop)->Prop
structure Bw where
 nx:St->Hp->Prop
 rt:VK
 bk:St->Hp->Prop:=λ_ _=>False
 ct:St->Hp->Prop:=λ_ _=>False
abbrev TS:=Bw->St->Hp->Prop
noncomputable def EP(X:Cx)(pins:List (Addr×Obj))(σ:St)(Q:VK)(u:Value)(s':c_):Prop:=∃v H',Inv X pins σ H' s'/\cY v u/\Q v H'
noncomputable def TP(X:Cx)(pins:List (Addr×Obj))(σ:St)(Q:Bool->Hp->Prop)(b:Bool)(s':c_):Prop:=∃H',Inv X pins σ H' s'/\Q b H'
noncomputable def AP(X:Cx)(pins:List (Addr×Obj))(σ:St)(Q:List V->Hp->Prop)(us:List Value)(s':c_):Prop:=∃vs H',Inv X pins σ H' s'/\bJ vs us/\Q vs H'
noncomputable def SP(X:Cx)(pins:List (Addr×Obj))(D:Bw)(f:Flow)(s':c_):Prop :=
 match f with
 | .next=>∃σ' H',Inv X pins σ' H' s'/\D.nx σ' H'
 | .brk=>∃σ' H',Inv X pins σ' H' s'/\D.bk σ' H'
 | .cont=>∃σ' H',Inv X pins σ' H' s'/\D.ct σ' H'
 | .ret u=>∃v σ' H',Inv X pins σ' H' s'/\cY v u/\D.rt v H'
noncomputable def PE(X:Cx)(e:Expr)(t:TE):Prop :=
 ∀(pins:List (Addr×Obj)) (s:c_) (σ:St) (H:Hp) (Q:VK),Inv X pins σ H s->t σ H Q->wpAny (model X.prog X.w) X.A (eval e X.env) (EP X pins σ Q) X.xe s
noncomputable def PT(X:Cx)(e:Expr)(t:TT):Prop :=
 ∀(pins:List (Addr×Obj)) (s:c_) (σ:St) (H:Hp) (Q:Bool->Hp->Prop),Inv X pins σ H s->t σ H Q->wpAny (model X.prog X.w) X.A (isTrue e X.env (eval e X.env)) (TP X pins σ Q) X.xe s
noncomputable def PW(X:Cx)(e:Expr)(t:TT):Prop :=
 ∀(whole:Sem Value) (pins:List (Addr×Obj)) (s:c_) (σ:St) (H:Hp) (Q:Bool->Hp->Prop),Inv X pins σ H s->t σ H Q->wpAny (model X.prog X.w) X.A (isTrue e X.env whole) (TP X pins σ Q) X.xe s
def PW.pt{X:Cx}{e:Expr}{t:TT}(h:PW X e t):PT X e t:=h _
noncomputable def PA(X:Cx)(es:List Expr)(t:TA):Prop :=
 ∀(pos:Pos) (pins:List (Addr×Obj)) (s:c_) (σ:St) (H:Hp) (Q:List V->Hp->Prop),Inv X pins σ H s->t σ H Q->wpAny (model X.prog X.w) X.A (spliced (backTo pos (starEach es X.env))) (AP X pins σ Q) X.xe s
noncomputable def PS(X:Cx)(st:Stmt)(t:TS):Prop :=
 ∀(pins:List (Addr×Obj)) (s:c_) (σ:St) (H:Hp) (D:Bw),Inv X pins σ H s->t D σ H->wpAny (model X.prog X.w) X.A (exec st X.env) (SP X pins D) X.xe s
noncomputable def PSs(X:Cx)(st:List Stmt)(t:TS):Prop :=
 ∀(pins:List (Addr×Obj)) (s:c_) (σ:St) (H:Hp) (D:Bw),Inv X pins σ H s->t D σ H->wpAny (model X.prog X.w) X.A (execs st X.env) (SP X pins D) X.xe s
def thn{α:Type}{t:Sem α}{Q Q':α->c_->Prop}{M:Model}{A:z_}{E:Value->c_->Prop}{s:c_}(h:wpAny M A t Q E s)(hQ:∀a s,Q a s->Q' a s):wpAny M A t Q' E s:=HL h hQ λ_ _ x=>x
section
variable {X:Cx}
noncomputable def bu(i:Nat):TE:=λσ H Q=>∃v,σ[i]?=some (some v)/\Q v H
def tC(v:V):TE:=λ_ H Q=>Q v H
def BX{i:Nat}{x:Str}{pos:Pos}(hN:X.N[i]?=some x)(hv:Vis X.env.scope x)(hd:(x == ("__debug__":Str))=false:=by decide)(hcd:(x == ("__classdict__":Str))=false:=by decide):PE X (.Name x pos) (bu i):=by
 intro pins s σ H Q I h;obtain⟨v,e,h⟩:=h;obtain⟨m,hn,hl⟩:=I.loc;obtain⟨u,r,l⟩:=hl i x v hN e hv;have fin:EP X pins σ Q u s:=⟨v,H,I,r,h⟩
 rcases l with ⟨hk,hm⟩|⟨hk,c,hc,hcell⟩
 .exact wpAny_Name (wpAny_loadName_local I.ok.kind hk hn hm fin) hd
 .rcases hk with hk|hk
  .exact wpAny_Name (wpAny_loadName_cell I.ok.kind hk hc hcell fin) hd
  .exact wpAny_Name (wpAny_loadName_free I.ok.kind hk hc hcell fin hcd) hd
def ap{i j pos}:PE X (.Constant (.int i) j pos) (tC (.int i)):=λ_ _ _ H _ I h=>wpAny_Constant_int ⟨.int i,H,I.tok _,⟨_,rfl⟩,h⟩
def nH{b j pos}:PE X (.Constant (.bool b) j pos) (tC (.bl b)):=λ_ _ _ H _ I h=>Constant_bool ⟨.bl b,H,I,rfl,h⟩
def gf{j pos}:PE X (.Constant .none j pos) (tC .non):=λ_ _ _ H _ I h=>Constant_none ⟨.non,H,I,rfl,h⟩
def BY{x j pos}:PE X (.Constant (.str x) j pos) (tC (.str x)):=λ_ _ _ H _ I h=>Calls.Constant_str ⟨.str x,H,I.tok _,⟨_,rfl⟩,h⟩
noncomputable def Gl(X:Cx)(x:Str):Prop:=X.env.kindOf x=some .globalImplicit
def rD{E:Value->c_->Prop}{pins:List (Addr×Obj)}{s:c_}{σ:St}{H:Hp}{x:Str}{u:Value}{pos:Pos}{Q:Value->c_->Prop}(I:Inv X pins σ H s)(hg:Gl X x)(hm:X.mg x=some u)(h:Q u s)
  (hd:(x == ("__debug__":Str))=false:=by decide):wpAny (model X.prog X.w) X.A (eval (.Name x pos) X.env) Q E s :=
 IY I.ok.kind hg (Calls.loadGlobal_global (by rw [I.ok.glob];exact I.mod.glob.keeps I.bk) hm h) hd
def kS{E:Value->c_->Prop}{pins:List (Addr×Obj)}{s:c_}{σ:St}{H:Hp}{x:Str}{u:Value}{pos:Pos}{Q:Value->c_->Prop}(I:Inv X pins σ H s)(hg:Gl X x)(hm:X.mg x=none)(hv:bootBuiltins x=some u)(h:Q u s)
  (hn:x≠"__name__":=by decide) (hd:(x == ("__debug__":Str))=false:=by decide):wpAny (model X.prog X.w) X.A (eval (.Name x pos) X.env) Q E s:=by
 obtain⟨mb,h1,h2⟩:=I.mod.blt;exact IY I.ok.kind hg (Calls.loadGlobal_builtin (by rw [I.ok.glob];exact I.mod.glob.keeps I.bk) hm (by rw [I.ok.blt];exact h1.keeps I.bk) ((h2 x hn).trans hv) h) hd
def zL{x:Str}{v:V}{u:Value}{pos:Pos}(hg:Gl X x)(hm:X.mg x=some u)(r:cY v u)(hd:(x == ("__debug__":Str))=false:=by decide):PE X (.Name x pos) (tC v) :=
 λ_ _ _ H _ I h=>rD I hg hm ⟨v,H,I,r,h⟩ hd
def jC{x:Str}{v:V}{u:Value}{pos:Pos}(hg:Gl X x)(hm:X.mg x=none)(hv:bootBuiltins x=some u)(r:cY v u)(hn:x≠"__name__":=by decide)(hd:(x == ("__debug__":Str))=false:=by decide):PE X (.Name x pos) (tC v) :=
 λ_ _ _ H _ I h=>kS I hg hm hv ⟨v,H,I,r,h⟩ hn hd
variable {a b:Expr}{ta tb:TE}{pos:Pos}
noncomputable def tB(t:TE):TT:=λσ H Q=>t σ H λx H1=>∃c,x=.bl c/\Q c H1
def BZ{e:Expr}{t:TE}(h:PE X e t)(he:∀whole,isTrue e X.env whole=(do let v <- whole;standAt e.pos;holding [v] (truthy v)):=by intro _;rfl):PT X e (tB t):=by
 intro pins s σ H Q I hw;refine isTrue_plain (thn (h pins s σ H _ I hw) λv s1 ⟨x,H1,I1,r1,q1⟩=>?_) (he _);obtain⟨d,rfl,q⟩:=q1;cases r1;exact D_ ⟨H1,I1,q⟩
variable {tA tB':TT}{rest:List Expr}
noncomputable def Fg(t u:TT):TT:=λσ H Q=>t σ H λc H1=>if c=true then u σ H1 Q else Q false H1
noncomputable def tOr(t u:TT):TT:=λσ H Q=>t σ H λc H1=>if c=true then Q true H1 else u σ H1 Q
noncomputable def Eb(t:TT):TT:=λσ H Q=>t σ H λc H1=>Q (!c) H1
def kT(ha:PT X a tA):PW X (.BoolOp .And [a] pos) tA:=by
 intro wh pins s σ H Q I h;refine isTrue_and (thn (ha pins s σ H Q I h) λc s1 e=>?_)
 cases c with
 | true=>exact isTrue_and_nil e
 | false=>exact e
def kf(ha:PT X a tA):PW X (.BoolOp .Or [a] pos) tA:=by
 intro wh pins s σ H Q I h;refine isTrue_or (thn (ha pins s σ H Q I h) λc s1 e=>?_)
 cases c with
 | false=>exact isTrue_or_nil e
 | true=>exact e
def pS(ha:PT X a tA)(hb:PW X (.BoolOp .And (b::rest) pos) tB'):PW X (.BoolOp .And (a::b::rest) pos) (Fg tA tB'):=by
 intro wh pins s σ H Q I h;refine isTrue_and (thn (ha pins s σ H _ I h) λc s1 ⟨H1,I1,q1⟩=>?_)
 cases c with
 | true=>exact hb wh pins s1 σ H1 Q I1 q1
 | false=>exact⟨H1,I1,q1⟩
def nI(ha:PT X a tA)(hb:PW X (.BoolOp .Or (b::rest) pos) tB'):PW X (.BoolOp .Or (a::b::rest) pos) (tOr tA tB'):=by
 intro wh pins s σ H Q I h;refine isTrue_or (thn (ha pins s σ H _ I h) λc s1 ⟨H1,I1,q1⟩=>?_)
 cases c with
 | true=>exact⟨H1,I1,q1⟩
 | false=>exact hb wh pins s1 σ H1 Q I1 q1
def eT(ha:PT X a tA):PT X (.UnaryOp .Not a pos) (Eb tA):=by
 intro pins s σ H Q I h;exact isTrue_not (ha pins s σ H (λc H1=>Q (!c) H1) I h)
noncomputable def B0(ta tb:TE):TE:=λσ H Q=>ta σ H λx H1=>∃c,x=.bl c/\if c=true then tb σ H1 Q else Q (.bl false) H1
noncomputable def Fh(ta tb:TE):TE:=λσ H Q=>ta σ H λx H1=>∃c,x=.bl c/\if c=true then Q (.bl true) H1 else tb σ H1 Q
noncomputable def B1(ta:TE):TE:=λσ H Q=>ta σ H λx H1=>∃c,x=.bl c/\Q (.bl (!c)) H1
def kU{op}{t:TE}(h:PE X a t):PE X (.BoolOp op [a] pos) t:=λpins s σ H Q I hw=>BoolOp_one (h pins s σ H Q I hw)
def sZ(ha:PE X a ta)(hb:PE X (.BoolOp .And (b::rest) pos) tb):PE X (.BoolOp .And (a::b::rest) pos) (B0 ta tb):=by
 intro pins s σ H Q I h;refine BoolOp_and (thn (ha pins s σ H _ I h) λv s1 ⟨x,H1,I1,r1,q1⟩=>?_);obtain⟨c,rfl,q1⟩:=q1;cases r1;refine D_ ?_
 cases c with
 | true=>exact hb pins s1 σ H1 Q I1 q1
 | false=>exact⟨.bl false,H1,I1,rfl,q1⟩
def B2(ha:PE X a ta)(hb:PE X (.BoolOp .Or (b::rest) pos) tb):PE X (.BoolOp .Or (a::b::rest) pos) (Fh ta tb):=by
 intro pins s σ H Q I h;refine BoolOp_or (thn (ha pins s σ H _ I h) λv s1 ⟨x,H1,I1,r1,q1⟩=>?_);obtain⟨c,rfl,q1⟩:=q1;cases r1;refine D_ ?_
 cases c with
 | false=>exact hb pins s1 σ H1 Q I1 q1
 | true=>exact⟨.bl true,H1,I1,rfl,q1⟩
def yE(ha:PE X a ta):PE X (.UnaryOp .Not a pos) (B1 ta):=by
 intro pins s σ H Q I h;refine UnaryOp_ (thn (ha pins s σ H _ I h) λv s1 ⟨x,H1,I1,r1,q1⟩=>?_);obtain⟨c,rfl,q1⟩:=q1;cases r1;exact not_of (D_ ⟨.bl (!c),H1,I1,rfl,q1⟩)
noncomputable def tIf(t:TT)(ta tb:TE):TE:=λσ H Q=>t σ H λc H1=>if c=true then ta σ H1 Q else tb σ H1 Q
def xH{c:Expr}(hc:PT X c tA)(ha:PE X a ta)(hb:PE X b tb):PE X (.IfExp c a b pos) (tIf tA ta tb):=by
 intro pins s σ H Q I h;refine wpAny_IfExp (thn (hc pins s σ H _ I h) λd s1 ⟨H1,I1,q1⟩=>?_)
 cases d with
 | true=>exact ha pins s1 σ H1 Q I1 q1
 | false=>exact hb pins s1 σ H1 Q I1 q1
end
noncomputable def SqL(K:a_)(H:Hp)(a:Addr)(xs:List V):Prop :=
 Rd H a (.lst xs) \/
  ∃(o:Obj) (its:Array Value) (n:Nat),K.lookup a=some o/\o.cls=.type "list"/\o.dict=none/\o.data=.seq its n/\its.size<=sizeLine/\bJ xs its.toList
noncomputable def SqT(K:a_)(H:Hp)(a:Addr)(xs:List V):Prop :=
 Rd H a (.tup xs) \/
  ∃(o:Obj) (its:Array Value) (n:Nat),K.lookup a=some o/\o.cls=.type "tuple"/\o.data=.seq its n/\its.size<=sizeLine/\bJ xs its.toList
noncomputable def Gb:Value->Option V
 | .none=>some .non
 | .bool b=>some (.bl b)
 | .int i _=>some (.int i)
 | .str x _=>some (.str x)
 | .bytes b _=>some (.byt b)
 | .float b _=>some (.flt b)
 | .ref a=>some (.ref a)
 | .type n=>some (.ty n)
 | _=>none
def cY.abs{x:V}{u:Value}(r:cY x u):Gb u=some x:=by
 cases x with
 | non=>cases r;rfl
 | bl _=>cases r;rfl
 | int _=>obtain⟨t,rfl⟩:=r;rfl
 | str _=>obtain⟨t,rfl⟩:=r;rfl
 | byt _=>obtain⟨t,rfl⟩:=r;rfl
 | flt _=>obtain⟨t,rfl⟩:=r;rfl
 | ref _=>cases r;rfl
 | ty _=>cases r;rfl
def cY.inj{x y:V}{u:Value}(r:cY x u)(q:cY y u):x=y:=q_ (r.abs.symm.trans q.abs)
theorem bJ.inj:∀{xs ys:List V}{us:List Value},bJ xs us->bJ ys us->xs=ys
 | _,_,_,.nil,.nil=>rfl
 | _,_,_,.cons r t,.cons r' t'=>by rw [r.inj r',bJ.inj t t']
section
variable {X:Cx}{pins:List (Addr×Obj)}{σ:St}{H:Hp}{s:c_}{a:Addr}{xs ys:List V}
def SqL.of{K:a_}(h:H a=some (.lst xs)):SqL K H a xs:=.inl (.inl h)
def SqT.of{K:a_}(h:H a=some (.tup xs)):SqT K H a xs:=.inl (.inl h)
def Inv.list(I:Inv X pins σ H s)(h:SqL X.K H a xs):∃its:List Value,bJ xs its/\PlainL s.heap a its.toArray/\xs.length<=sizeLine:=by
 rcases h with h|⟨o,its,n,hk,hc,hd,hs,hz,r⟩
 .obtain⟨z,its,n,r,e⟩:=h.ok I.hok;exact⟨its,r,⟨_,n,e,rfl,rfl,rfl⟩,z⟩
 .refine⟨its.toList,r,⟨o,n,I.kIn a o hk,hc,hd,by simpa using hs⟩,?_⟩;have e:=r.length;simp only [G2] at e;omega
def Inv.tuple(I:Inv X pins σ H s)(h:SqT X.K H a xs):∃its:List Value,bJ xs its/\IsTup s.heap a its.toArray/\xs.length<=sizeLine:=by
 rcases h with h|⟨o,its,n,hk,hc,hs,hz,r⟩
 .obtain⟨z,its,r,p⟩:=h.ok I.hok;exact⟨its,r,p,z⟩
 .refine⟨its.toList,r,⟨o,I.kIn a o hk,hc,n,by simpa using hs⟩,?_⟩;have e:=r.length;simp only [G2] at e;omega
def Inv.list_inj(I:Inv X pins σ H s)(h:SqL X.K H a xs)(h':SqL X.K H a ys):xs=ys:=by
 obtain⟨its,r,⟨o,n,e,_,_,d⟩,_⟩:=I.list h;obtain⟨its',r',⟨o',n',e',_,_,d'⟩,_⟩:=I.list h';rw [e] at e';cases e';rw [d] at d';injection d' with d1 _;have:its=its':=by simpa using congrArg JE d1
 subst this;exact r.inj r'
def Inv.tuple_inj(I:Inv X pins σ H s)(h:SqT X.K H a xs)(h':SqT X.K H a ys):xs=ys:=by
 obtain⟨its,r,⟨o,e,_,n,d⟩,_⟩:=I.tuple h;obtain⟨its',r',⟨o',e',_,n',d'⟩,_⟩:=I.tuple h';rw [e] at e';cases e';rw [d] at d';injection d' with d1 _;have:its=its':=by simpa using congrArg JE d1
 subst this;exact r.inj r'
end
abbrev Cx.wish(X:Cx)(E:Value->c_->Prop):Cx:={ X with xe:=E }
abbrev Cx.nox(X:Cx):Cx:=X.wish λ_ _=>False
def Cx.Ok.wish{X:Cx}(ok:X.Ok)(E:Value->c_->Prop):(X.wish E).Ok :=
 ⟨ok.mod,ok.kind,ok.glob,ok.blt,ok.above,ok.inj,ok.has,ok.cab,ok.hd,ok.frames,ok.stk,ok.exf,ok.bs,ok.bsz,ok.noex,ok.exfs,ok.funs,ok.frf⟩
def Cx.Ok.unwish{X:Cx}{E:Value->c_->Prop}(ok:(X.wish E).Ok):X.Ok :=
 ⟨ok.mod,ok.kind,ok.glob,ok.blt,ok.above,ok.inj,ok.has,ok.cab,ok.hd,ok.frames,ok.stk,ok.exf,ok.bs,ok.bsz,ok.noex,ok.exfs,ok.funs,ok.frf⟩
section
variable {X:Cx}{pins:List (Addr×Obj)}{σ:St}{H:Hp}{s:c_}{E:Value->c_->Prop}
def Inv.wish(I:Inv X pins σ H s)(E:Value->c_->Prop):Inv (X.wish E) pins σ H s:=⟨I.ok.wish E,I.os,I.bare,I.base,I.loc,I.cell,I.free,I.freeC,I.pin,I.hok,I.len⟩
def Inv.unwish(I:Inv (X.wish E) pins σ H s):Inv X pins σ H s:=⟨I.ok.unwish,I.os,I.bare,I.base,I.loc,I.cell,I.free,I.freeC,I.pin,I.hok,I.len⟩
def SP.unwish{D:Bw}{f:Flow}{s':c_}(h:SP (X.wish E) pins D f s'):SP X pins D f s':=by
 cases f with
 | next=>obtain⟨σ',H',I,q⟩:=h;exact⟨σ',H',I.unwish,q⟩
 | brk=>obtain⟨σ',H',I,q⟩:=h;exact⟨σ',H',I.unwish,q⟩
 | cont=>obtain⟨σ',H',I,q⟩:=h;exact⟨σ',H',I.unwish,q⟩
 | ret u=>obtain⟨v,σ',H',I,r,q⟩:=h;exact⟨v,σ',H',I.unwish,r,q⟩
def PSs.nox{st:List Stmt}{t:TS}(h:PSs X.nox st t):PSs X st t:=λpins s σ H D I hw =>
 HL (h pins s σ H D (I.wish _) hw) (λ_ _ q=>q.unwish) λ_ _ z=>He z
end
section
variable {X:Cx}{st:Stmt}{rest:List Stmt}{t u:TS}{e:Expr}{te:TE}{pos:Pos}
def B3:TS:=λD σ H=>D.nx σ H
noncomputable def Fi(t u:TS):TS:=λD σ H=>t { D with nx:=u D } σ H
def aG:PSs X [] B3:=λ_ _ σ H _ I h=>IQ ⟨σ,H,I,h⟩
def ag(h1:PS X st t)(h2:PSs X rest u):PSs X (st::rest) (Fi t u):=by
 intro pins s σ H D I h;refine wpAny_execs_cons (thn (h1 pins s σ H { D with nx:=u D } I h) λf s1 q=>?_)
 cases f with
 | next =>
  obtain⟨σ',H',I',q⟩:=q;exact h2 pins s1 σ' H' D I' q
 | ret v=>exact q
 | brk=>exact q
 | cont=>exact q
def aj(h1:PS X st t):PSs X [st] t:=by
 intro pins s σ H D I h;refine wpAny_execs_cons (thn (h1 pins s σ H D I h) λf s1 q=>?_)
 cases f with
 | next=>exact IQ q
 | ret v=>exact q
 | brk=>exact q
 | cont=>exact q
def Inv.quiet{pins:List (Addr×Obj)}{σ:St}{H:Hp}{s:c_}(I:Inv X pins σ H s):interactive X.env=false:=by simp [interactive,I.ok.kind]
noncomputable def B4(te:TE):TS:=λD σ H=>te σ H λ_ H1=>D.nx σ H1
def fe(he:PE X e te)(hs:swapsWith e none pos.line X.env=pure false:=by rfl):PS X (.Expr e pos) (B4 te):=by
 intro pins s σ H D I h;exact wpAny_Expr_any (thn (he pins s σ H _ I h) λv s1 ⟨x,H1,I1,r1,q1⟩=>⟨σ,H1,I1,q1⟩) I.quiet hs
def Fj(te:TE):TS:=λD σ H=>te σ H D.rt
def aJ(he:PE X e te):PS X (.Return (some e) pos) (Fj te):=by
 intro pins s σ H D I h;exact wpAny_Return_some (thn (he pins s σ H _ I h) λv s1 ⟨x,H1,I1,r1,q1⟩=>⟨x,σ,H1,I1,r1,q1⟩)
noncomputable def Fk(c:TT)(t u:TS):TS:=λD σ H=>c σ H λb H1=>if b=true then t D σ H1 else u D σ H1
def bi{c:Expr}{a b:List Stmt}{tc:TT}(hc:PT X c tc)(ha:PSs X a t)(hb:PSs X b u):PS X (.If c a b pos) (Fk tc t u):=by
 intro pins s σ H D I h;refine wpAny_If (thn (hc pins s σ H _ I h) λd s1 ⟨H1,I1,q1⟩=>?_)
 cases d with
 | true=>exact ha pins s1 σ H1 D I1 q1
 | false=>exact hb pins s1 σ H1 D I1 q1
def vo:TS:=λ_ _ _=>False
def fg:PS X st vo:=λ_ _ _ _ _ _ h=>h.elim
end
abbrev TG:=V->St->Hp->(St->Hp->Prop)->Prop
abbrev TGs:=List V->St->Hp->(St->Hp->Prop)->Prop
noncomputable def PG(X:Cx)(target:Expr)(t:TG):Prop :=
 ∀(pins:List (Addr×Obj)) (s:c_) (σ:St) (H:Hp) (v:V) (u:Value) (Q:St->Hp->Prop),Inv X pins σ H s->cY v u->t v σ H Q ->
  wpAny (model X.prog X.w) X.A (assign target X.env u) (λ_ s'=>∃σ' H',Inv X pins σ' H' s'/\Q σ' H') X.xe s
noncomputable def PGs(X:Cx)(ts:List Expr)(t:TGs):Prop :=
 ∀(pins:List (Addr×Obj)) (s:c_) (σ:St) (H:Hp) (vs:List V) (us:List Value) (Q:St->Hp->Prop),Inv X pins σ H s->bJ vs us->t vs σ H Q ->
  wpAny (model X.prog X.w) X.A (assignInOrder ((assignEach ts X.env).map (·.2)) us) (λ_ s'=>∃σ' H',Inv X pins σ' H' s'/\Q σ' H') X.xe s
abbrev Ec:=V->V->V->Hp->(Hp->Prop)->Prop
noncomputable def Fl(X:Cx)(t:Ec):Prop :=
 ∀(pins:List (Addr×Obj)) (s:c_) (σ:St) (H:Hp) (o i v:V) (ov iv u:Value) (Q:Hp->Prop),Inv X pins σ H s->cY o ov->cY i iv->cY v u->t o i v H Q ->
  wpAny (model X.prog X.w) X.A (setItem ov iv u) (λ_ s'=>∃H',Inv X pins σ H' s'/\Q H') X.xe s
abbrev TIp:=V->V->Hp->VK->Prop
noncomputable def PIp(X:Cx)(op:Operator)(t:TIp):Prop :=
 ∀(pins:List (Addr×Obj)) (s:c_) (σ:St) (H:Hp) (x y:V) (v u:Value) (Q:VK),Inv X pins σ H s->cY x v->cY y u->t x y H Q ->
  wpAny (model X.prog X.w) X.A (inplaceOp op v u) (EP X pins σ Q) X.xe s
section
variable {X:Cx}{pos:Pos}
noncomputable def bQ(i:Nat):TG:=λv σ H Q=>Q (σ.set i (some v)) H
theorem aB{i:Nat}{x:Str}(hN:X.N.Nodup)(hi:X.N[i]?=some x)(hx:Loc X.env.scope x)(hf:X.fn x=true\/X.env.scope.names.lookup x=some .local:=by first|exact .inl rfl|exact .inr rfl|assumption):PG X (.Name x pos) (bQ i):=by
 intro pins s σ H v u Q I r h;exact wpAny_assign_Name (kL I hN hi hx r (λs' I'=>⟨_,H,I',h⟩) hf)
def xC:TGs:=λvs σ H Q=>vs=[]/\Q σ H
noncomputable def f8(t:TG)(u:TGs):TGs:=λvs σ H Q=>∃v r,vs=v::r/\t v σ H λσ' H'=>u r σ' H' Q
def c7:PGs X [] xC:=by
 intro pins s σ H vs us Q I r h;obtain⟨e,h⟩:=h;subst e;cases r;exact assignInOrder_nil ⟨σ,H,I,h⟩
def aX{e:Expr}{es:List Expr}{t:TG}{u:TGs}(h1:PG X e t)(h2:PGs X es u)
  (hs:(assignEach (e::es) X.env).map (·.2)=assign e X.env::(assignEach es X.env).map (·.2):=by rfl):PGs X (e::es) (f8 t u):=by
 intro pins s σ H vs us Q I r h;obtain⟨v,vr,e1,h⟩:=h;subst e1
 cases r with
 | cons r rr =>
  rw [hs];refine assignInOrder_cons (thn (h1 pins s σ H _ _ _ I r h) λ_ s1 ⟨σ1,H1,I1,q1⟩=>?_);exact h2 pins s1 σ1 H1 _ _ Q I1 rr q1
noncomputable def Gc(K:a_)(n:Nat)(t:TGs):TG:=λv σ H Q=>∃a xs,v=.ref a/\SqT K H a xs/\xs.length=n/\t xs σ H Q
def B5{es:List Expr}{k:Nat}{t:TGs}{n:Nat}(hc:X.calm=true)(h:PGs X es t)
  (hn:(assignEach es X.env).length=n:=by rfl) (hst:(assignEach es X.env).findIdx? (·.1)=none:=by rfl):PG X (.Tuple es k pos) (Gc X.K n t):=by
 intro pins s σ H v u Q I r hw;obtain⟨a,xs,e1,hq,hl,hw⟩:=hw;subst e1;cases r;obtain⟨its,rv,ht,hz⟩:=I.tuple hq;refine assign_Tuple_tuple (I.ok.hd hc) ht (by simp [hn,<- hl,rv.length]) hst λh' hx=>?_;have I1:Inv X pins σ H { s with heap:=h' }:=I.kept (t':=s.toks) λb o e=>hx b o (GR (l_ e)) e;exact h pins _ σ H xs _ Q I1 (by simpa using rv) hw
noncomputable def Fm(to ti:TE)(t:Ec):TG:=λv σ H Q=>to σ H λo H1=>ti σ H1 λi H2=>t o i v H2 λH3=>Q σ H3
def yF{o i:Expr}{to ti:TE}{t:Ec}(ho:PE X o to)(hi:PE X i ti)(hs:Fl X t)
  (ha:∀v,assign (.Subscript o i pos) X.env v=(do
   let ov <- holding [v] (eval o X.env)
   let iv <- holding [v,ov] (eval i X.env)
   standAt pos
   holding [v,ov,iv] (setItem ov iv v)
   release [v,ov,iv] []):=by intro _;rfl):PG X (.Subscript o i pos) (Fm to ti t):=by
 intro pins s σ H v u Q I r h;rw [ha];refine b_ (GS (thn (ho pins s σ H _ I h) λov s1 ⟨x,H1,I1,r1,q1⟩=>?_));refine b_ (GS (thn (hi pins s1 σ H1 _ I1 q1) λiv s2 ⟨y,H2,I2,r2,q2⟩=>?_));refine b_ (Js (b_ (GS (thn (hs pins s2 σ H2 x y v ov iv u _ I2 r1 r2 r q2) λ_ s3 ⟨H3,I3,q3⟩=>?_))));exact wpAny_release ⟨σ,H3,I3,q3⟩
noncomputable def Bx(te:TE)(g:TG):TS:=λD σ H=>te σ H λx H1=>g x σ H1 D.nx
def tm{tg e:Expr}{te:TE}{g:TG}(he:PE X e te)(hg:PG X tg g)(hs:swapsWithSole [tg] e pos.line X.env=pure false:=by rfl)(hw:swappedStores [tg] e X.env=pure none:=by rfl)
  (h1:(assignEach [tg] X.env).map (·.2)=[assign tg X.env]:=by rfl):PS X (.Assign [tg] e pos) (Bx te g):=by
 intro pins s σ H D I h;refine wpAny_Assign_stores (thn (he pins s σ H _ I h) λv s1 ⟨x,H1,I1,r1,q1⟩=>?_) hs hw;rw [h1];exact thn (hg pins s1 σ H1 x v _ I1 r1 q1) λ_ s2 q=>q
theorem ay{i:Nat}{x:Str}{e:Expr}{te:TE}{pos':Pos}(hN:X.N.Nodup)(hi:X.N[i]?=some x)(hx:Loc X.env.scope x)(he:PE X e te)(hs:swapsWith e (some (.Name x pos')) pos.line X.env=pure false:=by rfl)(hf:X.fn x=true\/X.env.scope.names.lookup x=some .local:=by first|exact .inl rfl|exact .inr rfl|assumption) :
  PS X (.Assign [.Name x pos'] e pos) (Bx te (bQ i)):=by
 intro pins s σ H D I h;refine wpAny_Assign_Name (thn (he pins s σ H _ I h) λv s1 ⟨y,H1,I1,r1,q1⟩=>?_) hs;exact kL I1 hN hi hx r1 (λs2 I2=>⟨_,H1,I2,q1⟩) hf
noncomputable def Fn(i:Nat)(te:TE)(ti:TIp):TS:=λD σ H=>∃x,σ[i]?=some (some x)/\te σ H λy H1=>ti x y H1 λz H2=>D.nx (σ.set i (some z)) H2
theorem B6{i:Nat}{x:Str}{e:Expr}{te:TE}{op:Operator}{ti:TIp}{pos':Pos}(hN:X.N.Nodup)(hi:X.N[i]?=some x)(hx:Loc X.env.scope x)(he:PE X e te)(ho:PIp X op ti)(hf:X.fn x=true\/X.env.scope.names.lookup x=some .local:=by first|exact .inl rfl|exact .inr rfl|assumption) :
  PS X (.AugAssign (.Name x pos') op e pos) (Fn i te ti):=by
 intro pins s σ H D I h;obtain⟨v,e1,h⟩:=h;obtain⟨m,hn,hl⟩:=I.loc;have vis:Vis X.env.scope x:=by rcases hx with k|k;exact .inl k;exact .inr (.inl k)
 obtain⟨u,r,l⟩:=hl i x v hi e1 vis;refine wpAny_AugAssign_Name ?_
 have go:wpAny (model X.prog X.w) X.A (eval e X.env) (λw s₂=>wpAny (model X.prog X.w) X.A (inplaceOp op u w) (λr s₃=>wpAny (model X.prog X.w) X.A (storeName X.env x r) (λ_=>SP X pins D .next) X.xe s₃) X.xe s₂) X.xe s:=by
  refine thn (he pins s σ H _ I h) λw s1 ⟨y,H1,I1,r1,q1⟩=>?_;refine thn (ho pins s1 σ H1 v y u w _ I1 r r1 q1) λz s2 ⟨zv,H2,I2,r2,q2⟩=>?_;exact kL I2 hN hi hx r2 (λs3 I3=>⟨_,H2,I3,q2⟩) hf
 rcases l with ⟨hk,hm⟩|⟨hk,c,hc,hcell⟩
 .exact wpAny_loadName_local I.ok.kind hk hn hm go
 .rcases hk with hk|hk
  .exact wpAny_loadName_cell I.ok.kind hk hc hcell go
  .rcases hx with k|k
   .have:X.env.scope.names.lookup x=some .free:=hk;rw [k] at this;cases this
   .have:X.env.scope.names.lookup x=some .free:=hk;rw [k] at this;cases this
end
section
variable {X:Cx}{pos:Pos}
noncomputable def yG(c:TT)(tb:TS):TS:=λD σ H=>∃W:Nat->St->Hp->Prop,(∃m,W m σ H)/\∀m σ H,W m σ H ->
 c σ H λb H1=>if b=true then ∃N:St->Hp->Prop,(∀σ' H',N σ' H'->∃m',m'<m/\W m' σ' H')/\tb { D with nx:=N,ct:=N,bk:=D.nx } σ H1 else D.nx σ H1
def nJ{c:Expr}{body:List Stmt}{tc:TT}{tb:TS}(hp:PassesOwn (model X.prog X.w) X.A X.env X.xe)(hc:PT X c tc)(hb:PSs X body tb):PS X (.While c body [] pos) (yG tc tb):=by
 intro pins s σ H D I h;obtain⟨W,⟨m0,w0⟩,turn⟩:=h;refine wpAny_While (codeAny_whileLoop (λn s'=>∃σ' H',Inv X pins σ' H' s'/\W n σ' H') ?_ m0 ⟨σ,H,I,w0⟩);rintro n s1 ⟨σ1,H1,I1,w1⟩;refine Ho hp (thn (hc pins s1 σ1 H1 _ I1 (turn n σ1 H1 w1)) λb s2 ⟨H2,I2,q2⟩=>?_)
 cases b with
 | true =>
  obtain⟨N,hN,q2⟩:=q2;rw [if_pos rfl];refine Ho hp (thn (hb pins s2 σ1 H2 _ I2 q2) λf s3 q3=>?_)
  cases f with
  | next =>
   obtain⟨σ3,H3,I3,n3⟩:=q3;obtain⟨m',hm,w3⟩:=hN σ3 H3 n3;exact⟨m',hm,σ3,H3,I3,w3⟩
  | cont =>
   obtain⟨σ3,H3,I3,n3⟩:=q3;obtain⟨m',hm,w3⟩:=hN σ3 H3 n3;exact⟨m',hm,σ3,H3,I3,w3⟩
  | brk=>exact q3
  | ret v=>exact q3
 | false =>
  rw [if_neg k_];exact IQ ⟨σ1,H2,I2,q2⟩
end
structure It where
 go:Nat->Hp->Prop
 yld:Nat->Hp->V->Hp->Prop
 stop:Nat->Hp->Prop
noncomputable def vj(X:Cx)(pins:List (Addr×Obj))(H:Hp)(b:Addr):Prop :=
 H b=none/\b≠X.env.locals/\b∉X.fs/\(b∈X.ex\/X.s₀.heap.objs.size<=b)/\(∀x c,X.env.cells.lookup x=some c->c≠b)/\∀p∈X.pn++pins,p.1≠b
def Inv.fpOk{X:Cx}{pins:List (Addr×Obj)}{σ:St}{H H':Hp}{s:c_}{b:Addr}(I:Inv X pins σ H s)(hb:s.heap.objs.size<=b)(hn:H' b=none):vj X pins H' b:=by
 refine⟨hn,Jx (u_ I.lt hb),I.nofs hb,.inr (E_ I.sz hb),λx c e z=>?_,λp hp z=>?_⟩
 .obtain⟨v,q⟩:=I.cell x c e;exact absurd (u_ q.lt (by rw [z];exact hb)) (GF _)
 .exact absurd (u_ (l_ (I.pin p hp).1) (by rw [z];exact hb)) (GF _)
structure zM (P:s_) (w:World) (K:a_) (tg:Expr) (J:It) (fp:List Addr) (it:Addr) (tn:Nat->Heap->Prop):Prop where
 mem:it∈fp
 obj:∀i h,tn i h->∀b∈fp,∃o,h.get? b=some o/\∀v,o.data≠.cell v
 keep:∀i h h',tn i h->(∀b∈fp,∀o,h.get? b=some o->h'.get? b=some o)->tn i h'
 item:∀(X:Cx),X.prog=P->X.w=w->X.K=K->X.calm=true->∀(i:Nat) (pins:List (Addr×Obj)) (s:c_) (σ:St) (H:Hp) (E:Value->c_->Prop),Inv X pins σ H s->(∀b∈fp,vj X pins H b)->tn i s.heap->J.go i H ->
  wpAny (model P w) X.A (pyNext (.ref it)) (λr s1=>∃u,r=some u /\
   wpAny (model P w) X.A (letOwnedTupleGo tg (.ref it) u) (λ_ s2=>∃x H',Inv X pins σ H' s2/\cY x u/\J.yld i H x H'/\tn (i+1) s2.heap/\∀b∈fp,H' b=none) E s1) E s
 done:∀(X:Cx),X.prog=P->X.w=w->X.K=K->X.calm=true->∀(i:Nat) (pins:List (Addr×Obj)) (s:c_) (σ:St) (H:Hp) (E:Value->c_->Prop),Inv X pins σ H s->(∀b∈fp,vj X pins H b)->tn i s.heap->J.stop i H ->
  wpAny (model P w) X.A (pyNext (.ref it)) (λr s1=>r=none/\Inv X pins σ H s1) E s
 self:∀(A:z_) (i:Nat) (s:c_) (Q:Value->c_->Prop) (E:Value->c_->Prop),tn i s.heap->Q (.ref it) s->wpAny (model P w) A (pyIter (.ref it)) Q E s
abbrev TI:=St->Hp->(It->Hp->Prop)->Prop
noncomputable def PIE(X:Cx)(pins:List (Addr×Obj))(σ:St)(tg:Expr)(R:It->Hp->Prop)(itv:Value)(s2:c_):Prop :=
 ∃(it:Addr) (fp:List Addr) (tn:Nat->Heap->Prop) (J:It) (H':Hp),itv=.ref it/\Inv X pins σ H' s2/\zM X.prog X.w X.K tg J fp it tn/\tn 0 s2.heap/\(∀b∈fp,vj X pins H' b)/\R J H'
noncomputable def PI(X:Cx)(tg iter:Expr)(wi:TI):Prop :=
 ∀(pins:List (Addr×Obj)) (s:c_) (σ:St) (H:Hp) (R:It->Hp->Prop),Inv X pins σ H s->wi σ H R ->
  wpAny (model X.prog X.w) X.A (eval iter X.env) (λv s1=>wpAny (model X.prog X.w) X.A (pyIter v) (PIE X pins σ tg R) X.xe s1) X.xe s
def zN{M:Model}{A:z_}{E:Value->c_->Prop}{s:c_}{tg:Expr}{it:Addr}{u:Value}{o:Obj}{n:String}{vs:Array Value}{Q:Unit->c_->Prop}(ho:s.heap.get? it=some o)(hc:o.cls=.type n)(hd:o.data=.fields vs)
    (hn:["enumerate","zip","dict_itemiterator","dict_reverseitemiterator","odict_iterator","itertools.zip_longest","itertools.pairwise"].contains n=false) (hQ:Q () s):wpAny M A (letOwnedTupleGo tg (.ref it) u) Q E s:=by
  unfold letOwnedTupleGo
  cases tg <;> first
    | exact gV hQ
    | (cases u <;> first
        | exact gV hQ
        | (refine b_ (wpAny_load ho ?_)
           rw [hc,hd];show wpAny M A (if (["enumerate","zip","dict_itemiterator","dict_reverseitemiterator","odict_iterator","itertools.zip_longest","itertools.pairwise"].contains n && vs[0]? == some (rawInt _))=true then _ else _) Q E s;rw [if_neg (by intro h;rw [hn,J6] at h;cases h)];exact gV hQ))
noncomputable def Itl(K:a_)(a:Addr):It :=
 ⟨λi H=>∃xs x,SqL K H a xs/\xs[i]?=some x,λi H x H'=>H'=H/\∀xs,SqL K H a xs->xs[i]?=some x,λi H=>∃xs,SqL K H a xs/\xs.length<=i⟩
noncomputable def Itt(K:a_)(a:Addr):It :=
 ⟨λi H=>∃xs x,SqT K H a xs/\xs[i]?=some x,λi H x H'=>H'=H/\∀xs,SqT K H a xs->xs[i]?=some x,λi H=>∃xs,SqT K H a xs/\xs.length<=i⟩
noncomputable def Itr(lo:Int)(n:Nat):It:=⟨λi _=>i<n,λi H x H'=>H'=H/\x=.int (lo+i),λi _=>n<=i⟩
def vp{P:s_}{w:World}{K:a_}{tg:Expr}(a it:Addr):zM P w K tg (Itl K a) [it] it (λi h=>h.IsListIter it a i) where
 mem:=by simp
 obj:=λi h st b hb=>by
  have e:b=it:=by simpa using hb
  subst e;obtain⟨o,e,c,d⟩:=st;exact⟨o,e,λv z=>by rw [d] at z;cases z⟩
 keep:=λi h h' st k=>st.at λo e=>k it (by simp) o e
 item:=by
  intro X hP hw hK hc i pins s σ H E I hf st hg;subst hP hw hK;obtain⟨xs,x,hq,hx⟩:=hg;obtain⟨its,rv,p,hz⟩:=I.list hq;obtain⟨u,hu,ru⟩:=rv.get hx;obtain⟨f0,f1,f2,f3,f4,f5⟩:=hf it (by simp);refine wpAny_pyNext_list_item st p.isList (x:=u) (by simpa using hu) λh' st' sb=>?_;have I1:Inv X pins σ H { s with heap:=h' }:=I.turned (t':=s.toks) (λb o hb e=>(sb.2 b hb).trans e) f0 f1 f3 f4 f5;obtain⟨o,e,c,d⟩:=id st'
  exact⟨u,rfl,zN (s:={ s with heap:=h' }) e c d (by decide) ⟨x,H,I1,ru,⟨rfl,λys hy=>by rw [I.list_inj hy hq];exact hx⟩,st',λb hb=>(hf b hb).1⟩⟩
 done:=by
  intro X hP hw hK hc i pins s σ H E I hf st hg;subst hP hw hK;obtain⟨xs,hq,hx⟩:=hg;obtain⟨its,rv,p,hz⟩:=I.list hq;obtain⟨f0,f1,f2,f3,f4,f5⟩:=hf it (by simp);have hl:=rv.length;exact wpAny_pyNext_list_end (I.ok.hd hc) st p.isList (by simp;omega) λh' eb=>⟨rfl,I.turned (t':=s.toks) (λb o hb e=>eb b o hb e) f0 f1 f3 f4 f5⟩
 self:=λ_ _ _ _ _ st h=>wpAny_pyIter_listiter st h
def uo{P:s_}{w:World}{K:a_}{tg:Expr}(a it:Addr):zM P w K tg (Itt K a) [it] it (λi h=>h.IsTupleIter it a i) where
 mem:=by simp
 obj:=λi h st b hb=>by
  have e:b=it:=by simpa using hb
  subst e;obtain⟨o,e,c,d⟩:=st;exact⟨o,e,λv z=>by rw [d] at z;cases z⟩
 keep:=λi h h' st k=>st.at λo e=>k it (by simp) o e
 item:=by
  intro X hP hw hK hc i pins s σ H E I hf st hg;subst hP hw hK;obtain⟨xs,x,hq,hx⟩:=hg;obtain⟨its,rv,p,hz⟩:=I.tuple hq;obtain⟨u,hu,ru⟩:=rv.get hx;obtain⟨f0,f1,f2,f3,f4,f5⟩:=hf it (by simp);refine wpAny_pyNext_tuple_item st (show s.heap.IsTuple a its.toArray from p) (x:=u) (by simpa using hu) λh' st' sb=>?_;have I1:Inv X pins σ H { s with heap:=h' }:=I.turned (t':=s.toks) (λb o hb e=>(sb.2 b hb).trans e) f0 f1 f3 f4 f5
  obtain⟨o,e,c,d⟩:=id st';exact⟨u,rfl,zN (s:={ s with heap:=h' }) e c d (by decide) ⟨x,H,I1,ru,⟨rfl,λys hy=>by rw [I.tuple_inj hy hq];exact hx⟩,st',λb hb=>(hf b hb).1⟩⟩
 done:=by
  intro X hP hw hK hc i pins s σ H E I hf st hg;subst hP hw hK;obtain⟨xs,hq,hx⟩:=hg;obtain⟨its,rv,p,hz⟩:=I.tuple hq;obtain⟨f0,f1,f2,f3,f4,f5⟩:=hf it (by simp);have hl:=rv.length;exact wpAny_pyNext_tuple_end (I.ok.hd hc) st (show s.heap.IsTuple a its.toArray from p) (by simp;omega) λh' eb=>⟨rfl,I.turned (t':=s.toks) (λb o hb e=>eb b o hb e) f0 f1 f3 f4 f5⟩
 self:=λ_ _ _ _ _ st h=>wpAny_pyIter_tupleiter st h
def uq{P:s_}{w:World}{K:a_}{tg:Expr}(it:Addr)(lo:Int)(n:Nat):zM P w K tg (Itr lo n) [it] it (λi h=>IsRangeIter h it (lo+(i:Nat)*1) ((n:Int) - (i:Nat)) 1) where
 mem:=by simp
 obj:=λi h st b hb=>by
  have e:b=it:=by simpa using hb
  subst e
  exact⟨_,st,λv z=>by
   have z':Data.fields _=Data.cell v:=z;cases z'⟩
 keep:=λi h h' st k=>k it (by simp) _ st
 item:=by
  intro X hP hw hK hc i pins s σ H E I hf st hg;subst hP hw hK;obtain⟨f0,f1,f2,f3,f4,f5⟩:=hf it (by simp);have W:=Walks.range (prog:=X.prog) (w:=X.w) (I.ok.hd hc) it lo 1 n;refine W.item i s _ _ hg st λv h' tk hv st' kk=>?_;obtain⟨t,rfl⟩:=hv;have I1:Inv X pins σ H { s with heap:=h',toks:=tk }:=I.turned (λb o hb e=>kk b o (by simpa using hb) e) f0 f1 f3 f4 f5;refine⟨_,rfl,zN (s:={ s with heap:=h',toks:=tk }) (n:="range_iterator") st' rfl rfl (by decide) ⟨.int (lo+i),H,I1,⟨t,?_⟩,⟨rfl,rfl⟩,st',λb hb=>(hf b hb).1⟩⟩
  rw [Int.mul_one]
 done:=by
  intro X hP hw hK hc i pins s σ H E I hf st hg;subst hP hw hK;obtain⟨f0,f1,f2,f3,f4,f5⟩:=hf it (by simp);exact wpAny_pyNext_range_end (I.ok.hd hc) st (by have:n<=i:=hg;omega) λh' eb=>⟨rfl,I.turned (t':=s.toks) (λb o hb e=>eb b o hb e) f0 f1 f3 f4 f5⟩
 self:=λ_ _ _ _ _ st h=>wpAny_pyIter_rangeiter st h
section
variable {X:Cx}{tg:Expr}
def xI{pins:List (Addr×Obj)}{σ:St}{H:Hp}{s:c_}{R:It->Hp->Prop}{E:Value->c_->Prop}{lo hi:Int}{t u v:Tok}{tk:Nat}(I:Inv X pins σ H s)(h1:-(2^62)<=lo)(h2:lo<2^62)(h3:-(2^62)<=hi)(h4:hi<2^62)
  (q:R (Itr lo (hi - lo).toNat) H):wpAny (model X.prog X.w) X.A (pyIter (.ref s.heap.objs.size)) (PIE X pins σ tg R) E { s with heap:=s.heap.push { cls:=.type "range",data:=.fields #[.int lo t,.int hi u,.int 1 v] },toks:=tk }:=by
 refine wpAny_pyIter_range (IsRange.new ..) (small_one h1 h2 h3 h4) ?_;have I1:Inv X pins σ H { s with heap:=s.heap.push { cls:=.type "range",data:=.fields #[.int lo t,.int hi u,.int 1 v] },toks:=tk }:=I.kept λb o e=>d_ _ e
 refine⟨(s.heap.push { cls:=.type "range",data:=.fields #[.int lo t,.int hi u,.int 1 v] }).objs.size,[(s.heap.push { cls:=.type "range",data:=.fields #[.int lo t,.int hi u,.int 1 v] }).objs.size],_,_,H,rfl,
  I1.kept (t':=tk) λb o e=>d_ _ e,uq _ lo (hi - lo).toNat,?_,λb hb=>?_,q⟩
 .have e1:lo+((0:Nat):Int)*1=lo:=by simp
  have e2:(((hi - lo).toNat:Nat):Int) - ((0:Nat):Int)=Ig lo hi 1:=by rw [rangeSize_one];split <;> omega
  show IsRangeIter _ _ (lo+((0:Nat):Int)*1) ((((hi - lo).toNat:Nat):Int) - ((0:Nat):Int)) 1;rw [e1,e2];exact j_ _ rfl
 .have e:b=(s.heap.push { cls:=.type "range",data:=.fields #[.int lo t,.int hi u,.int 1 v] }).objs.size:=by simpa using hb
  subst e;exact I1.fpOk (o_ _) (I1.hok.fresh (o_ _))
noncomputable def rE(ta:TA):TI:=λσ H R=>ta σ H λvs H1=>∃j:Int,vs=[.int j]/\-(2^62)<=j/\j<2^62/\R (Itr 0 j.toNat) H1
def bh{a:Expr}{ta:TA}{p pos:Pos}(hg:Gl X "range")(hm:X.mg "range"=none)(ha:PA X [a] ta)(hs:starEach [a] X.env=[(false,eval a X.env)]:=by rfl):PI X tg (.Call (.Name "range" p) [a] [] pos) (rE ta):=by
 intro pins s σ H R I h;refine Call_ (kS I hg hm boot_range (GY (thn (ha pos pins s σ H _ I h) λus s1 ⟨vs,H1,I1,r1,q1⟩=>?_) hs rfl));obtain⟨j,e,q1,q2,q⟩:=q1;subst e
 cases r1 with
 | cons r rr =>
  cases rr;obtain⟨t,rfl⟩:=r;exact call_range_1 (xI I1 (by omega) (by omega) q1 q2 (by simpa using q))
noncomputable def Fo(wi:TI)(g:TG)(tb:TS):TS:=λD σ H=>wi σ H λJ H1=>∃W:Nat->Nat->St->Hp->Prop,(∃m,W 0 m σ H1)/\∀i m σ H,W i m σ H ->
 (J.stop i H/\D.nx σ H)\/(J.go i H/\∃N:St->Hp->Prop,(∀σ' H',N σ' H'->∃m',m'<m/\W (i+1) m' σ' H')/\∀x H',J.yld i H x H'->g x σ H' λσ2 H2=>tb { D with nx:=N,ct:=N,bk:=D.nx } σ2 H2)
noncomputable def pT(fp:List Addr)(h:Heap):List (Addr×Obj):=fp.filterMap λb=>(h.get? b).map λo=>(b,o)
def g6{fp:List Addr}{h:Heap}{b:Addr}{o:Obj}(hb:b∈fp)(e:h.get? b=some o):(b,o)∈pT fp h:=IG.mpr ⟨b,hb,by rw [e];rfl⟩
def vq{fp:List Addr}{h:Heap}{p:Addr×Obj}(hp:p∈pT fp h):p.1∈fp/\h.get? p.1=some p.2:=by
 obtain⟨b,hb,e⟩:=IG.mp hp
 cases q:h.get? b with
 | none=>rw [q] at e;cases e
 | some o =>
  rw [q] at e;have e':(b,o)=p:=q_ e;subst e';exact⟨hb,q⟩
def Inv.pinned{pins:List (Addr×Obj)}{σ:St}{H:Hp}{s:c_}{fp:List Addr}(I:Inv X pins σ H s)(hf:∀b∈fp,vj X pins H b)(ho:∀b∈fp,∃o,s.heap.get? b=some o/\∀v,o.data≠.cell v):Inv X (pins++pT fp s.heap) σ H s :=
 I.pins_of λp hp=>(HB.mp hp).elim (λz=>I.pin p (C0 _ z)) λz=>by
  obtain⟨hb,e⟩:=vq z;obtain⟨f0,f1,f2,_⟩:=hf p.1 hb;obtain⟨o,e',d⟩:=ho p.1 hb;rw [e] at e';cases e';exact⟨e,f0,f1,f2,d⟩
def Inv.unpinned{pins pl:List (Addr×Obj)}{σ:St}{H:Hp}{s:c_}(I:Inv X (pins++pl) σ H s):Inv X pins σ H s:=I.pins_of λp hp=>I.pin p (C0 _ (HW _ hp))
def cm{iter:Expr}{body:List Stmt}{wi:TI}{g:TG}{tb:TS}{pos:Pos}(hp:PassesOwn (model X.prog X.w) X.A X.env X.xe)(hc:X.calm=true)(hi:PI X tg iter wi)(hg:PG X tg g)(hb:PSs X body tb)
  (hs:∀x,foldedSetIterable iter X.env x=pure x:=by intro _;rfl):PS X (.For tg iter body [] pos) (Fo wi g tb):=by
 intro pins s σ H D I h;refine wpAny_For (thn (hi pins s σ H _ I h) λv s1 h1=>thn h1 λitv s2 h2=>?_) hs;obtain⟨it,fp,tn,J,H2,e,I2,T,st2,f2,W,⟨m0,w0⟩,turn⟩:=h2;subst e
 -- what stays true of the iterator's objects through the loop
 have stat:∀{H':Hp},(∀b∈fp,H' b=none)->∀b∈fp,vj X pins H' b:=λhn b hb=>⟨hn b hb,(f2 b hb).2⟩
 refine codeAny_forLoop_any (λn s'=>∃i σ' H',Inv X pins σ' H' s'/\tn i s'.heap/\(∀b∈fp,H' b=none)/\W i n σ' H') ?_ m0 ⟨0,σ,H2,I2,st2,λb hb=>(f2 b hb).1,w0⟩;rintro n s3 ⟨i,σ3,H3,I3,st3,fr3,w3⟩
 rcases turn i n σ3 H3 w3 with ⟨stop,qn⟩|⟨go,N,hN,step⟩
 .refine Ho hp (thn (T.done X rfl rfl rfl hc i pins s3 σ3 H3 X.xe I3 (stat fr3) st3 stop) λr s4 ⟨hr,I4⟩=>?_);subst hr;exact IQ ⟨σ3,H3,I4,qn⟩
 .refine Ho hp (thn (T.item X rfl rfl rfl hc i pins s3 σ3 H3 X.xe I3 (stat fr3) st3 go) λr s4 ⟨u,hr,h4⟩=>?_);subst hr;refine Ho hp (thn h4 λ_ s5 ⟨x,H5,I5,r5,y5,st5,fr5⟩=>?_);have I5':=I5.pinned (stat fr5) (T.obj _ _ st5);refine Ho hp (thn (hg _ s5 σ3 H5 x u _ I5' r5 (step x H5 y5)) λ_ s6 ⟨σ6,H6,I6,q6⟩=>?_);refine Ho hp (thn (hb _ s6 σ6 H6 _ I6 q6) λf s7 q7=>?_)
  have again:∀{σ7:St}{H7:Hp},Inv X (pins++pT fp s5.heap) σ7 H7 s7->N σ7 H7->∃m,m<n/\∃i σ' H',Inv X pins σ' H' s7/\tn i s7.heap/\(∀b∈fp,H' b=none)/\W i m σ' H':=λ{σ7 H7} I7 n7=>by
   obtain⟨m',hm,w7⟩:=hN σ7 H7 n7;refine⟨m',hm,i+1,σ7,H7,I7.unpinned,T.keep _ _ _ st5 λb hb o e=>(I7.pin (b,o) (C0 _ (C0 _ (g6 hb e)))).1,λb hb=>?_,w7⟩;obtain⟨o,e,d⟩:=T.obj _ _ st5 b hb;exact (I7.pin (b,o) (C0 _ (C0 _ (g6 hb e)))).2.1
  cases f with
  | next=>obtain⟨σ7,H7,I7,n7⟩:=q7;exact again I7 n7
  | cont=>obtain⟨σ7,H7,I7,n7⟩:=q7;exact again I7 n7
  | brk=>obtain⟨σ7,H7,I7,q7⟩:=q7;exact⟨σ7,H7,I7.unpinned,q7⟩
  | ret v=>obtain⟨x7,σ7,H7,I7,r7,q7⟩:=q7;exact⟨x7,σ7,H7,I7.unpinned,r7,q7⟩
end
abbrev R2:=V->V->Hp->VK->Prop
noncomputable def OpR(X:Cx)(f:Value->Value->Sem Value)(r:R2):Prop :=
 ∀(pins:List (Addr×Obj)) (s:c_) (σ:St) (H:Hp) (x y:V) (v u:Value) (Q:VK),Inv X pins σ H s->cY x v->cY y u->r x y H Q ->
  wpAny (model X.prog X.w) X.A (f v u) (EP X pins σ Q) X.xe s
noncomputable def UnR(X:Cx)(f:Value->Sem Value)(r:V->Hp->VK->Prop):Prop :=
 ∀(pins:List (Addr×Obj)) (s:c_) (σ:St) (H:Hp) (x:V) (v:Value) (Q:VK),Inv X pins σ H s->cY x v->r x H Q ->
  wpAny (model X.prog X.w) X.A (f v) (EP X pins σ Q) X.xe s
noncomputable def bI(X:Cx)(f:Value)(r:List V->Hp->VK->Prop):Prop :=
 ∀(pins:List (Addr×Obj)) (s:c_) (σ:St) (H:Hp) (xs:List V) (us:List Value) (Q:VK),Inv X pins σ H s->bJ xs us->r xs H Q ->
  wpAny (model X.prog X.w) X.A (call f us) (EP X pins σ Q) X.xe s
noncomputable def Gd(X:Cx)(r:V->Hp->(Bool->Hp->Prop)->Prop):Prop :=
 ∀(pins:List (Addr×Obj)) (s:c_) (σ:St) (H:Hp) (x:V) (v:Value) (Q:Bool->Hp->Prop),Inv X pins σ H s->cY x v->r x H Q ->
  wpAny (model X.prog X.w) X.A (truthy v) (TP X pins σ Q) X.xe s
noncomputable def tOp(r:R2)(ta tb:TE):TE:=λσ H Q=>ta σ H λx H1=>tb σ H1 λy H2=>r x y H2 Q
noncomputable def tUn(r:V->Hp->VK->Prop)(ta:TE):TE:=λσ H Q=>ta σ H λx H1=>r x H1 Q
noncomputable def rI(C:Int->Int->Prop)(g:Int->Int->V):R2:=λx y H Q=>∃i j,x=.int i/\y=.int j/\C i j/\Q (g i j) H
noncomputable def rI0(g:Int->Int->V):R2:=λx y H Q=>∃i j,x=.int i/\y=.int j/\Q (g i j) H
noncomputable def rU(g:Int->V):V->Hp->VK->Prop:=λx H Q=>∃i,x=.int i/\Q (g i) H
section
variable {X:Cx}{a b c:Expr}{ta tb tc:TE}{pos:Pos}
def Ed(ha:PE X a ta)(hb:PE X b tb){pins:List (Addr×Obj)}{s:c_}{σ:St}{H:Hp}{R:V->V->Hp->Prop}(I:Inv X pins σ H s)
  (h:ta σ H λx H1=>tb σ H1 λy H2=>R x y H2) {Q:Value->c_->Prop}{f:Value->Value->Sem Value}
  (hf:∀v u s2 x y H2,Inv X pins σ H2 s2->cY x v->cY y u->R x y H2->wpAny (model X.prog X.w) X.A (f v u) Q X.xe s2) :
  wpAny (model X.prog X.w) X.A (eval a X.env) (λv s₁=>wpAny (model X.prog X.w) X.A (eval b X.env) (λu s₂=>wpAny (model X.prog X.w) X.A (f v u) Q X.xe s₂) X.xe s₁) X.xe s:=by
 refine thn (ha pins s σ H _ I h) λv s1 ⟨x,H1,I1,r1,q1⟩=>?_;refine thn (hb pins s1 σ H1 _ I1 q1) λu s2 ⟨y,H2,I2,r2,q2⟩=>?_;exact hf v u s2 x y H2 I2 r1 r2 q2
def aP{op:Operator}{r:R2}(ho:OpR X (binaryOp op) r)(ha:PE X a ta)(hb:PE X b tb):PE X (.BinOp a op b pos) (tOp r ta tb):=by
 intro pins s σ H Q I h;exact wpAny_BinOp (Ed ha hb I h λv u s2 x y H2 I2 rx ry q=>ho pins s2 σ H2 x y v u Q I2 rx ry q)
def zO{op:UnaryOp}{r:V->Hp->VK->Prop}(ho:UnR X (unaryOp op) r)(ha:PE X a ta):PE X (.UnaryOp op a pos) (tUn r ta):=by
 intro pins s σ H Q I h;exact UnaryOp_ (thn (ha pins s σ H _ I h) λv s1 ⟨x,H1,I1,r1,q1⟩=>ho pins s1 σ H1 x v Q I1 r1 q1)
def opI{f:Value->Value->Sem Value}{C:Int->Int->Prop}{g:Int->Int->Int}
  (rule:∀(i j:Int) (t u:Tok) (s:c_) (Q:Value->c_->Prop) (E:Value->c_->Prop),C i j->Q (.int (g i j) s.toks) { s with toks:=s.toks+1 }->wpAny (model X.prog X.w) X.A (f (.int i t) (.int j u)) Q E s) :
  OpR X f (rI C λi j=>.int (g i j)):=by
 intro pins s σ H x y v u Q I rx ry h;obtain⟨i,j,rfl,rfl,hc,q⟩:=h;obtain⟨t,rfl⟩:=rx;obtain⟨t',rfl⟩:=ry;exact rule i j t t' s _ _ hc ⟨.int (g i j),H,I.tok _,⟨_,rfl⟩,q⟩
def Fp{f:Value->Value->Sem Value}{g:Int->Int->Int}
  (rule:∀(i j:Int) (t u:Tok) (s:c_) (Q:Value->c_->Prop) (E:Value->c_->Prop),Q (.int (g i j) s.toks) { s with toks:=s.toks+1 }->wpAny (model X.prog X.w) X.A (f (.int i t) (.int j u)) Q E s) :
  OpR X f (rI0 λi j=>.int (g i j)):=by
 intro pins s σ H x y v u Q I rx ry h;obtain⟨i,j,rfl,rfl,q⟩:=h;obtain⟨t,rfl⟩:=rx;obtain⟨t',rfl⟩:=ry;exact rule i j t t' s _ _ ⟨.int (g i j),H,I.tok _,⟨_,rfl⟩,q⟩
def By{f:Value->Value->Sem Value}{g:Int->Int->Bool}
  (rule:∀(i j:Int) (t u:Tok) (s:c_) (Q:Value->c_->Prop) (E:Value->c_->Prop),Q (.bool (g i j)) s->wpAny (model X.prog X.w) X.A (f (.int i t) (.int j u)) Q E s) :
  OpR X f (rI0 λi j=>.bl (g i j)):=by
 intro pins s σ H x y v u Q I rx ry h;obtain⟨i,j,rfl,rfl,q⟩:=h;obtain⟨t,rfl⟩:=rx;obtain⟨t',rfl⟩:=ry;exact rule i j t t' s _ _ ⟨.bl (g i j),H,I,rfl,q⟩
noncomputable def Ee(i j:Int):Prop:=0<j/\j<1073741824
noncomputable def yH(i j:Int):Prop:=(-(2^64)<i/\i<2^64)\/(-(2^64)<j/\j<2^64)
def yH.ok{i j:Int}(h:yH i j):IntMulOk i j:=by
 rcases h with ⟨h1,h2⟩|⟨h1,h2⟩
 .exact .of_left (intBits_le_64 h1 h2)
 .exact .of_right (intBits_le_64 h1 h2)
def B7:OpR X (binaryOp .Add) (rI0 λi j=>.int (i+j)):=Fp λ_ _ _ _ _ _ _ q=>add_int q
def B8:OpR X (binaryOp .Sub) (rI0 λi j=>.int (i - j)):=Fp λ_ _ _ _ _ _ _ q=>sub_int q
def B9:OpR X (binaryOp .Mult) (rI yH λi j=>.int (i*j)):=opI λ_ _ _ _ _ _ _ hc q=>mul_int q hc.ok
def zP:OpR X (binaryOp .FloorDiv) (rI Ee λi j=>.int (i / j)):=opI λi j _ _ _ _ _ hc q=>by
 have h1:(0:Int)<j:=hc.1;have h2:j<1073741824:=hc.2;exact floordiv_int (by omega) (by rw [fdiv_eq_ediv_of_nonneg i (by omega)];exact q) (.inl (JF (by omega)))
def Ca:OpR X (binaryOp .Mod) (rI (λ_ j=>0<j) λi j=>.int (i % j)):=opI λi j _ _ _ _ _ hc q=>by
 have h1:(0:Int)<j:=hc;exact mod_int' (by omega) (by rw [fmod_eq_emod_of_nonneg i (by omega)];exact q)
def unI{f:Value->Sem Value}{g:Int->Int}
  (rule:∀(i:Int) (t:Tok) (s:c_) (Q:Value->c_->Prop) (E:Value->c_->Prop),Q (.int (g i) s.toks) { s with toks:=s.toks+1 }->wpAny (model X.prog X.w) X.A (f (.int i t)) Q E s) :
  UnR X f (rU λi=>.int (g i)):=by
 intro pins s σ H x v Q I rx h;obtain⟨i,rfl,q⟩:=h;obtain⟨t,rfl⟩:=rx;exact rule i t s _ _ ⟨.int (g i),H,I.tok _,⟨_,rfl⟩,q⟩
def vt:UnR X (unaryOp .USub) (rU λi=>.int (-i)):=unI λ_ _ _ _ _ q=>neg_int q
end
noncomputable def Fq:V->V->Bool
 | .non,.non=>true|.non,.int _=>true|.int _,.non=>true|.non,.bl _=>true|.bl _,.non=>true|.non,.str _=>true|.str _,.non=>true
 | .int _,.int _=>true|.bl _,.bl _=>true|.str _,.str _=>true|.byt _,.byt _=>true
 | .int _,.str _=>true|.str _,.int _=>true|.bl _,.str _=>true|.str _,.bl _=>true
 | _,_=>false
noncomputable def rEq:R2:=λx y H Q=>Fq x y=true/\Q (.bl (decide (x=y))) H
noncomputable def rNe:R2:=λx y H Q=>Fq x y=true/\Q (.bl (!decide (x=y))) H
def vv{i j:Int}:decide (V.int i=V.int j)=(i == j):=by
 rw [HX];simp
def yI{i j:Bool}:decide (V.bl i=V.bl j)=(i == j):=by
 rw [HX];simp
def vw{i j:Str}:decide (V.str i=V.str j)=(i == j):=by
 rw [HX];simp
def vx{i j:Array UInt8}:decide (V.byt i=V.byt j)=(i.toList == j.toList):=by
 rw [HX];cases i;cases j;simp
section
variable {X:Cx}{a b c:Expr}{ta tb tc:TE}{pos:Pos}
def bo{pins:List (Addr×Obj)}{σ:St}{H:Hp}{s:c_}{Q:VK}{k k':Bool}(I:Inv X pins σ H s)(q:Q (.bl k) H)(e:k=k'):EP X pins σ Q (.bool k') s:=by
 subst e;exact⟨.bl k,H,I,rfl,q⟩
def Ef:OpR X (compareOp .Eq) rEq:=by
 intro pins s σ H x y v u Q I rx ry h;obtain⟨hs,q⟩:=h
 cases x with
 | non =>
  cases rx
  cases y with
  | non=>cases ry;exact PySem.EqNone.eq_none_none (bo I q (by simp))
  | bl j=>cases ry;exact PySem.EqNone.eq_none_bool (bo I q (by simp))
  | int j=>obtain⟨t',rfl⟩:=ry;exact PySem.EqNone.eq_none_int (bo I q (by simp))
  | str j=>obtain⟨t',rfl⟩:=ry;exact PySem.EqNone.eq_none_str (bo I q (by simp))
  | _=>exact absurd (show false=true from hs) k_
 | bl i =>
  cases rx
  cases y with
  | non=>cases ry;exact PySem.EqNone.eq_bool_none (bo I q (by simp))
  | bl j=>cases ry;exact eq_bool (bo I q yI)
  | str j=>obtain⟨t',rfl⟩:=ry;exact PySem.EqMixed.eq_bool_str (bo I q (by simp))
  | _=>exact absurd (show false=true from hs) k_
 | int i =>
  obtain⟨t,rfl⟩:=rx
  cases y with
  | non=>cases ry;exact PySem.EqNone.eq_int_none (bo I q (by simp))
  | int j=>obtain⟨t',rfl⟩:=ry;exact eq_int (bo I q vv)
  | str j=>obtain⟨t',rfl⟩:=ry;exact PySem.EqMixed.eq_int_str (bo I q (by simp))
  | _=>exact absurd (show false=true from hs) k_
 | str i =>
  obtain⟨t,rfl⟩:=rx
  cases y with
  | non=>cases ry;exact PySem.EqNone.eq_str_none (bo I q (by simp))
  | bl j=>cases ry;exact PySem.EqMixed.eq_str_bool (bo I q (by simp))
  | int j=>obtain⟨t',rfl⟩:=ry;exact PySem.EqMixed.eq_str_int (bo I q (by simp))
  | str j=>obtain⟨t',rfl⟩:=ry;exact eq_str (bo I q vw)
  | _=>exact absurd (show false=true from hs) k_
 | byt i =>
  obtain⟨t,rfl⟩:=rx
  cases y with
  | byt j=>obtain⟨t',rfl⟩:=ry;exact PySem.W.eq_bytes (bo I q vx)
  | _=>exact absurd (show false=true from hs) k_
 | _=>cases y <;> exact absurd (show false=true from hs) k_
def Eg:OpR X (compareOp .NotEq) rNe:=by
 intro pins s σ H x y v u Q I rx ry h;obtain⟨hs,q⟩:=h
 cases x with
 | non =>
  cases rx
  cases y with
  | non=>cases ry;exact PySem.EqNone.ne_none_none (bo I q (by simp))
  | bl j=>cases ry;exact PySem.EqNone.ne_none_bool (bo I q (by simp))
  | int j=>obtain⟨t',rfl⟩:=ry;exact PySem.EqNone.ne_none_int (bo I q (by simp))
  | str j=>obtain⟨t',rfl⟩:=ry;exact PySem.EqNone.ne_none_str (bo I q (by simp))
  | _=>exact absurd (show false=true from hs) k_
 | bl i =>
  cases rx
  cases y with
  | non=>cases ry;exact PySem.EqNone.ne_bool_none (bo I q (by simp))
  | bl j=>cases ry;exact ne_bool (bo I q (congrArg not yI))
  | str j=>obtain⟨t',rfl⟩:=ry;exact PySem.EqMixed.ne_bool_str (bo I q (by simp))
  | _=>exact absurd (show false=true from hs) k_
 | int i =>
  obtain⟨t,rfl⟩:=rx
  cases y with
  | non=>cases ry;exact PySem.EqNone.ne_int_none (bo I q (by simp))
  | int j=>obtain⟨t',rfl⟩:=ry;exact ne_int (bo I q (congrArg not vv))
  | str j=>obtain⟨t',rfl⟩:=ry;exact PySem.EqMixed.ne_int_str (bo I q (by simp))
  | _=>exact absurd (show false=true from hs) k_
 | str i =>
  obtain⟨t,rfl⟩:=rx
  cases y with
  | non=>cases ry;exact PySem.EqNone.ne_str_none (bo I q (by simp))
  | bl j=>cases ry;exact PySem.EqMixed.ne_str_bool (bo I q (by simp))
  | int j=>obtain⟨t',rfl⟩:=ry;exact PySem.EqMixed.ne_str_int (bo I q (by simp))
  | str j=>obtain⟨t',rfl⟩:=ry;exact ne_str (bo I q (congrArg not vw))
  | _=>exact absurd (show false=true from hs) k_
 | byt i =>
  obtain⟨t,rfl⟩:=rx
  cases y with
  | byt j=>obtain⟨t',rfl⟩:=ry;exact PySem.W.ne_bytes (bo I q (congrArg not vx))
  | _=>exact absurd (show false=true from hs) k_
 | _=>cases y <;> exact absurd (show false=true from hs) k_
def Eh:OpR X (compareOp .Lt) (rI0 λi j=>.bl (decide (i<j))):=By λ_ _ _ _ _ _ _ q=>lt_int q
def Ei:OpR X (compareOp .LtE) (rI0 λi j=>.bl (decide (i<=j))):=By λ_ _ _ _ _ _ _ q=>le_int q
def Ej:OpR X (compareOp .Gt) (rI0 λi j=>.bl (decide (j<i))):=By λ_ _ _ _ _ _ _ q=>gt_int q
def Ek:OpR X (compareOp .GtE) (rI0 λi j=>.bl (decide (j<=i))):=By λ_ _ _ _ _ _ _ q=>ge_int q
def vy:OpR X (compareOp .Lt) (λx y H Q=>∃i j,x=.str i/\y=.str j/\Q (.bl (decide (i.cps.toList<j.cps.toList))) H):=by
 intro pins s σ H x y v u Q I rx ry h;obtain⟨i,j,rfl,rfl,q⟩:=h;obtain⟨t,rfl⟩:=rx;obtain⟨t',rfl⟩:=ry;exact lt_str (bo I q rfl)
def Cb:OpR X (compareOp .Is) (λx y H Q=>y=.non/\Q (.bl (decide (x=.non))) H):=by
 intro pins s σ H x y v u Q I rx ry h;obtain⟨rfl,q⟩:=h;cases ry;refine is_none_gen (bo I q ?_)
 cases x <;> first
  | (cases rx;rfl)
  | (obtain ⟨t,rfl⟩:=rx;rfl)
def OpR.or{f:Value->Value->Sem Value}{r r':R2}(h:OpR X f r)(h':OpR X f r'):OpR X f (λx y H Q=>r x y H Q\/r' x y H Q):=by
 intro pins s σ H x y v u Q I rx ry q
 rcases q with q|q
 .exact h pins s σ H x y v u Q I rx ry q
 .exact h' pins s σ H x y v u Q I rx ry q
def aN(b:Expr){op:CmpOp}(h:op≠.In:=by decide)(h2:op≠.NotIn:=by decide):behindInMarks op b=false:=by
 have e1:(op == CmpOp.In)=false:=by cases op <;> first|rfl|exact absurd rfl h
 have e2:(op == CmpOp.NotIn)=false:=by cases op <;> first|rfl|exact absurd rfl h2
 cases b <;> simp [behindInMarks,e1,e2]
def cH{op:CmpOp}{r:R2}(ho:OpR X (compareOp op) r)(ha:PE X a ta)(hb:PE X b tb)(hm:behindInMarks op b=false):PE X (.Compare a [op] [b] pos) (tOp r ta tb):=by
 intro pins s σ H Q I h;exact wpAny_Compare1 (Ed ha hb I h λv u s2 x y H2 I2 rx ry q=>ho pins s2 σ H2 x y v u Q I2 rx ry q) hm
noncomputable def ur(t:TE):TT:=λσ H Q=>t σ H λx H'=>∃k,x=.bl k/\Q k H'
def aE{op:CmpOp}{r:R2}(ho:OpR X (compareOp op) r)(ha:PE X a ta)(hb:PE X b tb)(hm:behindInMarks op b=false):PT X (.Compare a [op] [b] pos) (ur (tOp r ta tb)):=by
 intro pins s σ H Q I h
 refine wpAny_isTrue_Compare1 (thn (ha pins s σ H _ I h) λv s1 ⟨x,H1,I1,r1,q1⟩=>thn (hb pins s1 σ H1 _ I1 q1) λu s2 ⟨y,H2,I2,r2,q2⟩ =>
  thn (ho pins s2 σ H2 x y v u _ I2 r1 r2 q2) λc s3 ⟨z,H3,I3,r3,k,e,q3⟩=>?_) hm
 subst e;cases r3;exact D_ ⟨H3,I3,q3⟩
noncomputable def tq(r r':R2)(ta tb tc:TE):TE:=λσ H Q=>ta σ H λx H1=>tb σ H1 λy H2=>r x y H2 λz H3=>∃k,z=.bl k /\
 (if k=true then tc σ H3 λw' H4=>r' y w' H4 Q else Q (.bl false) H3)
def tu{op op':CmpOp}{r r':R2}(ho:OpR X (compareOp op) r)(ho':OpR X (compareOp op') r')(ha:PE X a ta)(hb:PE X b tb)(hc:PE X c tc)
  (hm:lastMarks [op,op'] [b,c]=false:=by with_unfolding_all rfl):PE X (.Compare a [op,op'] [b,c] pos) (tq r r' ta tb tc):=by
 intro pins s σ H Q I h
 refine Compare_chain (thn (ha pins s σ H _ I h) λv s1 ⟨x,H1,I1,r1,q1⟩=>chain_link (thn (hb pins s1 σ H1 _ I1 q1) λu s2 ⟨y,H2,I2,r2,q2⟩ =>
  thn (ho pins s2 σ H2 x y v u _ I2 r1 r2 q2) λd s3 ⟨z,H3,I3,r3,k,e,q3⟩=>?_)) hm
 subst e;cases r3;refine D_ ?_
 cases k with
 | false=>exact ite_ff ⟨.bl false,H3,I3,rfl,q3⟩
 | true=>exact ite_tt (chain_last (thn (hc pins s3 σ H3 _ I3 q3) λw' s4 ⟨z',H4,I4,r4,q4⟩=>ho' pins s4 σ H4 y z' u w' Q I4 r2 r4 q4))
def xJ{op op':CmpOp}{r r':R2}(ho:OpR X (compareOp op) r)(ho':OpR X (compareOp op') r')(ha:PE X a ta)(hb:PE X b tb)(hc:PE X c tc)
  (hm:lastMarks [op,op'] [b,c]=false:=by with_unfolding_all rfl):PT X (.Compare a [op,op'] [b,c] pos) (ur (tq r r' ta tb tc)):=by
 intro pins s σ H Q I h
 refine isTrue_chain (thn (ha pins s σ H _ I h) λv s1 ⟨x,H1,I1,r1,q1⟩=>test_link (thn (hb pins s1 σ H1 _ I1 q1) λu s2 ⟨y,H2,I2,r2,q2⟩ =>
  thn (ho pins s2 σ H2 x y v u _ I2 r1 r2 q2) λd s3 ⟨z,H3,I3,r3,k,e,q3⟩=>?_)) hm
 subst e;cases r3;refine D_ ?_
 cases k with
 | false =>
  obtain⟨k',e',q'⟩:=q3;cases e';exact ite_ff ⟨H3,I3,q'⟩
 | true =>
  refine ite_tt (test_last (thn (hc pins s3 σ H3 _ I3 q3) λw' s4 ⟨z',H4,I4,r4,q4⟩=>thn (ho' pins s4 σ H4 y z' u w' _ I4 r2 r4 q4) λd' s5 ⟨z2,H5,I5,r5,k2,e2,q5⟩=>?_));subst e2;cases r5;exact D_ ⟨H5,I5,q5⟩
noncomputable def D6(K:a_)(x:V)(H:Hp)(k:Bool):Prop :=
 match x with
 | .non=>k=false
 | .bl b=>k=b
 | .int i=>k=(i != 0)
 | .str y=>y.length<=sizeLine/\k=((y.length:Int) != 0)
 | .byt y=>y.size<=sizeLine/\k=((y.size:Int) != 0)
 | .ref p=>(∃xs,SqL K H p xs/\k=!xs.isEmpty)\/(∃xs,SqT K H p xs/\k=!xs.isEmpty)\/∃kvs,H p=some (.dK kvs)/\k=!kvs.isEmpty
 | _=>False
def ut{κ:Type}{kvs:List (κ×V)}{vs:List (κ×Value)}(r:KV kvs vs):(!vs.isEmpty)=!kvs.isEmpty:=by
 cases r <;> rfl
def mU{xs:List V}{its:List Value}(r:bJ xs its):(!its.toArray.isEmpty)=!xs.isEmpty:=by
 cases r <;> simp
def kW:(sizeLine:Nat)<2^63:=by rw [IJ];decide
def yJ:Gd X (λx H Q=>∃k,D6 X.K x H k/\Q k H):=by
 intro pins s σ H x v Q I rx h;obtain⟨k,e,q⟩:=h;have hl:=kW;have hs:sizeLine=16777216:=IJ
 cases x with
 | non =>
  cases rx;have e':k=false:=e;subst e';exact truthy_none ⟨H,I,q⟩
 | bl b =>
  cases rx;have e':k=b:=e;subst e';exact D_ ⟨H,I,q⟩
 | int i =>
  obtain⟨t,rfl⟩:=rx;have e':k=(i != 0):=e;subst e';exact PySem.P.truthy_int ⟨H,I,q⟩
 | str y =>
  obtain⟨t,rfl⟩:=rx;obtain⟨hy,e'⟩:y.length<=sizeLine/\k=((y.length:Int) != 0):=e;subst e';exact PySem.P.truthy_str (by omega) ⟨H,I.tok _,q⟩
 | byt y =>
  obtain⟨t,rfl⟩:=rx;obtain⟨hy,e'⟩:y.size<=sizeLine/\k=((y.size:Int) != 0):=e;subst e';exact PySem.W.truthy_bytes (by omega) ⟨H,I.tok _,q⟩
 | ref p =>
  cases rx;have e':(∃xs,SqL X.K H p xs/\k=!xs.isEmpty)\/(∃xs,SqT X.K H p xs/\k=!xs.isEmpty)\/∃kvs,H p=some (.dK kvs)/\k=!kvs.isEmpty:=e
  rcases e' with ⟨xs,hx,e'⟩|⟨xs,hx,e'⟩|⟨kvs,hx,e'⟩
  .subst e';obtain⟨its,r,pl,hz⟩:=I.list hx;have hlen:=r.length;exact wpAny_truthy_list pl.isList (by simp only [so];omega) ⟨H,I.tok _,by rw [mU r];exact q⟩
  .subst e';obtain⟨its,r,pl,hz⟩:=I.tuple hx;have hlen:=r.length;exact truthy_tuple pl (by simp only [so];omega) ⟨H,I.tok _,by rw [mU r];exact q⟩
  .subst e';obtain⟨hz,hS,vs,r,m⟩:kvs.length<=sizeLine/\(p == sysModules)=false/\∃vs,KV kvs vs/\s.heap.DictOf (nG X.prog X.w) p vs:=I.hok p _ hx;have hlen:kvs.length=vs.length:=Paired.length r;exact wpAny_truthy_dict hS m (by omega) ⟨H,I.tok _,by rw [ut r];exact q⟩
 | _=>exact (show False from e).elim
def xK(ha:PE X a ta)(he:∀whole,isTrue a X.env whole=(do let v <- whole;standAt a.pos;holding [v] (truthy v))) :
  PT X a (λσ H Q=>ta σ H λx H'=>∃k,D6 X.K x H' k/\Q k H'):=by
 intro pins s σ H Q I h;exact isTrue_plain (thn (ha pins s σ H _ I h) λv s1 ⟨x,H1,I1,r1,q1⟩=>yJ pins s1 σ H1 x v Q I1 r1 q1) (he _)
def uu:OpR X (binaryOp .Add) (λx y H Q=>∃i j,x=.str i/\y=.str j/\i.length+j.length<=sizeLine/\Q (.str (i++j)) H):=by
 intro pins s σ H x y v u Q I rx ry h;obtain⟨i,j,rfl,rfl,hz,q⟩:=h;obtain⟨t,rfl⟩:=rx;obtain⟨t',rfl⟩:=ry;exact add_str (λt' tk=>⟨.str (i++j),H,I.tok _,⟨_,rfl⟩,q⟩) hz
def iq{x:V}{us:List Value}(r:bJ [x] us):∃u,us=[u]/\cY x u:=by
 cases r with
 | cons r1 r2=>cases r2;exact⟨_,rfl,r1⟩
def vz{x y:V}{us:List Value}(r:bJ [x,y] us):∃u w',us=[u,w']/\cY x u/\cY y w':=by
 cases r with
 | cons r1 r2 =>
  cases r2 with
  | cons r3 r4=>cases r4;exact⟨_,_,rfl,r1,r3⟩
def xL:bI X (.builtin "abs") (λxs H Q=>∃i,xs=[.int i]/\Q (.int (if i<0 then -i else i)) H):=by
 intro pins s σ H xs us Q I r h;obtain⟨i,rfl,q⟩:=h;obtain⟨u,rfl,t,rfl⟩:=iq r;exact call_abs_int λu tk=>⟨.int (if i<0 then -i else i),H,I.tok _,⟨_,rfl⟩,q⟩
def vA(hc:X.calm=true):bI X (.builtin "max") (λxs H Q=>∃i j,xs=[.int i,.int j]/\Q (.int (if j > i then j else i)) H):=by
 intro pins s σ H xs us Q I r h;obtain⟨i,j,rfl,q⟩:=h;obtain⟨u,w',rfl,⟨t,rfl⟩,⟨t',rfl⟩⟩:=vz r;refine max_two_ints (I.ok.hd hc) λh' tk k=>⟨_,H,I.kept k,?_,q⟩
 by_cases hj:j > i
 .rw [if_pos hj,if_pos hj];exact⟨_,rfl⟩
 .rw [if_neg hj,if_neg hj];exact⟨_,rfl⟩
def vB(hc:X.calm=true):bI X (.builtin "min") (λxs H Q=>∃i j,xs=[.int i,.int j]/\Q (.int (if j<i then j else i)) H):=by
 intro pins s σ H xs us Q I r h;obtain⟨i,j,rfl,q⟩:=h;obtain⟨u,w',rfl,⟨t,rfl⟩,⟨t',rfl⟩⟩:=vz r;refine min_two_ints (I.ok.hd hc) λh' tk k=>⟨_,H,I.kept k,?_,q⟩
 by_cases hj:j<i
 .rw [if_pos hj,if_pos hj];exact⟨_,rfl⟩
 .rw [if_neg hj,if_neg hj];exact⟨_,rfl⟩
end
structure Bz (h:Heap) (x dx C:Addr) (mA:Str->Option Value):Prop where
 obj:h.get? x=some (Hd C dx)
 ns:h.Ns1 dx mA
 ne:dx≠x
def vC{h:Heap}{dx:Addr}{mA:Str->Option Value}(n:h.Ns1 dx mA):∃od,h.get? dx=some od/\∀name,J7 name od=some (mA name):=by
 obtain⟨o,es,ep,ho,hd,hk,_,hm⟩:=n;refine⟨o,ho,λname=>?_⟩;have e:=hm name;unfold nsFind findBy at e;rw [<- Array.find?_toList] at e;unfold J7;rw [hd];dsimp only
 split
 .rename_i y q;rw [q] at e;exact congrArg some e
 .rename_i q;rw [q] at e
  have a:es.toList.any (·.refKey)=false:=by
   rw [any_eq_false];intro y hy;obtain⟨z,t,hkey⟩:=hk y (Array.mem_toList_iff.mp hy);simp [DictEntry.refKey,hkey]
  have a':¬ es.toList.any (·.refKey)=true:=by rw [a];exact k_
  rw [if_neg a'];exact congrArg some e
def Bz.look{h:Heap}{x dx C:Addr}{mA:Str->Option Value}(I:Bz h x dx C mA):∃od,PySem.W.InstAt h x (Hd C dx) C (some od)/\∀name,J7 name od=some (mA name) :=
 let ⟨od,ho,hl⟩:=vC I.ns
 ⟨od,⟨I.obj,rfl,rfl,ho⟩,hl⟩
section
variable {prog:s_}{w:World}{A:z_}{E:Value->c_->Prop}{s:c_}{K:a_}{x dx C f:Addr}{mA:Str->Option Value}{name:Str}{v:Value}
def zQ{expr:Bool}{Q:Value->c_->Prop}(X:K.In s.heap)(I:Bz s.heap x dx C mA)(hg:IC K C name=true)(hh:Iq K C=true)
  (ha:pf K (.ref C) name=some none) (hv:mA name=some v) (hv':PySem.W.handedIn v=true) (h:Q v { s with toks:=s.toks+1 }) :
  wpAny (model prog w) A (getAttr (.ref x) name expr) Q E s:=by
 obtain⟨od,J,hl⟩:=I.look;exact PySem.W.get_value X J (PySem.W.plainGet_of hg).1 (PySem.W.findObj_own hh ha rfl (by rw [hl,hv])) hv' h
def zR{ns:List Str}{Q:Unit->c_->Prop}(X:K.In s.heap)(I:Bz s.heap x dx C mA)
  (hs:pf K (.ref C) "__setattr__"=some (some (.builtin "object.__setattr__"))) (hp:Jk K C=true) (ht:JR K C name=some none) (hh:Iq K C=true)
  (hw:Km mA ns) (hsz:ns.length<=sizeLine)
  (h:∀h',Bz h' x dx C (λy=>if y=name then some v else mA y)->Io dx s.heap h'->Q () { s with heap:=h',toks:=s.toks+2 }) :
  wpAny (model prog w) A (setAttr (.ref x) name v) Q E s:=by
 obtain⟨od,J,hl⟩:=I.look;refine PySem.W.set_plain X J hs (PySem.W.osa_open (s:={ s with toks:=s.toks+1 }) (r:=none) X J hp ht λb=>?_);obtain⟨cd,hc,hd'⟩:=PySem.W.any_some hh;have hx:s.heap.get? x=some ⟨.ref C,some dx,.plain,#[]⟩:=I.obj;refine b_ (gV (b_ (b_ (wpAny_loadPart hx (b_ (PySem.W.Looks.here (s:={ s with toks:=s.toks+1 }) (PySem.W.looks_clsIn X hc) ?_))))))
 rw [hd'];refine gV (a:=some dx) (b_ (gV (b_ ?_)));refine wpAny_nsSet1 (s:={ s with toks:=s.toks+1 }) I.ns λh' hn2 hs2=>?_;obtain⟨oD,esD,epD,hoD,hdD,hcD⟩:=hn2.count (PySem.Within.cons name v hw);refine b_ (wpAny_lookBehind hoD (by rw [hdD];exact pastItsLine_dict (E_ hcD (by rw [length_cons];omega))) ?_);exact gV (h _ ⟨(hs2.2 _ (HA I.ne)).trans I.obj,hn2,I.ne⟩ hs2)
def xM{R:Result->c_->Prop}{vs:List Value}{kw:List (Str×Value)}(X:K.In s.heap)(hm:JS K C=true)
  (hi:pf K (.ref C) "__init__"=some (some (.ref f))) (hf:J8 K (.ref f)=some (.type "function"))
  (h:codeAny (model prog w) (A.under (.builtin "type.__call__" ⟨.ref C::vs,kw⟩)) (.call (.ref f) ⟨.ref (s.heap.objs.size+1)::vs,kw⟩) (PySem.W.InitBack (s.heap.objs.size+1) R)
   { s with heap:=(s.heap.push GO).push (Hd C s.heap.objs.size) }) :
  codeAny (model prog w) A (.call (.ref C) ⟨vs,kw⟩) R s:=by
 obtain⟨hh,g,d,t,os⟩:=s;exact PySem.W.make_core (PySem.W.makes_of X hm) (PySem.W.looks_findIn X hi) (λself=>PySem.W.bind_fn X self hf) (.inl rfl) h
end
noncomputable def mW(f:Str)(v:V):List (Str×V)->List (Str×V)
 | []=>[(f,v)]
 | (g,x)::r=>if g=f then (g,v)::r else (g,x)::mW f v r
theorem kX(f g:Str)(v:V):∀fs:List (Str×V),(mW f v fs).lookup g=if g=f then some v else fs.lookup g
 | []=>by
  show HM g [(f,v)]=_
  by_cases h:g=f
  .have hb:(g == f)=true:=beq_iff_eq.mpr h;simp only [HM,hb,if_pos h]
  .have hb:(g == f)=false:=beq_eq_false_iff_ne.mpr h;simp only [HM,hb,if_neg h]
 | (k,x)::r=>by
  have ih:=kX f g v r;rw [show mW f v ((k,x)::r)=(if k=f then (k,v)::r else (k,x)::mW f v r) from rfl]
  by_cases hk:k=f
  .rw [if_pos hk]
   by_cases h:g=k
   .have hb:(g == k)=true:=beq_iff_eq.mpr h;simp only [HM,hb,if_pos (h.trans hk)]
   .have hb:(g == k)=false:=beq_eq_false_iff_ne.mpr h;simp only [HM,hb,if_neg (λe:g=f=>h (e.trans hk.symm))]
  .rw [if_neg hk]
   by_cases h:g=k
   .have hb:(g == k)=true:=beq_iff_eq.mpr h;simp only [HM,hb,if_neg (λe:g=f=>hk (h.symm.trans e))]
   .have hb:(g == k)=false:=beq_eq_false_iff_ne.mpr h;simp only [HM,hb];exact ih
theorem kY(f:Str)(v:V):∀fs:List (Str×V),f∈(mW f v fs).map (·.1)/\∀g,g∈fs.map (·.1)->g∈(mW f v fs).map (·.1)
 | []=>⟨by simp [mW],λg h=>by simp at h⟩
 | (k,x)::r=>by
  obtain⟨i1,i2⟩:=kY f v r;rw [show mW f v ((k,x)::r)=(if k=f then (k,v)::r else (k,x)::mW f v r) from rfl]
  by_cases hk:k=f
  .rw [if_pos hk];subst hk;exact⟨by simp,λg h=>by simpa using h⟩
  .rw [if_neg hk]
   refine⟨?_,λg h=>?_⟩
   .rw [map_cons];exact m_ _ i1
   .rw [map_cons] at h ⊢
    rcases w_.mp h with e|e
    .exact w_.mpr (.inl e)
    .exact m_ _ (i2 g e)
theorem kZ(f:Str)(v:V):∀fs:List (Str×V),(mW f v fs).length<=fs.length+1
 | []=>by simp [mW]
 | (k,x)::r=>by
  have ih:=kZ f v r;rw [show mW f v ((k,x)::r)=(if k=f then (k,v)::r else (k,x)::mW f v r) from rfl]
  by_cases hk:k=f
  .rw [if_pos hk,length_cons,length_cons];omega
  .rw [if_neg hk,length_cons,length_cons];omega
def zJ.some_of{v:V}{o:Option Value}(r:zJ (some v) o):∃u,o=some u/\cY v u:=by
 cases o with
 | none=>exact (show False from r).elim
 | some u=>exact⟨u,rfl,r⟩
def vD{v:V}{u:Value}(r:cY v u):PySem.W.handedIn u=true:=by
 cases v with
 | non=>cases (show u=Hr from r);rfl
 | bl b=>cases (show u=Hc b from r);rfl
 | int i=>obtain⟨t,e⟩:=(show ∃t,u=Jw i t from r);cases e;rfl
 | str x=>obtain⟨t,e⟩:=(show ∃t,u=IB x t from r);cases e;rfl
 | byt b=>obtain⟨t,e⟩:=(show ∃t,u=Value.bytes b t from r);cases e;rfl
 | flt b=>obtain⟨t,e⟩:=(show ∃t,u=J5 b t from r);cases e;rfl
 | ref a=>cases (show u=u1 a from r);rfl
 | ty n=>cases (show u=HZ n from r);rfl
section
variable {P:s_}{w:World}{H H':Hp}{h h':Heap}{a C dx:Addr}{fs fs':List (Str×V)}
def nK(hok:HOk P w H h)(e:H a=some (.ins C dx fs)):∃mA,Bz h a dx C mA/\(∀f,zJ (fs.lookup f) (mA f))/\Km mA (fs.map (·.1))/\fs.length<=1000/\H dx=some (.own a):=by
 obtain⟨d,z,ne,ob,mA,n,r,q⟩:=(show bZ P w H h a (.ins C dx fs) from hok a _ e)
 exact⟨mA,⟨ob,n,ne⟩,r,q,z,d⟩
end
structure Cls (K:a_) (C:Addr):Prop where
 pg:IC K C Str.empty=true
 hd:Iq K C=true
 po:Jk K C=true
 sa:pf K (.ref C) "__setattr__"=some (some (.builtin "object.__setattr__"))
def Cls.get{K:a_}{C:Addr}(c:Cls K C)(f:Str):IC K C f=true:=c.pg
noncomputable def fQ(K:a_)(C:Addr)(f:Str):Prop:=pf K (.ref C) f=some none
def fQ.taker{K:a_}{C:Addr}{f:Str}(n:fQ K C f):JR K C f=some none:=by
 unfold JR;rw [show pf K (.ref C) f=some none from n];rfl
section
variable {X:Cx}{pins:List (Addr×Obj)}{σ:St}{H:Hp}{s:c_}{a C dx:Addr}{fs:List (Str×V)}{f:Str}{v:V}{A:z_}{E:Value->c_->Prop}
def uv{b:Bool}{Q:Value->c_->Prop}(I:Inv X pins σ H s)(e:H a=some (.ins C dx fs))(c:Cls X.K C)(n:fQ X.K C f)(l:fs.lookup f=some v)
  (h:∀u s',Inv X pins σ H s'->cY v u->Q u s'):wpAny (model X.prog X.w) A (getAttr (.ref a) f b) Q E s:=by
 obtain⟨mA,O,r,_,_,_⟩:=nK I.hok e;obtain⟨u,hu,ru⟩:=zJ.some_of (v:=v) (o:=mA f) (by rw [<- l];exact r f);exact zQ I.kIn O (c.get f) c.hd n hu (vD ru) (h u _ (I.tok _) ru)
def uw{y:V}{u:Value}{Q:Unit->c_->Prop}(I:Inv X pins σ H s)(e:H a=some (.ins C dx fs))(c:Cls X.K C)(n:fQ X.K C f)(hl:fs.length<1000)(ry:cY y u)
  (h:∀s',Inv X pins σ (upd H a (.ins C dx (mW f y fs))) s'->Q () s'):wpAny (model X.prog X.w) A (setAttr (.ref a) f u) Q E s:=by
 obtain⟨mA,O,r,wi,_,ho⟩:=nK I.hok e;have hz:(fs.map (·.1)).length<=sizeLine:=by rw [length_map,IJ];omega
 refine zR I.kIn O c.sa c.po n.taker c.hd wi hz λh' O' sb=>h _ ?_;have hd:∃o,h'.get? dx=some o:=let ⟨o,_,_,e',_⟩:=O'.ns;⟨o,e'⟩
 refine I.write (x:=a) (e:=dx) (by rw [e];exact Hj) (.inr ho) (λb q hb z=>(sb.2 b hb).trans z) hd ?_
 refine⟨by rw [aR O.ne];exact ho,?_,O.ne,O'.obj,_,O'.ns,λg=>?_,λg hg=>?_⟩
 .have:=kZ f y fs;omega
 .show zJ ((mW f y fs).lookup g) (if g=f then some u else mA g);rw [kX]
  by_cases q:g=f
  .rw [if_pos q,if_pos q];exact ry
  .rw [if_neg q,if_neg q];exact r g
 .by_cases q:g=f
  .rw [q];exact (kY f y fs).1
  .refine (kY f y fs).2 g (wi g λz=>hg ?_);show (if g=f then some u else mA g)=none;rw [if_neg q];exact z
def Inv.made(I:Inv X pins σ H s):Inv X pins σ (upd (upd H s.heap.objs.size (.own (s.heap.objs.size+1))) (s.heap.objs.size+1) (.ins C s.heap.objs.size []))
  { s with heap:=(s.heap.push GO).push (Hd C s.heap.objs.size) }:=by
 have e1:(s.heap.push GO).get? s.heap.objs.size=some GO:=j_ s.heap rfl
 have e2:((s.heap.push GO).push (Hd C s.heap.objs.size)).get? (s.heap.objs.size+1)=some (Hd C s.heap.objs.size):=by
  have:=j_ (s.heap.push GO) (o:=Hd C s.heap.objs.size) rfl
  rwa [GG] at this
 have e3:(s.heap.push GO).Ns s.heap.objs.size (λ_=>none):=⟨GO,#[],_,e1,rfl,(λe he=>absurd he (by simp)),λ_=>rfl⟩
 have I1:=I.laid (a:=s.heap.objs.size) (o:=.own (s.heap.objs.size+1)) (h':=s.heap.push GO) (t':=s.toks) (λb u q=>d_ _ q) (o_ _) ⟨_,e1⟩;refine I1.laid (a:=s.heap.objs.size+1) (o:=.ins C s.heap.objs.size []) (t':=s.toks) (λb u q=>d_ _ q) (J9 (GG _ _)) ?_;have ne:s.heap.objs.size≠s.heap.objs.size+1:=GR (JG _)
 refine⟨by rw [aR ne,bd],G4 _,ne,e2,λ_=>none,(Heap.Ns1.of_empty e3).at λo q=>d_ _ q,λ_=>Hj,λy hy=>absurd rfl hy⟩
def zS{prog:s_}{w:World}{env:Env}{e:Expr}{f:Str}{pos:Pos}{s:c_}{Q:Value->c_->Prop}(hb:attributeBase e f env (eval e env)=eval e env)
  (h:wpAny (model prog w) A (eval e env) (λo s₁=>wpAny (model prog w) A (getAttr o f true) Q E s₁) E s):wpAny (model prog w) A (eval (.Attribute e f pos) env) Q E s :=
 Attribute_any_ h (by rw [arm_eval_Attribute,hb])
end
noncomputable def BA(K:a_)(ta:TE)(f:Str):TE:=λσ H Q=>ta σ H λx H1=>∃a C dx fs v,x=.ref a/\H1 a=some (.ins C dx fs)/\Cls K C/\fQ K C f/\fs.lookup f=some v/\Q v H1
noncomputable def Fs(K:a_)(ta tv:TE)(f:Str):TS:=λD σ H=>tv σ H λy H1=>ta σ H1 λx H2=>∃a C dx fs,x=.ref a/\H2 a=some (.ins C dx fs)/\Cls K C/\fQ K C f/\fs.length<1000 /\
 D.nx σ (upd H2 a (.ins C dx (mW f y fs)))
section
variable {X:Cx}{o e value:Expr}{f:Str}{pos pos' tpos:Pos}{ta tv:TE}
def Cc(he:PE X e ta)(hb:attributeBase e f X.env (eval e X.env)=eval e X.env):PE X (.Attribute e f pos) (BA X.K ta f):=by
 intro pins s σ H Q I h;refine zS hb (thn (he pins s σ H _ I h) λu s1 ⟨x,H1,I1,rx,a,C,dx,fs,v,ex,ea,c,n,l,q⟩=>?_);subst ex;obtain rfl:u=u1 a:=rx;exact uv I1 ea c n l λu' s2 I2 ru=>⟨v,H1,I2,ru,q⟩
def tw(ha:PE X o ta)(hv:PE X value tv)(hs:swapsWith value (some (.Attribute o f pos')) pos.line X.env=pure false):PS X (.Assign [.Attribute o f pos'] value pos) (Fs X.K ta tv f):=by
 intro pins s σ H D I h;refine plainObj_wpAny_Assign_Attribute (thn (hv pins s σ H _ I h) λu s1 ⟨y,H1,I1,ry,q⟩=>thn (ha pins s1 σ H1 _ I1 q) λov s2 ⟨x,H2,I2,rx,a,C,dx,fs,ex,ea,c,n,l,q2⟩=>?_) hs;subst ex;obtain rfl:ov=u1 a:=rx;exact uw I2 ea c n l ry λs3 I3=>⟨σ,_,I3,q2⟩
end
section
variable {X:Cx}{pins:List (Addr×Obj)}{σ:St}{H:Hp}{s:c_}{A:z_}{E:Value->c_->Prop}{Q:Value->c_->Prop}{c:Value}{b:Bool}
inductive pR (K:a_) (H:Hp):V->Value->Prop where
 | non:pR K H .non (.type "NoneType")
 | bl (x:Bool):pR K H (.bl x) (.type "bool")
 | int (i:Int):pR K H (.int i) (.type "int")
 | str (x:Str):pR K H (.str x) (.type "str")
 | flt (x:UInt64):pR K H (.flt x) (.type "float")
 | lst {a:Addr}{xs:List V} (e:H a=some (.lst xs)):pR K H (.ref a) (.type "list")
 | frz {a:Addr}{o:Obj}{xs:List V} (e:H a=some (.frz o (.lst xs))):pR K H (.ref a) (.type "list")
 | tup {a:Addr}{xs:List V} (e:H a=some (.tup xs)):pR K H (.ref a) (.type "tuple")
 | dK {a:Addr}{kvs:List (Key×V)} (e:H a=some (.dK kvs)):pR K H (.ref a) (.type "dict")
 | dT {a:Addr}{kvs:List (List Key×V)} (e:H a=some (.dT kvs)):pR K H (.ref a) (.type "dict")
 | ins {a C dx:Addr}{fs:List (Str×V)} (e:H a=some (.ins C dx fs)) (cl:Cls K C) (ha:pf K (.ref C) "__class__"=some (some (.builtin "object.__class__")))
   (hn:PySem.W.specialIn K (.builtin "object.__class__") "__get__"=some (some (.builtin "getset_descriptor.__get__"))) (htk:PySem.W.takesIn K (.builtin "object.__class__")=some true)
   (hm:PySem.W.mroIn K C (.type "object")=some true):pR K H (.ref a) (.ref C)
def vE{x:V}{u t:Value}(I:Inv X pins σ H s)(rx:cY x u)(ty:pR X.K H x t)(e:Hk X.K t c=some b)(h:∀tk,Q (.bool b) { s with toks:=tk }) :
  wpAny (model X.prog X.w) A (call (.builtin "isinstance") [u,c]) Q E s:=by
 cases ty with
 | non=>cases (show u=Hr from rx);exact GL PySem.W.kitx_none I.kIn Hj e (λz=>nomatch z) h
 | bl y=>cases (show u=Hc y from rx);exact GL PySem.W.kitx_bool I.kIn Hj e (λz=>nomatch z) h
 | int i=>obtain⟨t,q⟩:=(show ∃t,u=Jw i t from rx);cases q;exact GL PySem.W.kitx_int I.kIn Hj e (λz=>nomatch z) h
 | str y=>obtain⟨t,q⟩:=(show ∃t,u=IB y t from rx);cases q;exact GL PySem.W.kitx_str I.kIn Hj e (λz=>nomatch z) h
 | flt y=>obtain⟨t,q⟩:=(show ∃t,u=J5 y t from rx);cases q;exact GL PySem.W.kitx_float I.kIn Hj e (λz=>nomatch z) h
 | @lst a xs ea =>
  cases (show u=u1 a from rx);obtain⟨_,_,n,_,h1⟩:=(show bZ X.prog X.w H s.heap a (.lst xs) from I.hok a _ ea)
  exact GL Ir I.kIn ⟨_,h1,rfl⟩ e (λz=>nomatch z) h
 | @frz a ob xs ea =>
  cases (show u=u1 a from rx);obtain⟨_,_,_,n,_,h1⟩:=(show bZ X.prog X.w H s.heap a (.frz ob (.lst xs)) from I.hok a _ ea)
  exact GL Ir I.kIn ⟨_,h1,rfl⟩ e (λz=>nomatch z) h
 | @tup a xs ea =>
  cases (show u=u1 a from rx);obtain⟨_,_,_,p⟩:=(show bZ X.prog X.w H s.heap a (.tup xs) from I.hok a _ ea)
  obtain⟨o,h1,h2,_⟩:=p;exact GL PySem.W.kitx_tuple I.kIn ⟨o,h1,h2⟩ e (λz=>nomatch z) h
 | @dK a kvs ea =>
  cases (show u=u1 a from rx);obtain⟨_,_,vs,_,p⟩:=(show bZ X.prog X.w H s.heap a (.dK kvs) from I.hok a _ ea)
  obtain⟨o,es,ep,h1,h2,_⟩:=p;exact GL Iu I.kIn ⟨o,h1,h2.1⟩ e (λz=>nomatch z) h
 | @dT a kvs ea =>
  cases (show u=u1 a from rx);obtain⟨_,_,xs,_,o,es,ep,h1,h2,_⟩:=(show bZ X.prog X.w H s.heap a (.dT kvs) from I.hok a _ ea)
  exact GL Iu I.kIn ⟨o,h1,h2.1⟩ e (λz=>nomatch z) h
 | @ins a C dx fs ea cl ha hn htk hm =>
  cases (show u=u1 a from rx);obtain⟨mA,O,_⟩:=nK I.hok ea;obtain⟨od,J,_⟩:=O.look;exact GL (PySem.W.kitx_own (cl.get _) cl.hd ha hn htk hm) I.kIn J e (λz=>nomatch z) h
end
structure fh (k:Nat) (A:z_):Prop where
 hd:A.handled=none
 dp:A.depth+3*k+5<recursionLimit
 un:A.units+16*k+200<cLine
def fh.mono{j k:Nat}{A:z_}(r:fh k A)(h:j<=k):fh j A:=⟨r.hd,by have:=r.dp;omega,by have:=r.un;omega⟩
def fh.deeper{k:Nat}{A:z_}(r:fh (k+1) A)(env:Env):fh k (A.deeper env) :=
 ⟨r.hd,by have:=r.dp;show A.depth+1+3*k+5<_;omega,by have:=r.un;show A.units+3+16*k+200<_;omega⟩
def uz{A:z_}{C:Addr}{us:List Value}{kw:List (Str×Value)}:(A.under (.builtin "type.__call__" ⟨.ref C::us,kw⟩)).depth=A.depth+1:=by
 first|rfl|simp [Around.under,Code.weight,Code.isCreation,Code.isGuard,Code.isCaller,Code.frames,Code.isFrame,guardIds]
def uA{A:z_}{C:Addr}{us:List Value}{kw:List (Str×Value)}:(A.under (.builtin "type.__call__" ⟨.ref C::us,kw⟩)).units=A.units+1:=by
 first|rfl|simp [Around.under,Code.cUnits,Code.frames,Code.isFrame]
def fh.make{k:Nat}{A:z_}(r:fh (k+1) A)(C:Addr)(us:List Value)(kw:List (Str×Value)):fh k (A.under (.builtin "type.__call__" ⟨.ref C::us,kw⟩)) :=
 ⟨r.hd,by have:=r.dp;rw [uz];omega,by have:=r.un;rw [uA];omega⟩
def fh.depth{k:Nat}{A:z_}(r:fh k A):A.depth<recursionLimit:=by have:=r.dp;omega
def fh.units{k:Nat}{A:z_}(r:fh k A):A.units+64<cLine:=by have:=r.un;omega
def fi:TA:=λ_ H Q=>Q [] H
noncomputable def ba(ta:TE)(tr:TA):TA:=λσ H Q=>ta σ H λx H1=>tr σ H1 λxs H2=>Q (x::xs) H2
section
variable {X:Cx}{e:Expr}{es:List Expr}{te:TE}{t:TA}{pos:Pos}
def af:PA X [] fi:=λ_ _ _ _ H Q I h=>Calls.spliced_nil ⟨[],H,I,.nil,h⟩
def zT(ha:PE X e te)(hr:PA X es t)(hs:starEach (e::es) X.env=(false,eval e X.env)::starEach es X.env:=by rfl):PA X (e::es) (ba te t):=by
 intro pos pins s σ H Q I h;rw [hs];show wpAny _ _ (spliced ((false,eval e X.env)::backTo pos (starEach es X.env))) _ _ s;refine Calls.spliced_cons (thn (ha pins s σ H _ I h) λu s1 ⟨x,H1,I1,r1,q1⟩=>?_);exact thn (hr pos pins s1 σ H1 _ I1 q1) λus s2 ⟨xs,H2,I2,r2,q2⟩=>⟨x::xs,H2,I2,.cons r1 r2,q2⟩
noncomputable def Cd(t:TA):TE:=λσ H Q=>t σ H λxs H1=>xs.length<=sizeLine/\∀p,H1 p=none->Q (.ref p) (upd H1 p (.tup xs))
noncomputable def Ft(t:TA):TE:=λσ H Q=>t σ H λxs H1=>xs.length<=sizeLine/\∀p,H1 p=none->Q (.ref p) (upd H1 p (.lst xs))
def kg{x1}(h:PA X es t):PE X (.Tuple es x1 pos) (Cd t):=by
 intro pins s σ H Q I hq;refine wpAny_Tuple_spliced (thn (h pos pins s σ H _ I hq) λus s1 ⟨xs,H1,I1,r,z,q⟩=>⟨by rw [<- r.length];exact z,?_⟩);have hf:H1 s1.heap.objs.size=none:=I1.hok.fresh (o_ _);refine⟨.ref s1.heap.objs.size,upd H1 s1.heap.objs.size (.tup xs),I1.laid (t':=s1.toks) (λb u e=>d_ _ e) (o_ _) ?_,rfl,q _ hf⟩;exact⟨z,us,r,⟨_,j_ _ rfl,rfl,_,rfl⟩⟩
def cp(h:PA X es t):PE X (.List es pos) (Ft t):=by
 intro pins s σ H Q I hq;refine wpAny_List_spliced (thn (h pos pins s σ H _ I hq) λus s1 ⟨xs,H1,I1,r,z,q⟩=>⟨by rw [<- r.length];exact z,?_⟩);have hf:H1 s1.heap.objs.size=none:=I1.hok.fresh (o_ _);refine⟨.ref s1.heap.objs.size,upd H1 s1.heap.objs.size (.lst xs),I1.laid (t':=s1.toks) (λb u e=>d_ _ e) (o_ _) ?_,rfl,q _ hf⟩;exact⟨z,us,0,r,j_ _ rfl⟩
end
abbrev Sp:=List V->Hp->VK->XK->Prop
abbrev CXT:=List Env->Hp->c_->XK->Value->c_->Prop
structure zU (P:s_) (w:World) (K:a_) (mg:Str->Option Value) (base:Heap) (A:z_) (outer:List Env) (s:c_) (H:Hp):Prop where
 frames:A.frames=some outer
 mod:Mod K mg base
 bs:∀b o,base.get? b=some o->s.heap.get? b=some o/\H b=none
 bsz:base.objs.size<=s.heap.objs.size
 funs:s.heap.FunFrames base outer
 frf:∀b∈frs outer,H b=none
 hok:HOk P w H s.heap
 bare:Jj s.gens
noncomputable def CE(outer:List Env)(P:s_)(w:World)(H:Hp)(s:c_)(Q:VK)(u:Value)(s':c_):Prop :=
 ∃v H',s'.os=s.os/\Jj s'.gens/\Un (frs outer) [] H H' s.heap s'.heap/\HOk P w H' s'.heap/\cY v u/\Q v H'
noncomputable def CR(CX:CXT)(outer:List Env)(P:s_)(w:World)(H:Hp)(s:c_)(Q:VK)(E:XK)(r:Result)(s':c_):Prop :=
 match r with
 | .ok (.ret u)=>CE outer P w H s Q u s'
 | .ok _=>False
 | .error e=>CX outer H s E e s'
structure pU (P:s_) (w:World) (K:a_) (mg:Str->Option Value) (base:Heap) (CX:CXT) (k:Nat) (f:Addr) (fd:G7) (ps:List Str) (sp:Sp):Prop where
 len:∀vs H Q E,sp vs H Q E->vs.length=ps.length
 run:∀(A:z_) (outer:List Env) (s:c_) (H:Hp) (args:Args) (us:List Value) (vs:List V) (Q:VK) (E:XK),fh k A->zU P w K mg base A outer s H->JH s fd args (ps.zip us)->bJ vs us->sp vs H Q E ->
  codeAny (model P w) A (.call (.ref f) args) (CR CX outer P w H s Q E) s
def pU.imp{P:s_}{w:World}{K:a_}{mg:Str->Option Value}{base:Heap}{CX:CXT}{k:Nat}{f:Addr}{fd:G7}{ps:List Str}{sp sp':Sp}(F:pU P w K mg base CX k f fd ps sp)
  (h:∀vs H Q E,sp' vs H Q E->sp vs H Q E):pU P w K mg base CX k f fd ps sp' :=
 ⟨λvs H Q E q=>F.len vs H Q E (h _ _ _ _ q),λA outer s H args us vs Q E hr he hb hv hs=>F.run A outer s H args us vs Q E hr he hb hv (h _ _ _ _ hs)⟩
def zU.make{P:s_}{w:World}{K:a_}{mg:Str->Option Value}{base:Heap}{A:z_}{outer:List Env}{s:c_}{H:Hp}(e:zU P w K mg base A outer s H)(C:Addr)(us:List Value)(kw:List (Str×Value)) :
  zU P w K mg base (A.under (.builtin "type.__call__" ⟨.ref C::us,kw⟩)) outer s H:=⟨by first|exact e.frames|(simpa [Around.under,Code.envs,Code.isFrame,pushEnvs] using e.frames),e.mod,e.bs,e.bsz,e.funs,e.frf,e.hok,e.bare⟩
section
variable {X:Cx}{pins:List (Addr×Obj)}{σ:St}{H:Hp}{s s':c_}
def Inv.env0(I:Inv X pins σ H s):zU X.prog X.w X.K X.mg X.base X.A X.stack s H :=
 ⟨I.ok.frames,I.ok.mod,I.bs,E_ I.ok.bsz I.sz,I.stack,I.stkFree,I.hok,I.bare⟩
def Inv.after{Q:VK}{u:Value}(I:Inv X pins σ H s)(h:CE X.stack X.prog X.w H s Q u s'):EP X pins σ Q u s':=by
 obtain⟨v,H',os,bare,un,hok,r,q⟩:=h;obtain⟨hh,g,d,t,os'⟩:=s';obtain rfl:os'=s.os:=os;exact⟨v,H',I.call (h':=hh) (g':=g) (d':=d) (t':=t) (ch:=[]) un hok bare (λb z=>absurd z (by simp)),r,q⟩
end
noncomputable def f9(sp:Sp)(dvs:List V)(E:XK)(t:TA):TE:=λσ H Q=>t σ H λvs H1=>sp (vs++dvs) H1 Q E
noncomputable def xN(C:Addr)(sp:Sp)(dvs:List V)(E:XK)(t:TA):TE:=λσ H Q=>t σ H λvs H1=>∀x dx,H1 x=none->H1 dx=none->dx≠x ->
 sp (.ref x::(vs++dvs)) (upd (upd H1 dx (.own x)) x (.ins C dx [])) (λv H2=>v=.non/\Q (.ref x) H2) E
noncomputable def mF(K:a_)(fd:G7)(ps:List Str)(ds:List Value):Prop :=
 ∀(s:c_) (us:List Value),K.In s.heap->(us++ds).length=ps.length->JH s fd ⟨us,[]⟩ (ps.zip (us++ds))
def mF.all{K:a_}{fd:G7}{ps:List Str}(h:∀us:List Value,us.length=ps.length->bindArgs fd ⟨us,[]⟩=pure (ps.zip us)):mF K fd ps []:=λs us _ hl=>by
 rw [append_nil] at hl ⊢;exact .of_eq (h us hl)
noncomputable def pV(CX:CXT)(X:Cx)(E:XK):Prop:=∀(pins:List (Addr×Obj)) (σ:St) (H:Hp) (s:c_) (e:Value) (s':c_),Inv X pins σ H s->CX X.stack H s E e s'->X.xe e s'
section
variable {X:Cx}{CX:CXT}{k:Nat}{f C:Addr}{fd:G7}{ps:List Str}{sp:Sp}{dvs:List V}{ds:List Value}{E:XK}{x m:Str}{p pos apos:Pos}{e o:Expr}{es:List Expr}{ta:TE}{t:TA}
def Ce{pins:List (Addr×Obj)}{σ:St}{H:Hp}{s:c_}{Q:VK}{us:List Value}{vs:List V}(F:pU X.prog X.w X.K X.mg X.base CX k f fd ps sp)(hr:fh k X.A)(hb:mF X.K fd ps ds)(hd:bJ dvs ds)(hx:pV CX X E)
  (I:Inv X pins σ H s) (r:bJ vs us) (h:sp (vs++dvs) H Q E):wpAny (model X.prog X.w) X.A (call (.ref f) us) (EP X pins σ Q) X.xe s:=by
 have r2:bJ (vs++dvs) (us++ds):=r.append hd;have hl:(us++ds).length=ps.length:=by rw [<- r2.length];exact F.len _ _ _ _ h
 refine wpAny_call (JI (F.run X.A X.stack s H ⟨us,[]⟩ (us++ds) (vs++dvs) Q E hr I.env0 (hb s us I.kIn hl) r2 h) λr s' hq=>?_)
 cases r with
 | error e=>exact hx pins σ H s e s' I hq
 | ok fl =>
  cases fl with
  | ret u=>exact I.after hq
  | next=>exact He hq
  | brk=>exact He hq
  | cont=>exact He hq
def vF(F:pU X.prog X.w X.K X.mg X.base CX k f fd ps sp)(hr:fh k X.A)(hg:Gl X x)(hm:X.mg x=some (.ref f))(hk:A_ X.K (.ref f)=true)(hb:mF X.K fd ps ds)(hd:bJ dvs ds)(hx:pV CX X E)
  (ha:PA X (e::es) t) (hdb:(x == ("__debug__":Str))=false:=by decide) (he:starEach (e::es) X.env=(false,eval e X.env)::starEach es X.env:=by rfl) (hpl:(backTo pos (starEach es X.env)).any (·.1)=false:=by rfl) :
  PE X (.Call (.Name x p) (e::es) [] pos) (f9 sp dvs E t):=by
 intro pins s σ H Q I h;refine H_ (rD I hg hm ?_ hdb);refine PySem.W.callWith_K (h₀:=X.base) I.ok.mod.kin hk (thn (ha pos pins s σ H _ I h) λus s1 ⟨vs,H1,I1,r,q⟩=>⟨I1.kIn,?_⟩) he hpl;exact Ce F hr hb hd hx I1 r q
structure Mk (K:a_) (C f:Addr):Prop where
 makes:JS K C=true
 init:pf K (.ref C) "__init__"=some (some (.ref f))
 fn:PySem.W.isFn K (.ref f)=true
 kp:A_ K (.ref C)=true
def xO{pins:List (Addr×Obj)}{σ:St}{H:Hp}{s:c_}{Q:VK}{us:List Value}{vs:List V}(M:Mk X.K C f)(F:pU X.prog X.w X.K X.mg X.base CX k f fd ps sp)(hr:fh (k+1) X.A)(hb:mF X.K fd ps ds)(hd:bJ dvs ds)
  (hx:pV CX X E) (I:Inv X pins σ H s) (r:bJ vs us)
  (h:∀x dx,H x=none->H dx=none->dx≠x->sp (.ref x::(vs++dvs)) (upd (upd H dx (.own x)) x (.ins C dx [])) (λv H2=>v=.non/\Q (.ref x) H2) E) :
  wpAny (model X.prog X.w) X.A (call (.ref C) us) (EP X pins σ Q) X.xe s:=by
 have hq:=h (s.heap.objs.size+1) s.heap.objs.size (I.hok.fresh (le_succ _)) (I.hok.fresh (o_ _)) (GR (JG _));have I2:=Inv.made (C:=C) I;have r2:bJ (V.ref (s.heap.objs.size+1)::(vs++dvs)) (u1 (s.heap.objs.size+1)::(us++ds)):=.cons rfl (r.append hd)
 have hl:(u1 (s.heap.objs.size+1)::us++ds).length=ps.length:=by
  have e:=r2.length;rw [F.len _ _ _ _ hq] at e;exact e.symm
 refine wpAny_call (xM (f:=f) I.kIn M.makes M.init (beq_iff_eq.mp M.fn) (JI (F.run _ X.stack _ _ ⟨u1 (s.heap.objs.size+1)::us,[]⟩ (u1 (s.heap.objs.size+1)::(us++ds)) _ _ E (hr.make C us [])
  (I2.env0.make C us []) (hb _ (u1 (s.heap.objs.size+1)::us) I2.kIn hl) r2 hq) λr s' hq'=>?_))
 cases r with
 | error e=>exact hx pins σ _ _ e s' I2 hq'
 | ok fl =>
  cases fl with
  | ret u =>
   obtain⟨v,H',I3,rv,ev,q3⟩:=I2.after hq';subst ev;exact⟨rv,⟨V.ref (s.heap.objs.size+1),H',I3,rfl,q3⟩⟩
  | next=>exact He hq'
  | brk=>exact He hq'
  | cont=>exact He hq'
def zV(M:Mk X.K C f)(F:pU X.prog X.w X.K X.mg X.base CX k f fd ps sp)(hr:fh (k+1) X.A)(hg:Gl X x)(hm:X.mg x=some (.ref C))(hb:mF X.K fd ps ds)(hd:bJ dvs ds)(hx:pV CX X E)
  (ha:PA X (e::es) t) (hdb:(x == ("__debug__":Str))=false:=by decide) (he:starEach (e::es) X.env=(false,eval e X.env)::starEach es X.env:=by rfl) (hpl:(backTo pos (starEach es X.env)).any (·.1)=false:=by rfl) :
  PE X (.Call (.Name x p) (e::es) [] pos) (xN C sp dvs E t):=by
 intro pins s σ H Q I h;refine H_ (rD I hg hm ?_ hdb);refine PySem.W.callWith_K (h₀:=X.base) I.ok.mod.kin M.kp (thn (ha pos pins s σ H _ I h) λus s1 ⟨vs,H1,I1,r,q⟩=>⟨I1.kIn,?_⟩) he hpl;exact xO M F hr hb hd hx I1 r q
end
structure aA (N P:List Str) (sc:Scope):Prop where
 kind:sc.kind=.function
 co:sc.isCoroutine=false
 gen:sc.isGenerator=false
 nd:N.Nodup
 pre:N.take P.length=P
 par:∀x∈P,sc.names.lookup x=some .local\/sc.names.lookup x=some .cell
 nofree:∀y∈sc.names,y.2≠.free
theorem pW{kindOf:Str->Option GZ}{x:Str}:∀{binds:List (Str×Value)}{m:Str->Option Value},(∀v,(x,v)∉binds)->bindL kindOf binds m x=m x
 | [],_,_=>rfl
 | (n,v)::r,m,h=>by
  unfold bindL;rw [pW λw hw=>h w (m_ _ hw)]
  split
  .have:x≠n:=by rintro rfl;exact h v mem_cons_self
   simp [this]
  .rfl
theorem pX{kindOf:Str->Option GZ}{x:Str}:∀{binds:List (Str×Value)}{m:Str->Option Value},(∀v,(x,v)∉binds)->bindC kindOf binds m x=m x
 | [],_,_=>rfl
 | (n,v)::r,m,h=>by
  unfold bindC;rw [pX λw hw=>h w (m_ _ hw)]
  split
  .rfl
  .have:x≠n:=by rintro rfl;exact h v mem_cons_self
   simp [this]
theorem pY{kindOf:Str->Option GZ}{x:Str}{v:Value}:∀{P:List Str}{vs:List Value}{i:Nat}{m:Str->Option Value},P.Nodup->P[i]?=some x->vs[i]?=some v->kindOf x=some .local ->
  bindL kindOf (P.zip vs) m x=some v
 | [],_,_,_,_,h,_,_=>by simp at h
 | _::_,[],_,_,_,_,h,_=>by simp at h
 | p::P,w::vs,0,m,nd,h1,h2,hk=>by
  simp at h1 h2;subst h1;subst h2;show bindL kindOf ((p,w)::P.zip vs) m p=_;unfold bindL;rw [pW λv hv=>(Ia.mp nd).1 (IZ hv).1,if_pos hk];simp
 | p::P,w::vs,i+1,m,nd,h1,h2,hk=>by
  show bindL kindOf ((p,w)::P.zip vs) m x=_;unfold bindL;exact pY (i:=i) (Ia.mp nd).2 (by simpa using h1) (by simpa using h2) hk
theorem pZ{kindOf:Str->Option GZ}{x:Str}{v:Value}:∀{P:List Str}{vs:List Value}{i:Nat}{m:Str->Option Value},P.Nodup->P[i]?=some x->vs[i]?=some v->kindOf x≠some .local ->
  bindC kindOf (P.zip vs) m x=some v
 | [],_,_,_,_,h,_,_=>by simp at h
 | _::_,[],_,_,_,_,h,_=>by simp at h
 | p::P,w::vs,0,m,nd,h1,h2,hk=>by
  simp at h1 h2;subst h1;subst h2;show bindC kindOf ((p,w)::P.zip vs) m p=_;unfold bindC;rw [pX λv hv=>(Ia.mp nd).1 (IZ hv).1,if_neg hk];simp
 | p::P,w::vs,i+1,m,nd,h1,h2,hk=>by
  show bindC kindOf ((p,w)::P.zip vs) m x=_;unfold bindC;exact pZ (i:=i) (Ia.mp nd).2 (by simpa using h1) (by simpa using h2) hk
noncomputable def start(N:List Str)(vs:List V):St:=vs.map some++f_ (N.length - vs.length) none
noncomputable def uB(CX:CXT)(P:s_)(w:World)(K:a_)(mg:Str->Option Value)(base:Heap)(N:List Str)(qual:Str)(scope:Scope)(f:Addr)(cd:Value)(A:z_)(outer:List Env)(s:c_)(H:Hp)(E:XK):Cx where
 prog:=P
 w:=w
 K:=K
 mg:=mg
 base:=base
 A:=A.deeper (envOfC qual scope s.heap.objs.size f cd)
 N:=N
 s₀:=s
 H₀:=H
 env:=envOfC qual scope s.heap.objs.size f cd
 outer:=outer
 stack:=envOfC qual scope s.heap.objs.size f cd::outer
 ex:=[]
 calm:=true
 fn:=λ_=>true
 pn:=[]
 xe:=λe s'=>wpAny (model P w) (A.deeper (envOfC qual scope s.heap.objs.size f cd)) (leaving (envOfC qual scope s.heap.objs.size f cd) e) (λ_ s''=>CX outer H s E e s'') (λe' s''=>CX outer H s E e' s'') s'
def tz{sc:Scope}{n:Nat}{x:Str}(h:sc.names.lookup x=some .cell):∃c,(cellsFrom n sc.names []).lookup x=some c:=by
 have q:=HC sc.names n [] (.inl h);exact Hs.mp q
def vG{CX:CXT}{P:s_}{w:World}{K:a_}{mg:Str->Option Value}{base:Heap}{N ps:List Str}{qual:Str}{scope:Scope}{f:Addr}{cd:Value}{A:z_}{outer:List Env}{s s1:c_}{H:Hp}{E:XK}{us:List Value}{vs:List V}
  (S:aA N ps scope) (hd:A.handled=none) (e0:zU P w K mg base A outer s H) (hl:vs.length=ps.length) (r:bJ vs us)
  (x:InCallC s s.heap.objs.size (bindL (envOfC qual scope s.heap.objs.size f cd).kindOf (ps.zip us) λ_=>none) (cellsFrom (s.heap.objs.size+1) scope.names []) (bindC (envOfC qual scope s.heap.objs.size f cd).kindOf (ps.zip us) λ_=>none) s1) :
  Inv (uB CX P w K mg base N qual scope f cd A outer s H E) [] (start N vs) H s1:=by
 have hpl:ps.length<=N.length:=by have:=congrArg J_ S.pre;rw [length_take] at this;omega
 obtain⟨h1,tk,rfl,hk⟩:=x.done;have noA:∀b:Addr,b∉(uB CX P w K mg base N qual scope f cd A outer s H E).ex:=λb z=>absurd (show b∈([]:List Addr) from z) (by simp)
 refine⟨⟨e0.mod,S.kind,rfl,rfl,o_ _,λy z c h1 h2=>?_,λy hy=>?_,λy c _ h=>?_,λ_=>hd,Around.frames_deeper e0.frames,.inr ⟨rfl,rfl⟩,λb z=>absurd z (noA b),e0.bs,e0.bsz,λb _ _=>noA b,λb z=>absurd z (noA b),e0.funs,e0.frf⟩,
  rfl,e0.bare,Un.kept hk,⟨_,x.toInCall.ns,λi y v h1 h2 h3=>?_⟩,λy c h=>⟨_,x.cell y c h⟩,e0.hok.fresh (o_ _),λy c h=>?_,λp hp=>absurd (show p∈([]:List (Addr×Obj)) from hp) (by simp),e0.hok.kept hk,?_⟩
 .exact name_of_addr x.apart (Hw h1) (Hw h2)
 .have hy:scope.names.lookup y=some .cell\/scope.names.lookup y=some .free:=hy
  rcases hy with hy|hy
  .exact tz hy
  .exact absurd rfl (S.nofree _ (Hw hy))
 .exact le_of_lt (x.above y c (Hw h))
 .have hi:i<vs.length:=by
   unfold start at h2
   by_cases hi:i<vs.length
   .exact hi
   .rw [G3 (by simpa using hi)] at h2;rw [getElem?_replicate] at h2;split at h2 <;> cases h2
  have ha:vs[i]?=some v:=by
   unfold start at h2;rw [G8 (by simpa using hi),i_] at h2
   cases e:vs[i]? with
   | none=>rw [e] at h2;cases h2
   | some a=>rw [e] at h2;cases h2;rfl
  obtain⟨u,hu,rv⟩:=r.get ha
  have hp:ps[i]?=some y:=by
   rw [<- S.pre,getElem?_take_of_lt (by omega)];exact h1
  have ndP:ps.Nodup:=by rw [<- S.pre];exact S.nd.sublist (take_sublist _ _)
  refine⟨u,rv,?_⟩
  rcases S.par y (GD hp) with k|k
  .exact .inl ⟨k,pY ndP hp hu k⟩
  .obtain⟨c,e⟩:=tz (n:=s.heap.objs.size+1) k;refine .inr ⟨.inl k,c,e,?_⟩;have q:=x.cell y c e;rw [pZ ndP hp hu (by show scope.names.lookup y≠_;rw [k];decide)] at q;exact q
 .exact e0.hok.fresh (le_of_lt (x.above y c (Hw h)))
 .unfold start;show _=N.length;rw [length_append,length_map,length_replicate];omega
def Cf{CX:CXT}{P:s_}{w:World}{K:a_}{mg:Str->Option Value}{base:Heap}{k:Nat}{f:Addr}{name qual:Str}{params:Arguments}{body:List Stmt}{scope:Scope}{dV kV doc pm cdv ct oc:Value}{an od:Option Addr}
  {osl:Array (Option Value)}{N ps:List Str}{sp:Sp} (lk:K.lookup f=some ⟨oc,od,.func (C_ name qual params body scope dV kV doc pm an cdv ct),osl⟩) (hcd:GT K cdv qual=true) (S:aA N ps scope)
  (len:∀vs H Q E,sp vs H Q E->vs.length=ps.length)
  (hbody:∀(A:z_) (outer:List Env) (s:c_) (H:Hp) (vs:List V) (Q:VK) (E:XK),fh k (A.deeper (envOfC qual scope s.heap.objs.size f cdv))->sp vs H Q E ->
   ∃t,PSs (uB CX P w K mg base N qual scope f cdv A outer s H E) body t/\t { nx:=λ_ H'=>Q .non H',rt:=Q } (start N vs) H) :
  pU P w K mg base CX (k+1) f (C_ name qual params body scope dV kV doc pm an cdv ct) ps sp:=by
 refine⟨len,λA outer s H args us vs Q E hr e0 hb r hsp=>?_⟩;have hl:=len _ _ _ _ hsp;have KX:K.In s.heap:=e0.mod.kin.keeps λb o e=>(e0.bs b o e).1;have lim:s.heap.NoLimit:=e0.mod.nolimit.keeps λb o e=>(e0.bs b o e).1
 have hkind:∀y∈ps.zip us,scope.names.lookup y.1=some .local\/(scope.names.lookup y.1=some .cell/\((cellsFrom (s.heap.objs.size+1) scope.names []).lookup y.1).isSome=true):=λ⟨n,v⟩ hy=>by
  rcases S.par n (IZ hy).1 with q|q
  .exact .inl q
  .exact .inr ⟨q,HC _ _ _ (.inl q)⟩
 refine codeAny_call_function hr.depth (KX _ _ lk) rfl S.co S.gen rfl (PySem.W.codeRec_of KX hcd) (hb _ _ _ _ ?_);refine wpAny_newFunctionEnv_cells S.kind hkind λenv he s1 x=>?_;subst he;refine⟨lim.keeps x.toInCall.keep,codeAny_func ?_⟩;obtain⟨t,ht,hq⟩:=hbody A outer s H vs Q E (hr.deeper _) hsp;have I:Inv (uB CX P w K mg base N qual scope f cdv A outer s H E) [] (start N vs) H s1:=vG S hr.hd e0 hl r x
 refine HL (ht [] s1 (start N vs) H _ I hq) (λfl s' hs=>?_) λe s' hs=>hs
 have fin:∀{σ':St}{H':Hp}{v:V}{u:Value},Inv (uB CX P w K mg base N qual scope f cdv A outer s H E) [] σ' H' s'->cY v u->Q v H'->CE outer P w H s Q u s' :=
  λ{σ' H' v u} J rv q=>⟨v,H',J.os,J.bare,J.base,J.hok,rv,q⟩
 cases fl with
 | ret u =>
  obtain⟨v,σ',H',J,rv,q⟩:=hs;exact fin J rv q
 | next =>
  obtain⟨σ',H',J,q⟩:=hs;exact fin (v:=V.non) (u:=Hr) J rfl q
 | brk =>
  obtain⟨_,_,_,q⟩:=hs;exact He q
 | cont =>
  obtain⟨_,_,_,q⟩:=hs;exact He q
section
variable {X:Cx}{x:Str}{p pos:Pos}{e:Expr}{es:List Expr}{t:TA}{id T:String}{r:List V->Hp->VK->Prop}
noncomputable def tCB(r:List V->Hp->VK->Prop)(t:TA):TE:=λσ H Q=>t σ H λvs H1=>r vs H1 Q
def xP(hc:bI X (.builtin id) r)(hg:Gl X x)(hm:X.mg x=none)(hv:bootBuiltins x=some (.builtin id))(ha:PA X (e::es) t)(hn:x≠"__name__":=by decide)(hdb:(x == ("__debug__":Str))=false:=by decide)
  (he:starEach (e::es) X.env=(false,eval e X.env)::starEach es X.env:=by rfl) (hpl:(backTo pos (starEach es X.env)).any (·.1)=false:=by rfl):PE X (.Call (.Name x p) (e::es) [] pos) (tCB r t):=by
 intro pins s σ H Q I h;refine H_ (kS I hg hm hv ?_ hn hdb);exact PyProof.Rows.callWith_builtin1 (thn (ha pos pins s σ H _ I h) λus s1 ⟨vs,H1,I1,r1,q1⟩=>hc pins s1 σ H1 vs us Q I1 r1 q1) he hpl
def vH(hc:bI X (.type T) r)(hg:Gl X x)(hm:X.mg x=none)(hv:bootBuiltins x=some (.type T))(ha:PA X (e::es) t)(hn:x≠"__name__":=by decide)(hdb:(x == ("__debug__":Str))=false:=by decide)
  (he:starEach (e::es) X.env=(false,eval e X.env)::starEach es X.env:=by rfl) (hpl:(backTo pos (starEach es X.env)).any (·.1)=false:=by rfl):PE X (.Call (.Name x p) (e::es) [] pos) (tCB r t):=by
 intro pins s σ H Q I h;refine H_ (kS I hg hm hv ?_ hn hdb);exact GY (thn (ha pos pins s σ H _ I h) λus s1 ⟨vs,H1,I1,r1,q1⟩=>hc pins s1 σ H1 vs us Q I1 r1 q1) he hpl
end
end L2
namespace HT
open PySem PyProof.Rows
section
open PySem.SeqAt
open PySem.AutoSeq1 (wpAny_loadPart')
open PySem.MeetsSeq PySem.MeetsSeq2 PySem.MeetsSeq3
end
section
variable {prog:s_}{w:World}{A:z_}{E:Value->c_->Prop}{s:c_}
def cat_tup{t b:Addr}{vs ws:List Value}{Q:Value->c_->Prop}(ht:IsTup s.heap t vs.toArray)(hb:IsTup s.heap b ws.toArray)(hv:vs≠[])
  (h1:ws=[]->Q (.ref t) s) (h2:ws≠[]->Q (.ref s.heap.objs.size) { s with heap:=s.heap.push { cls:=.type "tuple",data:=.seq (vs++ws).toArray } })
  (hsz:vs.length+ws.length<=sizeLine):wpAny (model prog w) A (binaryOp .Add (.ref t) (.ref b)) Q E s:=by
 obtain⟨⟨cls,dd,data,sl⟩,ho,hc,n,hd⟩:=id ht;obtain⟨⟨cls2,dd2,data2,sl2⟩,ho2,hc2,n2,hd2⟩:=id hb;simp only at hc hd hc2 hd2;subst hc hd hc2 hd2;have e:vs.toArray++ws.toArray=(vs++ws).toArray:=by simp
 by_cases hw:ws=[]
 .exact JJ ⟨_,ho,rfl⟩ ⟨_,ho2,rfl⟩ Jy seq_tuple_add Iv Ih (HS _ _)
   (tuple_addW1 t b vs.toArray ws.toArray n n2 dd dd2 sl sl2 (by simpa using hv) (by simp [hw])) ⟨ho,ho2,h1 hw⟩
 .refine JJ ⟨_,ho,rfl⟩ ⟨_,ho2,rfl⟩ Jy seq_tuple_add Iv Ih (HS _ _)
   (tuple_addW2 t b vs.toArray ws.toArray n n2 dd dd2 sl sl2 (by simpa using hv) (by simpa using hw) (by rw [so,so];exact hsz)) ⟨ho,ho2,?_⟩
  rw [e];exact h2 hw
noncomputable def sIx(n d:Nat):Option Int->Nat
 | none=>d
 | some v=>if v<0 then (v+(n:Int)).toNat else min v.toNat n
def sIx_nat(n d k:Nat):sIx n d (some (k:Int))=min k n:=by
 show (if (k:Int)<0 then ((k:Int)+(n:Int)).toNat else min (k:Int).toNat n)=min k n;rw [if_neg (by omega),toNat_natCast]
def sIx_le(n d:Nat)(hd:d<=n)(o:Option Int):sIx n d o<=n:=by
 cases o with
 | none=>exact hd
 | some v =>
  show (if v<0 then (v+(n:Int)).toNat else min v.toNat n)<=n
  by_cases hv:v<0
  .rw [if_pos hv];omega
  .rw [if_neg hv];exact min_le_right _ _
def clip_eq(v:Int)(n d:Nat):(if v<0 then max (v+(n:Int)) 0 else min v (n:Int))=((sIx n d (some v):Nat):Int):=by
 show (if v<0 then max (v+(n:Int)) 0 else min v (n:Int))=(((if v<0 then (v+(n:Int)).toNat else min v.toNat n):Nat):Int)
 by_cases hv:v<0
 .simp only [if_pos hv];omega
 .simp only [if_neg hv];omega
def uC(lo hi:Option Int)(n:Nat):HQ lo hi 1 (n:Int)=(((sIx n 0 lo:Nat):Int),((sIx n n hi:Nat):Int)):=by
 have h1:¬ ((1:Int)<0):=by omega
 unfold HQ;simp only [h1,if_false]
 refine Prod.ext ?_ ?_
 .cases lo with
  | none=>rfl
  | some v=>exact clip_eq v n 0
 .cases hi with
  | none=>rfl
  | some v=>exact clip_eq v n n
def uD(i j:Nat):Hn (i:Int) (j:Int) 1=j - i:=by
 unfold Hn;have h1:(1:Int) > 0:=by omega
 simp only [h1,if_true,ediv_one];split <;> omega
def mX{v:Value}{o:Option Int}{Q:Option Int->c_->Prop}(p:JK v o)(h:Q o s):wpAny (model prog w) A (Builtin.Slice.slicePartIndex v) Q E s:=by
 cases p with
 | none=>exact slicePart_none h
 | int i t=>exact slicePart_int h
def fR{sl:Addr}{vl vu:Value}{lo hi:Option Int}{n:Nat}{Q:Int×Int×Nat->c_->Prop}(hs:s.heap.IsSliceOf sl vl vu .none)(pl:JK vl lo)(pu:JK vu hi)
  (h:Q (((sIx n 0 lo:Nat):Int),1,sIx n n hi - sIx n 0 lo) s):wpAny (model prog w) A (I0 (.ref sl) (pure (n:Int))) Q E s:=by
 obtain⟨os,hos,hcs,hds⟩:=id hs;unfold I0 Builtin.Slice.sliceFields;refine b_ (b_ (GJ hos hds (x:=vl) rfl (b_ (GJ hos hds (x:=vu) rfl (b_ (GJ hos hds (x:=.none) rfl (gV ?_)))))));refine b_ (slicePart_none ?_);show wpAny _ _ (if ((1:Int) == 0)=true then _ else _) _ _ s;rw [if_neg (by decide)];refine b_ (mX pl (b_ (mX pu (b_ (gV ?_)))))
 show wpAny _ _ (match HQ lo hi 1 (n:Int) with|(lo,hi)=>pure (lo,(1:Int),Hn lo hi 1)) _ _ s;rw [uC lo hi n];show wpAny _ _ (pure (((sIx n 0 lo:Nat):Int),(1:Int),Hn ((sIx n 0 lo:Nat):Int) ((sIx n n hi:Nat):Int) 1)) _ _ s;rw [uD];exact gV h
def xQ(xs:Array Value)(i k:Nat):((e_ k).filterMap λ(m:Nat)=>xs[((i:Int)+(m:Int)*1).toNat]?).toArray=((xs.toList.drop i).take k).toArray:=by
 have e:(λ(m:Nat)=>xs[((i:Int)+(m:Int)*1).toNat]?)=λm=>xs[i+m]?:=by
  funext m;have:((i:Int)+(m:Int)*1).toNat=i+m:=by omega
  rw [this]
 rw [e];have:=pick_run xs i k;rw [Jt] at this;have e2:((λx=>xs[x]?) ∘ λx=>i+x)=λm=>xs[i+m]?:=rfl;rw [e2] at this;rw [this]
def getItem_tuple_cut{t sl:Addr}{items:Array Value}{vl vu:Value}{lo hi:Option Int}{Q:Value->c_->Prop}(ht:IsTup s.heap t items)(hs:s.heap.IsSliceOf sl vl vu .none)(pl:JK vl lo)(pu:JK vu hi)
  (hw:¬ (sIx items.size 0 lo=0/\sIx items.size items.size hi=items.size))
  (h:Q (.ref s.heap.objs.size) { s with heap:=s.heap.push { cls:=.type "tuple",data:=.seq ((items.toList.drop (sIx items.size 0 lo)).take (sIx items.size items.size hi - sIx items.size 0 lo)).toArray } })
  (hsz:items.size<=sizeLine):wpAny (model prog w) A (getItem (.ref t) (.ref sl)) Q E s:=by
 have htake:sizeOk (.seq ((items.toList.drop (sIx items.size 0 lo)).take (sIx items.size items.size hi - sIx items.size 0 lo)).toArray):=by
  show ((items.toList.drop (sIx items.size 0 lo)).take (sIx items.size items.size hi - sIx items.size 0 lo)).toArray.size<=sizeLine;rw [so,length_take,length_drop,G2];omega
 have hj:sIx items.size items.size hi<=items.size:=sIx_le _ _ (o_ _) hi;obtain⟨os,hos,hcs,hds⟩:=id hs;have hTs:s.TypeIs (.ref sl) "slice":=⟨os,hos,hcs⟩
 unfold getItem
 try with_reducible refine GS ?_
 first|refine b_ (gV ?_)|skip
 refine b_ (wpAny_sequenceKey ht.typeIs (by decide) ?_)
 refine b_ (GI (name:=HN "__getitem__") ht.typeIs F_
  (Hi F_ ht.typeIs entry_tuple_getitem ?_ (args_tuple_getitem _ _)))
 show wpAny _ _ (I_ (.ref t) >>= _) _ _ s;refine b_ (tupleItemsOf_ ht ?_);refine b_ (wpAny_typeOf hTs ?_);rw [if_pos (by decide)];refine b_ (fR hs pl pu ?_)
 have hno:¬ ((((sIx items.size 0 lo:Nat):Int) == 0 && (1:Int) == 1 && (sIx items.size items.size hi - sIx items.size 0 lo) == items.size)=true):=by
  intro q;rw [and_eq_true,and_eq_true] at q;have q1:((sIx items.size 0 lo:Nat):Int)=0:=eq_of_beq q.1.1;have q2:sIx items.size items.size hi - sIx items.size 0 lo=items.size:=eq_of_beq q.2;exact hw ⟨by omega,by omega⟩
 show wpAny _ _ (if (((sIx items.size 0 lo:Nat):Int) == 0 && (1:Int) == 1 && (sIx items.size items.size hi - sIx items.size 0 lo) == items.size)=true then _ else _) _ _ s;rw [if_neg hno,xQ]
 first
  | exact b_ (m:=Ht _) (GP (gV ⟨_,rfl,gV h⟩) htake)
  | exact b_ (m:=Ht _) (GP (b_ (gV (gV ⟨_,rfl,gV h⟩))) htake)
  | exact b_ (b_ (m:=Ht _) (GP (gV (gV ⟨_,rfl,gV h⟩)) htake))
  | exact b_ (b_ (m:=Ht _) (GP (gV ⟨_,rfl,gV h⟩) htake))
end
end HT
namespace L2
open PySem PySem.Spec PyProof.Rows
abbrev TO:=St->Hp->(Option Int->Hp->Prop)->Prop
noncomputable def PO(X:Cx)(e:Option Expr)(t:TO):Prop :=
 ∀(pins:List (Addr×Obj)) (s:c_) (σ:St) (H:Hp) (Q:Option Int->Hp->Prop),Inv X pins σ H s->t σ H Q ->
  wpAny (model X.prog X.w) X.A (evalPart e X.env) (λu s'=>∃o H',Inv X pins σ H' s'/\JK u o/\Q o H') X.xe s
def nL:TO:=λ_ H Q=>Q none H
noncomputable def uE(t:TE):TO:=λσ H Q=>t σ H λx H1=>∃i,x=.int i/\Q (some i) H1
def mY{ns:List Int}:∀{us:List Value},bJ (ns.map V.int) us->IntsAre us ns:=by
 induction ns with
 | nil=>intro us r;rw [map_nil] at r;cases r;exact .nil
 | cons n ns ih =>
  intro us r;rw [map_cons] at r
  cases r with
  | cons r1 r2 =>
   obtain⟨t,e⟩:=r1;subst e;exact .cons n t (ih r2)
section
variable {X:Cx}{e:Expr}{te:TE}{lo hi:Option Expr}{tl th:TO}{pos p2:Pos}
def aT:PO X none nL:=by
 intro pins s σ H Q I h;rw [evalPart_none];exact gV ⟨none,H,I,.none,h⟩
def aQ(h:PE X e te):PO X (some e) (uE te):=by
 intro pins s σ H Q I hw;rw [evalPart_some];refine thn (h pins s σ H _ I hw) λu s1 ⟨x,H1,I1,r1,q1⟩=>?_;obtain⟨i,rfl,q⟩:=q1;obtain⟨t,rfl⟩:=r1;exact⟨some i,H1,I1,.int i t,q⟩
noncomputable def SlR(X:Cx)(r:V->Option Int->Option Int->Hp->VK->Prop):Prop :=
 ∀(pins:List (Addr×Obj)) (s:c_) (σ:St) (H:Hp) (x:V) (v vl vu:Value) (lo hi:Option Int) (sl:Addr) (Q:VK),Inv X pins σ H s->cY x v->s.heap.IsSliceOf sl vl vu .none->JK vl lo->JK vu hi->r x lo hi H Q ->
  ∃T id,typeLookup (.type T) "__getitem__"=pure (some (.builtin id))/\s.TypeIs v T/\wpAny (model X.prog X.w) X.A (getItem v (.ref sl)) (EP X pins σ Q) X.xe s
def SlR.or{r r':V->Option Int->Option Int->Hp->VK->Prop}(h:SlR X r)(h':SlR X r'):SlR X (λx lo hi H Q=>r x lo hi H Q\/r' x lo hi H Q):=by
 intro pins s σ H x v vl vu lo hi sl Q I rx hs pl pu q
 rcases q with q|q
 .exact h pins s σ H x v vl vu lo hi sl Q I rx hs pl pu q
 .exact h' pins s σ H x v vl vu lo hi sl Q I rx hs pl pu q
noncomputable def tSl(r:V->Option Int->Option Int->Hp->VK->Prop)(te:TE)(tl th:TO):TE:=λσ H Q=>te σ H λx H1=>tl σ H1 λl H2=>th σ H2 λu H3=>r x l u H3 Q
def aL{r:V->Option Int->Option Int->Hp->VK->Prop}(hr:SlR X r)(he:PE X e te)(hl:PO X lo tl)(hu:PO X hi th):PE X (.Subscript e (.Slice lo hi none p2) pos) (tSl r te tl th):=by
 intro pins s σ H Q I h;refine Subscript_ (thn (he pins s σ H _ I h) λv s1 ⟨x,H1,I1,r1,q1⟩=>?_);refine wpAny_Slice (thn (hl pins s1 σ H1 _ I1 q1) λvl s2 ⟨l,H2,I2,pl,q2⟩=>thn (hu pins s2 σ H2 _ I2 q2) λvu s3 ⟨u,H3,I3,pu,q3⟩=>?_);rw [evalPart_none];refine gV ?_;have I4:Inv X pins σ H3 { s3 with heap:=s3.heap.push { cls:=.type "slice",data:=.fields #[vl,vu,.none] } }:=I3.kept (t':=s3.toks) λb ob q=>d_ _ q
 obtain⟨T,id,hT,ht,hg⟩:=hr pins { s3 with heap:=s3.heap.push { cls:=.type "slice",data:=.fields #[vl,vu,.none] } } σ H3 x v vl vu l u s3.heap.objs.size Q I4 r1 (Heap.IsSliceOf.new ..) pl pu q3;show wpAny (model X.prog X.w) X.A (subscriptTail e (.Slice lo hi none p2) v (.ref s3.heap.objs.size)) (EP X pins σ Q) X.xe { s3 with heap:=s3.heap.push { cls:=.type "slice",data:=.fields #[vl,vu,.none] } };exact tail_any (ops:=[.ref s3.heap.objs.size,v]) ht hT hg (by with_unfolding_all rfl)
noncomputable def zW(xs:List V)(lo hi:Option Int):List V:=(xs.drop (HT.sIx xs.length 0 lo)).take (HT.sIx xs.length xs.length hi - HT.sIx xs.length 0 lo)
def k6(xs:List V)(lo hi:Option Int):(zW xs lo hi).length<=xs.length:=by
 unfold zW;rw [length_take,length_drop];omega
noncomputable def Fu(K:a_):V->Option Int->Option Int->Hp->VK->Prop:=λx lo hi H Q=>∃a xs,x=.ref a/\SqT K H a xs /\
 ¬ (HT.sIx xs.length 0 lo=0/\HT.sIx xs.length xs.length hi=xs.length)/\∀p,H p=none->Q (.ref p) (upd H p (.tup (zW xs lo hi)))
def Cg:SlR X (Fu X.K):=by
 intro pins s σ H x v vl vu lo hi sl Q I rx hs pl pu h;obtain⟨a,xs,rfl,hx,hw,q⟩:=h;cases rx;obtain⟨its,r,ht,hz⟩:=I.tuple hx;have hlen:its.toArray.size=xs.length:=by rw [so];exact r.length.symm
 refine⟨"tuple",_,F_.lookup,ht.typeIs,?_⟩;refine HT.getItem_tuple_cut ht hs pl pu (by rw [hlen];exact hw) ?_ (by rw [hlen];exact hz);rw [hlen];refine⟨.ref s.heap.objs.size,_,I.laid (t':=s.toks) (o:=.tup (zW xs lo hi)) (λb ob q=>d_ _ q) (o_ _) ?_,rfl,q _ (I.hok.fresh (o_ _))⟩;exact⟨E_ (k6 xs lo hi) hz,_,(r.drop (HT.sIx xs.length 0 lo)).take (HT.sIx xs.length xs.length hi - HT.sIx xs.length 0 lo),IsTup.new _ _⟩
noncomputable def Ch(K:a_):R2:=λx y H Q=>∃a b xs ys,x=.ref a/\y=.ref b/\SqT K H a xs/\SqT K H b ys/\xs≠[]/\xs.length+ys.length<=sizeLine /\
 (ys=[]->Q (.ref a) H)/\(ys≠[]->∀p,H p=none->Q (.ref p) (upd H p (.tup (xs++ys))))
def bJ.nil_iff{xs:List V}{us:List Value}(r:bJ xs us):us=[] ↔ xs=[]:=by
 cases r with
 | nil=>simp
 | cons _ _=>simp
def zX:OpR X (binaryOp .Add) (Ch X.K):=by
 intro pins s σ H x y v u Q I rx ry h;obtain⟨a,b,xs,ys,rfl,rfl,ha,hb,hx,hz,q1,q2⟩:=h;cases rx;cases ry;obtain⟨its,r1,p1,_⟩:=I.tuple ha;obtain⟨its2,r2,p2,_⟩:=I.tuple hb;refine HT.cat_tup p1 p2 (λz=>hx (r1.nil_iff.mp z)) (λz=>⟨.ref a,H,I,rfl,q1 (r2.nil_iff.mp z)⟩) (λz=>?_) (by rw [<- r1.length,<- r2.length];exact hz);refine⟨.ref s.heap.objs.size,_,I.laid (t':=s.toks) (o:=.tup (xs++ys)) (λb ob q=>d_ _ q) (o_ _) ?_,rfl,q2 (λw=>z (r2.nil_iff.mpr w)) _ (I.hok.fresh (o_ _))⟩
 exact⟨by rw [length_append];exact hz,_,r1.append r2,IsTup.new _ _⟩
end
noncomputable def ixN(n:Nat)(i:Int):Option Nat:=if 0<=i then (if i<n then some i.toNat else none) else if -(n:Int)<=i then some (i+n).toNat else none
noncomputable def atI{α:Type}(xs:List α)(i:Int):Option α:=(ixN xs.length i).bind λj=>xs[j]?
def rF{n:Nat}{i:Int}{j:Nat}(h:ixN n i=some j):seqIndex? i n=some j/\j<n/\-(n:Int)<=i/\i<n:=by
 unfold ixN at h
 by_cases h0:0<=i
 .rw [if_pos h0] at h
  by_cases h1:i<n
  .rw [if_pos h1] at h;have e:i.toNat=j:=q_ h;exact⟨by rw [seqIndex_of h0 h1,e],by omega,by omega,h1⟩
  .rw [if_neg h1] at h;cases h
 .rw [if_neg h0] at h
  by_cases h1:-(n:Int)<=i
  .rw [if_pos h1] at h;have e:(i+n).toNat=j:=q_ h;exact⟨by rw [seqIndex_neg (by omega) h1,e],by omega,h1,by omega⟩
  .rw [if_neg h1] at h;cases h
def rG{α:Type}{xs:List α}{i:Int}{v:α}(h:atI xs i=some v):∃j,seqIndex? i xs.length=some j/\xs[j]?=some v/\j<xs.length/\-(xs.length:Int)<=i/\i<xs.length:=by
 unfold atI at h
 cases e:ixN xs.length i with
 | none=>rw [e] at h;cases h
 | some j =>
  rw [e] at h;obtain⟨h1,h2,h3,h4⟩:=rF e;exact⟨j,h1,h,h2,h3,h4⟩
def zY{α:Type}{xs:List α}{j:Nat}{v:α}(h:xs[j]?=some v):atI xs (j:Int)=some v:=by
 have hj:j<xs.length:=(h_.mp h).1
 have e:ixN xs.length (j:Int)=some j:=by
  unfold ixN;rw [if_pos (by omega),if_pos (by omega)];simp
 unfold atI;rw [e];exact h
noncomputable def zZ(b:Expr):Prop:=∀o i,subscripted b false o i=operate [o,i] (getItem o i)
noncomputable def IxR(X:Cx)(r:R2):Prop :=
 ∀(value slice:Expr) (pins:List (Addr×Obj)) (s:c_) (σ:St) (H:Hp) (x y:V) (v u:Value) (Q:VK),Inv X pins σ H s->cY x v->cY y u->r x y H Q ->
  subscripted slice false v u=operate [v,u] (getItem v u)->wpAny (model X.prog X.w) X.A (subscriptTail value slice v u) (EP X pins σ Q) X.xe s
noncomputable def MtR(X:Cx)(id:String)(r:V->List V->Hp->VK->Prop):Prop :=
 ∀(pins:List (Addr×Obj)) (s:c_) (σ:St) (H:Hp) (x:V) (xs:List V) (v:Value) (us:List Value) (Q:VK),Inv X pins σ H s->cY x v->bJ xs us->r x xs H Q ->
  wpAny (model X.prog X.w) X.A (call (.builtin id) (v::us)) (EP X pins σ Q) X.xe s
section
variable {X:Cx}{a b:Expr}{ta tb:TE}{pos:Pos}
def IxR.or{r r':R2}(h:IxR X r)(h':IxR X r'):IxR X (λx y H Q=>r x y H Q\/r' x y H Q):=by
 intro value slice pins s σ H x y v u Q I rx ry q hs
 rcases q with q|q
 .exact h value slice pins s σ H x y v u Q I rx ry q hs
 .exact h' value slice pins s σ H x y v u Q I rx ry q hs
def bf{r:R2}(hr:IxR X r)(ha:PE X a ta)(hb:PE X b tb)(hs:zZ b):PE X (.Subscript a b pos) (tOp r ta tb):=by
 intro pins s σ H Q I h;exact Subscript_ (Ed ha hb I h λv u s2 x y H2 I2 rx ry q=>hr a b pins s2 σ H2 x y v u Q I2 rx ry q (hs _ _))
noncomputable def Fv(K:a_):R2:=λx y H Q=>∃p xs i v,x=.ref p/\y=.int i/\SqL K H p xs/\atI xs i=some v/\Q v H
noncomputable def Fw(K:a_):R2:=λx y H Q=>∃p xs i v,x=.ref p/\y=.int i/\SqT K H p xs/\atI xs i=some v/\Q v H
noncomputable def Ge:R2:=λx y H Q=>∃z i c,x=.str z/\y=.int i/\z.length<=sizeLine/\atI z.cps.toList i=some c/\Q (.str ⟨#[c]⟩) H
def z0:IxR X (Fv X.K):=by
 intro value slice pins s σ H x y v u Q I rx ry h hs;obtain⟨p,xs,i,z,rfl,rfl,hq,he,q⟩:=h;cases rx;obtain⟨t,rfl⟩:=ry;obtain⟨its,r,pl,hz⟩:=I.list hq;obtain⟨j,h1,h2,h3,h4,h5⟩:=rG he;obtain⟨w,ew,rw'⟩:=r.get h2;have hl:=r.length;have hn:=kW;have fin:EP X pins σ Q w s:=⟨z,H,I,rw',q⟩
 by_cases h0:0<=i
 .have hj:i.toNat=j:=by
   rw [seqIndex_of h0 h5] at h1;exact q_ h1
  exact item_listR pl.isList h0 (by omega) (by rw [hj];simpa using ew) fin hs
 .have hj:(i+(its.toArray.size:Int)).toNat=j:=by
   rw [seqIndex_neg (by omega) h4] at h1;rw [so,<- hl];exact q_ h1
  exact subscriptTail_builtinR (x:=w) pl.isList.typeIs slot_list_getitem.lookup
   (wpAny_getItem_list_neg (Q:=λr s'=>r=w/\EP X pins σ Q r s') pl.isList (by omega) (by rw [so] <;> omega) (by omega) (by rw [hj];simpa using ew) ⟨rfl,fin⟩) hs
def Ci:IxR X (Fw X.K):=by
 intro value slice pins s σ H x y v u Q I rx ry h hs;obtain⟨p,xs,i,z,rfl,rfl,hq,he,q⟩:=h;cases rx;obtain⟨t,rfl⟩:=ry;obtain⟨its,r,pl,hz⟩:=I.tuple hq;obtain⟨j,h1,h2,h3,h4,h5⟩:=rG he;obtain⟨w,ew,rw'⟩:=r.get h2;have hl:=r.length;have hn:=kW;have fin:EP X pins σ Q w s:=⟨z,H,I,rw',q⟩
 exact subscriptTail_builtinR (x:=w) pl.typeIs slot_tuple_getitem.lookup
  (getItem_tuple (j:=j) (Q:=λr s'=>r=w/\EP X pins σ Q r s') pl (by omega) (by omega) (by rw [so,<- hl];exact h1) (by simpa using ew) ⟨rfl,fin⟩) hs
def Cj:IxR X Ge:=by
 intro value slice pins s σ H x y v u Q I rx ry h hs;obtain⟨z,i,c,rfl,rfl,hz,he,q⟩:=h;obtain⟨t,rfl⟩:=rx;obtain⟨t',rfl⟩:=ry;obtain⟨j,h1,h2,h3,h4,h5⟩:=rG he;have hl:z.cps.toList.length=z.length:=by simp [Str.length]
 rw [hl] at h1 h4 h5;have hn:=kW
 exact tail_any (typeIs_str s z t) slot_str_getitem.lookup (getItem_str (c:=c) (by
  have e1:decide (i < -(2^63:Int))=false:=decide_eq_false (by omega);have e2:decide (i >= 2^63)=false:=decide_eq_false (by omega);rw [e1,e2,Bool.or_false]) (by rw [h1];simpa using h2) ⟨.str ⟨#[c]⟩,H,I.tok _,⟨_,rfl⟩,q⟩) hs
def uF(its:List Value)(n j:Nat)(u:Value):JL (·.setIfInBounds j u) { cls:=.type "list",data:=.seq its.toArray n }={ cls:=.type "list",data:=.seq (its.set j u).toArray n }:=by
 simp [JL]
def Inv.lst{pins:List (Addr×Obj)}{σ:St}{H:Hp}{s:c_}{p:Addr}{xs:List V}(I:Inv X pins σ H s)(h:H p=some (.lst xs)) :
  ∃(its:List Value) (n:Nat),bJ xs its/\s.heap.get? p=some { cls:=.type "list",data:=.seq its.toArray n }/\xs.length<=sizeLine:=by
 obtain⟨z,its,n,r,e⟩:=I.hok p _ h;exact⟨its,n,r,e,z⟩
def Inv.lstUpd{pins:List (Addr×Obj)}{σ:St}{H:Hp}{s:c_}{p:Addr}{xs ys:List V}{its its':List Value}{n n':Nat}{f:Obj->Obj}(I:Inv X pins σ H s)(h:H p=some (.lst xs))
  (ho:s.heap.get? p=some { cls:=.type "list",data:=.seq its.toArray n }) (hf:f { cls:=.type "list",data:=.seq its.toArray n }={ cls:=.type "list",data:=.seq its'.toArray n' }) (r:bJ ys its') (hz:ys.length<=sizeLine) (t:Nat) :
  Inv X pins σ (upd H p (.lst ys)) { s with heap:=s.heap.update p f,toks:=t }:=by
 have e:(s.heap.update p f).get? p=some { cls:=.type "list",data:=.seq its'.toArray n' }:=by
  rw [HI f ho (by rw [hf] <;> rfl),hf]
 refine I.write (x:=p) (e:=p) (by rw [h];trivial) (.inl rfl) (λb u hb q=>(Eo _ _ (HA hb)).trans q) ⟨_,e⟩ ?_;exact⟨hz,its',n',r,e⟩
noncomputable def Ck:V->V->V->Hp->(Hp->Prop)->Prop:=λo i v H Q=>∃p xs k j,o=.ref p/\i=.int k/\H p=some (.lst xs)/\ixN xs.length k=some j/\Q (upd H p (.lst (xs.set j v)))
def tD:Fl X Ck:=by
 intro pins s σ H o i v ov iv u Q I ro ri rv h;obtain⟨p,xs,k,j,rfl,rfl,hp,hj,q⟩:=h;cases ro;obtain⟨t,rfl⟩:=ri;obtain⟨its,n,r,ho,hz⟩:=I.lst hp;obtain⟨h1,h2,h3,h4⟩:=rF hj;have hl:=r.length;have hn:=kW
 have I':Inv X pins σ (upd H p (.lst (xs.set j v))) { s with heap:=s.heap.update p (JL (·.setIfInBounds j u)) } :=
  I.lstUpd hp ho (uF its n j u) (r.set rv j) (by rw [GN];exact hz) s.toks
 by_cases h0:0<=k
 .have hk:k.toNat=j:=by
   rw [seqIndex_of h0 h4] at h1;exact q_ h1
  exact PySem.W.ki_setAt ho h0 (by omega) (by rw [so,<- hl];exact h4) (by rw [hk];exact⟨_,I',q⟩)
 .have hk:(k+(its.toArray.size:Int)).toNat=j:=by
   rw [seqIndex_neg (by omega) h3] at h1;rw [so,<- hl];exact q_ h1
  exact PySem.W.ki_setBack ho (by omega) (by rw [so,<- hl];exact h3) (by omega) (by rw [hk];exact⟨_,I',q⟩)
def p5(lo hi:Option Int)(n:Nat):(sliceBounds lo hi none n).1=((HT.sIx n 0 lo:Nat):Int)/\(sliceBounds lo hi none n).2.1=((HT.sIx n n hi:Nat):Int)/\(sliceBounds lo hi none n).2.2=1:=by
 refine⟨?_,?_,rfl⟩
 .cases lo with
  | none=>simp [sliceBounds,HT.sIx]
  | some i =>
   simp only [sliceBounds,HT.sIx,Option.getD_none,show (1:Int) > 0 by decide,if_true]
   by_cases h:i<0
   .simp only [h,if_true] <;> omega
   .simp only [h,if_false] <;> omega
 .cases hi with
  | none=>simp [sliceBounds,HT.sIx]
  | some i =>
   simp only [sliceBounds,HT.sIx,Option.getD_none,show (1:Int) > 0 by decide,if_true]
   by_cases h:i<0
   .simp only [h,if_true] <;> omega
   .simp only [h,if_false] <;> omega
def nM(its:List Value)(lo hi:Option Int):slicePick its.toArray lo hi none=((its.drop (HT.sIx its.length 0 lo)).take (HT.sIx its.length its.length hi - HT.sIx its.length 0 lo)).toArray:=by
 obtain⟨h1,h2,h3⟩:=p5 lo hi its.toArray.size;unfold slicePick;rw [h1,h2,h3];simp only [sliceRange_one,pick_run,so] <;> rfl
noncomputable def Fx(K:a_):V->Option Int->Option Int->Hp->VK->Prop:=λx lo hi H Q=>∃a xs,x=.ref a/\SqL K H a xs/\∀p,H p=none->Q (.ref p) (upd H p (.lst (zW xs lo hi)))
def Aa:SlR X (Fx X.K):=by
 intro pins s σ H x v vl vu lo hi sl Q I rx hs pl pu h;obtain⟨a,xs,rfl,hx,q⟩:=h;cases rx;obtain⟨its,r,ht,hz⟩:=I.list hx;have hlen:=r.length;refine⟨"list",_,slot_list_getitem.lookup,ht.isList.typeIs,?_⟩;refine wpAny_getItem_list_slice ht.isList hs pl pu .none (by simp) ?_ (by rw [so] <;> omega);rw [nM,<- hlen];refine⟨.ref s.heap.objs.size,_,I.laid (t':=s.toks) (o:=.lst (zW xs lo hi)) (λb ob q=>d_ _ q) (o_ _) ?_,rfl,q _ (I.hok.fresh (o_ _))⟩
 exact⟨E_ (k6 xs lo hi) hz,_,0,(r.drop (HT.sIx xs.length 0 lo)).take (HT.sIx xs.length xs.length hi - HT.sIx xs.length 0 lo),j_ _ rfl⟩
noncomputable def mG:V->Bool
 | .non=>true
 | .bl _=>true
 | .int _=>true
 | .str _=>true
 | _=>false
noncomputable def eqV:V->V->Bool
 | .non,.non=>true
 | .bl a,.bl b=>a == b
 | .bl a,.int b=>(if a then 1 else 0) == b
 | .int a,.bl b=>a == (if b then 1 else 0)
 | .int a,.int b=>a == b
 | .str a,.str b=>a == b
 | _,_=>false
def Cm{A:z_}{s:c_}{y x:V}{u v:Value}(ry:cY y u)(rx:cY x v)(fy:mG y=true)(fx:mG x=true):SeqAt.EqAt A s u v (eqV y x):=by
 cases y with
 | non =>
  cases ry
  cases x with
  | non=>cases rx;exact SeqAt.EqAt.same _
  | bl b=>cases rx;exact SeqAt.EqAt.none_bool b
  | int b=>obtain⟨t,rfl⟩:=rx;exact SeqAt.EqAt.none_int b t
  | str b=>obtain⟨t,rfl⟩:=rx;exact SeqAt.EqAt.none_str b t
  | _=>exact absurd (show false=true from fx) k_
 | bl a =>
  cases ry
  cases x with
  | non=>cases rx;exact SeqAt.EqAt.bool_none a
  | bl b=>cases rx;exact SeqAt.EqAt.bool_bool a b
  | int b=>obtain⟨t,rfl⟩:=rx;exact SeqAt.EqAt.bool_int a b t
  | str b=>obtain⟨t,rfl⟩:=rx;exact SeqAt.EqAt.bool_str a b t
  | _=>exact absurd (show false=true from fx) k_
 | int a =>
  obtain⟨t',rfl⟩:=ry
  cases x with
  | non=>cases rx;exact SeqAt.EqAt.int_none a t'
  | bl b=>cases rx;exact SeqAt.EqAt.int_bool a t' b
  | int b=>obtain⟨t,rfl⟩:=rx;exact SeqAt.EqAt.int_int a t' b t
  | str b=>obtain⟨t,rfl⟩:=rx;exact SeqAt.EqAt.int_str a t' b t
  | _=>exact absurd (show false=true from fx) k_
 | str a =>
  obtain⟨t',rfl⟩:=ry
  cases x with
  | non=>cases rx;exact SeqAt.EqAt.str_none a t'
  | bl b=>cases rx;exact SeqAt.EqAt.str_bool a t' b
  | int b=>obtain⟨t,rfl⟩:=rx;exact SeqAt.EqAt.str_int a t' b t
  | str b=>obtain⟨t,rfl⟩:=rx;exact SeqAt.EqAt.str_str a t' b t
  | _=>exact absurd (show false=true from fx) k_
 | _=>exact absurd (show false=true from fy) k_
noncomputable def eqU(x:V)(u:Value):Bool:=match u with
 | .none=>eqV .non x
 | .bool b=>eqV (.bl b) x
 | .int i _=>eqV (.int i) x
 | .str z _=>eqV (.str z) x
 | _=>false
def yK{x y:V}{u:Value}(r:cY y u)(f:mG y=true):eqU x u=eqV y x:=by
 cases y with
 | non=>cases r;rfl
 | bl b=>cases r;rfl
 | int i=>obtain⟨t,rfl⟩:=r;rfl
 | str z=>obtain⟨t,rfl⟩:=r;rfl
 | _=>exact absurd (show false=true from f) k_
theorem k7{x:V}:∀{xs:List V}{us:List Value},bJ xs us->xs.all mG=true->us.any (eqU x)=xs.any λy=>eqV y x
 | _,_,.nil,_=>rfl
 | y::xs,u::us,.cons r t,f=>by
  rw [all_cons,and_eq_true] at f;rw [any_cons,any_cons,yK r f.1,k7 t f.2]
theorem iU{A:z_}{s:c_}{x:V}{v:Value}(rx:cY x v)(fx:mG x=true):∀{xs:List V}{us:List Value},bJ xs us->xs.all mG=true->∀u∈us,SeqAt.EqAt A s u v (eqU x u)
 | _,_,.nil,_=>λu hu=>by cases hu
 | y::xs,u::us,.cons r t,f=>λu' hu=>by
  rw [all_cons,and_eq_true] at f
  rcases w_.mp hu with rfl|hu
  .rw [yK r f.1];exact Cm r rx f.1 fx
  .exact iU rx fx t f.2 u' hu
noncomputable def inV(x:V)(xs:List V):Bool:=xs.any λy=>eqV y x
noncomputable def rIn(K:a_)(neg:Bool):R2:=λx y H Q=>∃p xs,y=.ref p/\(SqL K H p xs\/SqT K H p xs)/\mG x=true/\xs.all mG=true/\Q (.bl (if neg then !inV x xs else inV x xs)) H
def vI:OpR X (compareOp .In) (rIn X.K false):=by
 intro pins s σ H x y v u Q I rx ry h;obtain⟨p,xs,rfl,hq,fx,fs,q⟩:=h;cases ry
 rcases hq with hq|hq
 .obtain⟨its,r,pl,hz⟩:=I.list hq;refine SeqAt.in_listAt (eqU x) pl.isList (λw hw=>iU rx fx r fs w (by simpa using hw)) ⟨.bl _,H,I,rfl,?_⟩;rw [show its.toArray.any (eqU x)=its.any (eqU x) by simp,k7 r fs];exact q
 .obtain⟨its,r,pl,hz⟩:=I.tuple hq;refine SeqAt.in_tupleAt (eqU x) pl (λw hw=>iU rx fx r fs w (by simpa using hw)) ⟨.bl _,H,I,rfl,?_⟩;rw [show its.toArray.any (eqU x)=its.any (eqU x) by simp,k7 r fs];exact q
def p6:OpR X (compareOp .NotIn) (rIn X.K true):=by
 intro pins s σ H x y v u Q I rx ry h;obtain⟨p,xs,rfl,hq,fx,fs,q⟩:=h;cases ry
 rcases hq with hq|hq
 .obtain⟨its,r,pl,hz⟩:=I.list hq;refine SeqAt.notIn_listAt (eqU x) pl.isList (λw hw=>iU rx fx r fs w (by simpa using hw)) ⟨.bl _,H,I,rfl,?_⟩;rw [show its.toArray.any (eqU x)=its.any (eqU x) by simp,k7 r fs];exact q
 .obtain⟨its,r,pl,hz⟩:=I.tuple hq;refine SeqAt.notIn_tupleAt (eqU x) pl (λw hw=>iU rx fx r fs w (by simpa using hw)) ⟨.bl _,H,I,rfl,?_⟩;rw [show its.toArray.any (eqU x)=its.any (eqU x) by simp,k7 r fs];exact q
def kh:bI X (.builtin "len") (λxs H Q=>∃p ys,xs=[.ref p]/\(SqL X.K H p ys\/SqT X.K H p ys)/\Q (.int ys.length) H):=by
 intro pins s σ H xs us Q I r h;obtain⟨p,ys,rfl,hq,q⟩:=h;obtain⟨u,rfl,rx⟩:=iq r;cases rx;have hn:=kW
 rcases hq with hq|hq
 .obtain⟨its,r',pl,hz⟩:=I.list hq;have hlen:=r'.length;exact Calls.call_len_list pl.isList (by simp only [so] <;> omega) ⟨.int ys.length,H,I.tok _,⟨s.toks+1,by rw [so,hlen]⟩,q⟩
 .obtain⟨its,r',pl,hz⟩:=I.tuple hq;have hlen:=r'.length;exact len_tuple pl (by simp only [so] <;> omega) ⟨.int ys.length,H,I.tok _,⟨s.toks+1,by rw [so,hlen]⟩,q⟩
def p7:bI X (.builtin "len") (λxs H Q=>∃z,xs=[.str z]/\z.length<=sizeLine/\Q (.int z.length) H):=by
 intro pins s σ H xs us Q I r h;obtain⟨z,rfl,hz,q⟩:=h;obtain⟨u,rfl,t,rfl⟩:=iq r;have hn:=kW;exact len_str (by omega) ⟨.int z.length,H,I.tok _,⟨_,rfl⟩,q⟩
def bI.or{f:Value}{r r':List V->Hp->VK->Prop}(h:bI X f r)(h':bI X f r'):bI X f (λxs H Q=>r xs H Q\/r' xs H Q):=by
 intro pins s σ H xs us Q I rs q
 rcases q with q|q
 .exact h pins s σ H xs us Q I rs q
 .exact h' pins s σ H xs us Q I rs q
def p8:bI X (.type "list") (λxs H Q=>∃p ys,xs=[.ref p]/\(SqL X.K H p ys\/SqT X.K H p ys)/\∀l,H l=none->Q (.ref l) (upd H l (.lst ys))):=by
 intro pins s σ H xs us Q I r h;obtain⟨p,ys,rfl,hq,q⟩:=h;obtain⟨u,rfl,rx⟩:=iq r;cases rx
 have fin:∀(its:List Value),bJ ys its->ys.length<=sizeLine->∀(h':Heap) (c':Nat),(∀b o',s.heap.get? b=some o'->h'.get? b=some o') ->
   h'.get? s.heap.objs.size=some { cls:=.type "list",dict:=none,data:=.seq its.toArray c',slots:=#[] }->EP X pins σ Q (.ref s.heap.objs.size) { s with heap:=h' }:=λits r' hz h' c' kp e =>
  ⟨.ref s.heap.objs.size,_,I.laid (t':=s.toks) kp (o_ _) (show bZ X.prog X.w _ h' _ (.lst ys) from ⟨hz,its,c',r',e⟩),rfl,q _ (I.hok.fresh (o_ _))⟩
 rcases hq with hq|hq
 .obtain⟨its,r',pl,hz⟩:=I.list hq;have hlen:=r'.length;obtain⟨o,ho,hc,n,hd⟩:=pl.isList;exact call_list_seq p (.inl rfl) ho hc hd (λh' c' kp e=>fin its r' hz h' c' kp e) (by simp only [so] <;> omega)
 .obtain⟨its,r',pl,hz⟩:=I.tuple hq;have hlen:=r'.length;obtain⟨o,ho,hc,n,hd⟩:=pl;exact call_list_seq p (.inr rfl) ho hc hd (λh' c' kp e=>fin its r' hz h' c' kp e) (by simp only [so] <;> omega)
def nN:bI X (.type "tuple") (λxs H Q=>∃p ys,xs=[.ref p]/\((SqL X.K H p ys/\∀l,H l=none->Q (.ref l) (upd H l (.tup ys)))\/(SqT X.K H p ys/\Q (.ref p) H))):=by
 intro pins s σ H xs us Q I r h;obtain⟨p,ys,rfl,h⟩:=h;obtain⟨u,rfl,rx⟩:=iq r;cases rx
 rcases h with ⟨hq,q⟩|⟨hq,q⟩
 .obtain⟨its,r',pl,hz⟩:=I.list hq;have hlen:=r'.length;refine call_tuple_list pl.isList (λh' kp=>?_) (by simp only [so] <;> omega);have I1:Inv X pins σ H { s with heap:=h' }:=I.kept (t':=s.toks) kp
  have I2:Inv X pins σ (upd H h'.objs.size (.tup ys)) { s with heap:=h'.push { cls:=.type "tuple",data:=.seq its.toArray } } :=
   I1.laid (t':=s.toks) (λb o e=>d_ _ e) (o_ _) (show bZ X.prog X.w _ _ _ (.tup ys) from ⟨hz,its,r',IsTup.new _ _⟩)
  exact⟨.ref h'.objs.size,_,I2,rfl,q _ (I1.hok.fresh (o_ _))⟩
 .obtain⟨its,r',pl,hz⟩:=I.tuple hq;exact call_tuple_same pl ⟨.ref p,H,I,rfl,q⟩
noncomputable def tyV(K:a_)(T:String)(x:V)(H:Hp):Prop:=match x with
 | .str _=>T="str"
 | .int _=>T="int"
 | .ref p=>(T="list"/\∃xs,SqL K H p xs)\/(T="tuple"/\∃o,K.lookup p=some o/\o.cls=.type "tuple"/\o.dict=none) \/
   (T="dict"/\((∃kvs,H p=some (.dK kvs))\/∃kvs,H p=some (.dT kvs)))\/(T="set"/\∃S n,H p=some (.set S n))
 | _=>False
def Cn{pins:List (Addr×Obj)}{σ:St}{H:Hp}{s:c_}{T:String}{x:V}{v:Value}(I:Inv X pins σ H s)(r:cY x v)(ty:tyV X.K T x H) :
  s.TypeIs v T/\∀a,v=.ref a->∃ob,s.heap.get? a=some ob/\ob.dict=none:=by
 cases x with
 | str z =>
  obtain⟨t,rfl⟩:=r;cases (show T="str" from ty);exact⟨typeIs_str s z t,λ_ e=>nomatch e⟩
 | int i =>
  obtain⟨t,rfl⟩:=r;cases (show T="int" from ty);exact⟨typeIs_int s i t,λ_ e=>nomatch e⟩
 | ref p =>
  cases r
  rcases ty with ⟨rfl,xs,hq⟩|⟨rfl,o,hk,hc,hd⟩|⟨rfl,hk⟩|⟨rfl,S,n,hk⟩
  .obtain⟨its,_,pl,_⟩:=I.list hq;refine⟨pl.isList.typeIs,λa e=>?_⟩;cases e;obtain⟨o,n,e,c,hd,_⟩:=pl;exact⟨o,e,hd⟩
  .refine⟨⟨o,I.kIn p o hk,hc⟩,λa e=>?_⟩;cases e;exact⟨o,I.kIn _ o hk,hd⟩
  .have z:∃o,s.heap.get? p=some o/\o.ExactDict:=by
    rcases hk with ⟨kvs,hk⟩|⟨kvs,hk⟩
    .obtain⟨_,_,_,_,o,_,_,e,ex,_⟩:=I.hok p _ hk;exact⟨o,e,ex⟩
    .obtain⟨_,_,_,_,o,_,_,e,ex,_⟩:=I.hok p _ hk;exact⟨o,e,ex⟩
   obtain⟨o,e,ex⟩:=z;refine⟨⟨o,e,ex.1⟩,λa e2=>?_⟩;cases e2;exact⟨o,e,ex.2.1⟩
  .obtain⟨o,_,_,_,e,ex,_⟩:=I.hok p _ hk;refine⟨⟨o,e,ex.1⟩,λa e2=>?_⟩;cases e2;exact⟨o,e,ex.2.1⟩
 | _=>exact He ty
noncomputable def tBM(K:a_)(T:String)(r:V->List V->Hp->VK->Prop)(to:TE)(t:TA):TE:=λσ H Q=>to σ H λx H1=>tyV K T x H1/\t σ H1 λxs H2=>r x xs H2 Q
variable {o e:Expr}{es:List Expr}{to:TE}{t:TA}{name:Str}{apos cpos:Pos}{T id:String}{r:V->List V->Hp->VK->Prop}
def El(pa:PlainAttrs T)(slot:Slot T name id)(hty:typeOf (.builtin id)=pure (.type "method_descriptor"))(hm:MtR X id r)(ho:PE X o to)(ha:PA X (e::es) t)
  (hbase:attributeBase o name X.env (eval o X.env)=eval o X.env:=by rfl)
  (hfew:((backTo cpos (starEach (e::es) X.env)).all (λx=>!x.1) && (backToKw cpos (keywordEach [] X.env)).all (λx=>x.1.isSome)
   && decide ((e::es).length+([]:List Keyword).length+(if ([]:List Keyword).isEmpty then 0 else 1)<30))=true:=by rfl)
  (hline:(apos.endLine == cpos.line)=true:=by rfl) (hs:starEach (e::es) X.env=(false,eval e X.env)::starEach es X.env:=by rfl) (hplain:(backTo cpos (starEach es X.env)).any (·.1)=false:=by rfl) :
  PE X (.Call (.Attribute o name apos) (e::es) [] cpos) (tBM X.K T r to t):=by
 intro pins s σ H Q I h;refine wpAny_Call_method_late hbase hfew hline rfl (thn (ho pins s σ H _ I h) λv s1 ⟨x,H1,I1,r1,ty,q1⟩=>?_);obtain⟨h1,h2⟩:=Cn I1 r1 ty;refine⟨T,id,pa,slot,hty,h1,h2,?_⟩;have hA:=ha cpos pins s1 σ H1 _ I1 q1;rw [hs] at hA ⊢;refine Calls.callWith_builtin (by show (false || (backTo cpos (starEach es X.env)).any (·.1))=false;rw [hplain] <;> rfl) (Calls.evalArgs_plain ?_);exact thn hA λus s2 ⟨vs,H2,I2,r2,q2⟩=>hm pins s2 σ H2 x vs v us Q I2 r1 r2 q2
end
noncomputable def MtM(X:Cx)(id:String)(r:V->List V->Hp->VK->Prop):Prop :=
 ∀(pins:List (Addr×Obj)) (s:c_) (σ:St) (H:Hp) (x:V) (xs:List V) (v:Value) (us:List Value) (Q:VK),Inv X pins σ H s->cY x v->bJ xs us->r x xs H Q ->
  wpAny (model X.prog X.w) X.A (call (.builtin id) (v::us)) (EP X pins σ Q) X.xe s
theorem bJ.one:∀{x:V}{us:List Value},bJ [x] us->∃u,us=[u]/\cY x u
 | _,_,.cons r .nil=>⟨_,rfl,r⟩
theorem bJ.eraseIdx:∀{xs:List V}{us:List Value} (i:Nat),bJ xs us->bJ (xs.eraseIdx i) (us.eraseIdx i)
 | _,_,_,.nil=>.nil
 | _,_,0,.cons _ t=>t
 | _,_,i+1,.cons r t=>.cons r (bJ.eraseIdx i t)
theorem bJ.rep{xs:List V}{us:List Value}(h:bJ xs us):∀k:Nat,bJ (f_ k xs).flatten (f_ k us).flatten
 | 0=>.nil
 | k+1=>by
  rw [replicate_succ,replicate_succ,flatten_cons,flatten_cons];exact bJ.append h (bJ.rep h k)
theorem p9{α:Type}:∀(l:List α) (i:Nat),(l.eraseIdx i).length<=l.length
 | [],_=>o_ _
 | _::_,0=>le_succ _
 | _::r,i+1=>succ_le_succ (p9 r i)
theorem qa(its:List Value):∀(k:Nat) (acc:List Value),
  List.foldl (λx1 x2=>x1++x2) acc.toArray (f_ k its.toArray)=(acc++(f_ k its).flatten).toArray
 | 0,acc=>by simp
 | k+1,acc=>by
  have e:acc.toArray++its.toArray=(acc++its).toArray:=by simp
  have e2:(acc++its)++(f_ k its).flatten=acc++(f_ (k+1) its).flatten:=by
   rw [replicate_succ,flatten_cons,append_assoc]
  rw [<- e2,<- qa its k (acc++its),<- e,replicate_succ,foldl_cons]
section
variable {X:Cx}{pins:List (Addr×Obj)}{σ:St}{H:Hp}{s:c_}{l b:Addr}{xs ys zs:List V}
def Inv.lset{its its':List Value}{n:Nat}{f:Array Value->Array Value}{t':Nat}(I:Inv X pins σ H s)(hH:H l=some (.lst xs))
  (e:s.heap.get? l=some { cls:=.type "list",data:=.seq its.toArray n }) (hf:f its.toArray=its'.toArray) (hv:bJ ys its') (hz:ys.length<=sizeLine) :
  Inv X pins σ (upd H l (.lst ys)) { s with heap:=s.heap.update l (JL f),toks:=t' }:=by
 have q:=PySem.IsL.update e f;rw [hf] at q;refine I.write (x:=l) (e:=l) (by rw [hH];exact trivial) (.inl rfl) (λb' u hb hu=>(Eo s.heap (JL f) (HA hb)).trans hu) ⟨_,q⟩ ?_;exact⟨hz,its',_,hv,q⟩
def Inv.lnew{its:List Value}{t':Nat}(I:Inv X pins σ H s)(hv:bJ ys its)(hz:ys.length<=sizeLine) :
  Inv X pins σ (upd H s.heap.objs.size (.lst ys)) { s with heap:=s.heap.push { cls:=.type "list",data:=.seq its.toArray },toks:=t' } :=
 I.laid (λ_ _ q=>d_ _ q) (o_ _) ⟨hz,its,0,hv,j_ _ rfl⟩
def Inv.fresh(I:Inv X pins σ H s):H s.heap.objs.size=none:=I.hok.fresh (o_ _)
def Inv.lstM(I:Inv X pins σ H s)(hH:H l=some (.lst xs)):xs.length<=sizeLine/\∃(its:List Value) (n:Nat),bJ xs its/\xs.length=its.length/\s.heap.get? l=some { cls:=.type "list",data:=.seq its.toArray n }:=by
 obtain⟨z,its,n,r,e⟩:=I.hok l _ hH;exact⟨z,its,n,r,r.length,e⟩
def tE{n:Nat}(h:n<=sizeLine):Hu n=false:=by
 unfold Hu;exact decide_eq_false (by omega)
end
section
variable {X:Cx}
noncomputable def vJ:V->List V->Hp->VK->Prop:=λx vs H Q=>∃l xs y,x=.ref l/\vs=[y]/\H l=some (.lst xs)/\xs.length<sizeLine/\Q .non (upd H l (.lst (xs++[y])))
def eU:MtM X "list.append" vJ:=by
 intro pins s σ H x vs v us Q I rx rv h;obtain⟨l,xs,y,rfl,rfl,hH,hz,q⟩:=h;cases rx;obtain⟨u,rfl,ru⟩:=rv.one;obtain⟨z,its,n,r,hl,e⟩:=I.lstM hH;refine JM F.slot_list_append ⟨_,e,rfl⟩ F.entry_list_append (F.args_list_append_2 _ _) (PySem.list_append l its.toArray n u (by rw [so];omega)) ⟨e,?_⟩;refine⟨.non,_,I.lset (its':=its++[u]) hH e (by simp) (r.append (.cons ru .nil)) ?_,rfl,q⟩;rw [length_append,length_singleton]
 omega
noncomputable def vK:V->List V->Hp->VK->Prop:=λx vs H Q=>∃l b xs zs,x=.ref l/\vs=[.ref b]/\H l=some (.lst xs)/\H b=some (.lst zs)/\xs.length+zs.length<=sizeLine/\Q .non (upd H l (.lst (xs++zs)))
def vL:MtM X "list.extend" vK:=by
 intro pins s σ H x vs v us Q I rx rv h;obtain⟨l,b,xs,zs,rfl,rfl,hH,hB,hz,q⟩:=h;cases rx;obtain⟨u,rfl,ru⟩:=rv.one;cases ru;obtain⟨z,its,n,r,hl,e⟩:=I.lstM hH;obtain⟨z2,its2,n2,r2,hl2,e2⟩:=I.lstM hB;have hsz:its.toArray.size+its2.toArray.size<=sizeLine:=by rw [so,so];omega
 have hlong:¬ (!its.toArray.isEmpty && Hu (its.toArray.size+its2.toArray.size))=true:=by
  rw [tE hsz,Ka];exact k_
 refine JM F.slot_list_extend ⟨_,e,rfl⟩ F.entry_list_extend (F.args_list_extend_2 _ _)
  (AutoSeq1.list_extend_list_list_0 l its.toArray n b its2.toArray n2 hlong (by rw [so];omega) (by omega)) ⟨e,e2,?_⟩
 refine⟨.non,_,I.lset (its':=its++its2) hH e (by simp) (r.append r2) ?_,rfl,q⟩;rw [length_append];omega
noncomputable def yL:V->List V->Hp->VK->Prop:=λx vs H Q=>∃l xs i k y,x=.ref l/\vs=[.int i]/\H l=some (.lst xs)/\-(2^63)<=i/\i<2^63/\seqIndex? i xs.length=some k/\xs[k]?=some y/\Q y (upd H l (.lst (xs.eraseIdx k)))
def tF:MtM X "list.pop" yL:=by
 intro pins s σ H x vs v us Q I rx rv h;obtain⟨l,xs,i,k,y,rfl,rfl,hH,h1,h2,hk,hy,q⟩:=h;cases rx;obtain⟨u,rfl,ru⟩:=rv.one;obtain⟨t,rfl⟩:=ru;obtain⟨z,its,n,r,hl,e⟩:=I.lstM hH;obtain⟨w,hw,rw'⟩:=r.get hy
 refine JM F.slot_list_pop ⟨_,e,rfl⟩ F.entry_list_pop (F.args_list_pop_2 _ _)
  (MeetsSeq.list_pop_at l its.toArray n i t k w (fitsIndex_both h1 h2) (by rw [so,<- hl];exact hk) (by rw [<- IA];exact hw) (by rw [so];omega)) ⟨e,?_⟩
 refine⟨y,_,I.lset (its':=its.eraseIdx k) hH e ?_ (r.eraseIdx k) ?_,rw',q⟩
 .show its.toArray.eraseIdxIfInBounds k=(its.eraseIdx k).toArray;rw [eraseIdxIfInBounds_toArray]
 .have:=p9 xs k;omega
noncomputable def Fy:R2:=λx y H Q=>∃l k xs,x=.ref l/\y=.int k/\H l=some (.lst xs)/\-(2^63)<=k/\k<2^63/\xs.length*k.toNat<=sizeLine /\
 ∀p,H p=none->Q (.ref p) (upd H p (.lst (f_ k.toNat xs).flatten))
def Ab{α:Type}(xs:List α)(k:Nat):(f_ k xs).flatten.length=k*xs.length:=by
 induction k with
 | zero=>simp
 | succ k ih=>rw [replicate_succ,flatten_cons,length_append,ih,succ_mul,add_comm]
def Co:OpR X (binaryOp .Mult) Fy:=by
 intro pins s σ H x y v u Q I rx ry h;obtain⟨l,k,xs,rfl,rfl,hH,h1,h2,hz,q⟩:=h;cases rx;obtain⟨t,rfl⟩:=ry;obtain⟨z,its,n,r,hl,e⟩:=I.lstM hH;have hlen:its.toArray.size*k.toNat<=sizeLine:=by rw [so,<- hl];exact hz
 have hcap:¬ its.toArray.size*k.toNat > (2^63 - 1) / 8:=by
  have:(sizeLine:Nat)<=(2^63 - 1) / 8:=by decide
  omega
 have hfit:¬ (!Builtin.List.listFitsIndex k)=true:=by
  rw [fitsIndex_both h1 h2];exact k_
 have hlong:¬ Hu (its.toArray.size*k.toNat)=true:=by
  rw [tE hlen];exact k_
 have hnew:List.foldl (λx1 x2=>x1++x2) #[] (f_ (if its.toArray.isEmpty=true then 0 else k.toNat) its.toArray)=(f_ k.toNat its).flatten.toArray:=by
  have f0:∀m:Nat,List.foldl (λx1 x2=>x1++x2) #[] (f_ m its.toArray)=(f_ m its).flatten.toArray:=λm=>by
   have:=qa its m [];rw [nil_append] at this;exact this
  rw [f0]
  cases its with
  | nil=>simp
  | cons a r'=>rw [if_neg (by simp)]
 refine wpAny_binaryOp_repeat_ref (T:="list") (U:="int") (by decide) ⟨_,e,rfl⟩ (λs'=>typeIs_int s' k t) noFill_list_mul F.fills_int_mul F.slot_int_rmul repeat_list F.slot_int_index.lookup
  (JM F.slot_int_rmul (typeIs_int s k t) F.entry_int_rmul (F.args_int_rmul_2 _ _) (int___rmul___int_list k t l its.toArray n)
   ⟨e,rfl,⟨_,e,rfl⟩,JM F.slot_list_mul ⟨_,e,rfl⟩ F.entry_list_mul (F.args_list_mul_2 _ _) (AutoListH.list___mul___list_int_3 l its.toArray n k t hfit hcap hlong) ⟨e,?_⟩⟩)
 rw [hnew];exact⟨.ref _,_,I.lnew (t':=s.toks) (r.rep k.toNat) (by rw [Ab,Jz];exact hz),rfl,q _ I.fresh⟩
end
end L2
namespace Att
open PySem PySem.W PySem.Calls PyProof.Rows
def k8{P:IX}{h:Heap}:∀(ns:List Int) (vs:List Value),WellAll P h vs (ns.map WData.int)->IntsAre vs ns:=by
 intro ns
 induction ns with
 | nil =>
  intro vs w;rw [map_nil] at w;cases w;exact .nil
 | cons n ns ih =>
  intro vs w;rw [map_cons] at w
  cases w with
  | cons a b =>
   cases a;exact .cons _ _ (ih _ b)
def vM{l:OpenLaw}{n:Nat}(hn:l.most=some n){P:IX}{h:Heap}{args:List WData}{vals:List Value}
  (hpre:l.row.toRowW.claim.pre args=true) (hwl:WellAll P h vals args) :
  ∃a vs ns,vals=[u1 a]/\args=[WData.list (ns.map WData.int)]/\h.get? a=some { cls:=.type "list",data:=.seq vs.toArray }/\IntsAre vs ns/\ns.length<=n:=by
 have hsh:WShape.hasAll [] args [.list .int]=true:=(pre_splitW hpre).1;have hc:l.pre.holds [] { args:=args }=true:=(pre_splitW hpre).2;obtain⟨d,r,rfl,h1,h2⟩:=hasAllW_cons hsh;obtain rfl:=hasAllW_nil h2;obtain⟨xs,rfl,h3⟩:=hasW_list h1;obtain⟨ns,rfl⟩:=items_int h3
 have hlen:ns.length<=n:=by
  unfold OpenLaw.pre at hc
  have h4:(WTm.not (.lt (.lit (.int (n:Int))) (.len (.arg 0)))).holds [] { args:=[.list (ns.map .int)] }=true:=by
   have h4:=(holds_andW hc).1;rw [hn] at h4;exact h4
  have h5:=condW_of h4 (w_not (w_lt w_lit (w_len_list (w_arg rfl))));rw [length_map] at h5;refine le_of_not_lt λq=>?_;have q':(n:Int)<((ns.length:Nat):Int):=by omega
  first
   | (rw [decide_eq_true q'] at h5;exact absurd h5 (by decide))
   | (simp at h5;omega)
 cases hwl with
 | cons w1 w2 =>
  cases w2
  cases w1 with
  | list ho hall=>exact⟨_,_,ns,rfl,rfl,ho,k8 ns _ hall,hlen⟩
def vN(l:OpenLaw)(args:List WData):l.row.toRowW.claim.post args (.bool true) args=true :=
 postW_of (r:=l.row.toRowW) (X:=(true == true))
  (show WShape.has [] (.bool true) .bool=true by first|rfl|decide|simp [WShape.has,WShape.arms,WShape.armsAll])
  (show (WTm.eq .res (.lit (.bool true))).value [] { args:=args,res:=some (.bool true),after:=args }=some (.bool (true == true)) from w_eq_bool (w_res rfl) w_lit) rfl
def attach_call{l:OpenLaw}{n:Nat}{q:s_}{loose:List Str}{XP:(Str->Option Value)->Heap->Prop}{YP:World->Heap->Prop}{d:DefRec}
  (hn:l.most=some n) (hdf:d.params.defaults=[])
  (call:∀(w:World) (s₀ s₁:c_) (mg mb:Str->Option Value) (fa:Addr) (o:Obj) (pm cd doc:Value) (a:Addr) (vs:List Value) (ns:List Int),
   Ground q loose [] XP w s₀ mg mb s₁.heap->YP w s₁.heap ->
   s₁.heap.get? fa=some o->o.data=.func (docDef d.name d.params d.body d.scope pm cd doc)->s₁.heap.CodeRec cd d.name->mg d.name=some (.ref fa) ->
   s₁.heap.get? a=some { cls:=.type "list",data:=.seq vs.toArray }->IntsAre vs ns->ns.length<=n->s₁.gens=#[] ->
   codeAny (model l.prog w) callerA (.call (.ref fa) ⟨[.ref a],[]⟩) (λr s'=>r=.ok (.ret (.bool true))/\OldK s₁.heap s'.heap/\s'.os=s₁.os/\Jj s'.gens) s₁) :
  WalkO q loose XP YP l.row.toRowW d [] (λf vs=>PySem.call f vs):=by
 intro w s₀ s₁ mg mb G Y fa o pm cd doc dV kV ho hd hcd hD hmg hg args vals as hpre hlay hrd hwl hlo;obtain rfl:dV=.none:=Dflts.none hD hdf;obtain rfl:kV=.none:=Dflts.noKw hD;obtain⟨a,vs,ns,rfl,rfl,hobj,hints,hlen⟩:=vM hn hpre hwl;refine enter_call (JI (call w s₀ s₁ mg mb fa o pm cd doc a vs ns G Y ho (fd_plain hd) hcd hmg hobj hints hlen hg) λr s' hq=>?_);obtain⟨rfl,h2,h3,h4⟩:=hq;exact⟨.inl ⟨.bool true,.bool true,[],rfl,λ_=>rfl,.bool true,vN l _,λ_=>⟨Jl,λ_ hm=>(nomatch hm)⟩⟩,h2,h3,h4⟩
end Att
namespace L2
open PySem PySem.Spec PyProof.Rows
theorem qb:∀{vs:List Value}{ns:List Int},IntsAre vs ns->bJ (ns.map V.int) vs
 | _,_,.nil=>.nil
 | _,_,.cons n t h=>.cons ⟨t,rfl⟩ (qb h)
noncomputable def Em(H:Hp):Prop:=∀b,H b=none\/∃o xs,H b=some (.frz o (.lst xs))
def xR{P:s_}{w:World}{K:a_}{mg mb:Str->Option Value}{CX:CXT}{k:Nat}{fa a:Addr}{fd:G7}{x:Str}{sp:Sp}{s₁:c_}{vs:List Value}{ns:List Int}
  (KX:K.In s₁.heap) (hns:s₁.heap.Ns mainGlobals mg) (hb:s₁.heap.Ns builtinsNs mb) (hbb:∀x:Str,x≠"__name__"->mb x=bootBuiltins x) (hlim:s₁.heap.NoLimit) (hg:s₁.gens=#[])
  (ha:s₁.heap.get? a=some { cls:=.type "list",data:=.seq vs.toArray }) (hi:IntsAre vs ns) (hl:ns.length<=sizeLine) (hr:fh k callerA)
  (F:∀base:Heap,K.In base->base.Ns mainGlobals mg->pU P w K mg base CX k fa fd [x] sp) (hbind:∀(s:c_) (u:Value),JH s fd ⟨[u],[]⟩ [(x,u)])
  (hsp:∀H:Hp,Em H->SqL K H a (ns.map V.int)->sp [.ref a] H (λv _=>v=.bl true) λ_ _ _=>False)
  (hCX:∀H e s',CX [] H s₁ (λ_ _ _=>False) e s'->False) :
  codeAny (model P w) callerA (.call (.ref fa) ⟨[.ref a],[]⟩) (λr s'=>r=.ok (.ret (.bool true))/\OldK s₁.heap s'.heap/\s'.os=s₁.os/\Jj s'.gens) s₁:=by
 have rv:=qb hi;have lenV:=hi.length
 -- from an abstract heap in which nothing but the script may be tracked
 have core:∀H:Hp,Em H->SqL K H a (ns.map V.int)->HOk P w H s₁.heap->(∀b,H b≠none->b=a)->(H a≠none->K.lookup a=none) ->
   codeAny (model P w) callerA (.call (.ref fa) ⟨[.ref a],[]⟩) (λr s'=>r=.ok (.ret (.bool true))/\OldK s₁.heap s'.heap/\s'.os=s₁.os/\Jj s'.gens) s₁:=by
  intro H hO hS hok hA hK;have base_of:∀{b:Addr}{o:Obj},s₁.heap.get? b=some o->H b=none->(xF s₁.heap H).get? b=some o:=λe n=>xG e n
  have noA:∀{b:Addr}{o:Obj}{es:Array Kj}{ep:Nat},s₁.heap.get? b=some o->o.data=.dict es ep->H b=none:=λ{b o es ep} e d=>by
   cases q:H b with
   | none=>rfl
   | some u =>
    have e':b=a:=hA b (by rw [q];simp);subst e';rw [ha] at e;cases e;have d':Data.seq vs.toArray _=Data.dict es ep:=d;cases d'
  have nsK:∀{b:Addr}{m:Str->Option Value},s₁.heap.Ns b m->(xF s₁.heap H).Ns b m:=λ{b m} ⟨o,es,ep,e,d,r⟩=>⟨o,es,ep,base_of e (noA e d),d,r⟩
  have hKb:K.In (xF s₁.heap H):=λb o e=>base_of (KX b o e) (by
   cases q:H b with
   | none=>rfl
   | some u =>
    have e':b=a:=hA b (by rw [q];simp);subst e';rw [hK (by rw [q];simp)] at e;cases e)
  have hM:Mod K mg (xF s₁.heap H):=⟨hKb,nsK hns,⟨mb,nsK hb,hbb⟩,let ⟨mc,h1,h2⟩:=hlim;⟨mc,nsK h1,h2⟩⟩
  have e0:zU P w K mg (xF s₁.heap H) callerA [] s₁ H:=⟨rfl,hM,λb o e=>zK e,J9 (vm _ _),trivial,λb hb=>absurd (show b∈([]:List Addr) from hb) (by simp),hok,.of_eq hg⟩
  refine JI ((F _ hKb (nsK hns)).run callerA [] s₁ H ⟨[.ref a],[]⟩ [.ref a] [.ref a] _ _ hr e0 (hbind s₁ (.ref a)) (.cons rfl .nil) (hsp H hO hS)) λr s' h=>?_
  cases r with
  | error e=>exact (hCX H e s' h).elim
  | ok fl =>
   cases fl with
   | next=>exact He h
   | brk=>exact He h
   | cont=>exact He h
   | ret u =>
    obtain⟨v,H',os,bare,un,hok',r',q⟩:=h;have q':v=.bl true:=q;subst q';obtain rfl:u=Hc true:=r';refine⟨rfl,OldK.of_keep λb o e=>?_,os,bare⟩
    cases q:H b with
    | none=>exact un.keep b o e q (by intro z;exact absurd (show b∈([]:List Addr) from z) (by simp)) (by simp)
    | some u =>
     rcases hO b with z|⟨ob,xs,z⟩
     .rw [q] at z;cases z
     .have z2:=un.frzs b ob _ z;obtain⟨e1,_⟩:=hok b _ z;obtain⟨e2,_⟩:=hok' b _ z2;rw [e] at e1;cases e1;exact e2
 cases hk:K.lookup a with
 | some o =>
  -- the script is one of the module's own objects
  have e:=KX a o hk;rw [ha] at e;cases e;refine core (λ_=>none) (λ_=>.inl rfl) (.inr ⟨_,vs.toArray,_,hk,rfl,rfl,rfl,by rw [so,lenV];exact hl,by simpa using rv⟩) (λb u z=>by have z':(none:Option HO)=some u:=z;cases z') (λb z=>absurd rfl z) λz=>absurd rfl z
 | none =>
  refine core (λb=>if b=a then some (.frz { cls:=.type "list",data:=.seq vs.toArray } (.lst (ns.map V.int))) else none) (λb=>?_) (.inl (.inr ⟨{ cls:=.type "list",data:=.seq vs.toArray },if_pos rfl⟩)) (λb u z=>?_) (λb z=>?_) λ_=>hk
  .by_cases hb:b=a
   .exact .inr ⟨_,_,if_pos hb⟩
   .exact .inl (if_neg hb)
  .by_cases hb:b=a
   .have z':=(if_pos hb).symm.trans z;cases z';subst hb;exact⟨ha,by rw [length_map];exact hl,vs,_,rv,ha⟩
   .have z':=(if_neg hb).symm.trans z;cases z'
  .by_cases hb:b=a
   .exact hb
   .exact absurd (if_neg hb) z
def Ac{l:JT}{n k:Nat}{q:s_}{loose:List Str}{XP:(Str->Option Value)->Heap->Prop}{YP:World->Heap->Prop}{d:DefRec}{K:IX->a_}{CX:World->CXT}{sp:World->Sp}{x:Str}
  (hn:l.most=some n) (hn2:n<=sizeLine) (hdf:d.params.defaults=[]) (hr:fh k callerA)
  (hY:∀(w:World) (h:Heap),YP w h->(K w.params).In h)
  (F:∀(w:World) (mg:Str->Option Value) (fa:Addr) (h:Heap),(K w.params).In h->h.Ns mainGlobals mg->mg d.name=some (.ref fa) ->
   ∃fd:G7,(∀(s:c_) (u:Value),JH s fd ⟨[u],[]⟩ [(x,u)]) /\
    ∀base:Heap,(K w.params).In base->base.Ns mainGlobals mg->pU l.prog w (K w.params) mg base (CX w) k fa fd [x] (sp w))
  (hsp:∀(w:World) (H:Hp) (a:Addr) (ns:List Int),ns.length<=n->Em H->SqL (K w.params) H a (ns.map V.int)->sp w [.ref a] H (λv _=>v=.bl true) λ_ _ _=>False)
  (hCX:∀(w:World) (H:Hp) (s:c_) (e:Value) (s':c_),CX w [] H s (λ_ _ _=>False) e s'->False) :
  PySem.W.WalkO q loose XP YP l.row.toRowW d [] (λf vs=>PySem.call f vs):=by
 refine Att.attach_call hn hdf λw s₀ s₁ mg mb fa o pm cd doc a vs ns G Y ho hd hcd hmg hobj hints hlen hg=>?_;have KX:=hY w _ Y;obtain⟨fd,hb,hF⟩:=F w mg fa _ KX G.T.g hmg;exact xR KX G.T.g G.T.b G.T.builtins G.T.nolimit hg hobj hints (E_ hlen hn2) hr hF hb (λH hO hS=>hsp w H a ns hlen hO hS) λH e s'=>hCX w H s₁ e s'
noncomputable def Ad(s:Stmt)(j:Nat):Stmt:=match s with
 | .ClassDef _ _ _ body _ _ _ _ _ _ _=>body.getD j (.Pass ⟨0,0,0,0⟩)
 | _=>.Pass ⟨0,0,0,0⟩
noncomputable def bS(s:Stmt):Arguments:=match s with
 | .FunctionDef _ a _ _ _ _ _ _ _ _=>a
 | _=>{ posonlyargs:=[],args:=[],vararg:=none,kwonlyargs:=[],kw_defaults:=[],kwarg:=none,defaults:=[] }
noncomputable def bj(s:Stmt):List Stmt:=match s with
 | .FunctionDef _ _ b _ _ _ _ _ _ _=>b
 | _=>[]
noncomputable def ak(s:Stmt):Scope:=match s with
 | .FunctionDef _ _ _ _ _ _ sc _ _ _=>sc
 | _=>{ kind:=.function,names:=[],isGenerator:=false,isCoroutine:=false }
abbrev CX0:CXT:=λ_ _ _ _ _ _=>False
abbrev E0:XK:=λ_ _ _=>False
def Ae{X:Cx}:pV CX0 X E0:=λ_ _ _ _ _ _ _ h=>h.elim
structure Fun (K:a_) (x qual:Str) (st:Stmt) (f:Addr) (fd:G7):Prop where
 ex:∃(oc:Value) (od:Option Addr) (kV doc pm:Value) (an:Option Addr) (cdv ct:Value) (osl:Array (Option Value)),
  fd=C_ x qual (bS st) (bj st) (ak st) .none kV doc pm an cdv ct/\K.lookup f=some ⟨oc,od,.func fd,osl⟩/\GT K cdv qual=true
 kp:A_ K (.ref f)=true
section
variable {P:s_}{w:World}{K:a_}{mg:Str->Option Value}{base:Heap}
def Fun.ok{x qual:Str}{st:Stmt}{f:Addr}{fd:G7}{N ps:List Str}{k:Nat}{sp:Sp}(F:Fun K x qual st f fd)(S:aA N ps (ak st))(len:∀vs H Q E,sp vs H Q E->vs.length=ps.length)
  (hbody:∀(cdv:Value) (A:z_) (outer:List Env) (s:c_) (H:Hp) (vs:List V) (Q:VK) (E:XK),fh k (A.deeper (envOfC qual (ak st) s.heap.objs.size f cdv))->sp vs H Q E ->
   ∃t,PSs (uB CX0 P w K mg base N qual (ak st) f cdv A outer s H E).nox (bj st) t/\t { nx:=λ_ H'=>Q .non H',rt:=Q } (start N vs) H):pU P w K mg base CX0 (k+1) f fd ps sp:=by
 obtain⟨oc,od,kV,doc,pm,an,cdv,ct,osl,rfl,lk,hcd⟩:=F.ex;refine Cf lk hcd S len λA outer s H vs Q E hr hsp=>?_;obtain⟨t,h,q⟩:=hbody cdv A outer s H vs Q E hr hsp;exact⟨t,h.nox,q⟩
def Fun.binds{x qual:Str}{st:Stmt}{f:Addr}{fd:G7}{ps:List Str}(F:Fun K x qual st f fd)
  (h:∀(kV doc pm:Value) (an:Option Addr) (cdv ct:Value) (us:List Value),us.length=ps.length->bindArgs (C_ x qual (bS st) (bj st) (ak st) .none kV doc pm an cdv ct) ⟨us,[]⟩=pure (ps.zip us)):mF K fd ps []:=by
 obtain⟨oc,od,kV,doc,pm,an,cdv,ct,osl,rfl,lk,hcd⟩:=F.ex;exact .all (h kV doc pm an cdv ct)
def yM{x qual:Str}{st:Stmt}{f:Addr}{oc:Value}{od an:Option Addr}{osl:Array (Option Value)}{kV doc pm cdv ct:Value}(l:K.lookup f=some ⟨oc,od,.func (C_ x qual (bS st) (bj st) (ak st) .none kV doc pm an cdv ct),osl⟩)
  (c:GT K cdv qual=true) (k:A_ K (.ref f)=true):Fun K x qual st f (C_ x qual (bS st) (bj st) (ak st) .none kV doc pm an cdv ct):=⟨⟨oc,od,kV,doc,pm,an,cdv,ct,osl,rfl,l,c⟩,k⟩
end
section
variable {X:Cx}
theorem pv(i:Nat){x:Str}{pos:Pos}(hN:X.N[i]?=some x:=by rfl)(hv:Vis X.env.scope x:=by first|exact Or.inl rfl|exact Or.inr (Or.inl rfl)|exact Or.inr (Or.inr rfl))(hd:(x == ("__debug__":Str))=false:=by decide)
  (hcd:(x == ("__classdict__":Str))=false:=by decide):PE X (.Name x pos) (bu i):=BX hN hv hd hcd
end
def S(l:List Nat):Str:=⟨l.toArray⟩
def gb(l:List Nat):(S l).length=l.length:=by simp [S,Str.length]
def Af(a b:List Nat):S a++S b=S (a++b):=by
 show (⟨a.toArray++b.toArray⟩:Str)=⟨(a++b).toArray⟩
 rw [append_toArray]
def Cp{a b:List Nat}(h:S a=S b):a=b:=by
 have h':=congrArg (λx:Str=>x.cps.toList) h;simpa [S] using h'
def Gf{a b:List Nat}(h:a≠b):S a≠S b:=λe=>h (Cp e)
def Cq{a b:List Nat}:V.str (S a)=V.str (S b) ↔ a=b:=⟨λh=>Cp (V.str.inj h),λh=>by rw [h]⟩
def Cr(a b:List Nat):decide (V.str (S a)=V.str (S b))=decide (a=b):=by
 by_cases h:a=b
 .rw [decide_eq_true h,decide_eq_true (Cq.mpr h)]
 .rw [decide_eq_false h,decide_eq_false (λz=>h (Cq.mp z))]
noncomputable def cZ{α:Type}(xs:List α)(lo hi:Option Int):List α:=(xs.drop (HT.sIx xs.length 0 lo)).take (HT.sIx xs.length xs.length hi - HT.sIx xs.length 0 lo)
def bv{α:Type}(xs:List α)(lo hi:Option Int):(cZ xs lo hi).length<=xs.length:=by
 unfold cZ;rw [length_take,length_drop];omega
def vO(xs:List V)(lo hi:Option Int):zW xs lo hi=cZ xs lo hi:=rfl
def Cs(lo hi:Option Int)(n:Nat):Hf lo hi 1 n=(e_ (HT.sIx n n hi - HT.sIx n 0 lo)).map (λk=>HT.sIx n 0 lo+k):=by
 have key:∀(o:Option Int) (d:Nat),d<=n->(match o with|none=>(d:Int)|some i=>max 0 (min (if i<0 then i+(n:Int) else i) (n:Int)))=((HT.sIx n d o:Nat):Int):=by
  intro o d hd
  cases o with
  | none=>rfl
  | some i =>
   show max 0 (min (if i<0 then i+(n:Int) else i) (n:Int))=_;rw [<- HT.clip_eq i n d]
   by_cases h:i<0
   .rw [if_pos h,if_pos h];omega
   .rw [if_neg h,if_neg h];omega
 have k1:=key lo 0 (G4 _);have k2:=key hi n (o_ _);unfold Hf;simp only [show (1:Int) > 0 by decide,if_true];refine Eq.trans (congrArg (λa=>sliceRange a _ 1) k1) (Eq.trans (congrArg (λb=>sliceRange _ b 1) k2) ?_);unfold sliceRange;simp only [show (1:Int) > 0 by decide,if_true];generalize HT.sIx n 0 lo=a;generalize HT.sIx n n hi=b
 have ec:(if (a:Int)<(b:Int) then ((b:Int) - (a:Int)+1 - 1) / 1 else 0).toNat=b - a:=by
  split <;> omega
 rw [ec];apply Ja;intro k _;omega
def vP{α:Type}(l:List α)(a m:Nat):((e_ m).map (λk=>a+k)).filterMap (λi=>l[i]?)=(l.drop a).take m:=by
 induction m generalizing a with
 | zero=>simp
 | succ m ih =>
  rw [range_succ_eq_map,map_cons,map_map,Im];have e:((λk=>a+k) ∘ Nat.succ)=λk=>(a+1)+k:=by funext k;simp;omega
  rw [e,ih (a+1)]
  cases h:l[a+0]? with
  | none =>
   have hl:l.length<=a:=by simpa using List.getElem?_eq_none_iff.mp h
   rw [HJ hl,HJ (by omega)];simp
  | some v =>
   have hl:a<l.length:=by simpa using (h_.mp h).1
   have hv:l[a]=v:=by simpa using (h_.mp h).2
   rw [drop_eq_getElem_cons hl,hv];rfl
def Ag(l:List Nat)(lo hi:Option Int):Txt.slice (S l) lo hi=S (cZ l lo hi):=by
 have e1:(Hf lo hi 1 (S l).length).filterMap ((S l).cps[·]?)=cZ l lo hi:=by
  rw [Cs,gb];have e:(λi:Nat=>(S l).cps[i]?)=λi:Nat=>l[i]?:=by funext i;simp [S]
  rw [e];exact vP l _ _
 unfold Txt.slice
 split
 .rename_i h;have h2:(Hf lo hi 1 (S l).length).length=(S l).length:=by simpa using h
  rw [Cs,gb,length_map,B_] at h2;have a0:=HT.sIx_le l.length 0 (G4 _) lo;have b0:=HT.sIx_le l.length l.length (o_ _) hi;unfold cZ
  by_cases hz:l.length=0
  .have:l=[]:=Hl.mp hz;subst this;simp
  .have ha:HT.sIx l.length 0 lo=0:=by omega
   have hb:HT.sIx l.length l.length hi=l.length:=by omega
   rw [ha,hb];simp
 .rw [e1];rfl
def dL{α:Type}(l:List α)(k:Nat):cZ l none (some (k:Int))=l.take k:=by
 unfold cZ;rw [HT.sIx_nat];show (l.drop 0).take (min k l.length - 0)=l.take k;rw [drop_zero,IS]
 by_cases h:k<=l.length
 .rw [Ii h]
 .rw [JN (by omega),G0 (o_ _),G0 (by omega)]
def eV{α:Type}(l:List α)(k:Nat):cZ l (some (k:Int)) none=l.drop k:=by
 unfold cZ;rw [HT.sIx_nat];show (l.drop (min k l.length)).take (l.length - min k l.length)=l.drop k
 by_cases h:k<=l.length
 .rw [Ii h,G0 (by rw [length_drop];exact o_ _)]
 .rw [JN (by omega),sub_self,take_zero,HJ (by omega)]
def qc{α:Type}(l:List α)(i j:Nat):cZ l (some (i:Int)) (some (j:Int))=(l.drop i).take (j - i):=by
 unfold cZ;rw [HT.sIx_nat,HT.sIx_nat]
 by_cases h:i<=l.length
 .rw [Ii h]
  by_cases h2:j<=l.length
  .rw [Ii h2]
  .rw [JN (by omega),G0 (by rw [length_drop];omega),G0 (by rw [length_drop];omega)]
 .have e:min i l.length=l.length:=JN (by omega);rw [e,HJ (o_ _),HJ (by omega),take_nil,take_nil]
section
variable {X:Cx}
noncomputable def Fz:V->Option Int->Option Int->Hp->VK->Prop:=λx lo hi H Q=>∃l,x=.str (S l)/\l.length<=sizeLine/\Q (.str (S (cZ l lo hi))) H
def Ct:SlR X Fz:=by
 intro pins s σ H x v vl vu lo hi sl Q I rx hs pl pu h;obtain⟨l,rfl,hz,q⟩:=h;obtain⟨t,rfl⟩:=rx;refine⟨"str",_,slot_str_getitem.lookup,typeIs_str s _ t,?_⟩
 obtain⟨l',hl',el⟩:∃l':Option (Int×Tok),vl=partValue l'/\l'.map (·.1)=lo:=by
  cases pl with
  | none=>exact⟨none,rfl,rfl⟩
  | int i t=>exact⟨some (i,t),rfl,rfl⟩
 obtain⟨u',hu',eu⟩:∃l':Option (Int×Tok),vu=partValue l'/\l'.map (·.1)=hi:=by
  cases pu with
  | none=>exact⟨none,rfl,rfl⟩
  | int i t=>exact⟨some (i,t),rfl,rfl⟩
 subst hl' hu';refine wpAny_getItem_str_slice (l:=l') (u:=u') (st:=none) hs rfl ?_;have hm:∀t' k,EP X pins σ Q (.str (Txt.slice (S l) lo hi) t') { s with toks:=k }:=λt' k=>⟨.str (S (cZ l lo hi)),H,I.tok _,⟨t',by rw [Ag]⟩,q⟩
 have hlen:(Txt.slice (S l) lo hi).length<=sizeLine:=E_ (Txt.slice_le _ _ _) (by rw [gb];exact hz);subst el eu;exact post_val_or_str ⟨hlen,hm⟩
noncomputable def g9{α:Type}(l:List α)(n:Int):List α:=(f_ n.toNat l).flatten
def vQ(k:Nat)(l acc:List Nat):(f_ k l.toArray).foldl (·++·) acc.toArray=(acc++(f_ k l).flatten).toArray:=by
 induction k generalizing acc with
 | zero=>simp
 | succ k ih =>
  rw [replicate_succ,foldl_cons,append_toArray,ih (acc++l),replicate_succ,flatten_cons,append_assoc]
def En(l:List Nat)(n:Int):Txt.mul (S l) n=S (g9 l n):=by
 unfold Txt.mul g9
 by_cases h:n<1
 .rw [if_pos h];have:n.toNat=0:=by omega
  rw [this];rfl
 .rw [if_neg h]
  split
  .rename_i h2;rw [gb] at h2;simp only [or_eq_true,beq_iff_eq] at h2
   rcases h2 with h2|h2
   .subst h2;simp [S]
   .have:l=[]:=Hl.mp h2;subst this;simp [S]
  .have e:=vQ n.toNat l [];show (⟨_⟩:Str)=_
   have e':(f_ n.toNat (S l).cps).foldl (·++·) #[]=((f_ n.toNat l).flatten).toArray:=by
    simpa [S] using e
   rw [e'];rfl
def cF{α:Type}(l:List α)(n:Int):(g9 l n).length=n.toNat*l.length:=by
 unfold g9;rw [length_flatten,map_replicate,sum_replicate_nat]
def uG:OpR X (binaryOp .Mult) (λx y H Q=>∃l n,x=.str (S l)/\y=.int n/\-1000000<=n/\n<=1000000/\n.toNat*l.length<=sizeLine/\Q (.str (S (g9 l n))) H):=by
 intro pins s σ H x y v u Q I rx ry h;obtain⟨l,n,rfl,rfl,h1,h2,hz,q⟩:=h;obtain⟨t,rfl⟩:=rx;obtain⟨t',rfl⟩:=ry;have hs:sizeLine=16777216:=IJ;have hz':n.toNat*l.length<=16777216:=by rw [<- hs];exact hz
 refine SB.mul ⟨?_,λhn hc=>?_,λhn hc=>?_⟩ λt' k=>⟨.str (S (g9 l n)),H,I.tok _,⟨t',by rw [En]⟩,q⟩
 .rw [decide_eq_false (by omega),decide_eq_false (by omega)];rfl
 .rw [gb];intro hgt
  have hl:l.length<=16777216:=by
   have:1*l.length<=n.toNat*l.length:=JA _ (by omega);omega
  have hdiv:(2^63 - 1:Int) / 1000000<=(2^63 - 1) / n:=by
   apply le_ediv_of_mul_le (by omega);have:=mul_le_mul_of_nonneg_left h2 (show (0:Int)<=(2^63 - 1) / 1000000 by decide);have e2:((2^63 - 1:Int) / 1000000)*1000000<=2^63 - 1:=by decide
   omega
  have e3:(2^63 - 1:Int) / 1000000=9223372036854:=by decide
  omega
 .rw [gb];have:l.length*n.toNat<=16777216:=by rw [Jz];exact hz'
  exact decide_eq_false (by omega)
def vR:OpR X (compareOp .LtE) (λx y H Q=>∃i j,x=.str i/\y=.str j/\Q (.bl (!decide (j.cps.toList<i.cps.toList))) H):=by
 intro pins s σ H x y v u Q I rx ry h;obtain⟨i,j,rfl,rfl,q⟩:=h;obtain⟨t,rfl⟩:=rx;obtain⟨t',rfl⟩:=ry;exact PySem.P.le_str ⟨.bl _,H,I,rfl,q⟩
end
noncomputable def Its(xs:List V):It:=⟨λi _=>i<xs.length,λi H x H'=>H'=H/\xs[i]?=some x,λi _=>xs.length=i⟩
def vS{M:Model}{A:z_}{E:Value->c_->Prop}{s:c_}{tg:Expr}{it:Addr}{u:Value}{Q:Unit->c_->Prop}(hu:∀a,u≠.ref a)(hQ:Q () s):wpAny M A (letOwnedTupleGo tg (.ref it) u) Q E s:=by
 unfold letOwnedTupleGo
 cases tg <;> first
  | exact gV hQ
  | (cases u <;> first
    | exact gV hQ
    | exact absurd rfl (hu _))
def k9{P:s_}{w:World}{K:a_}{tg:Expr}{it:Addr}{xs:List V}{n:Nat}{Pt:Nat->Value->Prop}{St:Nat->Heap->Prop}
  (W:∀A:z_,A.handled=none->Walks P w A it [it] [it] n Pt St) (hn:xs.length=n)
  (hv:∀i v,i<n->Pt i v->∃x,xs[i]?=some x/\cY x v) (hsc:∀i v,Pt i v->∀a,v≠.ref a)
  (hobj:∀i h,St i h->∃o,h.get? it=some o/\∀v,o.data≠.cell v)
  (hfr:∀i h h',St i h->(∀b∈[it],∀o,h.get? b=some o->h'.get? b=some o)->St i h')
  (hself:∀(A:z_) (i:Nat) (s:c_) (Q:Value->c_->Prop) (E:Value->c_->Prop),St i s.heap->Q (.ref it) s->wpAny (model P w) A (pyIter (.ref it)) Q E s) :
  zM P w K tg (Its xs) [it] it St where
 mem:=by simp
 obj:=λi h st b hb=>by
  have e:b=it:=by simpa using hb
  subst e;exact hobj i h st
 keep:=λi h h' st k=>hfr i h h' st k
 item:=by
  intro X hP hw hK hc i pins s σ H E I hf st hg;subst hP hw hK;obtain⟨f0,f1,f2,f3,f4,f5⟩:=hf it (by simp);refine (W X.A (I.ok.hd hc)).item i s _ _ (by rw [<- hn];exact hg) st λv h' tk hp st' kk=>?_;obtain⟨x,hx,rx⟩:=hv i v (by rw [<- hn];exact hg) hp;have I1:Inv X pins σ H { s with heap:=h',toks:=tk }:=I.turned (λb o hb e=>kk b o (by simpa using hb) e) f0 f1 f3 f4 f5;exact⟨v,rfl,vS (s:={ s with heap:=h',toks:=tk }) (hsc i v hp) ⟨x,H,I1,rx,⟨rfl,hx⟩,st',λb hb=>(hf b hb).1⟩⟩
 done:=by
  intro X hP hw hK hc i pins s σ H E I hf st hg;subst hP hw hK;obtain⟨f0,f1,f2,f3,f4,f5⟩:=hf it (by simp);have e:n=i:=hn.symm.trans hg;subst e;exact (W X.A (I.ok.hd hc)).done s _ _ st λh' tk kk=>⟨rfl,I.turned (λb o hb e=>kk b o (by simpa using hb) e) f0 f1 f3 f4 f5⟩
 self:=hself
section
variable {X:Cx}{tg:Expr}
noncomputable def gg(l:List Nat):List V:=l.map λc=>V.str (S [c])
def uH{l:List Nat}{i:Nat}{x:V}(h:(gg l)[i]?=some x):∃c,l[i]?=some c/\x=.str (S [c]):=by
 unfold gg at h;rw [i_] at h
 cases e:l[i]? with
 | none=>rw [e] at h;cases h
 | some c=>rw [e] at h;exact⟨c,rfl,(q_ h).symm⟩
def jD(l:List Nat):(gg l).length=l.length:=length_map _
noncomputable def nO(i:Int)(n:Nat):List V:=(e_ n).map λ(k:Nat)=>V.int (i - k)
def lb(i:Int)(n:Nat):(nO i n).length=n:=by simp [nO]
def vT{i:Int}{n k:Nat}{x:V}(h:(nO i n)[k]?=some x):k<n/\x=.int (i - k):=by
 unfold nO at h;rw [i_] at h
 by_cases hk:k<n
 .rw [GK hk] at h;exact⟨hk,(q_ h).symm⟩
 .rw [we (by simp;omega)] at h;cases h
noncomputable def Cu(ta:TA):TI:=λσ H R=>ta σ H λvs H1=>∃i j:Int,vs=[.int i,.int j,.int (-1)]/\(-(2^60)<=i/\i<2^60/\-(2^60)<=j/\j<2^60)/\R (Its (nO i (i - j).toNat)) H1
def ib(i j:Int):Ig i j (-1)=(((i - j).toNat:Nat):Int):=by
 unfold Ig;rw [if_neg (by decide)];simp only [neg_neg,ediv_one];split <;> omega
def qd{a b c:Expr}{ta:TA}{p pos:Pos}(hg:Gl X "range")(hm:X.mg "range"=none)(ha:PA X [a,b,c] ta)
  (hs:starEach [a,b,c] X.env=[(false,eval a X.env),(false,eval b X.env),(false,eval c X.env)]:=by rfl) (hs2:starEach [b,c] X.env=[(false,eval b X.env),(false,eval c X.env)]:=by rfl) :
  PI X tg (.Call (.Name "range" p) [a,b,c] [] pos) (Cu ta):=by
 intro pins s σ H R I h;refine Call_ (kS I hg hm boot_range (GY (thn (ha pos pins s σ H _ I h) λus s1 ⟨vs,H1,I1,r1,q1⟩=>?_) (by rw [hs,hs2]) (by rw [hs2];rfl)));obtain⟨i,j,e,⟨q1,q2,q3,q4⟩,q⟩:=q1;subst e
 cases r1 with
 | cons r rr =>
  cases rr with
  | cons r' rr =>
   cases rr with
   | cons r'' rr =>
    cases rr;obtain⟨t,rfl⟩:=r;obtain⟨t',rfl⟩:=r';obtain⟨t'',rfl⟩:=r'';refine call_range_3 (by decide) ?_ (.inl (JF (by decide)))
    refine wpAny_pyIter_range (IsRange.new ..) ?_ ?_
    .unfold Builtin.Range.small;rw [ib];simp only [Builtin.Range.rangeFitsLong,and_eq_true,or_eq_true,decide_eq_true_eq,beq_iff_eq,show ¬ (-1:Int) > 0 by decide,if_false];omega
    have I2:Inv X pins σ H1 { s1 with heap:=s1.heap.push { cls:=.type "range",data:=.fields #[.int i t,.int j t',.int (-1) t''] },toks:=s1.toks }:=I1.kept λb o e=>d_ _ e
    refine⟨_,[(s1.heap.push { cls:=.type "range",data:=.fields #[.int i t,.int j t',.int (-1) t''] }).objs.size],_,Its (nO i (i - j).toNat),H1,rfl,I2.kept (t':=s1.toks) λb o e=>d_ _ e,
     k9 (λA hA=>Walks.range hA _ i (-1) (i - j).toNat) (lb _ _) ?_ ?_ ?_ ?_ (λA i s Q E st q=>wpAny_pyIter_rangeiter st q),?_,λb hb=>?_,q⟩
    .rintro k v hk ⟨t,rfl⟩
     refine⟨.int (i - k),?_,t,?_⟩
     .unfold nO;rw [i_,GK hk];rfl
     .have e:i+(k:Int)*(-1)=i - k:=by omega
      rw [e]
    .rintro k v ⟨t,rfl⟩ a z;cases z
    .exact λk h st=>⟨_,st,λv z=>by
      have z':Data.fields _=Data.cell v:=z;cases z'⟩
    .exact λk h h' st kk=>kk _ (by simp) _ st
    .show IsRangeIter _ _ (i+((0:Nat):Int)*(-1)) ((((i - j).toNat:Nat):Int) - ((0:Nat):Int)) (-1);rw [<- ib];simp only [natCast_zero,zero_mul,Int.add_zero,Int.sub_zero];exact j_ _ rfl
    .have e:b=(s1.heap.push { cls:=.type "range",data:=.fields #[.int i t,.int j t',.int (-1) t''] }).objs.size:=by simpa using hb
     subst e;exact I2.fpOk (o_ _) (I2.hok.fresh (o_ _))
end
section
variable {X:Cx}
def rH:bI X (.builtin "isinstance") (λxs H Q=>∃x n t b,xs=[x,.ty n]/\pR X.K H x t/\Hk X.K t (.type n)=some b/\Q (.bl b) H):=by
 intro pins s σ H xs us Q I r h;obtain⟨x,n,t,b,rfl,ty,e,q⟩:=h;obtain⟨u,w',rfl,rx,ry⟩:=vz r;cases (show w'=HZ n from ry);exact vE I rx ty e λtk=>⟨.bl b,H,I.tok _,rfl,q⟩
mutual
inductive DV (K:a_) (H:Hp):V->ID->Prop
 | non:DV K H .non .none
 | bl (b:Bool):DV K H (.bl b) (.bool b)
 | int (i:Int):DV K H (.int i) (.int i)
 | str (x:Str):DV K H (.str x) (.str x)
 | lst {a:Addr}{xs:List V}{ds:List ID}:SqL K H a xs->DVs K H xs ds->DV K H (.ref a) (.list ds)
 | tup {a:Addr}{xs:List V}{ds:List ID}:SqT K H a xs->DVs K H xs ds->DV K H (.ref a) (.tuple ds)
inductive DVs (K:a_) (H:Hp):List V->List ID->Prop
 | nil:DVs K H [] []
 | cons {x:V}{d:ID}{xs:List V}{ds:List ID}:DV K H x d->DVs K H xs ds->DVs K H (x::xs) (d::ds)
end
mutual
theorem DV.reads{pins:List (Addr×Obj)}{σ:St}{H:Hp}{s:c_}(I:Inv X pins σ H s):∀{x:V}{d:ID}{u:Value},DV X.K H x d->cY x u->∃as,Reads s.heap u d as
 | _,_,u,.non,r=>by cases (show u=Hr from r);exact⟨_,.none⟩
 | _,_,u,.bl b,r=>by cases (show u=Hc b from r);exact⟨_,.bool b⟩
 | _,_,u,.int i,r=>by obtain⟨t,e⟩:=(show ∃t,u=Jw i t from r);subst e;exact⟨_,.int i t⟩
 | _,_,u,.str x,r=>by obtain⟨t,e⟩:=(show ∃t,u=IB x t from r);subst e;exact⟨_,.str x t⟩
 | _,_,u,.lst (a:=a) hq hs,r=>by
  cases (show u=u1 a from r);obtain⟨its,rv,pl,_⟩:=I.list hq;obtain⟨o,ho,hc,n,hd⟩:=pl.isList;obtain⟨as,ra⟩:=DVs.reads I hs rv;exact⟨_,.list ho hc hd ra⟩
 | _,_,u,.tup (a:=a) hq hs,r=>by
  cases (show u=u1 a from r);obtain⟨its,rv,pl,_⟩:=I.tuple hq;obtain⟨o,ho,hc,n,hd⟩:=pl;obtain⟨as,ra⟩:=DVs.reads I hs rv;exact⟨_,.tuple ho hc hd ra⟩
theorem DVs.reads{pins:List (Addr×Obj)}{σ:St}{H:Hp}{s:c_}(I:Inv X pins σ H s):∀{xs:List V}{ds:List ID}{us:List Value},DVs X.K H xs ds->bJ xs us->∃as,ReadsAll s.heap us ds as
 | _,_,_,.nil,.nil=>⟨_,.nil⟩
 | _,_,_,.cons h hs,.cons r rs=>by
  obtain⟨as,ra⟩:=DV.reads I h r;obtain⟨bs,rb⟩:=DVs.reads I hs rs;exact⟨_,.cons ra rb⟩
end
noncomputable def Ep(K:a_)(neg:Bool):R2:=λx y H Q=>∃da db,DV K H x da/\DV K H y db/\Hg da=true/\Hg db=true/\Q (.bl (if neg then !Ib da db else Ib da db)) H
def Cv(hu:X.A.units+64<cLine):OpR X (compareOp .Eq) (Ep X.K false):=by
 intro pins s σ H x y v u Q I rx ry h;obtain⟨da,db,ha,hb,sa,sb,q⟩:=h;obtain⟨as,ra⟩:=DV.reads I ha rx;obtain⟨bs,rb⟩:=DV.reads I hb ry;exact eq_dataH ra rb sa sb hu ⟨.bl _,H,I,rfl,q⟩
def Cw(hu:X.A.units+64<cLine):OpR X (compareOp .NotEq) (Ep X.K true):=by
 intro pins s σ H x y v u Q I rx ry h;obtain⟨da,db,ha,hb,sa,sb,q⟩:=h;obtain⟨as,ra⟩:=DV.reads I ha rx;obtain⟨bs,rb⟩:=DV.reads I hb ry;exact ne_dataH ra rb sa sb hu ⟨.bl _,H,I,rfl,q⟩
theorem DVs.ints{K:a_}{H:Hp}:∀ns:List Int,DVs K H (ns.map V.int) (ns.map JO)
 | []=>.nil
 | n::ns=>.cons (.int n) (DVs.ints ns)
theorem lc:∀ns ms:List Int,HU (ns.map JO) (ms.map JO)=decide (ns=ms)
 | [],[]=>by simp [HU]
 | [],_::_=>by simp [HU]
 | _::_,[]=>by simp [HU]
 | a::r,b::t=>by
  simp only [map_cons,HU,Ib,lc r t]
  by_cases h:a=b <;> by_cases h':r=t <;> simp [h,h']
def rJ:MtR X "str.endswith" (λx xs H Q=>∃a b,x=.str (S a)/\xs=[.str (S b)]/\Q (.bl (decide (b <:+ a))) H):=by
 intro pins s σ H x xs v us Q I rx rs h;obtain⟨a,b,rfl,rfl,q⟩:=h;obtain⟨t,rfl⟩:=rx;obtain⟨u,rfl,t',rfl⟩:=iq rs
 have e:Txt.endswith (S a) (S b)=decide (b <:+ a):=by
  unfold Txt.endswith Iw;rw [gb,gb]
  have e1:((S a).cps.extract (a.length - b.length) (a.length - b.length+b.length))=((a.drop (a.length - b.length)).take b.length).toArray:=by
   show a.toArray.extract _ _=_;rw [extract_toArray,extract_eq_take_drop];have e2:a.length - b.length+b.length - (a.length - b.length)=b.length:=by omega
   rw [e2]
  rw [e1]
  by_cases h:b <:+ a
  .rw [decide_eq_true h];have hl:=h.length_le;have hd:a.drop (a.length - b.length)=b:=(suffix_iff_eq_drop.mp h).symm;rw [hd];simp [S,hl]
  .rw [decide_eq_false h]
   by_cases hl:b.length<=a.length
   .have hne:¬ (a.drop (a.length - b.length)).take b.length=b:=λz=>h (by
     rw [G0 (by rw [length_drop];omega)] at z;exact suffix_iff_eq_drop.mpr z.symm)
    simp only [and_eq_false_imp];intro _;show (((a.drop (a.length - b.length)).take b.length).toArray == b.toArray)=false;rw [beq_eq_false_iff_ne];intro z;exact hne (by simpa using congrArg JE z)
   .rw [decide_eq_false (by omega)];rfl
 exact SC.endswith ⟨.bl _,H,I,rfl,by rw [e];exact q⟩
end
section
variable {X:Cx}{a b:Expr}{ta tb:TE}{pos:Pos}
def bp{x:Str}{l:List Nat}{j:Nat}(h:x=S l):PE X (.Constant (.str x) j pos) (tC (.str (S l))):=by
 subst h;exact BY
def vU:bI X (.builtin "len") (λxs H Q=>∃l,xs=[.str (S l)]/\l.length<=sizeLine/\Q (.int l.length) H):=by
 intro pins s σ H xs us Q I r h;obtain⟨l,rfl,hz,q⟩:=h;exact p7 pins s σ H _ us Q I r ⟨S l,rfl,by rw [gb];exact hz,by rw [gb];exact q⟩
noncomputable def Cy:R2:=λx y H Q=>∃l i c,x=.str (S l)/\y=.int i/\l.length<=sizeLine/\atI l i=some c/\Q (.str (S [c])) H
def Ah:IxR X Cy:=by
 intro value slice pins s σ H x y v u Q I rx ry q hs;obtain⟨l,i,c,rfl,rfl,hz,ha,q⟩:=q;exact Cj value slice pins s σ H _ _ v u Q I rx ry ⟨S l,i,c,rfl,rfl,by rw [gb];exact hz,ha,q⟩ hs
def Aj:OpR X (binaryOp .Add) (λx y H Q=>∃i j,x=.str (S i)/\y=.str (S j)/\i.length+j.length<=sizeLine/\Q (.str (S (i++j))) H):=by
 intro pins s σ H x y v u Q I rx ry h;obtain⟨i,j,rfl,rfl,hz,q⟩:=h;exact uu pins s σ H _ _ v u Q I rx ry ⟨S i,S j,rfl,rfl,by rw [gb,gb];exact hz,by rw [Af];exact q⟩
def Cz:OpR X (compareOp .Eq) (λx y H Q=>∃i j,x=.str (S i)/\y=.str (S j)/\Q (.bl (decide (i=j))) H):=by
 intro pins s σ H x y v u Q I rx ry h;obtain⟨i,j,rfl,rfl,q⟩:=h;exact Ef pins s σ H _ _ v u Q I rx ry ⟨rfl,by rw [Cr];exact q⟩
def CA:OpR X (compareOp .NotEq) (λx y H Q=>∃i j,x=.str (S i)/\y=.str (S j)/\Q (.bl (!decide (i=j))) H):=by
 intro pins s σ H x y v u Q I rx ry h;obtain⟨i,j,rfl,rfl,q⟩:=h;exact Eg pins s σ H _ _ v u Q I rx ry ⟨rfl,by rw [Cr];exact q⟩
def CB:OpR X (compareOp .Eq) (rI0 λi j=>.bl (decide (i=j))):=By λ_ _ _ _ _ _ _ q=>eq_int (by rw [beq_eq_decide_eq];exact q)
def CC:OpR X (compareOp .NotEq) (rI0 λi j=>.bl (!decide (i=j))):=By λ_ _ _ _ _ _ _ q=>ne_int (by rw [bne,beq_eq_decide_eq];exact q)
def vV:bI X (.builtin "len") (λxs H Q=>∃p ys,xs=[.ref p]/\SqL X.K H p ys/\Q (.int ys.length) H):=by
 intro pins s σ H xs us Q I r h;obtain⟨p,ys,e,hq,q⟩:=h;exact kh pins s σ H xs us Q I r ⟨p,ys,e,.inl hq,q⟩
def vW:bI X (.builtin "len") (λxs H Q=>∃p ys,xs=[.ref p]/\SqT X.K H p ys/\Q (.int ys.length) H):=by
 intro pins s σ H xs us Q I r h;obtain⟨p,ys,e,hq,q⟩:=h;exact kh pins s σ H xs us Q I r ⟨p,ys,e,.inr hq,q⟩
end
structure Cal (P:s_) (w:World) (K:a_) (mg:Str->Option Value) (base:Heap) (k:Nat) (x:Str) (ps:List Str) (sp:Sp):Prop where
 ex:∃(f:Addr) (fd:G7),pU P w K mg base CX0 k f fd ps sp/\mF K fd ps []/\A_ K (.ref f)=true/\mg x=some (.ref f)/\∃oc od osl,K.lookup f=some ⟨oc,od,.func fd,osl⟩
structure aV (K:a_) (mg:Str->Option Value) (x:Str) (st:Stmt):Prop where
 ex:∃(f:Addr) (fd:G7),Fun K x x st f fd/\mg x=some (.ref f)
section
variable {P:s_}{w:World}{K:a_}{mg:Str->Option Value}{base:Heap}{x:Str}{st:Stmt}{N ps:List Str}{k:Nat}{sp:Sp}
def aV.ok(D:aV K mg x st)(S:aA N ps (ak st))
  (hb:∀(kV doc pm:Value) (an:Option Addr) (cdv ct:Value) (us:List Value),us.length=ps.length->bindArgs (C_ x x (bS st) (bj st) (ak st) .none kV doc pm an cdv ct) ⟨us,[]⟩=pure (ps.zip us))
  (len:∀vs H Q E,sp vs H Q E->vs.length=ps.length)
  (hbody:∀(f:Addr) (cdv:Value) (A:z_) (outer:List Env) (s:c_) (H:Hp) (vs:List V) (Q:VK) (E:XK),fh k (A.deeper (envOfC x (ak st) s.heap.objs.size f cdv))->sp vs H Q E ->
   ∃t,PSs (uB CX0 P w K mg base N x (ak st) f cdv A outer s H E).nox (bj st) t/\t { nx:=λ_ H'=>Q .non H',rt:=Q } (start N vs) H):Cal P w K mg base (k+1) x ps sp:=by
 obtain⟨f,fd,F,hm⟩:=D.ex
 have lk:∃oc od osl,K.lookup f=some ⟨oc,od,.func fd,osl⟩:=by
  obtain⟨oc,od,kV,doc,pm,an,cdv,ct,osl,rfl,lk,hcd⟩:=F.ex;exact⟨oc,od,osl,lk⟩
 exact⟨f,fd,F.ok S len λcdv A outer s H vs Q E hr h=>hbody f cdv A outer s H vs Q E hr h,F.binds hb,F.kp,hm,lk⟩
def aV.mk'{K:a_}{h:Heap}{mg:Str->Option Value}{x:Str}{st:Stmt}{f:Addr}{oc:Value}{od an:Option Addr}{osl:Array (Option Value)}{kV doc pm cdv ct:Value}(X:K.In h)(G:h.Ns mainGlobals mg)
  (a:tf K mainGlobals x=some (some (.ref f))) (l:K.lookup f=some ⟨oc,od,.func (C_ x x (bS st) (bj st) (ak st) .none kV doc pm an cdv ct),osl⟩)
  (c:GT K cdv x=true) (k:A_ K (.ref f)=true):aV K mg x st:=⟨f,_,yM (st:=st) l c k,HF X G a⟩
end
section
variable {X:Cx}{k:Nat}{x:Str}{ps:List Str}{sp:Sp}{p pos:Pos}{e:Expr}{es:List Expr}{t:TA}
def CD(C:Cal X.prog X.w X.K X.mg X.base k x ps sp)(hr:fh k X.A)(ha:PA X (e::es) t)(hg:Gl X x:=by rfl)(hdb:(x == ("__debug__":Str))=false:=by decide)(he:starEach (e::es) X.env=(false,eval e X.env)::starEach es X.env:=by rfl)
  (hpl:(backTo pos (starEach es X.env)).any (·.1)=false:=by rfl):PE X (.Call (.Name x p) (e::es) [] pos) (f9 sp [] E0 t):=by
 obtain⟨f,fd,F,hb,hk,hm,_⟩:=C.ex;exact vF F hr hg hm hk hb .nil Ae ha hdb he hpl
end
noncomputable def uI(K:a_):Sp:=λvs H Q _=>∃(a:Addr) (ns:List Int),vs=[.ref a]/\SqL K H a (ns.map V.int)/\ns.length<=63/\∀H',Q (.bl true) H'
def CF{P:s_}{w:World}{K:a_}{mg:Str->Option Value}{fa:Addr}{st:Stmt}{k:Nat}{x:Str}(hfa:mg "law"=some (.ref fa))(D:aV K mg "law" st)
  (hbind:∀(kV doc pm:Value) (an:Option Addr) (cdv ct:Value) (s:c_) (v:Value),JH s (C_ "law" "law" (bS st) (bj st) (ak st) .none kV doc pm an cdv ct) ⟨[v],[]⟩ [(x,v)])
  (h:∀base:Heap,Cal P w K mg base k "law" [x] (uI K)) :
  ∃fd:G7,(∀(s:c_) (v:Value),JH s fd ⟨[v],[]⟩ [(x,v)])/\∀base:Heap,K.In base->base.Ns mainGlobals mg->pU P w K mg base CX0 k fa fd [x] (uI K):=by
 obtain⟨f,fd,F,hm⟩:=D.ex;have e:=hfa.symm.trans hm;cases e;obtain⟨oc,od,kV,doc,pm,an,cdv,ct,osl,rfl,lk,hcd⟩:=F.ex;refine⟨_,λs v=>hbind kV doc pm an cdv ct s v,λbase kb nb=>?_⟩;obtain⟨f',fd',F',_,_,hm',oc',od',osl',lk'⟩:=(h base).ex;have e:=hfa.symm.trans hm';cases e;rw [lk] at lk';cases lk';exact F'
def CG{l:JT}{q:s_}{loose:List Str}{XP:(Str->Option Value)->Heap->Prop}{YP:World->Heap->Prop}{d:DefRec}{K:IX->a_}{k:Nat}{x:Str}(hn:l.most=some 63)(hdf:d.params.defaults=[])(hr:fh k callerA)
  (hY:∀(w:World) (h:Heap),YP w h->(K w.params).In h)
  (F:∀(w:World) (mg:Str->Option Value) (fa:Addr) (h:Heap),(K w.params).In h->h.Ns mainGlobals mg->mg d.name=some (.ref fa) ->
   ∃fd:G7,(∀(s:c_) (u:Value),JH s fd ⟨[u],[]⟩ [(x,u)])/\∀base:Heap,(K w.params).In base->base.Ns mainGlobals mg->pU l.prog w (K w.params) mg base CX0 k fa fd [x] (uI (K w.params))) :
  PySem.W.WalkO q loose XP YP l.row.toRowW d [] (λf vs=>PySem.call f vs) :=
 Ac (n:=63) (k:=k) (x:=x) (CX:=λ_=>CX0) (sp:=λw=>uI (K w.params)) hn (by decide) hdf hr hY F (λ_ _ a ns hl _ hS=>⟨a,ns,rfl,hS,hl,λ_=>rfl⟩) λ_ _ _ _ _ z=>z
def Ak{α β:Type}{f:α->β}{xs:List α}{i:Int}{v:α}(h:atI xs i=some v):atI (xs.map f) i=some (f v):=by
 unfold atI at h ⊢;rw [length_map]
 cases e:ixN xs.length i with
 | none=>rw [e] at h;cases h
 | some j =>
  rw [e] at h;show (xs.map f)[j]?=some (f v);have h':xs[j]?=some v:=h;rw [i_,h'];rfl
def iV{α:Type}{xs:List α}{i:Int}{j:Nat}{v:α}(h:xs[j]?=some v)(e:i=(j:Int)):atI xs i=some v:=by subst e;exact zY h
def sz(n:Nat)(h:n<=1000000):n<=sizeLine:=by rw [IJ];omega
def xS{ns:List Int}{i:Nat}{x:V}(h:(ns.map V.int)[i]?=some x):∃z,ns[i]?=some z/\x=.int z:=by
 rw [i_] at h
 cases e:ns[i]? with
 | none=>rw [e] at h;cases h
 | some z=>rw [e] at h;exact⟨z,rfl,(q_ h).symm⟩
section
variable {X:Cx}{st:Stmt}{t:TS}
noncomputable def CH(t:TS):TS:=λD σ H=>∃J:St->Hp->Prop,t { D with nx:=J } σ H/\∀σ' H',J σ' H'->D.nx σ' H'
def dr(h:PS X st t):PS X st (CH t):=by
 intro pins s σ H D I q;obtain⟨J,q1,q2⟩:=q;refine thn (h pins s σ H _ I q1) λf s' r=>?_
 cases f with
 | next=>obtain⟨σ',H',I',r'⟩:=r;exact⟨σ',H',I',q2 σ' H' r'⟩
 | brk=>exact r
 | cont=>exact r
 | ret u=>exact r
end
def xT{α β:Type}(f:α->β)(xs:List α)(lo hi:Option Int):cZ (xs.map f) lo hi=(cZ xs lo hi).map f:=by
 unfold cZ;rw [length_map,map_take,map_drop]
def tG{α:Type}(l:List α){k:Int}(h:0<=k):cZ l none (some k)=l.take k.toNat:=by
 have e:k=((k.toNat:Nat):Int):=by omega
 rw [e,dL];rfl
theorem dM{x:Str}{c:Addr}:∀(names:List (Str×GZ)) (n:Nat) (acc:List (Str×Addr)),(cellsFrom n names acc).lookup x=some c->(n<=c/\(x,HG)∈names)\/acc.lookup x=some c
 | [],n,acc,h=>.inr h
 | (y,k)::r,n,acc,h=>by
  unfold cellsFrom at h
  split at h
  .rename_i hk;have hk':k=.cell:=by simpa using hk
   subst hk'
   rcases dM r (n+1) ((y,n)::acc) h with ⟨h1,h2⟩|h1
   .exact .inl ⟨by omega,m_ _ h2⟩
   .rw [G9] at h1
    cases e:x == y with
    | true =>
     rw [e] at h1;have:n=c:=q_ h1;have ex:x=y:=by simpa using e
     subst ex;exact .inl ⟨by omega,mem_cons_self⟩
    | false=>rw [e] at h1;exact .inr h1
  .rcases dM r n acc h with ⟨h1,h2⟩|h1
   .exact .inl ⟨h1,m_ _ h2⟩
   .exact .inr h1
theorem fj{x:Str}:∀(names:List (Str×GZ)) (n:Nat) (acc:List (Str×Addr)),(x,HG)∉names->(cellsFrom n names acc).lookup x=acc.lookup x
 | [],_,_,_=>rfl
 | (y,k)::r,n,acc,h=>by
  unfold cellsFrom
  split
  .rename_i hk;have hk':k=.cell:=by simpa using hk
   subst hk';rw [fj r (n+1) _ (λz=>h (m_ _ z)),G9]
   have:(x == y)=false:=by
    rw [beq_eq_false_iff_ne];intro e;subst e;exact h mem_cons_self
   rw [this]
  .exact fj r n acc (λz=>h (m_ _ z))
theorem fk{x y:Str}{c:Addr}:∀(names:List (Str×GZ)) (n:Nat) (acc:List (Str×Addr)),(∀z d,acc.lookup z=some d->d<n) ->
  (cellsFrom n names acc).lookup x=some c->(cellsFrom n names acc).lookup y=some c->n<=c->x=y
 | [],n,acc,ha,h1,h2,hc=>absurd (ha x c h1) (not_lt.mpr hc)
 | (z,k)::r,n,acc,ha,h1,h2,hc=>by
  unfold cellsFrom at h1 h2
  split at h1
  .rename_i hk;rw [if_pos hk] at h2
   have ha':∀w d,((z,n)::acc).lookup w=some d->d<n+1:=λw d e=>by
    rw [G9] at e
    cases q:w == z with
    | true=>rw [q] at e;cases e;exact JG _
    | false=>rw [q] at e;exact lt_succ_of_lt (ha w d e)
   by_cases hcn:n+1<=c
   .exact fk r (n+1) _ ha' h1 h2 hcn
   .have e:c=n:=le_antisymm (not_lt.mp hcn) hc;subst e
    have key:∀w:Str,(cellsFrom (c+1) r ((z,c)::acc)).lookup w=some c->w=z:=λw hw=>by
     rcases dM r (c+1) _ hw with ⟨q,_⟩|q
     .exact absurd q (not_succ_le_self _)
     .rw [G9] at q
      cases q2:w == z with
      | true=>simpa using q2
      | false=>rw [q2] at q;exact absurd (ha w c q) (GF _)
    rw [key x h1,key y h2]
  .rename_i hk;rw [if_neg hk] at h2;exact fk r n acc ha h1 h2 hc
noncomputable def iW(env:Env):List (Str×GZ)->List (Str×Addr)->List (Str×Addr)
 | [],acc=>acc
 | (n,k)::r,acc=>if (k == .free)=true then iW env r ((n,(env.cells.lookup n).getD 0)::acc) else iW env r acc
theorem fm{env:Env}{x:Str}{c:Addr}:∀(names:List (Str×GZ)) (acc:List (Str×Addr)),(iW env names acc).lookup x=some c->((x,HV)∈names/\c=(env.cells.lookup x).getD 0)\/acc.lookup x=some c
 | [],acc,h=>.inr h
 | (y,k)::r,acc,h=>by
  unfold iW at h
  split at h
  .rename_i hk;have hk':k=.free:=by simpa using hk
   subst hk'
   rcases fm r _ h with ⟨h1,h2⟩|h1
   .exact .inl ⟨m_ _ h1,h2⟩
   .rw [G9] at h1
    cases e:x == y with
    | true =>
     rw [e] at h1;have ex:x=y:=by simpa using e
     subst ex;exact .inl ⟨mem_cons_self,(q_ h1).symm⟩
    | false=>rw [e] at h1;exact .inr h1
  .rcases fm r acc h with ⟨h1,h2⟩|h1
   .exact .inl ⟨m_ _ h1,h2⟩
   .exact .inr h1
theorem iX{env:Env}{x:Str}:∀(names:List (Str×GZ)) (acc:List (Str×Addr)),((x,HV)∈names\/(acc.lookup x).isSome=true)->((iW env names acc).lookup x).isSome=true
 | [],acc,h=>h.elim (λz=>nomatch z) id
 | (y,k)::r,acc,h=>by
  unfold iW
  split
  .rename_i hk;refine iX r _ ?_
   by_cases e:(x == y)=true
   .exact .inr (by rw [G9,e];rfl)
   .rcases h with h|h
    .rcases w_.mp h with z|z
     .cases z;exact absurd (by simp) e
     .exact .inl z
    .exact .inr (by rw [G9];rw [not_eq_true] at e;rw [e];exact h)
  .rename_i hk;refine iX r acc ?_
   rcases h with h|h
   .rcases w_.mp h with z|z
    .cases z;exact absurd rfl hk
    .exact .inl z
   .exact .inr h
def ky{scope:Scope}{env:Env}(h:∀x∈scope.names,x.2=.free->∃c,env.cells.lookup x.1=some c):closureFor scope env=pure (iW env scope.names []):=by
 unfold closureFor
 have key:∀(names:List (Str×GZ)) (acc:List (Str×Addr)),(∀x∈names,x.2=.free->∃c,env.cells.lookup x.1=some c) ->
   (forIn names acc λ(x:Str×GZ) (r:List (Str×Addr))=>(if (x.2 == HV)=true then do let y <- cellOf env x.1;pure (HE ((x.1,y)::r)) else pure (HE r):Sem _))=pure (iW env names acc):=by
  intro names
  induction names with
  | nil=>intro acc _;rfl
  | cons p r ih =>
   intro acc hp;obtain⟨n,k⟩:=p;rw [forIn_cons];have hr:∀x∈r,x.2=.free->∃c,env.cells.lookup x.1=some c:=λx hx=>hp x (m_ _ hx);unfold iW
   by_cases hk:(k == HV)=true
   .obtain⟨c,hc⟩:=hp (n,k) mem_cons_self (by simpa using hk);have hc':env.cells.lookup n=some c:=hc;have e1:cellOf env n=pure c:=by unfold cellOf;rw [hc']
    simp only [hk,if_true];rw [e1,hc'];simp only [pure_bind];exact ih _ hr
   .rw [if_neg hk,if_neg hk];simp only [pure_bind];exact ih _ hr
 have e:=key scope.names [] h;have e2:∀(m:Sem (List (Str×Addr))),(m >>= λr=>pure r)=m:=λm=>bind_pure m;rw [<- e]
 first
  | rfl
  | exact (e2 _)
noncomputable def vX(scope:Scope)(C:Addr)(env:Env):Env :=
 { scope:=relabel scope env,locals:=C,globals:=env.globals,cells:=cellsFrom (C+1) scope.names (iW env scope.names []),qual:=env.qual,func:=none,code:=env.code,frame:=env.frame,builtins:=env.builtins }
noncomputable def cv(X:Cx)(N':List Str)(scope:Scope)(s:c_)(H:Hp)(fp:List Addr)(pins:List (Addr×Obj)):Cx :=
 { X with N:=N',s₀:=s,H₀:=H,env:=vX scope s.heap.objs.size X.env,outer:=X.stack,stack:=X.stack,ex:=fp,fn:=λx=>decide ((x,HG)∈scope.names),pn:=X.pn++pins,xe:=λ_ _=>False }
noncomputable def nP(sc0:Scope)(N:List Str)(scope:Scope)(N':List Str)(ix:List (Option Nat)):Bool :=
 decide (scope.kind=.function) && scope.names.all (λy=>(!decide (y.2=.local) || decide (scope.names.lookup y.1=some .local)) &&
  (!decide (y.2=.free) || ((decide (sc0.names.lookup y.1=some .cell) || decide (sc0.names.lookup y.1=some .free)) && !decide ((y.1,HG)∈scope.names)))) &&
 decide (N'.length=ix.length) && (N'.zip ix).all (λp=>match p.2 with|none=>true|some j=>decide (N[j]?=some p.1) && decide (scope.names.lookup p.1=some .free))
structure vY (env:Env) (N:List Str) (scope:Scope) (N':List Str) (ix:List (Option Nat)):Prop where
 kind:scope.kind=.function
 loc:∀y∈scope.names,y.2=.local->scope.names.lookup y.1=some .local
 free:∀y∈scope.names,y.2=.free->(env.kindOf y.1=some .cell\/env.kindOf y.1=some .free)/\(y.1,HG)∉scope.names
 len:N'.length=ix.length
 slot:∀(i:Nat) (x:Str) (j:Nat),N'[i]?=some x->ix[i]?=some (some j)->N[j]?=some x/\scope.names.lookup x=some .free
def qe{env:Env}{N:List Str}{scope:Scope}{N':List Str}{ix:List (Option Nat)}(h:nP env.scope N scope N' ix=true):vY env N scope N' ix:=by
 unfold nP at h;simp only [and_eq_true,decide_eq_true_eq,Jm] at h;obtain⟨⟨⟨h1,h2⟩,h3⟩,h4⟩:=h
 refine⟨h1,λy hy e=>?_,λy hy e=>?_,h3,λi x j e1 e2=>?_⟩
 .have:=(h2 y hy).1;rw [e] at this;simpa using this
 .have:=(h2 y hy).2;rw [e] at this;simpa [Env.kindOf] using this
 .have hm:(x,some j)∈N'.zip ix:=by
   refine GD (i:=i) ?_;rw [getElem?_zip_eq_some];exact⟨e1,e2⟩
  have:=h4 _ hm;simpa using this
noncomputable def rlf(env:Env)(p:Str×GZ):Str×GZ:=match p with|(n,k)=>if (k == HV && env.scope.kind == .function && env.kindOf n == some .cell) then (n,.cell) else (n,k)
def vZ(env:Env)(n:Str)(k:GZ):∃k',rlf env (n,k)=(n,k')/\(k'=k\/(k=.free/\k'=.cell)):=by
 unfold rlf
 by_cases c:(k == HV && env.scope.kind == .function && env.kindOf n == some .cell)=true
 .refine⟨.cell,if_pos c,.inr ⟨?_,rfl⟩⟩;simp only [and_eq_true,beq_iff_eq] at c;exact c.1.1
 .exact⟨k,if_neg c,.inl rfl⟩
theorem tH{env:Env}:∀{names:List (Str×GZ)}{x:Str},names.lookup x=some .free->(names.map (rlf env)).lookup x=some .cell\/(names.map (rlf env)).lookup x=some .free
 | [],_,h=>by simp at h
 | (n,k)::r,x,h=>by
  have ih:=@tH env r x;obtain⟨k',e,hk'⟩:=vZ env n k;rw [map_cons,e]
  cases hx:x == n with
  | true =>
   simp only [G9,hx] at h ⊢;have hk:k=.free:=q_ h
   rcases hk' with z|z
   .right;rw [z,hk]
   .left;rw [z.2]
  | false =>
   simp only [G9,hx] at h ⊢;exact ih h
theorem nQ{env:Env}:∀{names:List (Str×GZ)}{x:Str}{k':GZ},(names.map (rlf env)).lookup x=some k'->k'=.cell\/k'=.free->names.lookup x=some .cell\/names.lookup x=some .free
 | [],_,_,h,_=>by simp at h
 | (n,k)::r,x,k',h,hk'=>by
  have ih:=@nQ env r x k';obtain⟨k2,e,hk2⟩:=vZ env n k;rw [map_cons,e] at h
  cases hx:x == n with
  | true =>
   simp only [G9,hx] at h ⊢;have:k2=k':=q_ h;subst this
   rcases hk2 with z|z
   .rw [<- z]
    rcases hk' with q|q
    .left;rw [q]
    .right;rw [q]
   .right;rw [z.1]
  | false =>
   simp only [G9,hx] at h ⊢;exact ih h hk'
def qf{x:Str}{c:Addr}:∀(names:List (Str×GZ)) (n:Nat) (acc:List (Str×Addr)),(cellsFrom n names acc).lookup x=some c->(x,c)∈cellsFrom n names []\/acc.lookup x=some c:=by
 have app:∀(names:List (Str×GZ)) (n:Nat) (acc:List (Str×Addr)),cellsFrom n names acc=cellsFrom n names []++acc:=by
  intro names
  induction names with
  | nil=>intro n acc;rfl
  | cons p r ih =>
   intro n acc;obtain⟨y,k⟩:=p;unfold cellsFrom
   split
   .rw [ih (n+1) ((y,n)::acc),ih (n+1) [(y,n)],append_assoc];rfl
   .exact ih n acc
 intro names n acc h;rw [app] at h;rw [lookup_append] at h
 cases e:(cellsFrom n names []).lookup x with
 | some d =>
  rw [e] at h;have:d=c:=by simpa using h
  subst this;exact .inl (mem_of_lookup e)
 | none=>rw [e] at h;exact .inr (by simpa using h)
noncomputable def v9(ix:List (Option Nat))(σ:St):St:=ix.map λo=>match o with
 | none=>none
 | some j=>match σ[j]? with
  | some v=>v
  | none=>none
section
variable {X:Cx}{pins:List (Addr×Obj)}{σ:St}{H:Hp}{s:c_}
def xU{N':List Str}{ix:List (Option Nat)}{scope:Scope}{fp:List Addr}(ok:vY X.env X.N scope N' ix)(I:Inv X pins σ H s)(hf:∀b∈fp,vj X pins H b)(hfl:∀b∈fp,b<s.heap.objs.size) :
  Inv (cv X N' scope s H fp pins) [] (v9 ix σ) H { s with heap:=pushCells (s.heap.push { cls:=.type "dict",data:=.dict #[] }) scope.names }:=by
 have hk4:∀b o,s.heap.get? b=some o->(pushCells (s.heap.push { cls:=.type "dict",data:=.dict #[] }) scope.names).get? b=some o:=λb o e=>JU _ _ b o (d_ _ e)
 have hclo:∀x c,(iW X.env scope.names []).lookup x=some c->X.env.cells.lookup x=some c:=λx c e=>by
  rcases fm scope.names [] e with ⟨h1,h2⟩|h1
  .obtain⟨d,hd⟩:=I.ok.has x (ok.free _ h1 rfl).1;rw [hd] at h2 ⊢;rw [h2];rfl
  .cases h1
 have hcl:∀x c,X.env.cells.lookup x=some c->c<s.heap.objs.size:=λx c e=>by
  obtain⟨v,q⟩:=I.cell x c e;exact q.lt
 have own:=cellsFrom_ok scope.names (s.heap.push { cls:=.type "dict",data:=.dict #[] }) (s.heap.objs.size+1) [] ⟨λ_ _ hm=>(nomatch hm),Jl⟩ (by rw [GG];exact o_ _);rw [GG] at own
 have cases:∀x c,(cellsFrom (s.heap.objs.size+1) scope.names (iW X.env scope.names [])).lookup x=some c ->
   ((pushCells (s.heap.push { cls:=.type "dict",data:=.dict #[] }) scope.names).IsCell c none/\s.heap.objs.size+1<=c)\/X.env.cells.lookup x=some c:=λx c e=>by
  rcases qf _ _ _ e with h|h
  .exact .inl (own.empty x c h)
  .exact .inr (hclo x c h)
 have fs':∀b,b∈frs X.stack->b<s.heap.objs.size:=λb hb=>by
  rcases w_.mp (I.stkSub b hb) with z|z
  .rw [z];exact I.lt
  .by_cases q:b<s.heap.objs.size
   .exact q
   .exact absurd z (I.nofs (not_lt.mp q))
 have cix:(cv X N' scope s H fp pins).Ok:=by
  refine⟨I.ok.mod,ok.kind,I.ok.glob,I.ok.blt,o_ _,λx y c h1 h2=>?_,λx hx=>?_,λx c hx e=>?_,I.ok.hd,I.ok.frames,.inl rfl,λb hb=>⟨GR (hfl b hb),λx c e=>?_⟩,λb o e=>I.bs b o e,E_ I.ok.bsz I.sz,λb o e hb=>?_,λb hb=>?_,I.stack,I.stkFree⟩
  .rcases cases x c h1 with ⟨_,z⟩|z
   .exact fk scope.names _ _ (λw d e=>lt_succ_of_lt (hcl w d (hclo w d e))) h1 h2 z
   .rcases cases y c h2 with ⟨_,z2⟩|z2
    .exact absurd (hcl x c z) (not_lt.mpr (IH z2))
    .exact I.ok.inj x y c z z2
  .have hx':scope.names.lookup x=some .cell\/scope.names.lookup x=some .free:=by
    rcases hx with z|z
    .exact nQ (env:=X.env) z (.inl rfl)
    .exact nQ (env:=X.env) z (.inr rfl)
   rcases hx' with z|z
   .exact Hs.mp (HC scope.names _ _ (.inl z))
   .exact Hs.mp (HC scope.names _ _ (.inr (iX _ _ (.inl (mem_of_lookup z)))))
  .have hx':(x,HG)∈scope.names:=of_decide_eq_true hx
   rcases cases x c e with ⟨_,z⟩|z
   .exact IH z
   .rcases qf _ _ _ e with h|h
    .exact IH (own.empty x c h).2
    .rcases fm scope.names [] h with ⟨h1,_⟩|h1
     .exact absurd hx' (ok.free _ h1 rfl).2
     .cases h1
  .intro z
   rcases cases x c e with ⟨_,z2⟩|z2
   .rw [z] at z2;exact absurd (hfl b hb) (not_lt.mpr (IH z2))
   .exact (hf b hb).2.2.2.2.1 x c z2 z
  .rcases (hf b hb).2.2.2.1 with z|z
   .exact I.ok.noex b o e z
   .exact absurd (l_ (I.ok.bs b o e).1) (not_lt.mpr z)
  .intro z
   rcases w_.mp (I.stkSub b z) with q|q
   .exact (hf b hb).2.1 q
   .exact (hf b hb).2.2.1 q
 refine⟨cix,rfl,I.bare,Un.kept hk4,⟨λ_=>none,?_,λi x v e1 e2 e3=>?_⟩,λx c e=>?_,I.hok.fresh (o_ _),λx c e=>?_,λp hp=>?_,I.hok.kept hk4,?_⟩
 .exact (Heap.Ns.new s.heap (.type "dict")).keeps (JU _ _)
 .have e2':∃j,ix[i]?=some (some j)/\σ[j]?=some (some v):=by
   unfold v9 at e2;rw [i_] at e2
   cases q:ix[i]? with
   | none=>rw [q] at e2;cases e2
   | some o =>
    rw [q] at e2
    cases o with
    | none=>cases (q_ e2)
    | some j =>
     refine⟨j,rfl,?_⟩;have e2'':(match σ[j]? with|some v=>v|none=>none)=some v:=q_ e2
     cases r:σ[j]? with
     | none=>rw [r] at e2'';cases e2''
     | some w=>rw [r] at e2'';exact congrArg some e2''
  obtain⟨j,hj,hv⟩:=e2';obtain⟨hN,hfr⟩:=ok.slot i x j e1 hj;have hk:=(ok.free _ (mem_of_lookup hfr) rfl).1
  have hvis:Vis X.env.scope x:=by
   rcases hk with z|z
   .exact .inr (.inl z)
   .exact .inr (.inr z)
  obtain⟨m,hn,hl⟩:=I.loc;obtain⟨u,ru,lk⟩:=hl j x v hN hv hvis
  refine⟨u,ru,.inr ⟨?_,?_⟩⟩
  .exact tH (env:=X.env) hfr
  .rcases lk with ⟨z,_⟩|⟨_,c,hc,hcell⟩
   .rcases hk with q|q
    .rw [z] at q;cases q
    .rw [z] at q;cases q
   .refine⟨c,?_,hcell.keeps hk4⟩;show (cellsFrom (s.heap.objs.size+1) scope.names (iW X.env scope.names [])).lookup x=some c;rw [fj scope.names _ _ (ok.free _ (mem_of_lookup hfr) rfl).2];obtain⟨d,hd⟩:=Hs.mp (iX (env:=X.env) scope.names [] (.inl (mem_of_lookup hfr)));rw [hd,<- hclo x d hd,hc]
 .rcases cases x c e with ⟨z,_⟩|z
  .exact⟨none,z⟩
  .obtain⟨v,q⟩:=I.cell x c z;exact⟨v,q.keeps hk4⟩
 .rcases cases x c e with ⟨_,z⟩|z
  .exact I.hok.fresh (IH z)
  .exact I.freeC x c z
 .have hp':p∈X.pn++pins:=by simpa [cv] using hp
  obtain⟨q1,q2,q3,q4,q5⟩:=I.pin p hp';refine⟨hk4 _ _ q1,q2,GR (l_ q1),λz=>?_,q5⟩
  rcases w_.mp (I.stkSub p.1 z) with q|q
  .exact q3 q
  .exact q4 q
 .unfold v9;rw [length_map];exact ok.len.symm
end
section
variable {M:Model}{A:z_}{E:Value->c_->Prop}{s:c_}
def ir{scope:Scope}{globals:Addr}{cl:List (Str×Addr)}{qual:Str}{func:Option Addr}{code:Value}{env:Env}{Q:Env->c_->Prop}
  (hQ:Q { scope:=scope,locals:=s.heap.objs.size,globals:=globals,cells:=cellsFrom (s.heap.objs.size+1) scope.names cl,qual:=qual,func:=func,code:=env.code,frame:=env.frame,builtins:=env.builtins }
   { s with heap:=pushCells (s.heap.push { cls:=.type "dict",data:=.dict #[] }) scope.names }) :
  wpAny M A (newFunctionEnv scope globals cl [] qual func code (some env)) Q E s:=by
 simp only [newFunctionEnv,Option.isSome_some,if_true];refine b_ (wpAny_alloc ?_);refine b_ (wpAny_layCells _ (λname kind cells=>by cases hkc:kind == HG <;> simp [hkc]) _ _ _ _ ?_);rw [show ({ s with heap:=s.heap.push { cls:=.type "dict",data:=.dict #[] } }:c_).heap.objs.size=s.heap.objs.size+1 from GG ..];simp only [forIn_nil];exact b_ (gV (gV hQ))
end
section
variable {prog:s_}{w:World}{A:z_}{R:Result->c_->Prop}{s:c_}
theorem qg{elt target iter:Expr}{ifs:List Expr}{scope:Scope}{pos:Pos}{it acc:Value}{env:Env}(I:Nat->c_->Prop)
  (turn:∀n s,I n s->wpAny (model prog w) A (pyNext it) (λr s₁=>match r with
   | none=>R (.ok .next) s₁
   | some v=>wpAny (model prog w) A (letOwnedTupleGo target it v) (λ_ s₂=>wpAny (model prog w) A (assign target env v) (λ_ s₃ =>
     wpAny (model prog w) A (forIn ifs true λc r=>if r=true then do let ok <- isTrue c env (eval c env);pure (HE ok) else pure (HE r)) (λok s₄ =>
      if ok=true then wpAny (model prog w) A (eval elt env) (λx s₅ =>
       wpAny (model prog w) A (call (.builtin "list.append") [acc,x]) (λ_ s₆=>∃m,m<n/\I m s₆) (λ_ _=>False) s₅) (λ_ _=>False) s₄
      else ∃m,m<n/\I m s₄) (λ_ _=>False) s₃) (λ_ _=>False) s₂) (λ_ _=>False) s₁) (λ_ _=>False) s)
  (n:Nat) (h:I n s) :
  codeAny (model prog w) A (.compLoop (.ListComp elt [⟨target,iter,ifs,0⟩] scope pos) 0 it acc env) R s:=by
 refine codeAny_loop rfl I (λn s hI=>?_) n h;show wpAny _ A ((compTurn (.ListComp elt [⟨target,iter,ifs,0⟩] scope pos) 0 it acc env).onRaise (λx=>do noteFrame x env;theTreesLotGoes x)) _ _ s;refine wpAny_noted ?_;rw [compTurn_list];refine b_ (Js (b_ (HL (turn n s hI) (λr s₁ h₁=>?_) λ_ _ h'=>h'.elim)))
 cases r with
 | none=>exact gV h₁
 | some v =>
  refine b_ (HL h₁ (λ_ s₂ h₂=>?_) λ_ _ h'=>h'.elim);refine b_ (HL h₂ (λ_ s₃ h₃=>b_ (HL h₃ (λok s₄ h₄=>?_) λ_ _ h'=>h'.elim)) λ_ _ h'=>h'.elim)
  cases ok with
  | false=>exact gV ⟨rfl,h₄⟩
  | true =>
   exact b_ (b_ (HL h₄ (λx s₅ h₅=>b_ (HL h₅ (λ_ s₆ h₆=>gV (gV ⟨rfl,h₆⟩)) λ_ _ h'=>h'.elim)) λ_ _ h'=>h'.elim))
end
noncomputable def PIf(X:Cx)(ifs:List Expr)(t:TT):Prop :=
 ∀(pins:List (Addr×Obj)) (s:c_) (σ:St) (H:Hp) (Q:Bool->Hp->Prop),Inv X pins σ H s->t σ H Q ->
  wpAny (model X.prog X.w) X.A (forIn ifs true λc r=>if r=true then do let ok <- isTrue c X.env (eval c X.env);pure (HE ok) else pure (HE r)) (TP X pins σ Q) X.xe s
def mH:TT:=λ_ H Q=>Q true H
section
variable {X:Cx}
def cu:PIf X [] mH:=λ_ _ _ H _ I h=>wpAny_tests_nil ⟨H,I,h⟩
def nR{c:Expr}{t:TT}(h:PT X c t):PIf X [c] t:=λpins s σ H Q I q=>wpAny_tests_one (h pins s σ H Q I q)
end
noncomputable def rK(ix:List (Option Nat))(wi:TI)(g:TG)(tts:TT)(te:TE):TE:=λσ H Q=>wi σ H λJ H1=>∀D,H1 D=none->∃W:Nat->Nat->St->Hp->Prop,(∃m,W 0 m (v9 ix σ) (upd H1 D (.lst [])))/\∀i m τ H2,W i m τ H2 ->
 (J.stop i H2/\Q (.ref D) H2)\/(J.go i H2/\∀x H3,J.yld i H2 x H3->g x τ H3 λτ2 H4=>tts τ2 H4 λok H5=>if ok=true then te τ2 H5 λv H6=>∃ys,H6 D=some (.lst ys)/\ys.length<sizeLine/\∃m',m'<m/\W (i+1) m' τ2 (upd H6 D (.lst (ys++[v])))
  else ∃m',m'<m/\W (i+1) m' τ2 H5)
section
variable {X:Cx}{tg iter elt:Expr}{ifs:List Expr}{scope:Scope}{N':List Str}{ix:List (Option Nat)}{wi:TI}{g:TG}{tts:TT}{te:TE}
def qh{use:Option (Value->Sem Unit)}{Qf:Value->c_->Prop}{pos p':Pos}{pins:List (Addr×Obj)}{σ:St}{H:Hp}{s:c_}{Q:VK}(hc:X.calm=true)(ok:vY X.env X.N scope N' ix)(hi:PI X tg iter wi)
  (blk:∀s H fp pn,PG (cv X N' scope s H fp pn) tg g/\PIf (cv X N' scope s H fp pn) ifs tts/\PE (cv X N' scope s H fp pn) elt te)
  (hs:∀x,foldedSetIterable iter X.env x=pure x) (I:Inv X pins σ H s) (hw:rK ix wi g tts te σ H Q)
  (fin:∀D C H' s',Inv X pins σ H' s'->Q (.ref D) H'->(∃m,s'.heap.Ns C m)->H' C=none->X.s₀.heap.objs.size<=C->C≠X.env.locals->(∀x c,X.env.cells.lookup x=some c->c≠C)->C∉X.fs->(∀p∈X.pn++pins,p.1≠C) ->
   compPost (model X.prog X.w) X.A X.xe use Qf (.ref D) C (.ok .next) s') :
  wpAny (model X.prog X.w) X.A (comprehension (.ListComp elt [⟨tg,iter,ifs,0⟩] scope pos) scope X.env p' (newList []) false (eval iter X.env) use) Qf X.xe s:=by
 have hclos:closureFor scope X.env=pure (iW X.env scope.names []):=ky λy hy e=>I.ok.has y.1 (ok.free y hy e).1;refine wpAny_comprehension_free (use:=use) rfl hs hclos ok.kind ok.loc (thn (hi pins s σ H _ I hw) λv s1 h1=>thn h1 λitv s2 h2=>?_);obtain⟨it,fp,tn,J,H2,e,I2,T,st2,f2,hW⟩:=h2;subst e;obtain⟨W,⟨m0,w0⟩,turn⟩:=hW s2.heap.objs.size (I2.hok.fresh (o_ _))
 have hfl:∀b∈fp,b<s2.heap.objs.size:=λb hb=>by
  obtain⟨o,e,_⟩:=T.obj 0 _ st2 b hb;exact l_ e
 refine GP ?_
 have I3:Inv X pins σ (upd H2 s2.heap.objs.size (.lst [])) { s2 with heap:=s2.heap.push { cls:=.type "list",dict:=none,data:=.seq ([]:List Value).toArray } } :=
  I2.laid (t':=s2.toks) (λb o e=>d_ _ e) (o_ _) (show bZ X.prog X.w _ _ _ (.lst []) from ⟨G4 _,[],0,.nil,j_ _ rfl⟩)
 have st3:tn 0 (s2.heap.push { cls:=.type "list",dict:=none,data:=.seq ([]:List Value).toArray }):=T.keep 0 _ _ st2 λb _ o e=>d_ _ e;have f3:∀b∈fp,vj X pins (upd H2 s2.heap.objs.size (.lst [])) b:=λb hb=>⟨by rw [aR (GR (hfl b hb))];exact (f2 b hb).1,(f2 b hb).2⟩
 have hfl3:∀b∈fp,b<(s2.heap.push { cls:=.type "list",dict:=none,data:=.seq ([]:List Value).toArray }).objs.size:=λb hb=>by rw [GG];exact lt_succ_of_lt (hfl b hb)
 generalize hs3:({ s2 with heap:=s2.heap.push { cls:=.type "list",dict:=none,data:=.seq ([]:List Value).toArray } }:c_)=s3 at I3 ⊢;have eh3:s3.heap=s2.heap.push { cls:=.type "list",dict:=none,data:=.seq ([]:List Value).toArray }:=by rw [<- hs3]
 rw [<- eh3] at st3 hfl3;generalize hH3:upd H2 s2.heap.objs.size (.lst [])=H3 at I3 f3 w0;generalize hD:s2.heap.objs.size=D at *;refine ir ?_;have I4:=xU ok I3 f3 hfl3;obtain⟨hg,ht,he⟩:=blk s3 H3 fp pins;have st4:tn 0 (pushCells (s3.heap.push { cls:=.type "dict",data:=.dict #[] }) scope.names):=T.keep 0 _ _ st3 λb _ o e=>JU _ _ b o (d_ _ e)
 have stat:∀{H':Hp},(∀b∈fp,H' b=none)->∀b∈fp,vj (cv X N' scope s3 H3 fp pins) [] H' b:=λhn b hb=>by
  refine⟨hn b hb,GR (hfl3 b hb),I4.ok.exfs b hb,.inl hb,(I4.ok.exf b hb).2,λp hp=>?_⟩;have hp':p∈X.pn++pins:=by simpa [cv] using hp
  exact (f2 b hb).2.2.2.2.2 p hp'
 have loop:∀(s4:c_),Inv (cv X N' scope s3 H3 fp pins) [] (v9 ix σ) H3 s4->tn 0 s4.heap ->
   codeAny (model X.prog X.w) X.A (.compLoop (.ListComp elt [⟨tg,iter,ifs,0⟩] scope pos) 0 (.ref it) (.ref D) (vX scope s3.heap.objs.size X.env)) (compPost (model X.prog X.w) X.A X.xe use Qf (.ref D) s3.heap.objs.size) s4:=by
  intro s4 I4 st4;refine qg (λn s'=>∃i τ H',Inv (cv X N' scope s3 H3 fp pins) [] τ H' s'/\tn i s'.heap/\(∀b∈fp,H' b=none)/\W i n τ H') ?_ m0 ⟨0,_,H3,I4,st4,λb hb=>(f3 b hb).1,w0⟩;rintro n s5 ⟨i,τ,H5,I5,st5,fr5,w5⟩
  rcases turn i n τ H5 w5 with ⟨stop,qn⟩|⟨go,step⟩
  .refine thn (T.done (cv X N' scope s3 H3 fp pins) rfl rfl rfl hc i [] s5 τ H5 (λ_ _=>False) I5 (stat fr5) st5 stop) λr s6 ⟨hr,I6⟩=>?_;subst hr;have I7:Inv X pins σ H5 s6:=I3.call' (ch:=fp) I6.os I6.base I6.hok I6.bare λb hb=>⟨(f2 b hb).2.2.2.1,(f2 b hb).2.1,(f2 b hb).2.2.2.2.1,(f2 b hb).2.2.2.2.2⟩
   obtain⟨m6,hn6,_⟩:=I6.loc
   refine fin D s3.heap.objs.size H5 s6 I7 qn ⟨m6,hn6⟩ I6.free ?_ ?_ ?_ ?_ ?_
   .exact I3.sz
   .exact Jx I3.lt
   .intro x c e z;obtain⟨v,q⟩:=I3.cell x c e;have:=q.lt;rw [z] at this;exact GF _ this
   .exact I3.nofs (o_ _)
   .intro p hp z;have:=l_ (I3.pin p hp).1;rw [z] at this;exact GF _ this
  .refine thn (T.item (cv X N' scope s3 H3 fp pins) rfl rfl rfl hc i [] s5 τ H5 (λ_ _=>False) I5 (stat fr5) st5 go) λr s6 ⟨u,hr,h6⟩=>?_;subst hr;refine thn h6 λ_ s7 ⟨x,H7,I7,r7,y7,st7,fr7⟩=>?_;have I7':=I7.pinned (stat fr7) (T.obj _ _ st7)
   have again:∀{s8:c_}{τ8:St}{H8:Hp},Inv (cv X N' scope s3 H3 fp pins) ([]++pT fp s7.heap) τ8 H8 s8->(∃m',m'<n/\W (i+1) m' τ8 H8) ->
     ∃m,m<n/\∃i τ H',Inv (cv X N' scope s3 H3 fp pins) [] τ H' s8/\tn i s8.heap/\(∀b∈fp,H' b=none)/\W i m τ H':=λ{s8 τ8 H8} I8 ⟨m',hm,w8⟩=>by
    refine⟨m',hm,i+1,τ8,H8,I8.unpinned,T.keep _ _ _ st7 λb hb o e=>(I8.pin (b,o) (C0 _ (C0 _ (g6 hb e)))).1,λb hb=>?_,w8⟩;obtain⟨o,e,d⟩:=T.obj _ _ st7 b hb;exact (I8.pin (b,o) (C0 _ (C0 _ (g6 hb e)))).2.1
   refine thn (hg _ s7 τ H7 x u _ I7' r7 (step x H7 y7)) λ_ s8 ⟨τ8,H8,I8,q8⟩=>?_;refine thn (ht _ s8 τ8 H8 _ I8 q8) λokb s9 ⟨H9,I9,q9⟩=>?_
   cases okb with
   | false =>
    rw [if_neg k_] at q9;rw [if_neg k_];exact again I9 q9
   | true =>
    rw [if_pos rfl] at q9;rw [if_pos rfl];refine thn (he _ s9 τ8 H9 _ I9 q9) λv10 s10 ⟨x10,H10,I10,r10,q10⟩=>?_;obtain⟨ys,hD10,hz,m',hm,w10⟩:=q10;refine thn (eU (X:=cv X N' scope s3 H3 fp pins) _ s10 τ8 H10 (.ref D) [x10] (.ref D) [v10] (λ_ H'=>∃m',m'<n/\W (i+1) m' τ8 H') I10 rfl (.cons r10 .nil) ⟨D,ys,x10,rfl,rfl,hD10,hz,m',hm,w10⟩) λ_ s11 ⟨_,H11,I11,_,q11⟩=>?_;exact again I11 q11
 exact codeAny_compStart_list (loop _ I4 st4) (T.self X.A 0 _ _ _ st4 (loop _ I4 st4))
def bT{pos:Pos}(N':List Str)(ix:List (Option Nat))(hc:X.calm=true)(hi:PI X tg iter wi)
  (blk:∀s H fp pn,PG (cv X N' scope s H fp pn) tg g/\PIf (cv X N' scope s H fp pn) ifs tts/\PE (cv X N' scope s H fp pn) elt te)
  (chk:nP X.env.scope X.N scope N' ix=true) (hs:∀x,foldedSetIterable iter X.env x=pure x:=by intro _;rfl) :
  PE X (.ListComp elt [⟨tg,iter,ifs,0⟩] scope pos) (rK ix wi g tts te):=by
 intro pins s σ H Q I hw;rw [eval_ListComp];refine qh (use:=none) hc (qe chk) hi blk hs I hw λD C H' s' I' q hm hn h1 h2 h3 h4 h5=>?_;obtain⟨m,hm⟩:=hm;refine⟨m,hm,λh' sb=>⟨.ref D,H',?_,rfl,q⟩⟩;exact I'.turned (t':=s'.toks) (λb o hb e=>(sb.2 b hb).trans e) hn h2 (.inr h1) h3 h5
end
section
variable {X:Cx}{tg iter elt:Expr}{ifs:List Expr}{scope:Scope}{N':List Str}{ix:List (Option Nat)}{wi:TI}{g:TG}{tts:TT}{te:TE}
theorem rL{i:Nat}{x:Str}{pos pos' cpos:Pos}(N':List Str)(ix:List (Option Nat))(hN:X.N.Nodup)(hi:X.N[i]?=some x)(hx:Loc X.env.scope x)(hc:X.calm=true)(hit:PI X tg iter wi)
  (blk:∀s H fp pn,PG (cv X N' scope s H fp pn) tg g/\PIf (cv X N' scope s H fp pn) ifs tts/\PE (cv X N' scope s H fp pn) elt te)
  (chk:nP X.env.scope X.N scope N' ix=true) (hsw:swapsWith (.ListComp elt [⟨tg,iter,ifs,0⟩] scope cpos) (some (.Name x pos')) pos.line X.env=pure true:=by rfl)
  (hs:∀x,foldedSetIterable iter X.env x=pure x:=by intro _;rfl) (hf:X.fn x=true\/X.env.scope.names.lookup x=some .local:=by first|exact .inl rfl|exact .inr rfl|assumption) :
  PS X (.Assign [.Name x pos'] (.ListComp elt [⟨tg,iter,ifs,0⟩] scope cpos) pos) (Bx (rK ix wi g tts te) (bQ i)):=by
 intro pins s σ H D I hw;rw [exec_Assign_Name_used _ _ _ _ hsw];refine b_ (Js (b_ ?_));show wpAny _ X.A (do let _ <- comprehension (.ListComp elt [⟨tg,iter,ifs,0⟩] scope cpos) scope X.env _ (newList []) false (eval iter X.env) (some (assign (.Name x pos') X.env))) _ _ s;refine b_ (thn (qh (use:=some (assign (.Name x pos') X.env)) (Qf:=λ_ s'=>SP X pins D .next s') hc (qe chk) hit blk hs I hw λD' C H' s' I' q hm hn h1 h2 h3 h4 h5=>?_) λ_ s' q=>gV (gV q))
 obtain⟨m,oC,es,ep,hoC,hdC,hrC⟩:=hm
 have Ip:Inv X (pins++[(C,oC)]) σ H' s':=I'.pins_of λp hp=>(HB.mp hp).elim (λz=>I'.pin p (C0 _ z)) λz=>by
  have e:p=(C,oC):=by simpa using z
  subst e;exact⟨hoC,hn,h2,h4,λv z=>by rw [hdC] at z;cases z⟩
 refine wpAny_assign_Name (kL (v:=.ref D') Ip hN hi hx rfl (λs2 I2=>?_) hf);have hC2:s2.heap.get? C=some oC:=(I2.pin (C,oC) (by simp)).1;have I2':Inv X pins (σ.set i (some (.ref D'))) H' s2:=I2.pins_of λp hp=>I2.pin p (C0 _ (HW _ hp));refine⟨m,⟨oC,es,ep,hC2,hdC,hrC⟩,λh' sb=>⟨_,H',?_,q⟩⟩;exact I2'.turned (t':=s2.toks) (λb o hb e=>(sb.2 b hb).trans e) hn h2 (.inr h1) h3 h5
end
noncomputable def eI(k:Bool)(h:Heap)(a:Addr)(its:Array Value):Prop:=∃o,h.get? a=some o/\o.cls=.type (cond k "tuple" "list")/\∃n,o.data=.seq its n
noncomputable def cw(k:Bool)(h:Heap)(it a:Addr)(i:Nat):Prop:=∃o,h.get? it=some o/\o.cls=.type (cond k "tuple_iterator" "list_iterator")/\o.data=.fields #[.ref a,.int i 0]
def eI.mv{k:Bool}{h h':Heap}{a:Addr}{its:Array Value}(r:eI k h a its)(f:∀o,h.get? a=some o->h'.get? a=some o):eI k h' a its:=let ⟨o,e,q⟩:=r;⟨o,f o e,q⟩
def cw.mv{k:Bool}{h h':Heap}{it a:Addr}{i:Nat}(r:cw k h it a i)(f:∀o,h.get? it=some o->h'.get? it=some o):cw k h' it a i:=let ⟨o,e,q⟩:=r;⟨o,f o e,q⟩
section
variable {P:s_}{w:World}{A:z_}{E:Value->c_->Prop}{s:c_}{k:Bool}{it a:Addr}{i:Nat}{its:Array Value}
def qi{x:Value}{Q:Value->c_->Prop}(W:s.heap.IsTupleIter it a i)(R:s.heap.IsTuple a its)(hx:its[i]?=some x)
  (hQ:∀h',h'.IsTupleIter it a (i+1)->Io it s.heap h'->Q x { s with heap:=h' }):wpAny (model P w) A (t_ (.ref it)) Q E s:=by
 have hT:=W.typeIs;obtain⟨o,ho,c,d⟩:=W;obtain⟨ol,hol,_,nl,dl⟩:=R;unfold t_;refine b_ (GI (name:=HN "__next__") hT F.slot_tuple_iterator_next (Hi F.slot_tuple_iterator_next hT F.entry_tuple_iterator_next ?_ (F.args_tuple_iterator_next_1 _)));refine b_ (m:=field (.ref it) 0) (GJ ho d (x:=.ref a) rfl ?_);have nn:¬ ((u1 a == Hr)=true):=k_
 show wpAny _ _ (if (u1 a == Hr)=true then _ else _) _ _ s;rw [if_neg nn];refine b_ (m:=field (.ref it) 1) (GJ ho d (x:=.int i 0) rfl ?_);refine b_ (m:=seqItems? (.ref a)) (GU hol dl ?_);simp only [toNat_natCast,hx];exact b_ (wpAny_setField ho d (by simp) (gV ⟨x,rfl,gV (hQ _ ⟨_,HI _ ho (Obj.isFreed_of_fields (Obj.data_mapFields d _)),(Obj.cls_mapFields ..).trans c,by rw [Obj.data_mapFields d];simp [rawInt]⟩ (Heap.SameBut.update ..))⟩))
def rM{Q:Value->c_->Prop}(hh:A.handled=none)(W:s.heap.IsTupleIter it a i)(R:s.heap.IsTuple a its)(hx:its[i]?=none)
  (hE:∀h' e,Kb it s.heap h'->(∃o,h'.get? e=some o/\o.cls=.type "StopIteration")->E (.ref e) { s with heap:=h' }):wpAny (model P w) A (t_ (.ref it)) Q E s:=by
 have hT:=W.typeIs;obtain⟨o,ho,c,d⟩:=W;obtain⟨ol,hol,_,nl,dl⟩:=R;unfold t_;refine b_ (GI (name:=HN "__next__") hT F.slot_tuple_iterator_next (Hi F.slot_tuple_iterator_next hT F.entry_tuple_iterator_next ?_ (F.args_tuple_iterator_next_1 _)));refine b_ (m:=field (.ref it) 0) (GJ ho d (x:=.ref a) rfl ?_);have nn:¬ ((u1 a == Hr)=true):=k_
 show wpAny _ _ (if (u1 a == Hr)=true then _ else _) _ _ s;rw [if_neg nn];refine b_ (m:=field (.ref it) 1) (GJ ho d (x:=.int i 0) rfl ?_);refine b_ (m:=seqItems? (.ref a)) (GU hol dl ?_);simp only [toNat_natCast,hx];refine b_ (wpAny_rule (b_ (wpAny_setField ho d (by simp) (b_ (m:=newExc (.type "StopIteration") []) ?_))));simp only [newExc,newTuple]
 refine b_ (GP (b_ (m:=firstArgMember _ _) (wpAny_of_eq (a:=Hr) (by first|rfl|(simp only [firstArgMember];rfl)) (GP ?_ (by size_fits)))) (by size_fits));simp only [raiseNew];refine b_ (wpAny_handled ?_)
 first|rw [show A.in1.handled=none from hh]|rw [hh]
 exact b_ (gV (wpAny_throw (hE _ _ (((Heap.SameBut.update ..).extBut.push _).push _) ⟨_,j_ _ rfl,rfl⟩)))
def eh{x:Value}{Q:Value->c_->Prop}(W:cw k s.heap it a i)(R:eI k s.heap a its)(hx:its[i]?=some x)
  (hQ:∀h',cw k h' it a (i+1)->Io it s.heap h'->Q x { s with heap:=h' }):wpAny (model P w) A (t_ (.ref it)) Q E s:=by
 cases k with
 | false=>exact wpAny_nextOf_list_item W R hx hQ
 | true=>exact qi W R hx hQ
def fo{Q:Value->c_->Prop}(hh:A.handled=none)(W:cw k s.heap it a i)(R:eI k s.heap a its)(hx:its[i]?=none)
  (hE:∀h' e,Kb it s.heap h'->(∃o,h'.get? e=some o/\o.cls=.type "StopIteration")->E (.ref e) { s with heap:=h' }):wpAny (model P w) A (t_ (.ref it)) Q E s:=by
 cases k with
 | false=>exact wpAny_nextOf_list_end hh W R hx hE
 | true=>exact rM hh W R hx hE
end
structure ZA (z U V i j:Addr):Prop where
 Uz:U≠z
 Vz:V≠z
 iz:i≠z
 jz:j≠z
 UV:U≠V
 Ui:U≠i
 Uj:U≠j
 Vi:V≠i
 Vj:V≠j
 ij:i≠j
section
variable {P:s_}{w:World}{A:z_}{E:Value->c_->Prop}{s:c_}{k l:Bool}{z U V i j a c:Addr}{n:Nat}{xs ys:Array Value}{x y u v:Value}
def Al{Q:Value->c_->Prop}(D:ZA z U V i j)(az:a≠z)(cz:c≠z)(ci:c≠i)(cV:c≠V)(hz:IsZip s.heap z U V .none)(hU:Ic s.heap U (.ref i) (.ref j))(hV:Ic s.heap V u v)
  (W1:cw k s.heap i a n) (W2:cw l s.heap j c n) (R1:eI k s.heap a xs) (R2:eI l s.heap c ys) (hx:xs[n]?=some x) (hy:ys[n]?=some y)
  (hQ:∀h',IsZip h' z U V (rawInt s.heap.objs.size)->Ic h' V x y->cw k h' i a (n+1)->cw l h' j c (n+1)->Ic h' s.heap.objs.size x y->h'.objs.size=s.heap.objs.size+1 ->
   (∀b o,b≠z->b≠V->b≠i->b≠j->s.heap.get? b=some o->h'.get? b=some o)->Q (.ref s.heap.objs.size) { s with heap:=h' }) :
  wpAny (model P w) A (Builtin.«zip.__next__» ⟨[.ref z],[]⟩) (λf s'=>∃r,f=.done (.ret r)/\Q r s') E s:=by
 refine b_ (m:=field (.ref z) 2) (GJ hz rfl (x:=.bool false) rfl (b_ (m:=field (.ref z) 3) (GJ hz rfl (x:=.ref U) rfl (b_ (GU hU rfl ?_)))));refine b_ (m:=GV (.ref z)) ?_;unfold GV;refine b_ (GJ hz rfl (x:=.none) rfl (gV ?_));simp only [if_true];refine b_ (wpAny_rule (b_ (GJ hz rfl (x:=.ref V) rfl (b_ (Hm hz (by simp) λg1 z1 b1=>b_ ?_)))))
 replace z1:IsZip g1 z U V .ellipsis:=z1
 simp only [zipIdx_cons,zipIdx_nil,forIn_cons,forIn_nil];have e1:=b1.extBut;refine b_ (b_ (II (b_ (m:=t_ (.ref i)) (eh (W1.mv λo e=>e1 _ o D.iz e) (R1.mv λo e=>e1 _ o az e) hx λg2 w1 b2=>gV ?_))));have e2:=b2.extBut;have v2:Ic g2 V u v:=e2 _ _ D.Vi (e1 _ _ D.Vz hV);refine b_ (GU v2 rfl (b_ (IK v2 λg3 v3 b3=>b_ (Ij (gV ?_)))))
 replace v3:Ic g3 V x v:=v3
 have e3:=b3.extBut;refine b_ (b_ (II (b_ (m:=t_ (.ref j)) (eh (W2.mv λo e=>e3 _ o D.Vj.symm (e2 _ o D.ij.symm (e1 _ o D.jz e))) (R2.mv λo e=>e3 _ o cV (e2 _ o ci (e1 _ o cz e))) hy λg4 w2 b4=>gV ?_))));have e4:=b4.extBut;have v4:Ic g4 V x v:=e4 _ _ D.Vj v3;refine b_ (GU v4 rfl (b_ (IK v4 λg5 v5 b5=>b_ (Ij (gV (gV ?_))))))
 replace v5:Ic g5 V x y:=v5
 have e5:=b5.extBut;refine b_ (GU v5 rfl (b_ (wpAny_newTuple ?_)));have sz:g5.objs.size=s.heap.objs.size:=by rw [b5.1,b4.1,b3.1,b2.1,b1.1]
 have z5:IsZip g5 z U V .ellipsis:=e5 _ _ D.Vz.symm (e4 _ _ D.jz.symm (e3 _ _ D.Vz.symm (e2 _ _ D.iz.symm z1)));have k5:∀b o,b≠z->b≠V->b≠i->b≠j->s.heap.get? b=some o->g5.get? b=some o:=λb o q1 q2 q3 q4 e=>e5 _ _ q2 (e4 _ _ q4 (e3 _ _ q2 (e2 _ _ q3 (e1 _ _ q1 e))));have w15:cw k g5 i a (n+1):=w1.mv λo e=>e5 _ o D.Vi.symm (e4 _ o D.ij (e3 _ o D.Vi.symm e));have w25:cw l g5 j c (n+1):=w2.mv λo e=>e5 _ o D.Vj.symm e
 have zlt:z<g5.objs.size:=l_ z5;refine b_ (m:=HR (.ref z) (.ref g5.objs.size)) ?_;unfold HR;have z6:IsZip (g5.push { cls:=.type "tuple",data:=.seq #[x,y] }) z U V .ellipsis:=d_ _ z5;refine b_ (Hm z6 (by simp) λg7 z7 b7=>?_)
 replace z7:IsZip g7 z U V (rawInt g5.objs.size):=z7
 refine Hm z7 (by simp) λg8 z8 b8=>?_
 replace z8:IsZip g8 z U V (rawInt g5.objs.size):=z8
 have up:∀b o,b≠z->g5.get? b=some o->g8.get? b=some o:=λb o q e=>b8.extBut _ _ q (b7.extBut _ _ q (d_ _ e));have t8:Ic g8 g5.objs.size x y:=b8.extBut _ _ (Jx zlt) (b7.extBut _ _ (Jx zlt) (j_ _ rfl));have s8:g8.objs.size=g5.objs.size+1:=by rw [b8.1,b7.1,GG]
 rw [sz] at z8 t8 s8;refine gV ⟨_,rfl,?_⟩;show Q (.ref g5.objs.size) _;rw [sz];exact hQ g8 z8 (up _ _ D.Vz v5) (w15.mv λo e=>up _ o D.iz e) (w25.mv λo e=>up _ o D.jz e) t8 s8 λb o q1 q2 q3 q4 e=>up b o q1 (k5 b o q1 q2 q3 q4 e)
def CI{Q:Fin->c_->Prop}(hh:A.handled=none)(D:ZA z U V i j)(az:a≠z)(cz:c≠z)(ci:c≠i)(cV:c≠V)(hz:IsZip s.heap z U V .none)(hU:Ic s.heap U (.ref i) (.ref j))(hV:Ic s.heap V u v)
  (W1:cw k s.heap i a n) (W2:cw l s.heap j c n) (R1:eI k s.heap a xs) (R2:eI l s.heap c ys) (hend:xs[n]?=none\/ys[n]?=none)
  (hE:∀h' e,(∀b o,b≠z->b≠V->b≠i->b≠j->s.heap.get? b=some o->h'.get? b=some o)->(∃o,h'.get? e=some o/\o.cls=.type "StopIteration")->E (.ref e) { s with heap:=h' }) :
  wpAny (model P w) A (Builtin.«zip.__next__» ⟨[.ref z],[]⟩) Q E s:=by
 refine b_ (m:=field (.ref z) 2) (GJ hz rfl (x:=.bool false) rfl (b_ (m:=field (.ref z) 3) (GJ hz rfl (x:=.ref U) rfl (b_ (GU hU rfl ?_)))));refine b_ (m:=GV (.ref z)) ?_;unfold GV;refine b_ (GJ hz rfl (x:=.none) rfl (gV ?_));simp only [if_true];refine b_ (wpAny_rule (b_ (GJ hz rfl (x:=.ref V) rfl (b_ (Hm hz (by simp) λg1 z1 b1=>b_ ?_)))))
 replace z1:IsZip g1 z U V .ellipsis:=z1
 simp only [zipIdx_cons,zipIdx_nil,forIn_cons,forIn_nil];have e1:=b1.extBut
 cases hx:xs[n]? with
 | none =>
  refine b_ (b_ (II (b_ (m:=t_ (.ref i)) (fo hh (W1.mv λo e=>e1 _ o D.iz e) (R1.mv λo e=>e1 _ o az e) hx λg2 e b2 he=>?_))));obtain⟨oe,ge,ce⟩:=he;have z2:IsZip g2 z U V .ellipsis:=b2 _ _ D.iz.symm z1;have ez:e≠z:=λq=>by subst q;rw [z2] at ge;cases ge;simp at ce
  exact Hm z2 (by simp) λg3 _ b3=>hE g3 e (λb o q1 _ q3 _ q=>b3.extBut _ _ q1 (b2 _ _ q3 (e1 _ _ q1 q))) ⟨oe,b3.extBut _ _ ez ge,ce⟩
 | some x =>
  have hy:ys[n]?=none:=by
   rcases hend with q|q
   .rw [hx] at q;cases q
   .exact q
  refine b_ (b_ (II (b_ (m:=t_ (.ref i)) (eh (W1.mv λo e=>e1 _ o D.iz e) (R1.mv λo e=>e1 _ o az e) hx λg2 w1 b2=>gV ?_))));have e2:=b2.extBut;have v2:Ic g2 V u v:=e2 _ _ D.Vi (e1 _ _ D.Vz hV);refine b_ (GU v2 rfl (b_ (IK v2 λg3 v3 b3=>b_ (Ij (gV ?_)))))
  have e3:=b3.extBut;refine b_ (b_ (II (b_ (m:=t_ (.ref j)) (fo hh (W2.mv λo e=>e3 _ o D.Vj.symm (e2 _ o D.ij.symm (e1 _ o D.jz e))) (R2.mv λo e=>e3 _ o cV (e2 _ o ci (e1 _ o cz e))) hy λg4 e b4 he=>?_))));obtain⟨oe,ge,ce⟩:=he;have z4:IsZip g4 z U V .ellipsis:=b4 _ _ D.jz.symm (e3 _ _ D.Vz.symm (e2 _ _ D.iz.symm z1));have ez:e≠z:=λq=>by subst q;rw [z4] at ge;cases ge;simp at ce
  exact Hm z4 (by simp) λg5 _ b5=>hE g5 e (λb o q1 q2 q3 q4 q=>b5.extBut _ _ q1 (b4 _ _ q4 (e3 _ _ q2 (e2 _ _ q3 (e1 _ _ q1 q))))) ⟨oe,b5.extBut _ _ ez ge,ce⟩
end
noncomputable def Sq(k:Bool)(K:a_)(H:Hp)(a:Addr)(xs:List V):Prop:=cond k (SqT K H a xs) (SqL K H a xs)
section
variable {X:Cx}{pins:List (Addr×Obj)}{σ:St}{H:Hp}{s:c_}{k l:Bool}{a b c:Addr}{xs ys:List V}
def Inv.row(I:Inv X pins σ H s)(h:Sq k X.K H a xs):∃its:List Value,bJ xs its/\eI k s.heap a its.toArray/\xs.length<=sizeLine:=by
 cases k with
 | false=>obtain⟨its,r,p,z⟩:=I.list h;exact⟨its,r,p.isList,z⟩
 | true=>obtain⟨its,r,p,z⟩:=I.tuple h;exact⟨its,r,p,z⟩
def Inv.row_inj(I:Inv X pins σ H s)(h:Sq k X.K H a xs)(h':Sq k X.K H a ys):xs=ys:=by
 cases k with
 | false=>exact I.list_inj h h'
 | true=>exact I.tuple_inj h h'
def wb{u:HO}(r:Rd H a u):∃v,H a=some v:=by
 rcases r with r|⟨o,r⟩ <;> exact⟨_,r⟩
def Inv.row_ne(I:Inv X pins σ H s)(h:Sq k X.K H a xs)(f:vj X pins H b):a≠b:=by
 have kk:∀o,X.K.lookup a=some o->a≠b:=λo e z=>by
  have e1:=I.ok.mod.kin a o e
  rcases f.2.2.2.1 with q|q
  .exact I.ok.noex a o e1 (z ▸ q)
  .exact absurd (u_ (l_ (I.ok.bs a o e1).1) (z ▸ q)) (GF _)
 have hh:∀u,H a=some u->a≠b:=λu e z=>by rw [z,f.1] at e;cases e
 cases k with
 | false =>
  rcases h with r|⟨o,its,n,e,_⟩
  .obtain⟨v,e⟩:=wb r;exact hh v e
  .exact kk o e
 | true =>
  rcases h with r|⟨o,its,n,e,_⟩
  .obtain⟨v,e⟩:=wb r;exact hh v e
  .exact kk o e
def Inv.yielded{h':Heap}{T:Addr}{zs:List V}{t':Nat}{ch:List Addr}(I:Inv X pins σ H s)(hf:∀b∈ch,vj X pins H b)(hT:s.heap.objs.size<=T)
  (kp:∀b o,b∉ch->s.heap.get? b=some o->h'.get? b=some o) (new:bZ X.prog X.w (upd H T (.tup zs)) h' T (.tup zs)):Inv X pins σ (upd H T (.tup zs)) { s with heap:=h',toks:=t' }:=by
 have hn:H T=none:=I.hok.fresh hT;have nT:∀b u,H b=some u->b≠T:=λb u e z=>by rw [z,hn] at e;cases e
 have oT:∀b o,s.heap.get? b=some o->b≠T:=λb o e z=>absurd (u_ (l_ e) (z ▸ hT)) (GF _);have nc:∀b u,H b=some u->b∉ch:=λb u e z=>by rw [(hf b z).1] at e;cases e
 refine I.step (g':=s.gens) (d':=s.drawn) (ch:=ch) (λb hb=>⟨(hf b hb).2.2.2.1,(hf b hb).2.1,(hf b hb).2.2.2.2.1,(hf b hb).2.2.2.2.2⟩) (λb o _ _ hc e _=>kp b o hc e) (λb o _ _ hc e _=>⟨o.slots,kp b o hc e⟩)
  (λb o _ e n=>by rw [aR (oT b o e)];exact n) (λb o hc e=>⟨o,kp b o hc e⟩) (λb xs e=>by rw [aR (nT b _ e)];exact e) (λb o u e=>by rw [aR (nT b _ e)];exact e)
  (λb ps e=>⟨#[],by rw [aR (nT b _ e),e];simp⟩) (λm hm=>?_) (λb u e=>?_) I.bare
 .obtain⟨o,es,ep,ho,r⟩:=hm;exact⟨o,es,ep,kp _ o (λz=>(hf _ z).2.1 rfl) ho,r⟩
 .by_cases hb:b=T
  .subst hb;rw [bd] at e;cases e;exact new
  .rw [aR hb] at e;refine (I.hok b u e).stay (λc v hc q=>kp c v ?_ q) (λc q=>by rw [aR (nT c _ q)];exact q) λc xs q=>by rw [aR (nT c _ q)];exact q
   rcases hc with z|z
   .rw [z];exact nc b u e
   .exact nc c _ z
end
noncomputable def Itz(k l:Bool)(K:a_)(a c:Addr):It :=
  ⟨λi H=>∃xs ys x y,Sq k K H a xs/\Sq l K H c ys/\xs[i]?=some x/\ys[i]?=some y,
   λi H p H'=>∃T x y,H T=none/\p=.ref T/\(∀xs,Sq k K H a xs->xs[i]?=some x)/\(∀ys,Sq l K H c ys->ys[i]?=some y)/\H'=upd H T (.tup [x,y]),
   λi H=>∃xs ys,Sq k K H a xs/\Sq l K H c ys/\(xs.length<=i\/ys.length<=i)⟩
def xV{P:s_}{w:World}{K:a_}{es:List Expr}{ct:Nat}{tp:Pos}{k l:Bool}{a c z U V i j:Addr}(D:ZA z U V i j) :
  zM P w K (.Tuple es ct tp) (Itz k l K a c) [z,U,V,i,j] z (λn h=>IsZip h z U V .none/\Ic h U (.ref i) (.ref j)/\(∃u v,Ic h V u v)/\cw k h i a n/\cw l h j c n) where
 mem:=by simp
 obj:=λn h st b hb=>by
  obtain⟨hz,hU,⟨u,v,hV⟩,⟨o1,g1,c1,d1⟩,⟨o2,g2,c2,d2⟩⟩:=st;simp only [w_,not_mem_nil,or_false] at hb
  rcases hb with rfl|rfl|rfl|rfl|rfl
  .exact⟨_,hz,λv q=>by cases q⟩
  .exact⟨_,hU,λv q=>by cases q⟩
  .exact⟨_,hV,λv q=>by cases q⟩
  .exact⟨_,g1,λv q=>by rw [d1] at q;cases q⟩
  .exact⟨_,g2,λv q=>by rw [d2] at q;cases q⟩
 keep:=λn h h' st kk=>by
  obtain⟨hz,hU,⟨u,v,hV⟩,w1,w2⟩:=st;exact⟨kk z (by simp) _ hz,kk U (by simp) _ hU,⟨u,v,kk V (by simp) _ hV⟩,w1.mv λo e=>kk i (by simp) o e,w2.mv λo e=>kk j (by simp) o e⟩
 item:=by
  intro X hP hw hK hc n pins s σ H E I hf st hg;subst hP hw hK;obtain⟨xs,ys,x,y,q1,q2,hx,hy⟩:=hg;obtain⟨hz,hU,⟨u,v,hV⟩,w1,w2⟩:=st;obtain⟨its,rv,p,_⟩:=I.row q1;obtain⟨jts,rv',p',_⟩:=I.row q2;obtain⟨ux,hux,rx⟩:=rv.get hx;obtain⟨uy,huy,ry⟩:=rv'.get hy;have hT:s.TypeIs (.ref z) "zip":=⟨_,hz,rfl⟩
  have nz:=I.row_ne q1 (hf z (by simp));have mz:=I.row_ne q2 (hf z (by simp));have mi:=I.row_ne q2 (hf i (by simp));have mV:=I.row_ne q2 (hf V (by simp));unfold pyNext
  refine b_ (wpAny_attempt (GI (name:=HN "__next__") hT F.slot_zip_next (Hi F.slot_zip_next hT F.entry_zip_next
   (Al (x:=ux) (y:=uy) D nz mz mi mV hz hU hV w1 w2 p p' (by simpa using hux) (by simpa using huy) λh' a1 a2 a3 a4 a5 a6 a7=>gV ?_) (F.args_zip_next_1 _))))
  refine⟨_,rfl,wpAny_letOwnedTupleGo_zip a1 λg gz gs=>?_⟩;have lt:∀{b o},s.heap.get? b=some o->s.heap.objs.size≠b:=λe=>Jx (l_ e)
  have kp:∀b o,b∉[z,V,i,j]->s.heap.get? b=some o->g.get? b=some o:=λb o hb e=>by
   simp only [w_,not_mem_nil,or_false,not_or] at hb;exact gs.extBut _ _ hb.1 (a7 b o hb.1 hb.2.1 hb.2.2.1 hb.2.2.2 e)
  have I2:Inv X pins σ (upd H s.heap.objs.size (.tup [x,y])) { s with heap:=g,toks:=s.toks }:=I.yielded (ch:=[z,V,i,j]) (λb hb=>hf b (by
   simp only [w_,not_mem_nil,or_false] at hb ⊢;rcases hb with q|q|q|q <;> simp [q])) (o_ _) kp ⟨by show 2<=sizeLine;decide,[ux,uy],.cons rx (.cons ry .nil),_,gs.extBut _ _ (lt hz) a5,rfl,_,rfl⟩
  refine⟨.ref s.heap.objs.size,_,I2,rfl,⟨_,x,y,I.hok.fresh (o_ _),rfl,λxs' q=>by rw [I.row_inj q q1];exact hx,λys' q=>by rw [I.row_inj q q2];exact hy,rfl⟩,
   ⟨gz,gs.extBut _ _ D.Uz (a7 _ _ D.Uz D.UV D.Ui D.Uj hU),⟨_,_,gs.extBut _ _ D.Vz a2⟩,a3.mv λo e=>gs.extBut _ o D.iz e,a4.mv λo e=>gs.extBut _ o D.jz e⟩,λb hb=>?_⟩
  rw [aR ?_]
  .exact (hf b hb).1
  .intro q;subst q;simp only [w_,not_mem_nil,or_false] at hb;obtain⟨o1,g1,_⟩:=w1;obtain⟨o2,g2,_⟩:=w2
   rcases hb with q|q|q|q|q
   .exact lt hz q
   .exact lt hU q
   .exact lt hV q
   .exact lt g1 q
   .exact lt g2 q
 done:=by
  intro X hP hw hK hc n pins s σ H E I hf st hg;subst hP hw hK;obtain⟨xs,ys,q1,q2,hend⟩:=hg;obtain⟨hz,hU,⟨u,v,hV⟩,w1,w2⟩:=st;obtain⟨its,rv,p,_⟩:=I.row q1;obtain⟨jts,rv',p',_⟩:=I.row q2;have e1:=rv.length;have e2:=rv'.length;have hT:s.TypeIs (.ref z) "zip":=⟨_,hz,rfl⟩
  unfold pyNext
  refine b_ (wpAny_attempt (GI (name:=HN "__next__") hT F.slot_zip_next (Hi F.slot_zip_next hT F.entry_zip_next
   (CI (I.ok.hd hc) D (I.row_ne q1 (hf z (by simp))) (I.row_ne q2 (hf z (by simp))) (I.row_ne q2 (hf i (by simp))) (I.row_ne q2 (hf V (by simp))) hz hU hV w1 w2 p p' ?_ λh' e hk he=>?_) (F.args_zip_next_1 _))))
  .rcases hend with q|q
   .exact .inl (by simp;omega)
   .exact .inr (by simp;omega)
  .obtain⟨o,ho,hcl⟩:=he;refine b_ (wpAny_isInstance (T:="StopIteration") (b:=true) ⟨o,ho,hcl⟩ isSubtype_stop (gV ⟨rfl,?_⟩))
   exact I.step (g':=s.gens) (d':=s.drawn) (t':=s.toks) (ch:=[z,V,i,j]) (λb hb=>by
     have q:=hf b (by
      simp only [w_,not_mem_nil,or_false] at hb ⊢;rcases hb with q|q|q|q <;> simp [q])
     exact⟨q.2.2.2.1,q.2.1,q.2.2.2.2.1,q.2.2.2.2.2⟩) (λb o _ _ hc e _=>by
     simp only [w_,not_mem_nil,or_false,not_or] at hc;exact hk b o hc.1 hc.2.1 hc.2.2.1 hc.2.2.2 e) (λb o _ _ hc e _=>⟨o.slots,by
     simp only [w_,not_mem_nil,or_false,not_or] at hc;exact hk b o hc.1 hc.2.1 hc.2.2.1 hc.2.2.2 e⟩) (λ_ _ _ _ q=>q) (λb o hc e=>⟨o,by
     simp only [w_,not_mem_nil,or_false,not_or] at hc;exact hk b o hc.1 hc.2.1 hc.2.2.1 hc.2.2.2 e⟩) (λ_ _ e=>e) (λ_ _ _ e=>e) (λb ps e=>⟨#[],by rw [e];simp⟩) (λm hm=>by
     obtain⟨o,es,ep,ho,r⟩:=hm;exact⟨o,es,ep,hk _ o (hf z (by simp)).2.1.symm (hf V (by simp)).2.1.symm (hf i (by simp)).2.1.symm (hf j (by simp)).2.1.symm ho,r⟩) (λb u e=>by
     have nn:∀b u,H b=some u->b≠z/\b≠V/\b≠i/\b≠j:=λb u e=>⟨λq=>(by rw [q,(hf z (by simp)).1] at e;cases e),λq=>(by rw [q,(hf V (by simp)).1] at e;cases e),λq=>(by rw [q,(hf i (by simp)).1] at e;cases e),λq=>(by rw [q,(hf j (by simp)).1] at e;cases e)⟩
     refine (I.hok b u e).stay (λc v hc q=>?_) (λ_ q=>q) λ_ _ q=>q
     have n4:c≠z/\c≠V/\c≠i/\c≠j:=by
      rcases hc with q|q
      .rw [q];exact nn b u e
      .exact nn c _ q
     exact hk c v n4.1 n4.2.1 n4.2.2.1 n4.2.2.2 q) I.bare
 self:=λ_ _ _ _ _ st h=>wpAny_pyIter_zip st.1 h
def Er(n:Nat):ZA (n+4) (n+2) (n+3) n (n+1):=by
 refine⟨?_,?_,?_,?_,?_,?_,?_,?_,?_,?_⟩ <;> (intro h;have h2:@Eq Nat _ _:=h;omega)
section
variable {P:s_}{w:World}{A:z_}{E:Value->c_->Prop}{s:c_}{k l:Bool}
abbrev kz(k:Bool)(a:Addr):Obj:={ cls:=.type (cond k "tuple_iterator" "list_iterator"),data:=.fields #[.ref a,.int 0 0] }
def eW{a:Addr}{its:Array Value}{Q:Value->c_->Prop}(R:eI k s.heap a its)(hQ:Q (.ref s.heap.objs.size) { s with heap:=s.heap.push (kz k a) }):wpAny (model P w) A (pyIter (.ref a)) Q E s:=by
 cases k with
 | false=>exact HK R hQ
 | true=>exact Jb R hQ
abbrev zg1(h:Heap)(k:Bool)(a:Addr):Heap:=h.push (kz k a)
abbrev zg2(h:Heap)(k l:Bool)(a c:Addr):Heap:=(zg1 h k a).push (kz l c)
abbrev zg3(h:Heap)(k l:Bool)(a c:Addr):Heap:=(zg2 h k l a c).push { cls:=.type "tuple",data:=.seq #[.ref h.objs.size,.ref (zg1 h k a).objs.size] }
abbrev zg4(h:Heap)(k l:Bool)(a c:Addr):Heap:=(zg3 h k l a c).push { cls:=.type "tuple",data:=.seq #[.none,.none] }
abbrev zg5(h:Heap)(k l:Bool)(a c:Addr):Heap:=(zg4 h k l a c).push { cls:=.type "zip",data:=.fields #[.none,.bool false,.bool false,.ref (zg2 h k l a c).objs.size,.ref (zg3 h k l a c).objs.size] }
def Am(k l:Bool)(a c:Addr)(xs ys:Array Value):Meets (Builtin.«zip.__new__» ⟨[.type "zip",.ref a,.ref c],[]⟩) (λ_ R s=>eI k s.heap a xs/\eI l s.heap c ys /\
   R (.ok (.ret (.ref (zg4 s.heap k l a c).objs.size))) { s with heap:=zg5 s.heap k l a c }) :=
 .of_wp λprog w A R s h=>by
  obtain⟨hp,g,d,tk,os⟩:=s;obtain⟨r1,r2,h⟩:=h;have hsub:=sub_zip;have R1:eI k (Shared.heap ⟨hp,g,d,tk,os⟩) a xs:=r1;have R2:eI l (Shared.heap ⟨hp.push (kz k a),g,d,tk,os⟩) c ys:=r2.mv λo e=>d_ _ e
  wp_walk using eW R1,eW R2
  exact⟨_,rfl,h⟩
def An{a c:Addr}{xs ys:Array Value}{Q:Value->c_->Prop}(r1:eI k s.heap a xs)(r2:eI l s.heap c ys)
  (h:∀h',IsZip h' (s.heap.objs.size+4) (s.heap.objs.size+2) (s.heap.objs.size+3) .none->Ic h' (s.heap.objs.size+2) (.ref s.heap.objs.size) (.ref (s.heap.objs.size+1)) ->
   Ic h' (s.heap.objs.size+3) .none .none->cw k h' s.heap.objs.size a 0->cw l h' (s.heap.objs.size+1) c 0->(∀b o,s.heap.get? b=some o->h'.get? b=some o)->Q (.ref (s.heap.objs.size+4)) { s with heap:=h' }) :
  wpAny (model P w) A (call (.type "zip") [.ref a,.ref c]) Q E s:=by
 refine callType_new F.called_zip (by decide) (F.typeCall_zip_2 _ _) (F.newCall_zip_2 _ _) (λobj=>F.args_object_init_3 obj _ _) F.entry_zip_new (Am k l a c xs ys) ⟨r1,r2,?_⟩;have z1:(zg1 s.heap k a).objs.size=s.heap.objs.size+1:=GG ..;have z2:(zg2 s.heap k l a c).objs.size=s.heap.objs.size+2:=by rw [GG,z1]
 have z3:(zg3 s.heap k l a c).objs.size=s.heap.objs.size+3:=by rw [GG,z2]
 have z4:(zg4 s.heap k l a c).objs.size=s.heap.objs.size+4:=by rw [GG,z3]
 have m4:∀b o,(zg4 s.heap k l a c).get? b=some o->(zg5 s.heap k l a c).get? b=some o:=λb o e=>d_ _ e;have m3:∀b o,(zg3 s.heap k l a c).get? b=some o->(zg5 s.heap k l a c).get? b=some o:=λb o e=>m4 b o (d_ _ e);have m2:∀b o,(zg2 s.heap k l a c).get? b=some o->(zg5 s.heap k l a c).get? b=some o:=λb o e=>m3 b o (d_ _ e);have m1:∀b o,(zg1 s.heap k a).get? b=some o->(zg5 s.heap k l a c).get? b=some o:=λb o e=>m2 b o (d_ _ e)
 have g5:(zg5 s.heap k l a c).get? (zg4 s.heap k l a c).objs.size=some _:=j_ _ rfl;have g4:=m4 _ _ (j_ (zg3 s.heap k l a c) (o:={ cls:=.type "tuple",data:=.seq #[.none,.none] }) rfl);have g3:=m3 _ _ (j_ (zg2 s.heap k l a c) (o:={ cls:=.type "tuple",data:=.seq #[.ref s.heap.objs.size,.ref (zg1 s.heap k a).objs.size] }) rfl);have g2:=m2 _ _ (j_ (zg1 s.heap k a) (o:=kz l c) rfl)
 have g1:=m1 _ _ (j_ s.heap (o:=kz k a) rfl);show _/\_;rw [z2,z3,z4] at g5;rw [z1,z2] at g3;rw [z3] at g4;rw [z1] at g2;rw [z4];exact⟨⟨_,g5,rfl⟩,h _ g5 g3 g4 ⟨_,g1,rfl,rfl⟩ ⟨_,g2,rfl,rfl⟩ λb o e=>m1 b o (d_ _ e)⟩
end
noncomputable def stA(a b:List Nat)(i:Nat):Bool:=decide (i+b.length<=a.length/\(a.drop i).take b.length=b)
noncomputable def fnd(a b:List Nat)(lo:Nat):Int:=match (Ik lo (a.length+1 - lo)).find? (stA a b) with|some k=>(k:Int)|none=>-1
theorem qj(s sub:Str)(hi:Nat):∀(l:List Nat) (st:Array Nat×Nat),st.fst.size=1->(forIn l st (IR s sub hi 1)).run.fst=st.fst
 | [],_,_=>rfl
 | x::l,st,h=>by
  rw [forIn_cons];unfold IR;rw [if_neg (λz=>by have:=z.1.1.1;omega)];exact qj s sub hi l (st.fst,st.snd) h
theorem qk(s sub:Str)(hi:Nat)(p:Nat->Bool)(hp:∀i,p i=true ↔ (i+sub.length<=hi/\Iw s sub i=true)):∀(l:List Nat) (free:Nat),(∀i∈l,free<=i) ->
  (forIn l ((#[]:Array Nat),free) (IR s sub hi 1)).run.fst=(match l.find? p with|some k=>#[k]|none=>#[])
 | [],_,_=>rfl
 | x::l,free,hf=>by
  rw [forIn_cons,find?_cons];unfold IR;have hx:free<=x:=hf x (mem_cons_self ..)
  cases c:p x with
  | true =>
   have hc:=(hp x).mp c;rw [if_pos ⟨⟨⟨by simp,hx⟩,hc.1⟩,hc.2⟩];exact qj s sub hi l (#[x],x+sub.length) rfl
  | false =>
   rw [if_neg (λz=>by
    have:=(hp x).mpr ⟨z.1.2,z.2⟩;rw [c] at this;cases this)]
   exact qk s sub hi p hp l free λi h=>hf i (m_ _ h)
def Ao(a b:List Nat)(i:Nat):Iw (S a) (S b) i=decide ((a.drop i).take b.length=b):=by
 unfold Iw;rw [gb]
 have e1:((S a).cps.extract i (i+b.length))=((a.drop i).take b.length).toArray:=by
  show a.toArray.extract _ _=_;rw [extract_toArray,extract_eq_take_drop];congr 2;omega
 rw [e1];show (((a.drop i).take b.length).toArray == b.toArray)=_
 by_cases h:(a.drop i).take b.length=b
 .rw [decide_eq_true h,h];simp
 .rw [decide_eq_false h,beq_eq_false_iff_ne];intro z;exact h (by simpa using congrArg JE z)
theorem wc(a b:List Nat)(lo:Nat):(match Il (S a) (S b) lo (S a).length 1 with|k::_=>(k:Int)|[]=>-1)=fnd a b lo:=by
 rw [StrLaws.occ_eq,gb,qk (S a) (S b) a.length (stA a b) (λi=>?_) _ lo (λi hi=>(IT.mp hi).1)]
 .unfold fnd;cases (Ik lo (a.length+1 - lo)).find? (stA a b) <;> rfl
 .unfold stA;rw [Ao,gb];simp
section
variable {X:Cx}
def xW:MtR X "str.find" (λx xs H Q=>∃a b,x=.str (S a)/\xs=[.str (S b)]/\Q (.int (fnd a b 0)) H):=by
 intro pins s σ H x xs v us Q I rx rs h;obtain⟨a,b,rfl,rfl,q⟩:=h;obtain⟨t,rfl⟩:=rx;obtain⟨u,rfl,t',rfl⟩:=iq rs;have e:Txt.find (S a) (S b)=fnd a b 0:=wc a b 0;exact SC.find ⟨.int _,H,I.tok _,⟨_,rfl⟩,by rw [e];exact q⟩
end
def tI{a b:List Nat}{lo:Nat}(h:fnd a b lo≠-1):∃k:Nat,fnd a b lo=(k:Int)/\lo<=k/\stA a b k=true/\∀j,lo<=j->j<k->stA a b j=false:=by
 unfold fnd at h ⊢
 cases e:(Ik lo (a.length+1 - lo)).find? (stA a b) with
 | none=>rw [e] at h;exact absurd rfl h
 | some k =>
  obtain⟨h1,h2⟩:=find?_eq_some_iff_append.mp e;obtain⟨as,bs,hl,hn⟩:=h2;have hk:k∈Ik lo (a.length+1 - lo):=by rw [hl];simp
  refine⟨k,rfl,(IT.mp hk).1,h1,λj hj1 hj2=>?_⟩;have hj:j∈Ik lo (a.length+1 - lo):=IT.mpr ⟨hj1,by have:=(IT.mp hk).2;omega⟩;have hs:(Ik lo (a.length+1 - lo)).Pairwise (·<·):=List.pairwise_lt_range';rw [hl] at hj hs
  rcases HB.mp hj with z|z
  .have:=hn j z;simpa using this
  .rcases w_.mp z with z|z
   .omega
   .have:=(Ju.mp (pairwise_append.mp hs).2.1).1 j z;omega
def xX{a b:List Nat}{lo:Nat}(h:fnd a b lo=-1):∀j,lo<=j->stA a b j=false:=by
 unfold fnd at h
 cases e:(Ik lo (a.length+1 - lo)).find? (stA a b) with
 | some k=>rw [e] at h;simp only at h;omega
 | none =>
  intro j hj
  by_cases hlt:j<a.length+1
  .have:=find?_eq_none.mp e j (IT.mpr ⟨hj,by omega⟩);simpa using this
  .unfold stA;rw [decide_eq_false (λz=>by have:=z.1;omega)]
section
variable {X:Cx}{tg:Expr}
noncomputable def Itk(k:Bool)(K:a_)(a:Addr):It:=cond k (Itt K a) (Itl K a)
noncomputable def CJ(K:a_):R2:=λx y H Q=>∃l b xs zs,x=.ref l/\y=.ref b/\SqL K H l xs/\SqL K H b zs/\xs.length+zs.length<=sizeLine/\∀p,H p=none->Q (.ref p) (upd H p (.lst (xs++zs)))
def Ap:OpR X (binaryOp .Add) (CJ X.K):=by
 intro pins s σ H x y v u Q I rx ry h;obtain⟨l,b,xs,zs,rfl,rfl,hH,hB,hz,q⟩:=h;cases rx;cases ry;obtain⟨its,r,pl,hl⟩:=I.list hH;obtain⟨its2,r2,pl2,hl2⟩:=I.list hB;obtain⟨⟨cls,dd,data,sl⟩,ho,hc,n,hd⟩:=pl.isList;obtain⟨⟨cls2,dd2,data2,sl2⟩,ho2,hc2,n2,hd2⟩:=pl2.isList;simp only at hc hd hc2 hd2;subst hc hd hc2 hd2;have n1:=r.length;have n2':=r2.length;have ea:its.toArray++its2.toArray=(its++its2).toArray:=by simp
 have fin:EP X pins σ Q (.ref s.heap.objs.size) { s with heap:=s.heap.push { cls:=.type "list",data:=.seq (its.toArray++its2.toArray) } }:=by
  rw [ea];exact⟨.ref _,_,I.lnew (t':=s.toks) (r.append r2) (by rw [length_append];omega),rfl,q _ I.fresh⟩
 exact JJ ⟨_,ho,rfl⟩ ⟨_,ho2,rfl⟩ noFill_list_add seq_list_add PySem.F.slot_list_add PySem.F.entry_list_add (PySem.F.args_list_add_2 _ _) (list_addW l b its.toArray its2.toArray n n2 dd dd2 sl sl2 (by simp;omega)) ⟨ho,ho2,fin⟩
end
def tx(l:List Nat):V:=.str (S l)
noncomputable def rA(n:Nat)(d:ID):Prop:=d.canLay0=true/\d.depth<=n
def rA.shaped{n:Nat}{d:ID}(h:rA n d)(hn:n<=64):Hg d=true:=by
 unfold Hg;rw [h.1,decide_eq_true (E_ h.2 hn)];rfl
theorem wd{n:Nat}:∀{ds:List ID},(∀d∈ds,rA n d)->PyData.canLayAll0 ds=true/\PyData.depthAll ds<=n
 | [],_=>⟨rfl,G4 _⟩
 | d::ds,h=>by
  obtain⟨a,b⟩:=wd (ds:=ds) λx hx=>h x (m_ _ hx);obtain⟨c,e⟩:=h d mem_cons_self;simp only [PyData.canLayAll0,PyData.depthAll,a,c];exact⟨rfl,max_le.mpr ⟨e,b⟩⟩
def rA.list{n:Nat}{ds:List ID}(h:∀d∈ds,rA n d):rA (n+1) (.list ds):=by
 obtain⟨a,b⟩:=wd h;exact⟨by simp only [PyData.canLay0];exact a,by simp only [PyData.depth];omega⟩
def rA.int(i:Int):rA 0 (.int i):=⟨by simp [PyData.canLay0],by simp [PyData.depth]⟩
noncomputable def Lts(l:List Nat):Prop:=∀c∈l,97<=c/\c<=122
def Lts.nil:Lts []:=λc h=>nomatch h
def Lts.app{a b:List Nat}(x:Lts a)(y:Lts b):Lts (a++b):=λc h=>(HB.mp h).elim (x c) (y c)
def Lts.one{c:Nat}(h:97<=c/\c<=122):Lts [c]:=λd hd=>by
 have:d=c:=by simpa using hd
 subst this;exact h
def Lts.take{a:List Nat}(x:Lts a)(n:Nat):Lts (a.take n):=λc h=>x c (JV h)
def Lts.drop{a:List Nat}(x:Lts a)(n:Nat):Lts (a.drop n):=λc h=>x c (mem_of_mem_drop h)
def Lts.rep{a:List Nat}(x:Lts a)(n:Int):Lts (g9 a n):=λc h=>by
 unfold g9 at h;obtain⟨l,h1,h2⟩:=mem_flatten.mp h;rw [eq_of_mem_replicate h1] at h2;exact x c h2
def rA.str{l:List Nat}(h:Lts l):rA 0 (.str (S l)):=by
 refine⟨?_,by simp [PyData.depth]⟩;simp only [PyData.canLay0,PyData.strOk,S];rw [Array.all_eq_true];intro i hi;have:=h l[i] (Hy _);simp only [getElem_toArray,decide_eq_true_eq];omega
def wf(ns:List Int):∀d∈ns.map JO,rA 0 d:=λd hd=>by
 obtain⟨i,_,rfl⟩:=Hb.mp hd;exact rA.int i
def uJ{ws:List (List Nat)}(h:∀w∈ws,Lts w):∀d∈ws.map (λw=>PyData.str (S w)),rA 0 d:=λd hd=>by
 obtain⟨i,hi,rfl⟩:=Hb.mp hd;exact rA.str (h i hi)
def ql{ws:List (List Nat)}(h:∀w∈ws,Lts w):Hg (.list (ws.map λw=>PyData.str (S w)))=true:=(rA.list (uJ h)).shaped (by decide)
theorem lf(p:Nat->Prop)(h0:p 0):∀n,0<n->∃k,k<n/\p k/\∀j,j<n->p j->j<=k
 | 0,h=>absurd h (by decide)
 | 1,_=>⟨0,by decide,h0,λj hj _=>by omega⟩
 | n+2,_=>by
  obtain⟨k,h1,h2,h3⟩:=lf p h0 (n+1) (by omega)
  by_cases c:p (n+1)
  .exact⟨n+1,by omega,c,λj hj _=>by omega⟩
  .refine⟨k,by omega,h2,λj hj hp=>?_⟩
   by_cases e:j=n+1
   .subst e;exact absurd hp c
   .exact h3 j (by omega) hp
section
variable {κ:Type} [DecidableEq κ]
def KV.length{kvs:List (κ×V)}{vs:List (κ×Value)}(r:KV kvs vs):kvs.length=vs.length:=Paired.length r
end
section
variable {P:s_}{w:World}{H:Hp}{h:Heap}{a:Addr}
def Es{u:HO}(ok:HOk P w H h)(e:Rd H a u):bZ P w H h a u:=e.ok ok
def Et{kvs:List (Key×V)}(ok:HOk P w H h)(e:Rd H a (.dK kvs)):kvs.length<=sizeLine/\(a == sysModules)=false/\∃vs,KV kvs vs/\h.DictOf (nG P w) a vs :=
 show bZ P w H h a (.dK kvs) from Es ok e
end
section
variable {X:Cx}{pins:List (Addr×Obj)}{σ:St}{H:Hp}{s:c_}{a:Addr}{kvs:List (Key×V)}{k:Key}{u:Value}{A:z_}{E:Value->c_->Prop}
def Eu{Q:Value->c_->Prop}(I:Inv X pins σ H s)(e:Rd H a (.dK kvs))(h:∀t s',Inv X pins σ H s'->Q (.int kvs.length t) s'):wpAny (model X.prog X.w) A (call (.builtin "len") [.ref a]) Q E s:=by
 obtain⟨z,hd,vs,rel,dd⟩:=Et I.hok e;refine call_len_dict hd dd (by rw [<- rel.length];rw [IJ] at z;omega) ?_;rw [<- rel.length];exact h _ _ (I.tok _)
end
section
variable {X:Cx}
def kM{x:Str}{i:Int}{pos:Pos}(hg:Gl X x)(h:∃t,X.mg x=some (.int i t))(hd:(x == ("__debug__":Str))=false:=by decide):PE X (.Name x pos) (tC (.int i)):=by
 obtain⟨t,e⟩:=h;exact zL (u:=.int i t) hg e ⟨t,rfl⟩ hd
end
structure CK (P:s_) (w:World) (K:a_) (mg:Str->Option Value) (base:Heap) (k:Nat) (x:Str) (ps:List Str) (dvs:List V) (sp:Sp):Prop where
 ex:∃(f:Addr) (fd:G7),pU P w K mg base CX0 k f fd ps sp/\(∀n,n<=dvs.length->∃ds,bJ (dvs.drop n) ds/\mF K fd ps ds)/\A_ K (.ref f)=true/\mg x=some (.ref f)
structure tJ (K:a_) (mg:Str->Option Value) (x:Str) (st:Stmt) (dvs:List V):Prop where
 ex:∃(f dT:Addr) (oc:Value) (od an dd:Option Addr) (kV doc pm cdv ct:Value) (osl sl:Array (Option Value)) (items:List Value) (n:Nat),
  K.lookup f=some ⟨oc,od,.func (C_ x x (bS st) (bj st) (ak st) (.ref dT) kV doc pm an cdv ct),osl⟩/\GT K cdv x=true/\A_ K (.ref f)=true/\mg x=some (.ref f) /\
  K.lookup dT=some ⟨.type "tuple",dd,.seq items.toArray n,sl⟩/\bJ dvs items
section
variable {P:s_}{w:World}{K:a_}{mg:Str->Option Value}{base:Heap}{x:Str}{st:Stmt}{N ps:List Str}{k:Nat}{sp:Sp}{dvs:List V}
def tJ.ok(D:tJ K mg x st dvs)(S:aA N ps (ak st))
  (hb:∀(dT:Addr) (kV doc pm:Value) (an:Option Addr) (cdv ct:Value) (items:List Value) (us:List Value) (n:Nat),items.length=dvs.length->n<=dvs.length->(us++items.drop n).length=ps.length ->
   ∃k,bindArgs (C_ x x (bS st) (bj st) (ak st) (.ref dT) kV doc pm an cdv ct) ⟨us,[]⟩=seqItems? (.ref dT) >>= k/\k (some items.toArray)=pure (ps.zip (us++items.drop n)))
  (len:∀vs H Q E,sp vs H Q E->vs.length=ps.length)
  (hbody:∀(f:Addr) (cdv:Value) (A:z_) (outer:List Env) (s:c_) (H:Hp) (vs:List V) (Q:VK) (E:XK),fh k (A.deeper (envOfC x (ak st) s.heap.objs.size f cdv))->sp vs H Q E ->
   ∃t,PSs (uB CX0 P w K mg base N x (ak st) f cdv A outer s H E).nox (bj st) t/\t { nx:=λ_ H'=>Q .non H',rt:=Q } (start N vs) H):CK P w K mg base (k+1) x ps dvs sp:=by
 obtain⟨f,dT,oc,od,an,dd,kV,doc,pm,cdv,ct,osl,sl,items,n,lk,hcd,kp,hm,lt,rv⟩:=D.ex;have hl:=rv.length
 refine⟨f,_,Cf lk hcd S len λA outer s H vs Q E hr hsp=>?_,λj hj=>⟨items.drop j,rv.drop j,λs us X hlen=>?_⟩,kp,hm⟩
 .obtain⟨t,h,q⟩:=hbody f cdv A outer s H vs Q E hr hsp;exact⟨t,h.nox,q⟩
 .obtain⟨k,h1,h2⟩:=hb dT kV doc pm an cdv ct items us j hl.symm hj hlen;exact BindsTo.of_defaults rfl (X dT _ lt) rfl h1 h2
end
section
variable {X:Cx}{k:Nat}{x:Str}{ps:List Str}{sp:Sp}{p pos:Pos}{e:Expr}{es:List Expr}{t:TA}{dvs:List V}
def Aq(j:Nat)(C:CK X.prog X.w X.K X.mg X.base k x ps dvs sp)(hr:fh k X.A)(hj:j<=dvs.length)(ha:PA X (e::es) t)(hg:Gl X x:=by rfl)(hdb:(x == ("__debug__":Str))=false:=by decide)(he:starEach (e::es) X.env=(false,eval e X.env)::starEach es X.env:=by rfl)
  (hpl:(backTo pos (starEach es X.env)).any (·.1)=false:=by rfl):PE X (.Call (.Name x p) (e::es) [] pos) (f9 sp (dvs.drop j) E0 t):=by
 obtain⟨f,fd,F,hb,hk,hm⟩:=C.ex;obtain⟨ds,rv,hb⟩:=hb j hj;exact vF F hr hg hm hk hb rv Ae ha hdb he hpl
def CL{pins:List (Addr×Obj)}{σ:St}{H:Hp}{s:c_}{x:V}{u t:Value}(I:Inv X pins σ H s)(rx:cY x u)(ty:pR X.K H x t) :
  ∃Hq:Heap->Prop,PySem.W.KitX X.K u t Hq/\Hq s.heap/\u≠.builtin "__main__.__loader__#opaque":=by
 cases ty with
 | non=>cases (show u=Hr from rx);exact⟨_,PySem.W.kitx_none,Hj,λz=>nomatch z⟩
 | bl y=>cases (show u=Hc y from rx);exact⟨_,PySem.W.kitx_bool,Hj,λz=>nomatch z⟩
 | int i=>obtain⟨t,q⟩:=(show ∃t,u=Jw i t from rx);cases q;exact⟨_,PySem.W.kitx_int,Hj,λz=>nomatch z⟩
 | str y=>obtain⟨t,q⟩:=(show ∃t,u=IB y t from rx);cases q;exact⟨_,PySem.W.kitx_str,Hj,λz=>nomatch z⟩
 | flt y=>obtain⟨t,q⟩:=(show ∃t,u=J5 y t from rx);cases q;exact⟨_,PySem.W.kitx_float,Hj,λz=>nomatch z⟩
 | @lst a xs ea =>
  cases (show u=u1 a from rx);obtain⟨_,_,n,_,h1⟩:=(show bZ X.prog X.w H s.heap a (.lst xs) from I.hok a _ ea)
  exact⟨_,Ir,⟨_,h1,rfl⟩,λz=>nomatch z⟩
 | @frz a ob xs ea =>
  cases (show u=u1 a from rx);obtain⟨_,_,_,n,_,h1⟩:=(show bZ X.prog X.w H s.heap a (.frz ob (.lst xs)) from I.hok a _ ea)
  exact⟨_,Ir,⟨_,h1,rfl⟩,λz=>nomatch z⟩
 | @tup a xs ea =>
  cases (show u=u1 a from rx);obtain⟨_,_,_,p⟩:=(show bZ X.prog X.w H s.heap a (.tup xs) from I.hok a _ ea)
  obtain⟨o,h1,h2,_⟩:=p;exact⟨_,PySem.W.kitx_tuple,⟨o,h1,h2⟩,λz=>nomatch z⟩
 | @dK a kvs ea =>
  cases (show u=u1 a from rx);obtain⟨_,_,vs,_,p⟩:=(show bZ X.prog X.w H s.heap a (.dK kvs) from I.hok a _ ea)
  obtain⟨o,es,ep,h1,h2,_⟩:=p;exact⟨_,Iu,⟨o,h1,h2.1⟩,λz=>nomatch z⟩
 | @dT a kvs ea =>
  cases (show u=u1 a from rx);obtain⟨_,_,xs,_,o,es,ep,h1,h2,_⟩:=(show bZ X.prog X.w H s.heap a (.dT kvs) from I.hok a _ ea)
  exact⟨_,Iu,⟨o,h1,h2.1⟩,λz=>nomatch z⟩
 | @ins a C dx fs ea cl ha hn htk hm =>
  cases (show u=u1 a from rx);obtain⟨mA,O,_⟩:=nK I.hok ea;obtain⟨od,J,_⟩:=O.look;exact⟨_,PySem.W.kitx_own (cl.get _) cl.hd ha hn htk hm,J,λz=>nomatch z⟩
theorem tK:∀{ts:List String}{us:List Value},bJ (ts.map V.ty) us->us=ts.map HZ
 | [],_,.nil=>rfl
 | t::ts,_,.cons r rr=>by rw [tK rr,show _=HZ t from r];rfl
def qm:bI X (.builtin "isinstance") (λxs H Q=>∃(x:V) (p:Addr) (ts:List String) (t:Value) (b:Bool),xs=[x,.ref p]/\pR X.K H x t/\H p=some (.tup (ts.map V.ty))/\Iy X.K t (ts.map HZ)=some b/\Q (.bl b) H):=by
 intro pins s σ H xs us Q I r h;obtain⟨x,p,ts,t,b,rfl,ty,hp,e,q⟩:=h;obtain⟨u,w',rfl,rx,ry⟩:=vz r;cases (show w'=u1 p from ry);obtain⟨Hq,Z,hq,hx⟩:=CL I rx ty;obtain⟨its,rv,⟨⟨cls,dd,data,sl⟩,ho,hc,n,hd⟩,_⟩:=I.tuple (SqT.of hp);simp only at hc hd;subst hc hd;exact PySem.W.kia_tup Z I.kIn hq ho (by rw [tK rv];exact e) hx λtk=>⟨.bl b,H,I.tok _,rfl,q⟩
def CM:OpR X (compareOp .Is) (λx y H Q=>∃b c,x=.bl b/\y=.bl c/\Q (.bl (decide (b=c))) H):=by
 intro pins s σ H x y v u Q I rx ry h;obtain⟨b,c,rfl,rfl,q⟩:=h;cases (show v=Hc b from rx);cases (show u=Hc c from ry);cases b <;> cases c <;> exact gV (bo I q (by first|rfl|decide))
def nS(bs:List Bool):(e_ bs.length).all (λi=>bs.getD i false)=bs.all id:=by
 induction bs with
 | nil=>rfl
 | cons b bs ih=>rw [length_cons,range_succ_eq_map,all_cons,all_map,all_cons,<- ih];rfl
def nU(bs:List Bool):(e_ bs.length).any (λi=>bs.getD i false)=bs.any id:=by
 induction bs with
 | nil=>rfl
 | cons b bs ih=>rw [length_cons,range_succ_eq_map,any_cons,any_map,any_cons,<- ih];rfl
def wg{bs:List Bool}{its:List Value}(r:bJ (bs.map V.bl) its){i:Nat}{v:Value}(h:its.toArray[i]?=some v):v=.bool (bs.getD i false):=by
 have h':its[i]?=some v:=by simpa using h
 have hl:=r.length;rw [length_map] at hl;have hi:i<bs.length:=by have:=(h_.mp h').1;omega
 obtain⟨u,e1,e2⟩:=r.get (i:=i) (x:=V.bl bs[i]) (by rw [i_,cy hi];rfl);rw [h'] at e1;cases e1;rw [show v=Hc bs[i] from e2,cx,cy hi];rfl
def xY(hc:X.calm=true):bI X (.builtin "all") (λxs H Q=>∃(p:Addr) (bs:List Bool),xs=[.ref p]/\SqL X.K H p (bs.map V.bl)/\Q (.bl (bs.all id)) H):=by
 intro pins s σ H xs us Q I r h;obtain⟨p,bs,rfl,hS,q⟩:=h;obtain⟨u,rfl,ru⟩:=iq r;cases (show u=u1 p from ru);obtain⟨its,rv,pl,hz⟩:=I.list hS;have hl:=rv.length;rw [length_map] at hl;have hps:p<s.heap.objs.size:=let ⟨o,ho,_⟩:=pl.isList;l_ ho
 obtain⟨f0,f1,f2,f3,f4,f5⟩:=I.fpOk (H':=H) (o_ s.heap.objs.size) (I.hok.fresh (o_ _))
 refine call_all_walk (HK pl.isList ⟨s.heap.objs.size,_,_,its.toArray.size,_,_,λi=>bs.getD i false,rfl,Walks.list (by exact I.ok.hd hc) s.heap.objs.size p (GR hps) its.toArray,⟨⟨_,j_ _ rfl,rfl,rfl⟩,pl.isList.push _⟩,λi v s Q E hP hQ=>?_,λh' tk hk=>?_⟩)
 .rw [wg rv hP];exact D_ hQ
 .have I1:Inv X pins σ H { s with heap:=s.heap.push { cls:=.type "list_iterator",data:=.fields #[.ref p,.int 0 0] } }:=I.kept (t':=s.toks) λb o e=>d_ _ e;have I2:=I1.turned (h':=h') (t':=tk) (it:=s.heap.objs.size) (λb o hb e=>hk b o (by simpa using hb) e) f0 f1 f3 f4 f5;refine⟨.bl (bs.all id),H,I2,?_,q⟩;show Hc _=Hc _;rw [so,<- hl,nS]
def xZ(hc:X.calm=true):bI X (.builtin "any") (λxs H Q=>∃(p:Addr) (bs:List Bool),xs=[.ref p]/\SqL X.K H p (bs.map V.bl)/\Q (.bl (bs.any id)) H):=by
 intro pins s σ H xs us Q I r h;obtain⟨p,bs,rfl,hS,q⟩:=h;obtain⟨u,rfl,ru⟩:=iq r;cases (show u=u1 p from ru);obtain⟨its,rv,pl,hz⟩:=I.list hS;have hl:=rv.length;rw [length_map] at hl;have hps:p<s.heap.objs.size:=let ⟨o,ho,_⟩:=pl.isList;l_ ho
 obtain⟨f0,f1,f2,f3,f4,f5⟩:=I.fpOk (H':=H) (o_ s.heap.objs.size) (I.hok.fresh (o_ _))
 refine call_any_walk (HK pl.isList ⟨s.heap.objs.size,_,_,its.toArray.size,_,_,λi=>bs.getD i false,rfl,Walks.list (by exact I.ok.hd hc) s.heap.objs.size p (GR hps) its.toArray,⟨⟨_,j_ _ rfl,rfl,rfl⟩,pl.isList.push _⟩,λi v s Q E hP hQ=>?_,λh' tk hk=>?_⟩)
 .rw [wg rv hP];exact D_ hQ
 .have I1:Inv X pins σ H { s with heap:=s.heap.push { cls:=.type "list_iterator",data:=.fields #[.ref p,.int 0 0] } }:=I.kept (t':=s.toks) λb o e=>d_ _ e;have I2:=I1.turned (h':=h') (t':=tk) (it:=s.heap.objs.size) (λb o hb e=>hk b o (by simpa using hb) e) f0 f1 f3 f4 f5;refine⟨.bl (bs.any id),H,I2,?_,q⟩;show Hc _=Hc _;rw [so,<- hl,nU]
end
section
variable {X:Cx}{o e f:Expr}{apos cpos:Pos}{td ty tx:TE}
def wl:bI X (.builtin "len") (λxs H Q=>∃p kvs,xs=[.ref p]/\Rd H p (.dK kvs)/\Q (.int kvs.length) H):=by
 intro pins s σ H xs us Q I r h;obtain⟨p,kvs,rfl,hd,q⟩:=h;obtain⟨u,rfl,ru⟩:=iq r;cases (show u=u1 p from ru);exact Eu I hd λt s' I'=>⟨.int kvs.length,H,I',⟨t,rfl⟩,q⟩
end
noncomputable def cG(K:a_)(x:Str):Addr:=match tf K mainGlobals x with
 | some (some (.ref C))=>C
 | _=>0
def x0{K:a_}{x:Str}{C:Addr}(h:tf K mainGlobals x=some (some (.ref C))):cG K x=C:=by unfold cG;rw [h]
structure CN (P:s_) (w:World) (K:a_) (mg:Str->Option Value) (base:Heap) (k:Nat) (C:Addr) (x:Str) (ps:List Str) (sp:Sp):Prop where
 ex:∃(f:Addr) (fd:G7),pU P w K mg base CX0 k f fd ps sp/\mF K fd ps []/\Mk K C f/\mg x=some (.ref C)
structure tL (K:a_) (mg:Str->Option Value) (C:Addr) (x qual:Str) (st:Stmt):Prop where
 ex:∃(f:Addr) (fd:G7),Fun K "__init__" qual st f fd/\Mk K C f/\mg x=some (.ref C)
section
variable {P:s_}{w:World}{K:a_}{mg:Str->Option Value}{base:Heap}{x m qual:Str}{C:Addr}{st:Stmt}{N ps:List Str}{k:Nat}{sp:Sp}
def tL.ok(D:tL K mg C x qual st)(S:aA N ps (ak st))
  (hb:∀(kV doc pm:Value) (an:Option Addr) (cdv ct:Value) (us:List Value),us.length=ps.length->bindArgs (C_ "__init__" qual (bS st) (bj st) (ak st) .none kV doc pm an cdv ct) ⟨us,[]⟩=pure (ps.zip us))
  (len:∀vs H Q E,sp vs H Q E->vs.length=ps.length)
  (hbody:∀(f:Addr) (cdv:Value) (A:z_) (outer:List Env) (s:c_) (H:Hp) (vs:List V) (Q:VK) (E:XK),fh k (A.deeper (envOfC qual (ak st) s.heap.objs.size f cdv))->sp vs H Q E ->
   ∃t,PSs (uB CX0 P w K mg base N qual (ak st) f cdv A outer s H E).nox (bj st) t/\t { nx:=λ_ H'=>Q .non H',rt:=Q } (start N vs) H):CN P w K mg base (k+1) C x ps sp:=by
 obtain⟨f,fd,F,hm,e⟩:=D.ex;exact⟨f,fd,F.ok S len λcdv A outer s H vs Q E hr h=>hbody f cdv A outer s H vs Q E hr h,F.binds hb,hm,e⟩
end
section
variable {X:Cx}{k:Nat}{x m:Str}{C:Addr}{ps:List Str}{sp:Sp}{p pos apos:Pos}{o e:Expr}{es:List Expr}{ta:TE}{t:TA}
def Ar(M:CN X.prog X.w X.K X.mg X.base k C x ps sp)(hr:fh (k+1) X.A)(ha:PA X (e::es) t)(hg:Gl X x:=by rfl)(hdb:(x == ("__debug__":Str))=false:=by decide)(he:starEach (e::es) X.env=(false,eval e X.env)::starEach es X.env:=by rfl)
  (hpl:(backTo pos (starEach es X.env)).any (·.1)=false:=by rfl):PE X (.Call (.Name x p) (e::es) [] pos) (xN C sp [] E0 t):=by
 obtain⟨f,fd,F,hb,hk,hm⟩:=M.ex;exact zV hk F hr hg hm hb .nil Ae ha hdb he hpl
end
def wm{prog:s_}{w:World}{A:z_}(k:Bool)(hh:A.handled=none)(it a:Addr)(hne:a≠it)(its:Array Value) :
  Draws prog w A it [it,a] its.size (λi v=>its[i]?=some v) (λi h=>cw k h it a i/\eI k h a its) where
 live:=λ_ _ st=>let ⟨o,ho,_⟩:=st.1;⟨o,ho⟩
 frame:=λ_ _ _ st hk=>⟨st.1.mv λo e=>hk it (by simp) o e,st.2.mv λo e=>hk a (by simp) o e⟩
 item:=λi s Q E hi st hQ=>by
  refine eh st.1 st.2 (x:=its[i]) (by simp [hi]) λh' hit' hs'=>?_;exact hQ _ h' s.toks (by simp [hi]) ⟨hit',st.2.mv λo e=>hs'.extBut _ o hne e⟩ hs'
 done:=λs Q E st hE=>fo hh st.1 st.2 (by simp) hE
noncomputable def Ite(k:Bool)(K:a_)(a:Addr):It :=
  ⟨λi H=>∃xs x,Sq k K H a xs/\xs[i]?=some x,
   λi H p H'=>∃T x,H T=none/\p=.ref T/\(∀xs,Sq k K H a xs->xs[i]?=some x)/\H'=upd H T (.tup [.int (i:Int),x]),
   λi H=>∃xs,Sq k K H a xs/\xs.length<=i⟩
def wn{P:s_}{w:World}{K:a_}{es:List Expr}{ct:Nat}{tp:Pos}{k:Bool}{a e it:Addr}(hei:e≠it) :
  zM P w K (.Tuple es ct tp) (Ite k K a) [e,it] e (λn h=>(∃old,IsEnum h e it ((n:Nat):Int) old)/\cw k h it a n) where
 mem:=by simp
 obj:=λn h st b hb=>by
  obtain⟨⟨old,he⟩,o1,g1,c1,d1⟩:=st;simp only [w_,not_mem_nil,or_false] at hb
  rcases hb with rfl|rfl
  .exact⟨_,he,λv q=>by cases q⟩
  .exact⟨_,g1,λv q=>by rw [d1] at q;cases q⟩
 keep:=λn h h' st kk=>by
  obtain⟨⟨old,he⟩,w1⟩:=st;exact⟨⟨old,kk e (by simp) _ he⟩,w1.mv λo q=>kk it (by simp) o q⟩
 item:=by
  intro X hP hw hK hc n pins s σ H E I hf st hg;subst hP hw hK;obtain⟨xs,x,q1,hx⟩:=hg;obtain⟨⟨old,he⟩,w1⟩:=st;obtain⟨its,rv,p,_⟩:=I.row q1;obtain⟨ux,hux,rx⟩:=rv.get hx;have ne:=I.row_ne q1 (hf e (by simp));have ni:=I.row_ne q1 (hf it (by simp))
  have hlt:n<its.toArray.size:=by
   have:=(h_.mp hux).1;simpa using this
  have hhd:X.A.in1.handled=none:=by exact I.ok.hd hc
  refine wpAny_pyNext_enum_itemD (wm k hhd it a ni its.toArray) he ⟨w1,p⟩ hlt hei (by simp [hei,HA ne]) λy h' tk hP ho hst ht hsz hk=>?_
  have hy:y=ux:=by
   have h1:its[n]?=some y:=by simpa using hP
   rw [hux] at h1;exact (q_ h1).symm
  subst hy;refine⟨_,rfl,wpAny_letOwnedTupleGo_enum ho λg ge gs=>?_⟩;have lt:∀{b o},s.heap.get? b=some o->s.heap.objs.size≠b:=λq=>Jx (l_ q)
  have kp:∀b o,b∉[e,it]->s.heap.get? b=some o->g.get? b=some o:=λb o hb q=>by
   simp only [w_,not_mem_nil,or_false,not_or] at hb;exact gs.extBut _ _ hb.1 (hk b o hb.1 hb.2 q)
  have I2:Inv X pins σ (upd H s.heap.objs.size (.tup [.int (n:Int),x])) { s with heap:=g,toks:=tk+1 }:=I.yielded (ch:=[e,it]) (λb hb=>hf b hb) (o_ _) kp
   ⟨by show 2<=sizeLine;decide,[.int (n:Int) tk,y],.cons ⟨tk,rfl⟩ (.cons rx .nil),_,gs.extBut _ _ (lt he) ht,rfl,_,rfl⟩
  refine⟨.ref s.heap.objs.size,_,I2,rfl,⟨_,x,I.hok.fresh (o_ _),rfl,λxs' q=>by rw [I.row_inj q q1];exact hx,rfl⟩,⟨⟨y,by simpa using ge⟩,hst.1.mv λo q=>gs.extBut _ o (HA hei) q⟩,λb hb=>?_⟩
  rw [aR ?_]
  .exact (hf b hb).1
  .intro q;subst q;simp only [w_,not_mem_nil,or_false] at hb;obtain⟨o1,g1,_⟩:=w1
   rcases hb with q|q
   .exact lt he q
   .exact lt g1 q
 done:=by
  intro X hP hw hK hc n pins s σ H E I hf st hg;subst hP hw hK;obtain⟨xs,q1,hend⟩:=hg;obtain⟨⟨old,he⟩,w1⟩:=st;obtain⟨its,rv,p,_⟩:=I.row q1;have e1:=rv.length;have ni:=I.row_ne q1 (hf it (by simp));have hhd:X.A.in1.handled=none:=by exact I.ok.hd hc
  obtain⟨f0,f1,f2,f3,f4,f5⟩:=hf it (by simp)
  -- the walk's end is wherever the row has no item
  have hT:s.TypeIs (.ref e) "enumerate":=⟨_,he,rfl⟩
  unfold pyNext
  refine b_ (wpAny_attempt (GI (name:=HN "__next__") hT F.slot_enumerate_next
   (Hi F.slot_enumerate_next hT F.entry_enumerate_next ?_ (F.args_enumerate_next_1 _))))
  show wpAny _ _ (field (.ref e) 2 >>= _) _ _ _;refine b_ (GJ he rfl (x:=.ref it) rfl ?_);refine b_ (fo hhd w1 p (by simp;omega) λh' x he' hx'=>?_);obtain⟨o,ho,hcl⟩:=hx';refine b_ (wpAny_isInstance (T:="StopIteration") (b:=true) ⟨o,ho,hcl⟩ isSubtype_stop ?_);exact gV ⟨rfl,I.turned (t':=s.toks) (λb o hb q=>he' b o hb q) f0 f1 f3 f4 f5⟩
 self:=λ_ _ _ _ _ st h=>let ⟨⟨_,he⟩,_⟩:=st;wpAny_pyIter_enum he h
section
variable {P:s_}{w:World}{A:z_}{E:Value->c_->Prop}{s:c_}{k:Bool}
def x3(k:Bool)(a:Addr)(xs:Array Value):Meets (Builtin.«enumerate.__new__» ⟨[.type "enumerate",.ref a],[]⟩) (λ_ R s=>eI k s.heap a xs /\
   R (.ok (.ret (.ref (s.heap.push (kz k a)).objs.size))) { s with heap:=(s.heap.push (kz k a)).push { cls:=.type "enumerate",data:=.fields #[.none,.bool false,.ref s.heap.objs.size,rawInt 0,.none,.none] } }) :=
 .of_wp λprog w A R s h=>by
  obtain⟨hp,g,d,tk,os⟩:=s;obtain⟨r1,h⟩:=h;have hsub:=sub_enumerate;have R1:eI k (Shared.heap ⟨hp,g,d,tk,os⟩) a xs:=r1;obtain⟨⟨cls,dd,data,sl⟩,ho,hc,n,hd⟩:=id r1;simp only at hc hd;subst hc hd
  wp_walk using Hv ho
  refine wpAny_stack_any λst=>gV ?_
  split
  .rename_i c _ _ _ _ _
   cases (c == HZ "enumerate")
   .wp_walk using Hv ho,eW R1
    exact⟨_,rfl,h⟩
   .wp_walk using Hv ho,eW R1
    exact⟨_,rfl,h⟩
  .wp_walk using Hv ho,eW R1
   exact⟨_,rfl,h⟩
def x4{a:Addr}{xs:Array Value}{Q:Value->c_->Prop}(r1:eI k s.heap a xs)
  (h:∀h',IsEnum h' (s.heap.objs.size+1) s.heap.objs.size 0 .none->cw k h' s.heap.objs.size a 0->(∀b o,s.heap.get? b=some o->h'.get? b=some o)->Q (.ref (s.heap.objs.size+1)) { s with heap:=h' }) :
  wpAny (model P w) A (call (.type "enumerate") [.ref a]) Q E s:=by
 refine callType_new F.called_enumerate (by decide) (F.typeCall_enumerate_1 _) (F.newCall_enumerate_1 _) (λobj=>F.args_object_init_2 obj _) F.entry_enumerate_new (x3 k a xs) ⟨r1,?_⟩;have z1:(s.heap.push (kz k a)).objs.size=s.heap.objs.size+1:=GG ..;have g2:((s.heap.push (kz k a)).push { cls:=.type "enumerate",data:=.fields #[.none,.bool false,.ref s.heap.objs.size,rawInt 0,.none,.none] }).get? (s.heap.push (kz k a)).objs.size=some _:=j_ _ rfl
 have g1:=d_ { cls:=.type "enumerate",data:=.fields #[.none,.bool false,.ref s.heap.objs.size,rawInt 0,.none,.none] } (j_ s.heap (o:=kz k a) rfl);show _/\_;rw [z1] at g2 ⊢;exact⟨⟨_,g2,rfl⟩,h _ g2 ⟨_,g1,rfl,rfl⟩ λb o q=>d_ _ (d_ _ q)⟩
end
section
variable {X:Cx}{es:List Expr}{ct:Nat}{tp:Pos}
noncomputable def x5(K:a_)(ta:TA):TI:=λσ H R=>ta σ H λvs H1=>∃k a,vs=[.ref a]/\(∃xs,Sq k K H1 a xs)/\R (Ite k K a) H1
def As{a:Expr}{ta:TA}{p pos:Pos}(hg:Gl X "enumerate")(hm:X.mg "enumerate"=none)(ha:PA X [a] ta)(hs:starEach [a] X.env=[(false,eval a X.env)]:=by rfl) :
  PI X (.Tuple es ct tp) (.Call (.Name "enumerate" p) [a] [] pos) (x5 X.K ta):=by
 intro pins s σ H R I h;refine Call_ (kS I hg hm boot_enumerate (GY (thn (ha pos pins s σ H _ I h) λus s1 ⟨vs,H1,I1,r1,q1⟩=>?_) hs rfl));obtain⟨k,a,e,⟨xs,q1⟩,q⟩:=q1;subst e
 cases r1 with
 | cons r rr =>
  cases rr;cases r;obtain⟨its,rv,p,_⟩:=I1.row q1;refine x4 p λh' g1 g2 kk=>wpAny_pyIter_enum g1 ?_;have I2:Inv X pins σ H1 { s1 with heap:=h',toks:=s1.toks }:=I1.kept kk;refine⟨s1.heap.objs.size+1,[s1.heap.objs.size+1,s1.heap.objs.size],_,_,H1,rfl,I2,wn (k:=k) (a:=a) (it:=s1.heap.objs.size) (Jx (JG _)),⟨⟨_,g1⟩,g2⟩,λb hb=>?_,q⟩
  have hle:s1.heap.objs.size<=b:=by
   simp only [w_,not_mem_nil,or_false] at hb
   rcases hb with e|e
   .rw [e];exact IU _ _
   .rw [e];exact o_ _
  exact I1.fpOk hle (I1.hok.fresh hle)
end
section
variable {X:Cx}
theorem mZ(ns:List Int):∀k,k<=ns.length->preSum (λi=>ns.getD i 0) k=(ns.take k).sum
 | 0,_=>rfl
 | k+1,h=>by
  rw [preSum,mZ ns k (by omega),take_add_one,cy (by omega),sum_append,cx,cy (by omega)];simp
def wo(hc:X.calm=true):bI X (.builtin "sum") (λxs H Q=>∃(p:Addr) (ns:List Int),xs=[.ref p]/\SqL X.K H p (ns.map V.int)/\Q (.int ns.sum) H):=by
 intro pins s σ H xs us Q I r h;obtain⟨p,ns,rfl,hS,q⟩:=h;obtain⟨u,rfl,ru⟩:=iq r;cases (show u=u1 p from ru);obtain⟨its,rv,pl,hz⟩:=I.list hS;have hi:=mY rv;have hl:=pl.isList;obtain⟨ys,e⟩:=hi.allInts.items;have hns:ns=ys.toList.map (·.1):=by rw [<- hi.numsOf,<- nums_intItems,<- e]
 rw [e] at hl;refine sum_intListG (by exact I.ok.hd hc) hl λh' tk t' hk=>⟨.int ns.sum,H,I.kept (t':=tk) hk,⟨t',?_⟩,q⟩
 have hlen:ys.size=ns.length:=by rw [hns,length_map,G2]
 have hnum:numAt ys=λi=>ns.getD i 0:=by
  funext i;rw [numAt_eq,hns]
 rw [hnum,hlen,mZ ns ns.length (o_ _),take_length]
theorem rN:∀{ws:List (List Nat)}{us:List Value},bJ (ws.map tx) us->StrsAre us (ws.map S)
 | [],_,.nil=>.nil
 | w::ws,_,.cons r rr=>by
  obtain⟨t,e⟩:=r;subst e;exact .cons _ _ (rN rr)
end
section
variable {X:Cx}{es:List Expr}{ct:Nat}{tp:Pos}
noncomputable def uK(K:a_)(ta:TA):TI:=λσ H R=>ta σ H λvs H1=>∃k l a c,vs=[.ref a,.ref c]/\(∃xs ys,Sq k K H1 a xs/\Sq l K H1 c ys)/\R (Itz k l K a c) H1
def At{a b:Expr}{ta:TA}{p pos:Pos}(hg:Gl X "zip")(hm:X.mg "zip"=none)(ha:PA X [a,b] ta)
  (hs:starEach [a,b] X.env=[(false,eval a X.env),(false,eval b X.env)]:=by rfl) (hs2:starEach [b] X.env=[(false,eval b X.env)]:=by rfl) :
  PI X (.Tuple es ct tp) (.Call (.Name "zip" p) [a,b] [] pos) (uK X.K ta):=by
 intro pins s σ H R I h;refine Call_ (kS I hg hm boot_zip (GY (thn (ha pos pins s σ H _ I h) λus s1 ⟨vs,H1,I1,r1,q1⟩=>?_) (by rw [hs,hs2]) (by rw [hs2];rfl)));obtain⟨k,l,a,c,e,⟨xs,ys,q1,q2⟩,q⟩:=q1;subst e
 cases r1 with
 | cons r rr =>
  cases rr with
  | cons r' rr =>
   cases rr;cases r;cases r';obtain⟨its,rv,p,_⟩:=I1.row q1;obtain⟨jts,rv',p',_⟩:=I1.row q2;refine An p p' λh' g1 g2 g3 g4 g5 kk=>wpAny_pyIter_zip g1 ?_;have I2:Inv X pins σ H1 { s1 with heap:=h',toks:=s1.toks }:=I1.kept kk
   refine⟨s1.heap.objs.size+4,[s1.heap.objs.size+4,s1.heap.objs.size+2,s1.heap.objs.size+3,s1.heap.objs.size,s1.heap.objs.size+1],_,_,H1,rfl,I2,xV (i:=s1.heap.objs.size) (j:=s1.heap.objs.size+1)
    (Er _),⟨g1,g2,⟨_,_,g3⟩,g4,g5⟩,λb hb=>?_,q⟩
   have hle:s1.heap.objs.size<=b:=by
    simp only [w_,not_mem_nil,or_false] at hb
    rcases hb with e|e|e|e|e
    .rw [e];exact IU _ _
    .rw [e];exact IU _ _
    .rw [e];exact IU _ _
    .rw [e];exact o_ _
    .rw [e];exact IU _ _
   exact I1.fpOk hle (I1.hok.fresh hle)
end
section
variable {X:Cx}{e:Expr}{ta:TE}{f:Str}{pos:Pos}
def iu(K:a_)(eK:X.K=K)(he:PE X e ta)(hb:attributeBase e f X.env (eval e X.env)=eval e X.env):PE X (.Attribute e f pos) (BA K ta f):=eK ▸ Cc he hb
noncomputable def Ev(K:a_):List V->Hp->VK->Prop:=λxs H Q=>∃p ys,xs=[.ref p]/\SqL K H p ys/\Q (.int ys.length) H
noncomputable def Ew(K:a_):List V->Hp->VK->Prop:=λxs H Q=>∃p ys,xs=[.ref p]/\SqT K H p ys/\Q (.int ys.length) H
noncomputable def FA(K:a_):List V->Hp->VK->Prop:=λxs H Q=>∃x n t b,xs=[x,.ty n]/\pR K H x t/\Hk K t (.type n)=some b/\Q (.bl b) H
noncomputable def wq(K:a_):List V->Hp->VK->Prop:=λxs H Q=>∃p ys,xs=[.ref p]/\(SqL K H p ys\/SqT K H p ys)/\∀l,H l=none->Q (.ref l) (upd H l (.lst ys))
end
section
variable {X:Cx}{o e:Expr}{es:List Expr}{to:TE}{t:TA}{name:Str}{apos cpos:Pos}{T id:String}{r:V->List V->Hp->VK->Prop}
def eX(K:a_)(eK:X.K=K)(pa:PlainAttrs T)(slot:Slot T name id)(hty:typeOf (.builtin id)=pure (.type "method_descriptor"))(hm:MtR X id r)(ho:PE X o to)(ha:PA X (e::es) t)
  (hbase:attributeBase o name X.env (eval o X.env)=eval o X.env:=by rfl)
  (hfew:((backTo cpos (starEach (e::es) X.env)).all (λx=>!x.1) && (backToKw cpos (keywordEach [] X.env)).all (λx=>x.1.isSome)
   && decide ((e::es).length+([]:List Keyword).length+(if ([]:List Keyword).isEmpty then 0 else 1)<30))=true:=by rfl)
  (hline:(apos.endLine == cpos.line)=true:=by rfl) (hs:starEach (e::es) X.env=(false,eval e X.env)::starEach es X.env:=by rfl) (hplain:(backTo cpos (starEach es X.env)).any (·.1)=false:=by rfl) :
  PE X (.Call (.Attribute o name apos) (e::es) [] cpos) (tBM K T r to t):=eK ▸ El pa slot hty hm ho ha hbase hfew hline hs hplain
end
noncomputable def ic(c:Bool)(A B:Prop):Prop:=match c with|true=>A|false=>B
def CO{c:Bool}{A B:Prop}(h1:c=true->A)(h2:c=false->B):ic c A B:=by
 cases c with
 | true=>exact h1 rfl
 | false=>exact h2 rfl
def cJ{p:Prop}[Decidable p]{A B:Prop}(h1:p->A)(h2:¬ p->B):ic (decide p) A B:=CO (λh=>h1 (of_decide_eq_true h)) (λh=>h2 (of_decide_eq_false h))
def nV{p:Prop}[Decidable p]{A B:Prop}(h1:¬ p->A)(h2:p->B):ic (!decide p) A B:=CO (λh=>h1 λz=>by rw [decide_eq_true z] at h;cases h) (λh=>h2 (by
 by_cases z:p
 .exact z
 .rw [decide_eq_false z] at h;cases h))
def Ex{p:Prop}[Decidable p]{A B:Prop}(h:p)(hA:A):ic (decide p) A B:=cJ (λ_=>hA) (λz=>absurd h z)
def Ey{p:Prop}[Decidable p]{A B:Prop}(h:¬ p)(hB:B):ic (decide p) A B:=cJ (λz=>absurd z h) (λ_=>hB)
def CP{p:Prop}[Decidable p]{A B:Prop}(h:¬ p)(hA:A):ic (!decide p) A B:=nV (λ_=>hA) (λz=>absurd z h)
def CQ{p:Prop}[Decidable p]{A B:Prop}(h:p)(hB:B):ic (!decide p) A B:=nV (λz=>absurd h z) (λ_=>hB)
def Au{c:Bool}{A B:Prop}(h:ic c B A):ic (!c) A B:=by
 cases c <;> exact h
def Gg{c:Bool}{A B:Prop}(h:c=true)(hA:A):ic c A B:=by subst h;exact hA
def Gh{c:Bool}{A B:Prop}(h:c=false)(hB:B):ic c A B:=by subst h;exact hB
def Ez{c:Bool}{A B:Prop}(h:c=false)(hA:A):ic (!c) A B:=by subst h;exact hA
def Av{c:Bool}{A B:Prop}(h:c=true)(hB:B):ic (!c) A B:=by subst h;exact hB
inductive D where
 | non|bl (b:Bool)|int (i:Int)|str (l:List Nat)|ty (n:String)
 | lst (ds:List D)|tup (ds:List D)|scr (ns:List Int)|dic (ks:List Key) (ds:List D)|obj (c:Str) (ns:List Str) (ds:List D)|exc (c:Str) (ns:List Str) (ds:List D)
noncomputable def XAt(x C:Addr)(dd:Option Addr)(new:Bool)(h:Heap):Prop:=∃o vs,h.get? x=some o/\o.cls=.ref C/\o.dict=dd/\o.data=.fields vs/\1<vs.size/\(new=true->vs[1]?=some .none)
noncomputable def fS(A:Addr->Prop)(a:Addr):Addr->Prop:=λb=>A b\/b=a
noncomputable def BB(K:a_)(O:Addr->Prop)(H:Hp)(a:Addr)(xs:List V):Prop :=
 (¬ O a/\Rd H a (.lst xs))\/∃(o:Obj) (its:Array Value) (n:Nat),K.lookup a=some o/\o.cls=.type "list"/\o.dict=none/\o.data=.seq its n/\its.size<=sizeLine/\bJ xs its.toList
def BB.sq{K:a_}{O:Addr->Prop}{H:Hp}{a:Addr}{xs:List V}(h:BB K O H a xs):SqL K H a xs:=h.elim (λz=>.inl z.2) .inr
noncomputable def aZ(O:Addr->Prop)(H:Hp)(O':Addr->Prop)(H':Hp):Prop:=∀b o,¬ O b->H b=some o->¬ O' b/\H' b=some o
def Rd.keeps{O O':Addr->Prop}{H H':Hp}{a:Addr}{u:HO}(k:aZ O H O' H')(n:¬ O a)(r:Rd H a u):¬ O' a/\Rd H' a u:=by
 rcases r with e|⟨o,e⟩
 .exact⟨(k _ _ n e).1,.inl (k _ _ n e).2⟩
 .exact⟨(k _ _ n e).1,.inr ⟨o,(k _ _ n e).2⟩⟩
def BB.keeps{K:a_}{O O':Addr->Prop}{H H':Hp}{a:Addr}{xs:List V}(k:aZ O H O' H')(h:BB K O H a xs):BB K O' H' a xs:=by
 rcases h with ⟨n,r⟩|r
 .exact .inl (r.keeps k n)
 .exact .inr r
mutual
inductive FV (K:a_) (O:Addr->Prop) (H:Hp):V->D->Prop
 | non:FV K O H .non .non
 | bl (b:Bool):FV K O H (.bl b) (.bl b)
 | int (i:Int):FV K O H (.int i) (.int i)
 | str (l:List Nat):l.length<=1000000->FV K O H (.str (S l)) (.str l)
 | ty (n:String):FV K O H (.ty n) (.ty n)
 | scr {a:Addr}{ns:List Int}:BB K O H a (ns.map V.int)->FV K O H (.ref a) (.scr ns)
 | lst {a:Addr}{xs:List V}{ds:List D}:¬ O a->H a=some (.lst xs)->FVs K O H xs ds->FV K O H (.ref a) (.lst ds)
 | tup {a:Addr}{xs:List V}{ds:List D}:¬ O a->H a=some (.tup xs)->FVs K O H xs ds->FV K O H (.ref a) (.tup ds)
 | dic {a:Addr}{kvs:List (Key×V)}{ks:List Key}{ds:List D}:¬ O a->H a=some (.dK kvs)->kvs.map G1=ks->FVs K O H (kvs.map IL) ds->FV K O H (.ref a) (.dic ks ds)
 | obj {a dx:Addr}{c:Str}{fs:List (Str×V)}{ns:List Str}{ds:List D}:¬ O a->H a=some (.ins (cG K c) dx fs)->fs.map G1=ns->FVs K O H (fs.map IL) ds->FV K O H (.ref a) (.obj c ns ds)
 | exc0 {a:Addr}{c:Str}{new:Bool}:¬ O a->H a=some (.ext (XAt a (cG K c) none new))->FV K O H (.ref a) (.exc c [] [])
 | exc1 {a dx:Addr}{c:Str}{new:Bool}{fs:List (Str×V)}{ns:List Str}{ds:List D}:¬ O a->¬ O dx->H a=some (.ext (XAt a (cG K c) (some dx) new))->H dx=some (.xd fs)->fs.map G1=ns->FVs K O H (fs.map IL) ds->FV K O H (.ref a) (.exc c ns ds)
inductive FVs (K:a_) (O:Addr->Prop) (H:Hp):List V->List D->Prop
 | nil:FVs K O H [] []
 | cons {x:V}{d:D}{xs:List V}{ds:List D}:FV K O H x d->FVs K O H xs ds->FVs K O H (x::xs) (d::ds)
end
section
variable {K:a_}{O O':Addr->Prop}{H H':Hp}
mutual
theorem FV.keeps(k:aZ O H O' H'):∀{v:V}{d:D},FV K O H v d->FV K O' H' v d
 | _,_,.non=>.non
 | _,_,.bl b=>.bl b
 | _,_,.int i=>.int i
 | _,_,.str l h=>.str l h
 | _,_,.ty n=>.ty n
 | _,_,.scr s=>.scr (s.keeps k)
 | _,_,.lst n e f=>.lst (k _ _ n e).1 (k _ _ n e).2 (FVs.keeps k f)
 | _,_,.tup n e f=>.tup (k _ _ n e).1 (k _ _ n e).2 (FVs.keeps k f)
 | _,_,.dic n e m f=>.dic (k _ _ n e).1 (k _ _ n e).2 m (FVs.keeps k f)
 | _,_,.obj n e m f=>.obj (k _ _ n e).1 (k _ _ n e).2 m (FVs.keeps k f)
 | _,_,.exc0 n e=>.exc0 (k _ _ n e).1 (k _ _ n e).2
 | _,_,.exc1 n n2 e e2 m f=>.exc1 (k _ _ n e).1 (k _ _ n2 e2).1 (k _ _ n e).2 (k _ _ n2 e2).2 m (FVs.keeps k f)
theorem FVs.keeps(k:aZ O H O' H'):∀{vs:List V}{ds:List D},FVs K O H vs ds->FVs K O' H' vs ds
 | _,_,.nil=>.nil
 | _,_,.cons a b=>.cons (FV.keeps k a) (FVs.keeps k b)
end
theorem FVs.length:∀{vs:List V}{ds:List D},FVs K O H vs ds->vs.length=ds.length
 | _,_,.nil=>rfl
 | _,_,.cons _ b=>by rw [length_cons,length_cons,b.length]
theorem FVs.get:∀{vs:List V}{ds:List D}{i:Nat}{v:V},FVs K O H vs ds->vs[i]?=some v->∃d,ds[i]?=some d/\FV K O H v d
 | _,_,0,_,.cons a _,e=>by simp at e;subst e;exact⟨_,rfl,a⟩
 | _,_,i+1,v,.cons _ b,e=>by
  obtain⟨d,h1,h2⟩:=b.get (i:=i) (v:=v) (by simpa using e);exact⟨d,by simpa using h1,h2⟩
theorem FVs.getD:∀{vs:List V}{ds:List D}{i:Nat}{d:D},FVs K O H vs ds->ds[i]?=some d->∃v,vs[i]?=some v/\FV K O H v d
 | _,_,0,_,.cons a _,e=>by simp at e;subst e;exact⟨_,rfl,a⟩
 | _,_,i+1,v,.cons _ b,e=>by
  obtain⟨d,h1,h2⟩:=b.getD (i:=i) (d:=v) (by simpa using e);exact⟨d,by simpa using h1,h2⟩
theorem FVs.append:∀{vs ws:List V}{ds es:List D},FVs K O H vs ds->FVs K O H ws es->FVs K O H (vs++ws) (ds++es)
 | _,_,_,_,.nil,s=>s
 | _,_,_,_,.cons a b,s=>.cons a (b.append s)
theorem FVs.set{v:V}{d:D}(f:FV K O H v d):∀{vs:List V}{ds:List D} (i:Nat),FVs K O H vs ds->FVs K O H (vs.set i v) (ds.set i d)
 | _,_,_,.nil=>.nil
 | _,_,0,.cons _ t=>.cons f t
 | _,_,i+1,.cons q t=>.cons q (FVs.set f i t)
theorem FVs.take:∀{vs:List V}{ds:List D} (n:Nat),FVs K O H vs ds->FVs K O H (vs.take n) (ds.take n)
 | _,_,0,_=>.nil
 | _,_,_+1,.nil=>.nil
 | _,_,n+1,.cons r t=>.cons r (t.take n)
theorem FVs.drop:∀{vs:List V}{ds:List D} (n:Nat),FVs K O H vs ds->FVs K O H (vs.drop n) (ds.drop n)
 | _,_,0,r=>r
 | _,_,_+1,.nil=>.nil
 | _,_,n+1,.cons _ t=>t.drop n
theorem FVs.ints:∀{vs:List V}{ns:List Int},FVs K O H vs (ns.map D.int)->vs=ns.map V.int
 | _,[],.nil=>rfl
 | _,n::r,h=>by
  cases h with
  | cons a b=>cases a;rw [FVs.ints b];rfl
theorem FVs.of_ints:∀ns:List Int,FVs K O H (ns.map V.int) (ns.map D.int)
 | []=>.nil
 | n::r=>.cons (.int n) (FVs.of_ints r)
theorem FVs.strs:∀{vs:List V}{ws:List (List Nat)},FVs K O H vs (ws.map D.str)->vs=ws.map tx
 | _,[],.nil=>rfl
 | _,n::r,h=>by
  cases h with
  | cons a b=>cases a;rw [FVs.strs b];rfl
theorem FVs.of_strs:∀ws:List (List Nat),(∀w∈ws,w.length<=1000000)->FVs K O H (ws.map tx) (ws.map D.str)
 | [],_=>.nil
 | n::r,h=>.cons (.str n (h n (mem_cons_self ..))) (FVs.of_strs r λw hw=>h w (m_ _ hw))
theorem FVs.strs_le:∀{vs:List V}{ws:List (List Nat)},FVs K O H vs (ws.map D.str)->∀w∈ws,w.length<=1000000
 | _,[],.nil=>nofun
 | _,n::r,h=>by
  cases h with
  | cons a b =>
   cases a with
   | str _ z =>
    intro w hw
    rcases w_.mp hw with e|e
    .rw [e];exact z
    .exact FVs.strs_le b w e
theorem FVs.bls:∀{vs:List V}{bs:List Bool},FVs K O H vs (bs.map D.bl)->vs=bs.map V.bl
 | _,[],.nil=>rfl
 | _,n::r,h=>by
  cases h with
  | cons a b=>cases a;rw [FVs.bls b];rfl
end
inductive PV where
 | dat (d:D)|own (ds:List D)|ins (c:Str) (ns:List Str) (ds:List D)
noncomputable def PV.isOwn:PV->Bool
 | .dat _=>false
 | _=>true
noncomputable def PV.d:PV->D
 | .dat d=>d
 | .own ds=>.lst ds
 | .ins c ns ds=>.obj c ns ds
abbrev PSt:=List (Option PV)
noncomputable def Wr(ρ:PSt)(σ:St)(b:Addr):Prop:=∃(i:Nat) (p:PV),ρ[i]?=some (some p)/\p.isOwn=true/\σ[i]?=some (some (.ref b))
noncomputable def OO(A:Addr->Prop)(ρ:PSt)(σ:St)(b:Addr):Prop:=A b\/Wr ρ σ b
noncomputable def RS(K:a_)(O:Addr->Prop)(H:Hp):PV->V->Prop
 | .dat d,v=>FV K O H v d
 | .own ds,v=>∃a xs,v=.ref a/\H a=some (.lst xs)/\FVs K O H xs ds
 | .ins c ns ds,v=>∃a dx fs,v=.ref a/\H a=some (.ins (cG K c) dx fs)/\fs.map G1=ns/\FVs K O H (fs.map IL) ds
structure Rel (K:a_) (A:Addr->Prop) (ρ:PSt) (σ:St) (H:Hp):Prop where
 len:ρ.length=σ.length
 get:∀(i:Nat) (p:PV),ρ[i]?=some (some p)->∃v,σ[i]?=some (some v)/\RS K (OO A ρ σ) H p v
 dj:∀(i j:Nat) (p q:PV) (v:V),ρ[i]?=some (some p)->ρ[j]?=some (some q)->p.isOwn=true->q.isOwn=true->σ[i]?=some (some v)->σ[j]?=some (some v)->i=j
 dom:∀b,A b->H b≠none
 sep:∀b,A b->¬ Wr ρ σ b
structure Fr (ρ:PSt) (σ:St) (H:Hp) (ρ':PSt) (H':Hp):Prop where
 kp:∀b o,¬ Wr ρ σ b->H b=some o->H' b=some o
 dm:∀b,H b≠none->H' b≠none
 ow:∀b,Wr ρ' σ b->Wr ρ σ b
def Fr.refl(ρ:PSt)(σ:St)(H:Hp):Fr ρ σ H ρ H:=⟨λ_ _ _ h=>h,λ_ h=>h,λ_ h=>h⟩
def Fr.trans{ρ ρ1 ρ2:PSt}{σ:St}{H H1 H2:Hp}(a:Fr ρ σ H ρ1 H1)(b:Fr ρ1 σ H1 ρ2 H2):Fr ρ σ H ρ2 H2 :=
 ⟨λc o n h=>b.kp c o (λz=>n (a.ow c z)) (a.kp c o n h),λc h=>b.dm c (a.dm c h),λc h=>a.ow c (b.ow c h)⟩
def Fr.keeps{ρ ρ':PSt}{σ:St}{H H':Hp}{A:Addr->Prop}(f:Fr ρ σ H ρ' H'):aZ (OO A ρ σ) H (OO A ρ' σ) H':=λb o n h =>
 ⟨λz=>z.elim (λz=>n (.inl z)) (λz=>n (.inr (f.ow b z))),f.kp b o (λz=>n (.inr z)) h⟩
def Fr.new{ρ:PSt}{σ:St}{H:Hp}{p:Addr}{o:HO}(h:H p=none):Fr ρ σ H ρ (upd H p o) :=
 ⟨λb u _ e=>by rw [aR (bb e h)];exact e,λb e=>by
  by_cases z:b=p
  .rw [z,bd];exact nofun
  .rw [aR z];exact e,λ_ h=>h⟩
def aZ.fresh{O:Addr->Prop}{H:Hp}{p:Addr}{o:HO}(h:H p=none):aZ O H (fS O p) (upd H p o):=λb u n e =>
 ⟨λz=>z.elim n (λz=>by rw [z,h] at e;cases e),by rw [aR (bb e h)];exact e⟩
def aZ.less{O O':Addr->Prop}{H:Hp}(h:∀b,O' b->O b):aZ O H O' H:=λb o n e=>⟨λz=>n (h b z),e⟩
def RS.keeps{K:a_}{O O':Addr->Prop}{H H':Hp}{p:PV}{v:V}(k:aZ O H O' H')(w:p.isOwn=true->∀a,v=.ref a->H' a=H a)(h:RS K O H p v):RS K O' H' p v:=by
 cases p with
 | dat d=>exact FV.keeps k h
 | own ds =>
  obtain⟨a,xs,e,g,f⟩:=h;exact⟨a,xs,e,by rw [w rfl a e];exact g,f.keeps k⟩
 | ins c ns ds =>
  obtain⟨a,dx,fs,e,g,m,f⟩:=h;exact⟨a,dx,fs,e,by rw [w rfl a e];exact g,m,f.keeps k⟩
def RS.ref{K:a_}{O:Addr->Prop}{H:Hp}{p:PV}{v:V}(h:RS K O H p v)(o:p.isOwn=true):∃a u,v=.ref a/\H a=some u:=by
 cases p with
 | dat d=>cases o
 | own ds=>obtain⟨a,xs,e,g,f⟩:=h;exact⟨a,_,e,g⟩
 | ins c ns ds=>obtain⟨a,dx,fs,e,g,m,f⟩:=h;exact⟨a,_,e,g⟩
def Rel.wr{K:a_}{A:Addr->Prop}{ρ:PSt}{σ:St}{H:Hp}(R:Rel K A ρ σ H){b:Addr}(h:Wr ρ σ b):H b≠none:=by
 obtain⟨i,p,e,o,s⟩:=h;obtain⟨v,s',r⟩:=R.get i p e;rw [s] at s';cases s';obtain⟨a,u,e1,e2⟩:=r.ref o;cases e1;rw [e2];exact nofun
def Rel.oo{K:a_}{A:Addr->Prop}{ρ:PSt}{σ:St}{H:Hp}(R:Rel K A ρ σ H){b:Addr}(h:H b=none):¬ OO A ρ σ b:=λz=>z.elim (λz=>R.dom b z h) (λz=>R.wr z h)
def Rel.grow{K:a_}{A:Addr->Prop}{ρ:PSt}{σ:St}{H:Hp}(R:Rel K A ρ σ H){p:Addr}{o:HO}(h:H p=none):Rel K A ρ σ (upd H p o):=by
 have k:aZ (OO A ρ σ) H (OO A ρ σ) (upd H p o):=Fr.keeps (Fr.new h);refine⟨R.len,λi q e=>?_,R.dj,λb z=>(Fr.new (ρ:=ρ) (σ:=σ) h).dm b (R.dom b z),R.sep⟩;obtain⟨v,s,r⟩:=R.get i q e;refine⟨v,s,r.keeps k λow a ea=>?_⟩;obtain⟨a',u,e1,e2⟩:=r.ref ow;rw [ea] at e1;cases e1;rw [aR (bb e2 h)]
def Rel.less{K:a_}{A A':Addr->Prop}{ρ:PSt}{σ:St}{H:Hp}(R:Rel K A ρ σ H)(h:∀b,A' b->A b):Rel K A' ρ σ H:=by
 refine⟨R.len,λi q e=>?_,R.dj,λb z=>R.dom b (h b z),λb z=>R.sep b (h b z)⟩;obtain⟨v,s,r⟩:=R.get i q e;exact⟨v,s,r.keeps (aZ.less λb z=>z.imp (h b) id) λ_ _ _=>rfl⟩
def Rel.write{K:a_}{A:Addr->Prop}{ρ:PSt}{σ:St}{H:Hp}(R:Rel K A ρ σ H){i:Nat}{p q:PV}{a:Addr}{o:HO}(e:ρ[i]?=some (some p))(ow:p.isOwn=true)(ow':q.isOwn=true)(es:σ[i]?=some (some (.ref a)))
  (new:RS K (OO A ρ σ) (upd H a o) q (.ref a)):Rel K A (ρ.set i (some q)) σ (upd H a o)/\Fr ρ σ H (ρ.set i (some q)) (upd H a o):=by
 have hi:i<ρ.length:=(h_.mp e).1;have wa:Wr ρ σ a:=⟨i,p,e,ow,es⟩
 have weq:∀b,Wr (ρ.set i (some q)) σ b ↔ Wr ρ σ b:=λb=>by
  constructor
  .rintro⟨j,r,e1,o1,s1⟩
   by_cases z:i=j
   .subst z;exact⟨i,p,e,ow,s1⟩
   .rw [n_ z] at e1;exact⟨j,r,e1,o1,s1⟩
  .rintro⟨j,r,e1,o1,s1⟩
   by_cases z:i=j
   .subst z;exact⟨i,q,p_ hi,ow',s1⟩
   .exact⟨j,r,by rw [n_ z];exact e1,o1,s1⟩
 have oeq:OO A (ρ.set i (some q)) σ=OO A ρ σ:=funext λb=>propext (or_congr Iff.rfl (weq b));have kp:∀b u,¬ Wr ρ σ b->H b=some u->upd H a o b=some u:=λb u n h=>by rw [aR (λz=>n (by rw [z];exact wa))];exact h
 have k:aZ (OO A ρ σ) H (OO A ρ σ) (upd H a o):=λb u n h=>⟨n,kp b u (λz=>n (.inr z)) h⟩
 have dm:∀b,H b≠none->upd H a o b≠none:=λb n=>by
  by_cases z:b=a
  .rw [z,bd];exact nofun
  .rw [aR z];exact n
 refine⟨⟨by rw [GN];exact R.len,λj r e1=>?_,λj l p1 q1 v e1 e2 o1 o2 s1 s2=>?_,λb z=>dm b (R.dom b z),λb z w=>R.sep b z ((weq b).mp w)⟩,⟨kp,dm,λb w=>(weq b).mp w⟩⟩
 .rw [oeq]
  by_cases z:i=j
  .subst z;rw [p_ hi] at e1;cases e1;exact⟨_,es,new⟩
  .rw [n_ z] at e1;obtain⟨v,s,rr⟩:=R.get j r e1;refine⟨v,s,rr.keeps k λow2 b eb=>?_⟩;rw [aR];intro zz;subst zz;rw [eb] at s;exact z (R.dj i j p r _ e e1 ow ow2 es s)
 .have ex:∀(m:Nat) (x:PV),(ρ.set i (some q))[m]?=some (some x)->x.isOwn=true->∃y:PV,ρ[m]?=some (some y)/\y.isOwn=true:=λm x em ox=>by
   by_cases z:i=m
   .subst z;exact⟨p,e,ow⟩
   .rw [n_ z] at em;exact⟨x,em,ox⟩
  obtain⟨y1,h1,h2⟩:=ex j p1 e1 o1;obtain⟨y2,h3,h4⟩:=ex l q1 e2 o2;exact R.dj j l y1 y2 v h1 h3 h2 h4 s1 s2
def Rel.frz{K:a_}{A:Addr->Prop}{ρ:PSt}{σ:St}{H:Hp}(R:Rel K A ρ σ H){i:Nat}{p:PV}(e:ρ[i]?=some (some p)) :
  Rel K A (ρ.set i (some (.dat p.d))) σ H/\Fr ρ σ H (ρ.set i (some (.dat p.d))) H:=by
 have hi:i<ρ.length:=(h_.mp e).1
 have ex:∀(m:Nat) (x:PV),(ρ.set i (some (.dat p.d)))[m]?=some (some x)->x.isOwn=true->m≠i/\ρ[m]?=some (some x):=λm x em ox=>by
  by_cases z:i=m
  .subst z;rw [p_ hi] at em;cases em;cases ox
  .rw [n_ z] at em;exact⟨λq=>z q.symm,em⟩
 have ow:∀b,Wr (ρ.set i (some (.dat p.d))) σ b->Wr ρ σ b:=λb ⟨j,r,e1,o1,s1⟩=>⟨j,r,(ex j r e1 o1).2,o1,s1⟩
 have k:aZ (OO A ρ σ) H (OO A (ρ.set i (some (.dat p.d))) σ) H:=aZ.less λb z=>z.imp id (ow b);refine⟨⟨by rw [GN];exact R.len,λj r e1=>?_,λj l p1 q1 v e1 e2 o1 o2 s1 s2=>R.dj j l p1 q1 v (ex j p1 e1 o1).2 (ex l q1 e2 o2).2 o1 o2 s1 s2,R.dom,λb z w=>R.sep b z (ow b w)⟩,⟨λ_ _ _ h=>h,λ_ h=>h,ow⟩⟩
 by_cases z:i=j
 .subst z;rw [p_ hi] at e1;cases e1;obtain⟨v,s,r⟩:=R.get i p e;refine⟨v,s,?_⟩
  have na:∀a,v=.ref a->p.isOwn=true->¬ OO A (ρ.set i (some (.dat p.d))) σ a:=λa ea oo z=>by
   subst ea
   rcases z with z|⟨j,r,e1,o1,s1⟩
   .exact R.sep a z ⟨i,p,e,oo,s⟩
   .obtain⟨n1,n2⟩:=ex j r e1 o1;exact n1 (R.dj j i r p _ n2 e o1 oo s1 s)
  cases p with
  | dat d=>exact FV.keeps k r
  | own ds =>
   obtain⟨a,xs,rfl,g,f⟩:=r;exact .lst (na a rfl rfl) g (f.keeps k)
  | ins c ns ds =>
   obtain⟨a,dx,fs,rfl,g,m,f⟩:=r;exact .obj (na a rfl rfl) g m (f.keeps k)
 .rw [n_ z] at e1;obtain⟨v,s,r⟩:=R.get j _ e1;exact⟨v,s,r.keeps k λ_ _ _=>rfl⟩
abbrev PKt:=PV->PSt->Prop
abbrev PTE:=PSt->PKt->Prop
abbrev PTT:=PSt->(Bool->PSt->Prop)->Prop
inductive AV where
 | v (d:D)|sl (i:Nat)
abbrev PA1:=PSt->(AV->PSt->Prop)->Prop
abbrev PTA:=PSt->(List AV->PSt->Prop)->Prop
noncomputable def Out(K:a_)(A:Addr->Prop)(ρ:PSt)(σ:St)(H0 H:Hp):PV->V->Prop
 | .dat d,v=>Rel K A ρ σ H/\FV K (OO A ρ σ) H v d
 | .own ds,v=>∃a xs,v=.ref a/\¬ A a/\H0 a=none/\H a=some (.lst xs)/\Rel K (fS A a) ρ σ H/\FVs K (OO (fS A a) ρ σ) H xs ds
 | .ins c ns ds,v=>∃a dx fs,v=.ref a/\¬ A a/\H0 a=none/\H a=some (.ins (cG K c) dx fs)/\fs.map G1=ns/\Rel K (fS A a) ρ σ H/\FVs K (OO (fS A a) ρ σ) H (fs.map IL) ds
noncomputable def LE(K:a_)(te:TE)(pe:PTE):Prop:=∀(A:Addr->Prop) (ρ:PSt) (σ:St) (H:Hp) (Q:PKt) (Q':VK),Rel K A ρ σ H->pe ρ Q ->
 (∀v H' p ρ',Q p ρ'->Fr ρ σ H ρ' H'->Out K A ρ' σ H H' p v->Q' v H')->te σ H Q'
noncomputable def LT(K:a_)(tt:TT)(pt:PTT):Prop:=∀(A:Addr->Prop) (ρ:PSt) (σ:St) (H:Hp) (Q:Bool->PSt->Prop) (Q':Bool->Hp->Prop),Rel K A ρ σ H->pt ρ Q ->
 (∀b H' ρ',Q b ρ'->Fr ρ σ H ρ' H'->Rel K A ρ' σ H'->Q' b H')->tt σ H Q'
noncomputable def AOk(K:a_)(O:Addr->Prop)(σ:St)(H:Hp):AV->V->Prop
 | .v d,v=>FV K O H v d
 | .sl i,v=>σ[i]?=some (some v)
noncomputable def LA1(K:a_)(te:TE)(pa:PA1):Prop:=∀(A:Addr->Prop) (ρ:PSt) (σ:St) (H:Hp) (Q:AV->PSt->Prop) (Q':VK),Rel K A ρ σ H->pa ρ Q ->
 (∀v H' av ρ',Q av ρ'->Fr ρ σ H ρ' H'->Rel K A ρ' σ H'->AOk K (OO A ρ' σ) σ H' av v->Q' v H')->te σ H Q'
inductive Aw (K:a_) (O:Addr->Prop) (σ:St) (H:Hp):List AV->List V->Prop
 | nil:Aw K O σ H [] []
 | cons {a:AV}{v:V}{as:List AV}{vs:List V}:AOk K O σ H a v->Aw K O σ H as vs->Aw K O σ H (a::as) (v::vs)
noncomputable def LAs(K:a_)(ta:TA)(pa:PTA):Prop:=∀(A:Addr->Prop) (ρ:PSt) (σ:St) (H:Hp) (Q:List AV->PSt->Prop) (Q':List V->Hp->Prop),Rel K A ρ σ H->pa ρ Q ->
 (∀vs H' as ρ',Q as ρ'->Fr ρ σ H ρ' H'->Rel K A ρ' σ H'->Aw K (OO A ρ' σ) σ H' as vs->Q' vs H')->ta σ H Q'
section
variable {K:a_}{A O O':Addr->Prop}{ρ ρ':PSt}{σ:St}{H H' H0:Hp}
def AOk.keeps{a:AV}{v:V}(k:aZ O H O' H')(h:AOk K O σ H a v):AOk K O' σ H' a v:=by
 cases a with
 | v d=>exact FV.keeps k h
 | sl i=>exact h
def Out.frz{p:PV}{v:V}(h:Out K A ρ σ H0 H p v):Rel K A ρ σ H/\FV K (OO A ρ σ) H v p.d:=by
 cases p with
 | dat d=>exact h
 | own ds =>
  obtain⟨a,xs,rfl,na,_,e,R,f⟩:=h;refine⟨R.less λb z=>.inl z,.lst (λz=>?_) e (f.keeps (aZ.less λb z=>z.imp .inl id))⟩;exact z.elim na (λz=>R.sep a (.inr rfl) z)
 | ins c ns ds =>
  obtain⟨a,dx,fs,rfl,na,_,e,m,R,f⟩:=h;refine⟨R.less λb z=>.inl z,.obj (λz=>?_) e m (f.keeps (aZ.less λb z=>z.imp .inl id))⟩;exact z.elim na (λz=>R.sep a (.inr rfl) z)
def Out.h0{p:PV}{v:V}{H1:Hp}(h:Out K A ρ σ H0 H p v)(dm:∀b,H1 b≠none->H0 b≠none):Out K A ρ σ H1 H p v:=by
 have k:∀a,H0 a=none->H1 a=none:=λa e=>by
  cases z:H1 a with
  | none=>rfl
  | some o=>exact absurd e (dm a (by rw [z];exact nofun))
 cases p with
 | dat d=>exact h
 | own ds=>obtain⟨a,xs,e1,na,e2,r⟩:=h;exact⟨a,xs,e1,na,k a e2,r⟩
 | ins c ns ds=>obtain⟨a,dx,fs,e1,na,e2,r⟩:=h;exact⟨a,dx,fs,e1,na,k a e2,r⟩
noncomputable def Gr(H H':Hp):Prop:=∀b o,H b=some o->H' b=some o
def Gr.fr(g:Gr H H'):Fr ρ σ H ρ H':=⟨λb o _ h=>g b o h,λb h=>by
 cases e:H b with
 | none=>exact absurd e h
 | some o=>rw [g b o e];exact nofun,λ_ h=>h⟩
def Gr.new{p:Addr}{o:HO}(h:H p=none):Gr H (upd H p o):=λb u e=>by rw [aR (bb e h)];exact e
def Gr.refl(H:Hp):Gr H H:=λ_ _ h=>h
def Rel.gr(R:Rel K A ρ σ H)(g:Gr H H'):Rel K A ρ σ H':=by
 refine⟨R.len,λi q e=>?_,R.dj,λb z=>(g.fr (ρ:=ρ) (σ:=σ)).dm b (R.dom b z),R.sep⟩;obtain⟨v,s,r⟩:=R.get i q e;refine⟨v,s,r.keeps (g.fr (ρ:=ρ) (σ:=σ)).keeps λow a ea=>?_⟩;obtain⟨a',u,e1,e2⟩:=r.ref ow;rw [ea] at e1;cases e1;rw [e2];exact g _ _ e2
def Rel.grA(R:Rel K A ρ σ H)(g:Gr H H'){p:Addr}(h:H p=none)(h':H' p≠none):Rel K (fS A p) ρ σ H':=by
 have k:aZ (OO A ρ σ) H (OO (fS A p) ρ σ) H':=λb u n e=>by
  refine⟨λz=>?_,g _ _ e⟩
  rcases z with (z|z)|z
  .exact n (.inl z)
  .rw [z,h] at e;cases e
  .exact n (.inr z)
 refine⟨R.len,λi q e=>?_,R.dj,λb z=>?_,λb z w=>?_⟩
 .obtain⟨v,s,r⟩:=R.get i q e;refine⟨v,s,r.keeps k λow a ea=>?_⟩;obtain⟨a',u,e1,e2⟩:=r.ref ow;rw [ea] at e1;cases e1;rw [e2];exact g _ _ e2
 .rcases z with z|z
  .exact (g.fr (ρ:=ρ) (σ:=σ)).dm b (R.dom b z)
  .rw [z];exact h'
 .rcases z with z|z
  .exact R.sep b z w
  .exact R.wr w (by rw [z];exact h)
noncomputable def uL(K:a_)(O:Addr->Prop)(H0 H:Hp):PV->V->Prop
 | .dat d,v=>FV K O H v d
 | .own ds,v=>∃a xs,v=.ref a/\H0 a=none/\H a=some (.lst xs)/\FVs K (fS O a) H xs ds
 | .ins c ns ds,v=>∃a dx fs,v=.ref a/\H0 a=none/\H a=some (.ins (cG K c) dx fs)/\fs.map G1=ns/\FVs K (fS O a) H (fs.map IL) ds
def uL.out{p:PV}{v:V}(R:Rel K A ρ σ H)(g:Gr H H')(h:uL K (OO A ρ σ) H H' p v):Out K A ρ σ H H' p v:=by
 cases p with
 | dat d=>exact⟨R.gr g,h⟩
 | own ds =>
  obtain⟨a,xs,rfl,e0,e,f⟩:=h;refine⟨a,xs,rfl,λz=>R.dom a z e0,e0,e,R.grA g e0 (by rw [e];exact nofun),f.keeps (aZ.less λb z=>?_)⟩
  rcases z with (z|z)|z
  .exact .inl (.inl z)
  .exact .inr z
  .exact .inl (.inr z)
 | ins c ns ds =>
  obtain⟨a,dx,fs,rfl,e0,e,m,f⟩:=h;refine⟨a,dx,fs,rfl,λz=>R.dom a z e0,e0,e,m,R.grA g e0 (by rw [e];exact nofun),f.keeps (aZ.less λb z=>?_)⟩
  rcases z with (z|z)|z
  .exact .inl (.inl z)
  .exact .inr z
  .exact .inl (.inr z)
noncomputable def FVc(K:a_)(O:Addr->Prop)(H:Hp)(v:V)(d:D):Prop:=FV K O H v d\/(∃a xs ds,v=.ref a/\d=.lst ds/\H a=some (.lst xs)/\FVs K O H xs ds) \/
 ∃a dx c fs ns ds,v=.ref a/\d=.obj c ns ds/\H a=some (.ins (cG K c) dx fs)/\fs.map G1=ns/\FVs K O H (fs.map IL) ds
noncomputable def cont(ρ:PSt):AV->Option D
 | .v d=>some d
 | .sl i=>match ρ[i]? with|some (some p)=>some p.d|_=>none
def Rel.cont{av:AV}{v:V}{d:D}(R:Rel K A ρ σ H)(h:AOk K (OO A ρ σ) σ H av v)(e:L2.cont ρ av=some d):FVc K (OO A ρ σ) H v d:=by
 cases av with
 | v d'=>cases e;exact .inl h
 | sl i =>
  have h:σ[i]?=some (some v):=h;simp only [L2.cont] at e
  split at e
  .rename_i p ep;cases e;obtain⟨v',s,r⟩:=R.get i p ep;rw [h] at s;cases s
   cases p with
   | dat d=>exact .inl r
   | own ds=>obtain⟨a,xs,e1,e2,f⟩:=r;exact .inr (.inl ⟨a,xs,ds,e1,rfl,e2,f⟩)
   | ins c ns ds=>obtain⟨a,dx,fs,e1,e2,m,f⟩:=r;exact .inr (.inr ⟨a,dx,c,fs,ns,ds,e1,rfl,e2,m,f⟩)
  .cases e
def FVc.lst{v:V}{ds:List D}(h:FVc K O H v (.lst ds)):∃a xs,v=.ref a/\H a=some (.lst xs)/\FVs K O H xs ds:=by
 rcases h with h|⟨a,xs,ds',e1,e2,e3,f⟩|⟨a,dx,c,fs,ns,ds',e1,e2,_⟩
 .cases h with
  | lst n s f=>exact⟨_,_,rfl,s,f⟩
 .cases e2;exact⟨a,xs,e1,e3,f⟩
 .cases e2
def FVc.fv{v:V}{d:D}(h:FVc K O H v d)(n:∀ds,d≠.lst ds)(n':∀c ns ds,d≠.obj c ns ds):FV K O H v d:=by
 rcases h with h|⟨a,xs,ds',e1,e2,e3,f⟩|⟨a,dx,c,fs,ns,ds',e1,e2,_⟩
 .exact h
 .exact absurd e2 (n _)
 .exact absurd e2 (n' _ _ _)
def FVc.tup{v:V}{ds:List D}(h:FVc K O H v (.tup ds)):∃a xs,v=.ref a/\¬ O a/\H a=some (.tup xs)/\FVs K O H xs ds:=by
 cases h.fv nofun nofun with
 | tup n s f=>exact⟨_,_,rfl,n,s,f⟩
def FVc.scr{v:V}{ns:List Int}(h:FVc K O H v (.scr ns)):∃a,v=.ref a/\SqL K H a (ns.map V.int):=by
 cases h.fv nofun nofun with
 | scr s=>exact⟨_,rfl,s.sq⟩
def FVc.int{v:V}{i:Int}(h:FVc K O H v (.int i)):v=.int i:=by cases h.fv nofun nofun;rfl
def FVc.bl{v:V}{i:Bool}(h:FVc K O H v (.bl i)):v=.bl i:=by cases h.fv nofun nofun;rfl
def FVc.str{v:V}{i:List Nat}(h:FVc K O H v (.str i)):v=.str (S i)/\i.length<=1000000:=by
 cases h.fv nofun nofun with
 | str _ z=>exact⟨rfl,z⟩
def FVc.non{v:V}(h:FVc K O H v .non):v=.non:=by cases h.fv nofun nofun;rfl
end
def pC(d:D):PTE:=λρ Q=>Q (.dat d) ρ
noncomputable def qo(i:Nat):PTE:=λρ Q=>match ρ[i]? with
 | some (some (.dat d))=>Q (.dat d) ρ
 | some (some (.own ds))=>Q (.dat (.lst ds)) (ρ.set i (some (.dat (.lst ds))))
 | some (some (.ins c ns ds))=>Q (.dat (.obj c ns ds)) (ρ.set i (some (.dat (.obj c ns ds))))
 | _=>False
noncomputable def pSl(i:Nat):PA1:=λρ Q=>match ρ[i]? with
 | some (some (.dat d))=>Q (.v d) ρ
 | some (some (.own _))=>Q (.sl i) ρ
 | some (some (.ins _ _ _))=>Q (.sl i) ρ
 | _=>False
noncomputable def pFz(pe:PTE):PA1:=λρ Q=>pe ρ λp ρ1=>Q (.v p.d) ρ1
def eJ:PTA:=λρ Q=>Q [] ρ
noncomputable def bH(pa:PA1)(pr:PTA):PTA:=λρ Q=>pa ρ λa ρ1=>pr ρ1 λas ρ2=>Q (a::as) ρ2
section
variable {K:a_}{ta tb tc:TE}{pa pb pc:PA1}{pe pe':PTE}{tr:TA}{pr:PTA}
def D7{v:V}{d:D}(h:∀O H,FV K O H v d):LE K (tC v) (pC d):=λA ρ σ H Q Q' R q k=>k v H (.dat d) ρ q (Fr.refl _ _ _) ⟨R,h _ _⟩
def le_int{i:Int}:LE K (tC (.int i)) (pC (.int i)):=D7 λ_ _=>.int i
def nW{i:Bool}:LE K (tC (.bl i)) (pC (.bl i)):=D7 λ_ _=>.bl i
def gh:LE K (tC .non) (pC .non):=D7 λ_ _=>.non
def le_str{l:List Nat}(h:l.length<=1000000:=by decide):LE K (tC (.str (S l))) (pC (.str l)):=D7 λ_ _=>.str l h
def ai{i:Nat}:LE K (bu i) (qo i):=by
 intro A ρ σ H Q Q' R q k;unfold qo at q
 split at q
 .rename_i d e;obtain⟨v,s,r⟩:=R.get i _ e;exact⟨v,s,k v H (.dat d) ρ q (Fr.refl _ _ _) ⟨R,r⟩⟩
 .rename_i ds e;obtain⟨R',f⟩:=R.frz e;obtain⟨v,s,r⟩:=R'.get i _ (p_ (h_.mp e).1);exact⟨v,s,k v H (.dat (.lst ds)) _ q f ⟨R',r⟩⟩
 .rename_i c ns ds e;obtain⟨R',f⟩:=R.frz e;obtain⟨v,s,r⟩:=R'.get i _ (p_ (h_.mp e).1);exact⟨v,s,k v H (.dat (.obj c ns ds)) _ q f ⟨R',r⟩⟩
 .exact q.elim
def ah{i:Nat}:LA1 K (bu i) (pSl i):=by
 intro A ρ σ H Q Q' R q k;unfold pSl at q
 split at q
 .rename_i d e;obtain⟨v,s,r⟩:=R.get i _ e;exact⟨v,s,k v H _ ρ q (Fr.refl _ _ _) R r⟩
 .rename_i e;obtain⟨v,s,r⟩:=R.get i _ e;exact⟨v,s,k v H _ ρ q (Fr.refl _ _ _) R s⟩
 .rename_i e;obtain⟨v,s,r⟩:=R.get i _ e;exact⟨v,s,k v H _ ρ q (Fr.refl _ _ _) R s⟩
 .exact q.elim
def ac(h:LE K ta pe):LA1 K ta (pFz pe):=λA ρ σ H Q Q' R q k=>h A ρ σ H _ Q' R q λv H' p ρ' q f o=>k v H' _ ρ' q f o.frz.1 o.frz.2
def ae:LAs K fi eJ:=λA ρ σ H Q Q' R q k=>k [] H [] ρ q (Fr.refl _ _ _) R .nil
def aa(h:LA1 K ta pa)(hr:LAs K tr pr):LAs K (ba ta tr) (bH pa pr):=λA ρ σ H Q Q' R q k =>
 h A ρ σ H _ _ R q λv H1 a ρ1 q1 f1 R1 o1=>hr A ρ1 σ H1 _ _ R1 q1 λvs H2 as ρ2 q2 f2 R2 o2=>k _ H2 _ ρ2 q2 (f1.trans f2) R2 (.cons (o1.keeps f2.keeps) o2)
noncomputable def LO(K:a_)(r:R2)(f:D->D->(PV->Prop)->Prop):Prop:=∀(O:Addr->Prop) (H:Hp) (x y:V) (a b:D) (Q:PV->Prop) (Q':VK),(∀b,O b->H b≠none)->FVc K O H x a->FVc K O H y b->f a b Q ->
 (∀v H' p,Q p->Gr H H'->uL K O H H' p v->Q' v H')->r x y H Q'
noncomputable def op2(f:D->D->(PV->Prop)->Prop)(ρ:PSt)(x y:AV)(Q:PKt):Prop:=match cont ρ x,cont ρ y with
 | some a,some b=>f a b λp=>Q p ρ
 | _,_=>False
noncomputable def pOp(f:D->D->(PV->Prop)->Prop)(pa pb:PA1):PTE:=λρ Q=>pa ρ λx ρ1=>pb ρ1 λy ρ2=>op2 f ρ2 x y Q
def Rel.dom2{A:Addr->Prop}{ρ:PSt}{σ:St}{H:Hp}(R:Rel K A ρ σ H):∀b,OO A ρ σ b->H b≠none:=λb z=>z.elim (R.dom b) R.wr
def al{r:R2}{f:D->D->(PV->Prop)->Prop}(o:LO K r f)(ha:LA1 K ta pa)(hb:LA1 K tb pb):LE K (tOp r ta tb) (pOp f pa pb):=λA ρ σ H Q Q' R q k =>
 ha A ρ σ H _ _ R q λv H1 a ρ1 q1 f1 R1 o1=>hb A ρ1 σ H1 _ _ R1 q1 λw H2 b ρ2 q2 f2 R2 o2=>by
  unfold op2 at q2
  split at q2
  .rename_i da db e1 e2;exact o _ H2 v w da db _ _ R2.dom2 (R2.cont (o1.keeps f2.keeps) e1) (R2.cont o2 e2) q2 λz H3 p q3 g ov=>k z H3 p ρ2 q3 ((f1.trans f2).trans g.fr) ((ov.out R2 g).h0 λb z=>f2.dm b (f1.dm b z))
  .exact q2.elim
noncomputable def LU(K:a_)(r:V->Hp->VK->Prop)(f:D->(PV->Prop)->Prop):Prop:=∀(O:Addr->Prop) (H:Hp) (x:V) (a:D) (Q:PV->Prop) (Q':VK),(∀b,O b->H b≠none)->FVc K O H x a->f a Q ->
 (∀v H' p,Q p->Gr H H'->uL K O H H' p v->Q' v H')->r x H Q'
noncomputable def op1(f:D->(PV->Prop)->Prop)(ρ:PSt)(x:AV)(Q:PKt):Prop:=match cont ρ x with
 | some a=>f a λp=>Q p ρ
 | _=>False
noncomputable def pUn(f:D->(PV->Prop)->Prop)(pa:PA1):PTE:=λρ Q=>pa ρ λx ρ1=>op1 f ρ1 x Q
def Ax{r:V->Hp->VK->Prop}{f:D->(PV->Prop)->Prop}(o:LU K r f)(ha:LA1 K ta pa):LE K (tUn r ta) (pUn f pa):=λA ρ σ H Q Q' R q k =>
 ha A ρ σ H _ _ R q λv H1 a ρ1 q1 f1 R1 o1=>by
  unfold op1 at q1
  split at q1
  .rename_i da e1;exact o _ H1 v da _ _ R1.dom2 (R1.cont o1 e1) q1 λz H3 p q3 g ov=>k z H3 p ρ1 q3 (f1.trans g.fr) ((ov.out R1 g).h0 λb z=>f1.dm b z)
  .exact q1.elim
inductive BC (K:a_) (O:Addr->Prop) (H:Hp):List V->List D->Prop
 | nil:BC K O H [] []
 | cons {x:V}{d:D}{xs:List V}{ds:List D}:FVc K O H x d->BC K O H xs ds->BC K O H (x::xs) (d::ds)
noncomputable def conts(ρ:PSt):List AV->Option (List D)
 | []=>some []
 | a::r=>match cont ρ a,conts ρ r with
  | some d,some ds=>some (d::ds)
  | _,_=>none
theorem Rel.conts{A:Addr->Prop}{ρ:PSt}{σ:St}{H:Hp}(R:Rel K A ρ σ H):∀{as:List AV}{vs:List V}{ds:List D},Aw K (OO A ρ σ) σ H as vs->L2.conts ρ as=some ds->BC K (OO A ρ σ) H vs ds
 | _,_,_,.nil,e=>by cases e;exact .nil
 | _,_,_,.cons a b,e=>by
  unfold L2.conts at e
  split at e
  .rename_i e1 e2;cases e;exact .cons (R.cont a e1) (R.conts b e2)
  .cases e
noncomputable def LC(K:a_)(r:List V->Hp->VK->Prop)(f:List D->(PV->Prop)->Prop):Prop:=∀(O:Addr->Prop) (H:Hp) (xs:List V) (as:List D) (Q:PV->Prop) (Q':VK),(∀b,O b->H b≠none)->BC K O H xs as->f as Q ->
 (∀v H' p,Q p->Gr H H'->uL K O H H' p v->Q' v H')->r xs H Q'
noncomputable def opN(f:List D->(PV->Prop)->Prop)(ρ:PSt)(as:List AV)(Q:PKt):Prop:=match conts ρ as with
 | some ds=>f ds λp=>Q p ρ
 | _=>False
noncomputable def pCB(f:List D->(PV->Prop)->Prop)(pr:PTA):PTE:=λρ Q=>pr ρ λas ρ1=>opN f ρ1 as Q
def aU{r:List V->Hp->VK->Prop}{f:List D->(PV->Prop)->Prop}(o:LC K r f)(ha:LAs K tr pr):LE K (tCB r tr) (pCB f pr):=λA ρ σ H Q Q' R q k =>
 ha A ρ σ H _ _ R q λvs H1 as ρ1 q1 f1 R1 o1=>by
  unfold opN at q1
  split at q1
  .rename_i ds e1;exact o _ H1 vs ds _ _ R1.dom2 (R1.conts o1 e1) q1 λz H3 p q3 g ov=>k z H3 p ρ1 q3 (f1.trans g.fr) ((ov.out R1 g).h0 λb z=>f1.dm b z)
  .exact q1.elim
noncomputable def avD:List AV->Option (List D)
 | []=>some []
 | .v d::r=>match avD r with|some ds=>some (d::ds)|none=>none
 | .sl _::_=>none
theorem Aw.avD{O:Addr->Prop}{σ:St}{H:Hp}:∀{as:List AV}{vs:List V}{ds:List D},Aw K O σ H as vs->L2.avD as=some ds->FVs K O H vs ds
 | _,_,_,.nil,e=>by cases e;exact .nil
 | .v d::r,_,_,.cons a b,e=>by
  simp only [L2.avD] at e
  split at e
  .rename_i e1;cases e;exact .cons a (b.avD e1)
  .cases e
 | .sl i::r,_,_,.cons a b,e=>by cases e
noncomputable def FB(pr:PTA):PTE:=λρ Q=>pr ρ λas ρ1=>match avD as with
 | some ds=>ds.length<=1000000/\Q (.own ds) ρ1
 | _=>False
noncomputable def Gi(pr:PTA):PTE:=λρ Q=>pr ρ λas ρ1=>match avD as with
 | some ds=>ds.length<=1000000/\Q (.dat (.tup ds)) ρ1
 | _=>False
def cq(ha:LAs K tr pr):LE K (Ft tr) (FB pr):=λA ρ σ H Q Q' R q k =>
 ha A ρ σ H _ _ R q λvs H1 as ρ1 q1 f1 R1 o1=>by
  split at q1
  .rename_i ds e1;have fs:=o1.avD e1;refine⟨sz _ (by rw [fs.length];exact q1.1),λp hp=>k _ _ (.own ds) ρ1 q1.2 (f1.trans (Fr.new hp)) ?_⟩;have g:Gr H1 (upd H1 p (.lst vs)):=Gr.new hp;exact (uL.out (p:=.own ds) R1 g ⟨p,vs,rfl,hp,bd,fs.keeps (aZ.fresh hp)⟩).h0 λb z=>f1.dm b z
  .exact q1.elim
def lg(ha:LAs K tr pr):LE K (Cd tr) (Gi pr):=λA ρ σ H Q Q' R q k =>
 ha A ρ σ H _ _ R q λvs H1 as ρ1 q1 f1 R1 o1=>by
  split at q1
  .rename_i ds e1;have fs:=o1.avD e1;refine⟨sz _ (by rw [fs.length];exact q1.1),λp hp=>k _ _ (.dat (.tup ds)) ρ1 q1.2 (f1.trans (Fr.new hp)) ⟨R1.grow hp,?_⟩⟩;exact .tup (R1.oo hp) bd (fs.keeps (Fr.new hp).keeps)
  .exact q1.elim
noncomputable def pB(pe:PTE):PTT:=λρ Q=>pe ρ λp ρ1=>match p with
 | .dat (.bl b)=>Q b ρ1
 | _=>False
def mI(h:LE K ta pe):LT K (tB ta) (pB pe):=λA ρ σ H Q Q' R q k=>h A ρ σ H _ _ R q λv H1 p ρ1 q1 f1 o1=>by
 split at q1
 .rename_i b;obtain⟨R1,f⟩:=o1;cases f;exact⟨b,rfl,k b H1 ρ1 q1 f1 R1⟩
 .exact q1.elim
def dn(h:LE K ta pe):LT K (ur ta) (pB pe):=mI h
noncomputable def Gj(a b:PTT):PTT:=λρ Q=>a ρ λc ρ1=>ic c (b ρ1 Q) (Q false ρ1)
noncomputable def pOr(a b:PTT):PTT:=λρ Q=>a ρ λc ρ1=>ic c (Q true ρ1) (b ρ1 Q)
noncomputable def EA(a:PTT):PTT:=λρ Q=>a ρ λc ρ1=>Q (!c) ρ1
variable {tta ttb:TT}{pta ptb:PTT}
def qq(ha:LT K tta pta)(hb:LT K ttb ptb):LT K (Fg tta ttb) (Gj pta ptb):=λA ρ σ H Q Q' R q k=>ha A ρ σ H _ _ R q λc H1 ρ1 q1 f1 R1=>by
 cases c with
 | true=>exact hb A ρ1 σ H1 _ _ R1 q1 λb H2 ρ2 q2 f2 R2=>k b H2 ρ2 q2 (f1.trans f2) R2
 | false=>exact k false H1 ρ1 q1 f1 R1
def nX(ha:LT K tta pta)(hb:LT K ttb ptb):LT K (tOr tta ttb) (pOr pta ptb):=λA ρ σ H Q Q' R q k=>ha A ρ σ H _ _ R q λc H1 ρ1 q1 f1 R1=>by
 cases c with
 | false=>exact hb A ρ1 σ H1 _ _ R1 q1 λb H2 ρ2 q2 f2 R2=>k b H2 ρ2 q2 (f1.trans f2) R2
 | true=>exact k true H1 ρ1 q1 f1 R1
def eY(ha:LT K tta pta):LT K (Eb tta) (EA pta):=λA ρ σ H Q Q' R q k=>ha A ρ σ H _ _ R q λc H1 ρ1 q1 f1 R1=>k _ H1 ρ1 q1 f1 R1
noncomputable def EB(a b:PTE):PTE:=λρ Q=>a ρ λp ρ1=>match p with
 | .dat (.bl c)=>ic c (b ρ1 Q) (Q (.dat (.bl false)) ρ1)
 | _=>False
noncomputable def Gk(a b:PTE):PTE:=λρ Q=>a ρ λp ρ1=>match p with
 | .dat (.bl c)=>ic c (Q (.dat (.bl true)) ρ1) (b ρ1 Q)
 | _=>False
noncomputable def EC(a:PTE):PTE:=λρ Q=>a ρ λp ρ1=>match p with
 | .dat (.bl c)=>Q (.dat (.bl (!c))) ρ1
 | _=>False
def tM(ha:LE K ta pe)(hb:LE K tb pe'):LE K (B0 ta tb) (EB pe pe'):=λA ρ σ H Q Q' R q k=>ha A ρ σ H _ _ R q λv H1 p ρ1 q1 f1 o1=>by
 split at q1
 .rename_i c;obtain⟨R1,f⟩:=o1;cases f;refine⟨c,rfl,?_⟩
  cases c with
  | true=>exact hb A ρ1 σ H1 _ _ R1 q1 λb H2 p2 ρ2 q2 f2 o2=>k b H2 p2 ρ2 q2 (f1.trans f2) (o2.h0 λb z=>f1.dm b z)
  | false=>exact k _ H1 _ ρ1 q1 f1 ⟨R1,.bl false⟩
 .exact q1.elim
def CS(ha:LE K ta pe)(hb:LE K tb pe'):LE K (Fh ta tb) (Gk pe pe'):=λA ρ σ H Q Q' R q k=>ha A ρ σ H _ _ R q λv H1 p ρ1 q1 f1 o1=>by
 split at q1
 .rename_i c;obtain⟨R1,f⟩:=o1;cases f;refine⟨c,rfl,?_⟩
  cases c with
  | false=>exact hb A ρ1 σ H1 _ _ R1 q1 λb H2 p2 ρ2 q2 f2 o2=>k b H2 p2 ρ2 q2 (f1.trans f2) (o2.h0 λb z=>f1.dm b z)
  | true=>exact k _ H1 _ ρ1 q1 f1 ⟨R1,.bl true⟩
 .exact q1.elim
def yN(ha:LE K ta pe):LE K (B1 ta) (EC pe):=λA ρ σ H Q Q' R q k=>ha A ρ σ H _ _ R q λv H1 p ρ1 q1 f1 o1=>by
 split at q1
 .rename_i c;obtain⟨R1,f⟩:=o1;cases f;exact⟨c,rfl,k _ H1 _ ρ1 q1 f1 ⟨R1,.bl (!c)⟩⟩
 .exact q1.elim
noncomputable def pIf(t:PTT)(a b:PTE):PTE:=λρ Q=>t ρ λc ρ1=>ic c (a ρ1 Q) (b ρ1 Q)
def ED(ht:LT K tta pta)(ha:LE K ta pe)(hb:LE K tb pe'):LE K (tIf tta ta tb) (pIf pta pe pe'):=λA ρ σ H Q Q' R q k=>ht A ρ σ H _ _ R q λc H1 ρ1 q1 f1 R1=>by
 cases c with
 | true=>exact ha A ρ1 σ H1 _ _ R1 q1 λb H2 p2 ρ2 q2 f2 o2=>k b H2 p2 ρ2 q2 (f1.trans f2) (o2.h0 λb z=>f1.dm b z)
 | false=>exact hb A ρ1 σ H1 _ _ R1 q1 λb H2 p2 ρ2 q2 f2 o2=>k b H2 p2 ρ2 q2 (f1.trans f2) (o2.h0 λb z=>f1.dm b z)
end
abbrev F2:=D->D->(PV->Prop)->Prop
noncomputable def fI0(g:Int->Int->D):F2
 | .int i,.int j,Q=>Q (.dat (g i j))
 | _,_,_=>False
noncomputable def fI(C:Int->Int->Prop)(g:Int->Int->D):F2
 | .int i,.int j,Q=>C i j/\Q (.dat (g i j))
 | _,_,_=>False
section
variable {K:a_}{X:Cx}
def Ay{g:Int->Int->V}{g':Int->Int->D}(h:∀i j O H,FV K O H (g i j) (g' i j)):LO K (rI0 g) (fI0 g'):=by
 intro O H x y a b Q Q' dom fx fy q k;unfold fI0 at q
 split at q
 .rename_i i j;exact⟨i,j,fx.int,fy.int,k _ H _ q (Gr.refl _) (h i j _ _)⟩
 .exact q.elim
def FC{C:Int->Int->Prop}{g:Int->Int->V}{g':Int->Int->D}(h:∀i j O H,FV K O H (g i j) (g' i j)):LO K (rI C g) (fI C g'):=by
 intro O H x y a b Q Q' dom fx fy q k;unfold fI at q
 split at q
 .rename_i i j;exact⟨i,j,fx.int,fy.int,q.1,k _ H _ q.2 (Gr.refl _) (h i j _ _)⟩
 .exact q.elim
def eL{O:Addr->Prop}{H:Hp}{xs:List V}{ds:List D}{p:Addr}(hp:H p=none)(f:FVs K O H xs ds):uL K O H (upd H p (.lst xs)) (.own ds) (.ref p) :=
 ⟨p,xs,rfl,hp,bd,f.keeps (aZ.fresh hp)⟩
def nY{O:Addr->Prop}{H:Hp}{xs:List V}{ds:List D}{p:Addr}(dom:∀b,O b->H b≠none)(hp:H p=none)(f:FVs K O H xs ds):uL K O H (upd H p (.tup xs)) (.dat (.tup ds)) (.ref p) :=
 .tup (λz=>dom p z hp) bd (f.keeps λb o n e=>⟨n,by rw [aR (bb e hp)];exact e⟩)
noncomputable def EE:R2:=λx y H Q=>∃i j,x=.str (S i)/\y=.str (S j)/\i.length+j.length<=sizeLine/\Q (.str (S (i++j))) H
noncomputable def Az(K:a_):R2:=λx y H Q=>rI0 (λi j=>.int (i+j)) x y H Q\/EE x y H Q\/CJ K x y H Q\/Ch K x y H Q
def EF(K:a_)(e:X.K=K):OpR X (binaryOp .Add) (Az K):=by
 subst e;exact OpR.or B7 (OpR.or Aj (OpR.or Ap zX))
noncomputable def EG:F2
 | .int i,.int j,Q=>Q (.dat (.int (i+j)))
 | .str a,.str b,Q=>a.length+b.length<=1000000/\Q (.dat (.str (a++b)))
 | .lst a,.lst b,Q=>a.length+b.length<=1000000/\Q (.own (a++b))
 | .scr a,.lst b,Q=>a.length+b.length<=1000000/\Q (.own (a.map .int++b))
 | .tup a,.tup b,Q=>a≠[]/\a.length+b.length<=1000000/\Q (.dat (.tup (a++b)))
 | _,_,_=>False
def yO:LO K (Az K) EG:=by
 intro O H x y a b Q Q' dom fx fy q k;unfold EG at q
 split at q
 .rename_i i j;exact .inl ⟨i,j,fx.int,fy.int,k _ H _ q (Gr.refl _) (.int _)⟩
 .rename_i i j;exact .inr (.inl ⟨i,j,fx.str.1,fy.str.1,sz _ q.1,k _ H _ q.2 (Gr.refl _) (.str _ (by rw [length_append];exact q.1))⟩)
 .rename_i i j;obtain⟨a,xs,rfl,e1,f1⟩:=fx.lst;obtain⟨b,ys,rfl,e2,f2⟩:=fy.lst;exact .inr (.inr (.inl ⟨a,b,xs,ys,rfl,rfl,SqL.of e1,SqL.of e2,sz _ (by rw [f1.length,f2.length];exact q.1),λp hp=>k _ _ _ q.2 (Gr.new hp) (eL hp (f1.append f2))⟩))
 .rename_i i j;obtain⟨a,rfl,e1⟩:=fx.scr;obtain⟨b,ys,rfl,e2,f2⟩:=fy.lst;exact .inr (.inr (.inl ⟨a,b,_,ys,rfl,rfl,e1,SqL.of e2,sz _ (by rw [length_map,f2.length];exact q.1),λp hp=>k _ _ _ q.2 (Gr.new hp) (eL hp ((FVs.of_ints i).append f2))⟩))
 .rename_i i j;obtain⟨a,xs,rfl,n1,e1,f1⟩:=fx.tup;obtain⟨b,ys,rfl,n2,e2,f2⟩:=fy.tup;have l1:=f1.length;have l2:=f2.length
  refine .inr (.inr (.inr ⟨a,b,xs,ys,rfl,rfl,SqT.of e1,SqT.of e2,λz=>q.1 ?_,sz _ (by rw [l1,l2];exact q.2.1),λz=>?_,λ_ p hp=>k _ _ _ q.2.2 (Gr.new hp) (nY dom hp (f1.append f2))⟩))
  .exact Hl.mp (by rw [<- l1,z];rfl)
  .have:j=[]:=Hl.mp (by rw [<- l2,z];rfl);subst this;exact k _ H _ q.2.2 (Gr.refl _) (by rw [append_nil];exact .tup n1 e1 f1)
 .exact q.elim
def dN:LO K (rI0 λi j=>.int (i - j)) (fI0 λi j=>.int (i - j)):=Ay λ_ _ _ _=>.int _
def lh:LO K (rI (λ_ j=>0<j) λi j=>.int (i % j)) (fI (λ_ j=>0<j) λi j=>.int (i % j)):=FC λ_ _ _ _=>.int _
def li:LO K (rI Ee λi j=>.int (i / j)) (fI (λ_ j=>0<j/\j<1073741824) λi j=>.int (i / j)):=FC λ_ _ _ _=>.int _
noncomputable def EH:R2:=λx y H Q=>∃l n,x=.str (S l)/\y=.int n/\-1000000<=n/\n<=1000000/\n.toNat*l.length<=sizeLine/\Q (.str (S (g9 l n))) H
noncomputable def x6:R2:=λx y H Q=>rI yH (λi j=>.int (i*j)) x y H Q\/EH x y H Q\/Fy x y H Q
def jF:OpR X (binaryOp .Mult) x6:=OpR.or B9 (OpR.or uG Co)
noncomputable def EI:F2
 | .int i,.int j,Q=>((-(2^64)<i/\i<2^64)\/(-(2^64)<j/\j<2^64))/\Q (.dat (.int (i*j)))
 | .str a,.int n,Q=>(-1000000<=n/\n<=1000000/\n.toNat*a.length<=1000000)/\Q (.dat (.str (g9 a n)))
 | .lst a,.int n,Q=>(-1000000<=n/\n<=1000000/\a.length*n.toNat<=1000000)/\Q (.own (g9 a n))
 | _,_,_=>False
theorem FVs.rep{O:Addr->Prop}{H:Hp}{xs:List V}{ds:List D}(f:FVs K O H xs ds):∀n,FVs K O H (f_ n xs).flatten (f_ n ds).flatten
 | 0=>.nil
 | n+1=>by rw [replicate_succ,replicate_succ,flatten_cons,flatten_cons];exact f.append (f.rep n)
def eZ:LO K x6 EI:=by
 intro O H x y a b Q Q' dom fx fy q k;unfold EI at q
 split at q
 .rename_i i j;exact .inl ⟨i,j,fx.int,fy.int,q.1,k _ H _ q.2 (Gr.refl _) (.int _)⟩
 .rename_i i j;exact .inr (.inl ⟨i,j,fx.str.1,fy.int,q.1.1,q.1.2.1,sz _ q.1.2.2,k _ H _ q.2 (Gr.refl _) (.str _ (by rw [cF];exact q.1.2.2))⟩)
 .rename_i i j;obtain⟨a,xs,rfl,e1,f1⟩:=fx.lst;exact .inr (.inr ⟨a,j,xs,rfl,fy.int,e1,by omega,by omega,sz _ (by rw [f1.length];exact q.1.2.2),λp hp=>k _ _ _ q.2 (Gr.new hp) (eL hp (f1.rep _))⟩)
 .exact q.elim
noncomputable def FD:R2:=λx y H Q=>rI0 (λi j=>.bl (decide (i<j))) x y H Q\/∃i j,x=.str i/\y=.str j/\Q (.bl (decide (i.cps.toList<j.cps.toList))) H
noncomputable def D8:R2:=λx y H Q=>rI0 (λi j=>.bl (decide (i<=j))) x y H Q\/∃i j,x=.str i/\y=.str j/\Q (.bl (!decide (j.cps.toList<i.cps.toList))) H
def CT:OpR X (compareOp .Lt) FD:=OpR.or Eh vy
def BD:OpR X (compareOp .LtE) D8:=OpR.or Ei vR
noncomputable def fLt:F2
 | .int i,.int j,Q=>Q (.dat (.bl (decide (i<j))))
 | .str i,.str j,Q=>Q (.dat (.bl (decide (i<j))))
 | _,_,_=>False
noncomputable def fLe:F2
 | .int i,.int j,Q=>Q (.dat (.bl (decide (i<=j))))
 | .str i,.str j,Q=>Q (.dat (.bl (!decide (j<i))))
 | _,_,_=>False
def wt:LO K FD fLt:=by
 intro O H x y a b Q Q' dom fx fy q k;unfold fLt at q
 split at q
 .rename_i i j;exact .inl ⟨i,j,fx.int,fy.int,k _ H _ q (Gr.refl _) (.bl _)⟩
 .rename_i i j;exact .inr ⟨_,_,fx.str.1,fy.str.1,k _ H _ q (Gr.refl _) (.bl _)⟩
 .exact q.elim
def uM:LO K D8 fLe:=by
 intro O H x y a b Q Q' dom fx fy q k;unfold fLe at q
 split at q
 .rename_i i j;exact .inl ⟨i,j,fx.int,fy.int,k _ H _ q (Gr.refl _) (.bl _)⟩
 .rename_i i j;exact .inr ⟨_,_,fx.str.1,fy.str.1,k _ H _ q (Gr.refl _) (.bl _)⟩
 .exact q.elim
def h8:LO K (rI0 λi j=>.bl (decide (j<i))) (fI0 λi j=>.bl (decide (j<i))):=Ay λ_ _ _ _=>.bl _
def CU:LO K (rI0 λi j=>.bl (decide (j<=i))) (fI0 λi j=>.bl (decide (j<=i))):=Ay λ_ _ _ _=>.bl _
mutual
noncomputable def D.py:D->ID
 | .non=>.none|.bl b=>.bool b|.int i=>.int i|.str l=>.str (S l)|.ty _=>.none
 | .lst ds=>.list (D.pys ds)|.tup ds=>.tuple (D.pys ds)|.scr ns=>.list (ns.map .int)|.dic _ _=>.none|.obj _ _ _=>.none|.exc _ _ _=>.none
noncomputable def D.pys:List D->List ID
 | []=>[]
 | d::r=>d.py::D.pys r
end
mutual
noncomputable def D.plain:D->Bool
 | .non=>true|.bl _=>true|.int _=>true|.str _=>true|.ty _=>false
 | .lst ds=>D.plains ds|.tup ds=>D.plains ds|.scr _=>true|.dic _ _=>false|.obj _ _ _=>false|.exc _ _ _=>false
noncomputable def D.plains:List D->Bool
 | []=>true
 | d::r=>d.plain && D.plains r
end
mutual
theorem FV.dv{O:Addr->Prop}{H:Hp}:∀{v:V}{d:D},FV K O H v d->d.plain=true->DV K H v d.py
 | _,_,.non,_=>.non
 | _,_,.bl b,_=>.bl b
 | _,_,.int i,_=>.int i
 | _,_,.str l h,_=>.str (S l)
 | _,_,.ty n,p=>nomatch p
 | _,_,.scr s,_=>.lst s.sq (DVs.ints _)
 | _,_,.lst n e f,p=>.lst (SqL.of e) (FVs.dvs f p)
 | _,_,.tup n e f,p=>.tup (SqT.of e) (FVs.dvs f p)
 | _,_,.dic _ _ _ _,p=>nomatch p
 | _,_,.obj _ _ _ _,p=>nomatch p
 | _,_,.exc0 _ _,p=>nomatch p
 | _,_,.exc1 _ _ _ _ _ _,p=>nomatch p
theorem FVs.dvs{O:Addr->Prop}{H:Hp}:∀{vs:List V}{ds:List D},FVs K O H vs ds->D.plains ds=true->DVs K H vs (D.pys ds)
 | _,_,.nil,_=>.nil
 | _,_,.cons a b,p=>by
  have p:(_ && _)=true:=p;rw [and_eq_true] at p;exact .cons (FV.dv a p.1) (FVs.dvs b p.2)
end
def FVc.dv{O:Addr->Prop}{H:Hp}{v:V}{d:D}(h:FVc K O H v d)(p:d.plain=true):DV K H v d.py:=by
 rcases h with h|⟨a,xs,ds',rfl,rfl,e3,f⟩|⟨a,dx,c,fs,ns,ds',e1,rfl,_⟩
 .exact h.dv p
 .exact .lst (SqL.of e3) (f.dvs p)
 .cases p
noncomputable def CV(K:a_)(neg:Bool):R2:=λx y H Q=>rI0 (λi j=>.bl (if neg then !decide (i=j) else decide (i=j))) x y H Q\/(∃i j,x=.str (S i)/\y=.str (S j)/\Q (.bl (if neg then !decide (i=j) else decide (i=j))) H)\/Ep K neg x y H Q
def Gm(K:a_)(e:X.K=K)(hu:X.A.units+64<cLine):OpR X (compareOp .Eq) (CV K false):=by
 subst e;exact OpR.or CB (OpR.or Cz (Cv hu))
def Gn(K:a_)(e:X.K=K)(hu:X.A.units+64<cLine):OpR X (compareOp .NotEq) (CV K true):=by
 subst e;exact OpR.or CC (OpR.or CA (Cw hu))
noncomputable def yP(a b:D):Prop:=a.plain=true/\b.plain=true/\Hg a.py=true/\Hg b.py=true
def deq(a b:D):Bool:=Ib a.py b.py
noncomputable def fEq:F2
 | .int i,.int j,Q=>Q (.dat (.bl (decide (i=j))))
 | .str i,.str j,Q=>Q (.dat (.bl (decide (i=j))))
 | a,b,Q=>yP a b/\Q (.dat (.bl (deq a b)))
noncomputable def fNe:F2
 | .int i,.int j,Q=>Q (.dat (.bl (!decide (i=j))))
 | .str i,.str j,Q=>Q (.dat (.bl (!decide (i=j))))
 | a,b,Q=>yP a b/\Q (.dat (.bl (!deq a b)))
def EJ:LO K (CV K false) fEq:=by
 intro O H x y a b Q Q' dom fx fy q k;unfold fEq at q
 split at q
 .rename_i i j;exact .inl ⟨i,j,fx.int,fy.int,k _ H _ q (Gr.refl _) (.bl _)⟩
 .rename_i i j;exact .inr (.inl ⟨i,j,fx.str.1,fy.str.1,k _ H _ q (Gr.refl _) (.bl _)⟩)
 .exact .inr (.inr ⟨_,_,fx.dv q.1.1,fy.dv q.1.2.1,q.1.2.2.1,q.1.2.2.2,k _ H _ q.2 (Gr.refl _) (.bl _)⟩)
def EK:LO K (CV K true) fNe:=by
 intro O H x y a b Q Q' dom fx fy q k;unfold fNe at q
 split at q
 .rename_i i j;exact .inl ⟨i,j,fx.int,fy.int,k _ H _ q (Gr.refl _) (.bl _)⟩
 .rename_i i j;exact .inr (.inl ⟨i,j,fx.str.1,fy.str.1,k _ H _ q (Gr.refl _) (.bl _)⟩)
 .exact .inr (.inr ⟨_,_,fx.dv q.1.1,fy.dv q.1.2.1,q.1.2.2.1,q.1.2.2.2,k _ H _ q.2 (Gr.refl _) (.bl _)⟩)
noncomputable def FE(neg:Bool):R2:=λx y H Q=>(∃b c,x=.bl b/\y=.bl c/\Q (.bl (if neg then !decide (b=c) else decide (b=c))) H)\/(y=.non/\Q (.bl (if neg then !decide (x=.non) else decide (x=.non))) H)
def CW:OpR X (compareOp .Is) (FE false):=OpR.or CM Cb
noncomputable def D.isNon:D->Bool
 | .non=>true
 | _=>false
def FVc.isNon{O:Addr->Prop}{H:Hp}{v:V}{d:D}(h:FVc K O H v d):decide (v=.non)=d.isNon:=by
 rcases h with h|⟨a,xs,ds',rfl,rfl,e3,f⟩|⟨a,dx,c,fs,ns,ds',rfl,rfl,_⟩
 .cases h <;> rfl
 .rfl
 .rfl
noncomputable def fIs(neg:Bool):F2
 | .bl b,.bl c,Q=>Q (.dat (.bl (if neg then !decide (b=c) else decide (b=c))))
 | a,.non,Q=>Q (.dat (.bl (if neg then !a.isNon else a.isNon)))
 | _,_,_=>False
def wu{neg:Bool}:LO K (FE neg) (fIs neg):=by
 intro O H x y a b Q Q' dom fx fy q k;unfold fIs at q
 split at q
 .rename_i b c;exact .inl ⟨b,c,fx.bl,fy.bl,k _ H _ q (Gr.refl _) (.bl _)⟩
 .exact .inr ⟨fy.non,by rw [fx.isNon];exact k _ H _ q (Gr.refl _) (.bl _)⟩
 .exact q.elim
noncomputable def D.fl:D->Bool
 | .non=>true|.bl _=>true|.int _=>true|.str _=>true
 | _=>false
noncomputable def eqF:D->D->Bool
 | .non,.non=>true
 | .bl a,.bl b=>a == b
 | .bl a,.int b=>(if a then 1 else 0) == b
 | .int a,.bl b=>a == (if b then 1 else 0)
 | .int a,.int b=>a == b
 | .str a,.str b=>a == b
 | _,_=>false
noncomputable def inD(x:D)(xs:List D):Bool:=xs.any λy=>eqF y x
def FV.fl{O:Addr->Prop}{H:Hp}{v:V}{d:D}(h:FV K O H v d)(f:d.fl=true):mG v=true:=by cases h <;> first|rfl|cases f
def CY(a b:List Nat):(S a == S b)=(a == b):=by
 by_cases h:a=b
 .subst h;rw [beq_self_eq_true,beq_self_eq_true]
 .rw [beq_eq_false_iff_ne.mpr h,beq_eq_false_iff_ne.mpr (Gf h)]
def FV.eqF{O:Addr->Prop}{H:Hp}{v w:V}{d e:D}(h:FV K O H v d)(f:d.fl=true)(h':FV K O H w e)(f':e.fl=true):eqV v w=L2.eqF d e:=by
 cases h <;> first|(cases f;done)|(cases h' <;> first|(cases f';done)|rfl|exact CY _ _)
theorem FVs.inD{O:Addr->Prop}{H:Hp}{v:V}{d:D}(h:FV K O H v d)(f:d.fl=true):∀{xs:List V}{ds:List D},FVs K O H xs ds->ds.all D.fl=true->xs.all mG=true/\inV v xs=L2.inD d ds
 | _,_,.nil,_=>⟨rfl,rfl⟩
 | _,_,.cons a b,g=>by
  rw [all_cons,and_eq_true] at g;obtain⟨i1,i2⟩:=b.inD h f g.2;refine⟨by rw [all_cons,a.fl g.1,i1];rfl,?_⟩;unfold inV L2.inD at i2 ⊢;rw [any_cons,any_cons,i2,a.eqF g.1 h f]
noncomputable def fIn(neg:Bool):F2
 | a,.lst ds,Q=>(a.fl=true/\ds.all D.fl=true)/\Q (.dat (.bl (if neg then !inD a ds else inD a ds)))
 | a,.tup ds,Q=>(a.fl=true/\ds.all D.fl=true)/\Q (.dat (.bl (if neg then !inD a ds else inD a ds)))
 | _,_,_=>False
def FVc.fl{O:Addr->Prop}{H:Hp}{v:V}{d:D}(h:FVc K O H v d)(f:d.fl=true):FV K O H v d:=h.fv (λ_ z=>by rw [z] at f;cases f) (λ_ _ _ z=>by rw [z] at f;cases f)
def Go(K:a_)(e:X.K=K):OpR X (compareOp .In) (rIn K false):=by subst e;exact vI
def AA(K:a_)(e:X.K=K):OpR X (compareOp .NotIn) (rIn K true):=by subst e;exact p6
def CZ{neg:Bool}:LO K (rIn K neg) (fIn neg):=by
 intro O H x y a b Q Q' dom fx fy q k;unfold fIn at q
 split at q
 .obtain⟨p,xs,rfl,e1,f1⟩:=fy.lst;obtain⟨g1,g2⟩:=f1.inD (fx.fl q.1.1) q.1.1 q.1.2;exact⟨p,xs,rfl,.inl (SqL.of e1),(fx.fl q.1.1).fl q.1.1,g1,by rw [g2];exact k _ H _ q.2 (Gr.refl _) (.bl _)⟩
 .obtain⟨p,xs,rfl,n1,e1,f1⟩:=fy.tup;obtain⟨g1,g2⟩:=f1.inD (fx.fl q.1.1) q.1.1 q.1.2;exact⟨p,xs,rfl,.inr (SqT.of e1),(fx.fl q.1.1).fl q.1.1,g1,by rw [g2];exact k _ H _ q.2 (Gr.refl _) (.bl _)⟩
 .exact q.elim
noncomputable def uN(K:a_):R2:=λx y H Q=>Fv K x y H Q\/Fw K x y H Q\/Cy x y H Q
def dh(K:a_)(e:X.K=K):IxR X (uN K):=by
 subst e;exact IxR.or z0 (IxR.or Ci Ah)
noncomputable def fIx:F2
 | .lst ds,.int i,Q=>∃d,atI ds i=some d/\Q (.dat d)
 | .tup ds,.int i,Q=>∃d,atI ds i=some d/\Q (.dat d)
 | .scr ns,.int i,Q=>∃d,atI ns i=some d/\Q (.dat (.int d))
 | .str l,.int i,Q=>∃c,atI l i=some c/\Q (.dat (.str [c]))
 | _,_,_=>False
def FVs.atI{O:Addr->Prop}{H:Hp}{vs:List V}{ds:List D}{i:Int}{d:D}(f:FVs K O H vs ds)(h:L2.atI ds i=some d):∃v,L2.atI vs i=some v/\FV K O H v d:=by
 unfold L2.atI at h ⊢;rw [f.length]
 cases e:ixN ds.length i with
 | none=>rw [e] at h;cases h
 | some j=>rw [e] at h;exact f.getD h
def bg:LO K (uN K) fIx:=by
 intro O H x y a b Q Q' dom fx fy q k;unfold fIx at q
 split at q
 .obtain⟨d,hd,q⟩:=q;obtain⟨p,xs,rfl,e1,f1⟩:=fx.lst;obtain⟨v,hv,fv⟩:=f1.atI hd;exact .inl ⟨p,xs,_,v,rfl,fy.int,SqL.of e1,hv,k _ H _ q (Gr.refl _) fv⟩
 .obtain⟨d,hd,q⟩:=q;obtain⟨p,xs,rfl,n1,e1,f1⟩:=fx.tup;obtain⟨v,hv,fv⟩:=f1.atI hd;exact .inr (.inl ⟨p,xs,_,v,rfl,fy.int,SqT.of e1,hv,k _ H _ q (Gr.refl _) fv⟩)
 .obtain⟨d,hd,q⟩:=q;obtain⟨p,rfl,e1⟩:=fx.scr;exact .inl ⟨p,_,_,_,rfl,fy.int,e1,Ak hd,k _ H _ q (Gr.refl _) (.int d)⟩
 .obtain⟨c,hc,q⟩:=q;exact .inr (.inr ⟨_,_,c,fx.str.1,fy.int,sz _ fx.str.2,hc,k _ H _ q (Gr.refl _) (.str _ (by show 1<=1000000;decide))⟩)
 .exact q.elim
end
end L2
namespace L2
open PySem PySem.Spec PyProof.Rows _root_.HT
section
variable {prog:s_}{w:World}{A:z_}{E:Value->c_->Prop}{s:c_}
def jG{t sl:Addr}{items:Array Value}{vl vu:Value}{lo hi:Option Int}{Q:Value->c_->Prop}(ht:IsTup s.heap t items)(hs:s.heap.IsSliceOf sl vl vu .none)(pl:JK vl lo)(pu:JK vu hi)
  (hw:sIx items.size 0 lo=0/\sIx items.size items.size hi=items.size)
  (h:Q (.ref t) s):wpAny (model prog w) A (getItem (.ref t) (.ref sl)) Q E s:=by
 obtain⟨os,hos,hcs,hds⟩:=id hs;have hTs:s.TypeIs (.ref sl) "slice":=⟨os,hos,hcs⟩
 unfold getItem
 try with_reducible refine GS ?_
 first|refine b_ (gV ?_)|skip
 refine b_ (wpAny_sequenceKey ht.typeIs (by decide) ?_)
 refine b_ (GI (name:=HN "__getitem__") ht.typeIs F_
  (Hi F_ ht.typeIs entry_tuple_getitem ?_ (args_tuple_getitem _ _)))
 show wpAny _ _ (I_ (.ref t) >>= _) _ _ s;refine b_ (tupleItemsOf_ ht ?_);refine b_ (wpAny_typeOf hTs ?_);rw [if_pos (by decide)];refine b_ (fR hs pl pu ?_)
 have hyes:(((sIx items.size 0 lo:Nat):Int) == 0 && (1:Int) == 1 && (sIx items.size items.size hi - sIx items.size 0 lo) == items.size)=true:=by
  rw [hw.1,hw.2,IS];simp
 show wpAny _ _ (if (((sIx items.size 0 lo:Nat):Int) == 0 && (1:Int) == 1 && (sIx items.size items.size hi - sIx items.size 0 lo) == items.size)=true then _ else _) _ _ s;rw [if_pos hyes];refine b_ (m:=Builtin.Tuple.tupleIsExact _) (b_ (wpAny_typeOf ht.typeIs (gV ?_)));rw [if_pos (by decide)]
 first
  | exact b_ (m:=rule _) (gV (gV ⟨_,rfl,gV h⟩))
  | exact gV ⟨_,rfl,gV h⟩
  | exact b_ (wpAny_rule (gV ⟨_,rfl,gV h⟩))
noncomputable def C1(K:a_):V->Option Int->Option Int->Hp->VK->Prop:=λx lo hi H Q=>∃a xs,x=.ref a/\SqT K H a xs/\(sIx xs.length 0 lo=0/\sIx xs.length xs.length hi=xs.length)/\Q (.ref a) H
def AB{X:Cx}:SlR X (C1 X.K):=by
 intro pins s σ H x v vl vu lo hi sl Q I rx hs pl pu h;obtain⟨a,xs,rfl,hx,hw,q⟩:=h;cases rx;obtain⟨its,r,ht,hz⟩:=I.tuple hx;have hlen:its.toArray.size=xs.length:=by rw [so];exact r.length.symm
 refine⟨"tuple",_,F_.lookup,ht.typeIs,?_⟩;exact jG ht hs pl pu (by rw [hlen];exact hw) ⟨.ref a,H,I,rfl,q⟩
end
end L2
namespace L2
open PySem PySem.Spec PyProof.Rows
section
variable {K:a_}{X:Cx}{ta tb tc to:TE}{pa pb pc:PA1}{pe:PTE}{tr:TA}{pr:PTA}
noncomputable def wv(f f':F2)(pa pb pc:PA1):PTE:=λρ Q=>pa ρ λx ρ1=>pb ρ1 λy ρ2=>op2 f ρ2 x y λp ρ3=>match p with
 | .dat (.bl k)=>ic k (pc ρ3 λz ρ4=>op2 f' ρ4 y z Q) (Q (.dat (.bl false)) ρ3)
 | _=>False
def nZ{r r':R2}{f f':F2}(o:LO K r f)(o':LO K r' f')(ha:LA1 K ta pa)(hb:LA1 K tb pb)(hc:LA1 K tc pc):LE K (tq r r' ta tb tc) (wv f f' pa pb pc):=λA ρ σ H Q Q' R q k =>
 ha A ρ σ H _ _ R q λv H1 a ρ1 q1 f1 R1 o1=>hb A ρ1 σ H1 _ _ R1 q1 λw H2 b ρ2 q2 f2 R2 o2=>by
  unfold op2 at q2
  split at q2
  .rename_i da db e1 e2;refine o _ H2 v w da db _ _ R2.dom2 (R2.cont (o1.keeps f2.keeps) e1) (R2.cont o2 e2) q2 λz H3 p q3 g ov=>?_;dsimp only at q3
   split at q3
   .rename_i c;cases ov;refine⟨c,rfl,?_⟩;have R3:=R2.gr g
    cases c with
    | true =>
     refine hc A ρ2 σ H3 _ _ R3 q3 λu H4 cc ρ4 q4 f4 R4 o4=>?_
     try unfold op2 at q4
     split at q4
     .rename_i dc dd e3 e4;have o2':AOk K (OO A ρ4 σ) σ H4 b w:=(o2.keeps (g.fr (ρ:=ρ2) (σ:=σ)).keeps).keeps f4.keeps;exact o' _ H4 w u _ _ _ _ R4.dom2 (R4.cont o2' e3) (R4.cont o4 e4) q4 λz H5 p q5 g5 ov=>k z H5 p ρ4 q5 ((((f1.trans f2).trans g.fr).trans f4).trans g5.fr) ((ov.out R4 g5).h0 λb z=>f4.dm b ((g.fr (ρ:=ρ2) (σ:=σ)).dm b (f2.dm b (f1.dm b z))))
     .exact q4.elim
    | false=>exact k _ H3 _ ρ2 q3 ((f1.trans f2).trans g.fr) ⟨R3,.bl false⟩
   .exact q3.elim
  .exact q2.elim
abbrev PTO:=PSt->(Option Int->PSt->Prop)->Prop
noncomputable def LPo(K:a_)(t:TO)(p:PTO):Prop:=∀(A:Addr->Prop) (ρ:PSt) (σ:St) (H:Hp) (Q:Option Int->PSt->Prop) (Q':Option Int->Hp->Prop),Rel K A ρ σ H->p ρ Q ->
 (∀b H' ρ',Q b ρ'->Fr ρ σ H ρ' H'->Rel K A ρ' σ H'->Q' b H')->t σ H Q'
def tN:PTO:=λρ Q=>Q none ρ
noncomputable def tO(pe:PTE):PTO:=λρ Q=>pe ρ λp ρ1=>match p with
 | .dat (.int i)=>Q (some i) ρ1
 | _=>False
def aO:LPo K nL tN:=λA ρ σ H Q Q' R q k=>k none H ρ q (Fr.refl _ _ _) R
def aF(h:LE K ta pe):LPo K (uE ta) (tO pe):=λA ρ σ H Q Q' R q k=>h A ρ σ H _ _ R q λv H1 p ρ1 q1 f1 o1=>by
 split at q1
 .rename_i i;obtain⟨R1,f⟩:=o1;cases f;exact⟨i,rfl,k _ H1 ρ1 q1 f1 R1⟩
 .exact q1.elim
noncomputable def BE(K:a_):V->Option Int->Option Int->Hp->VK->Prop:=λx lo hi H Q=>Fx K x lo hi H Q\/Fz x lo hi H Q\/Fu K x lo hi H Q\/C1 K x lo hi H Q
def fT(K:a_)(e:X.K=K):SlR X (BE K):=by
 subst e;exact SlR.or Aa (SlR.or Ct (SlR.or Cg AB))
noncomputable def fSl:D->Option Int->Option Int->(PV->Prop)->Prop
 | .lst ds,lo,hi,Q=>Q (.own (cZ ds lo hi))
 | .scr ns,lo,hi,Q=>Q (.own ((cZ ns lo hi).map .int))
 | .str l,lo,hi,Q=>Q (.dat (.str (cZ l lo hi)))
 | .tup ds,lo,hi,Q=>Q (.dat (.tup (cZ ds lo hi)))
 | _,_,_,_=>False
def FVs.cut{O:Addr->Prop}{H:Hp}{xs:List V}{ds:List D}(f:FVs K O H xs ds)(lo hi:Option Int):FVs K O H (cZ xs lo hi) (cZ ds lo hi):=by
 unfold cZ;rw [f.length];exact (f.drop _).take _
noncomputable def tP(pa:PA1)(pl ph:PTO):PTE:=λρ Q=>pa ρ λx ρ1=>pl ρ1 λlo ρ2=>ph ρ2 λhi ρ3=>match cont ρ3 x with
 | some d=>fSl d lo hi λp=>Q p ρ3
 | _=>False
def AC{α:Type}{ds:List α}{lo hi:Option Int}{n:Nat}(h:n=ds.length)(hw:HT.sIx n 0 lo=0/\HT.sIx n n hi=n):cZ ds lo hi=ds:=by
 subst h;unfold cZ;rw [hw.1,hw.2,drop_zero,IS,take_length]
def lsl{O:Addr->Prop}{H:Hp}{x:V}{d:D}{lo hi:Option Int}{Q:PV->Prop}{Q':VK}(dom:∀b,O b->H b≠none)(fx:FVc K O H x d)(q:fSl d lo hi Q)(k:∀v H' p,Q p->Gr H H'->uL K O H H' p v->Q' v H'):BE K x lo hi H Q':=by
 unfold fSl at q
 split at q
 .obtain⟨a,xs,rfl,e1,f1⟩:=fx.lst;exact .inl ⟨a,xs,rfl,SqL.of e1,λp hp=>k _ _ _ q (Gr.new hp) (eL hp (f1.cut _ _))⟩
 .obtain⟨a,rfl,e1⟩:=fx.scr;exact .inl ⟨a,_,rfl,e1,λp hp=>k _ _ _ q (Gr.new hp) (eL hp (by rw [vO,xT];exact FVs.of_ints _))⟩
 .exact .inr (.inl ⟨_,fx.str.1,sz _ fx.str.2,k _ H _ q (Gr.refl _) (.str _ (E_ (bv _ _ _) fx.str.2))⟩)
 .obtain⟨a,xs,rfl,n1,e1,f1⟩:=fx.tup
  by_cases hw:HT.sIx xs.length 0 lo=0/\HT.sIx xs.length xs.length hi=xs.length
  .refine .inr (.inr (.inr ⟨a,xs,rfl,SqT.of e1,hw,k _ H _ q (Gr.refl _) ?_⟩));rw [AC f1.length hw];exact .tup n1 e1 f1
  .exact .inr (.inr (.inl ⟨a,xs,rfl,SqT.of e1,hw,λp hp=>k _ _ _ q (Gr.new hp) (nY dom hp (f1.cut _ _))⟩))
 .exact q.elim
def aM{tl th:TO}{pl ph:PTO}(ha:LA1 K ta pa)(hl:LPo K tl pl)(hh:LPo K th ph):LE K (tSl (BE K) ta tl th) (tP pa pl ph):=λA ρ σ H Q Q' R q k =>
 ha A ρ σ H _ _ R q λv H1 a ρ1 q1 f1 R1 o1=>hl A ρ1 σ H1 _ _ R1 q1 λlo H2 ρ2 q2 f2 R2=>hh A ρ2 σ H2 _ _ R2 q2 λhi H3 ρ3 q3 f3 R3=>by
  split at q3
  .rename_i d e1;exact lsl R3.dom2 (R3.cont (o1.keeps (f2.trans f3).keeps) e1) q3 λz H4 p q4 g ov=>k z H4 p ρ3 q4 (((f1.trans f2).trans f3).trans g.fr) ((ov.out R3 g).h0 λb z=>f3.dm b (f2.dm b (f1.dm b z)))
  .exact q3.elim
abbrev FN:=List D->(PV->Prop)->Prop
noncomputable def lj(K:a_):List V->Hp->VK->Prop:=λxs H Q=>(∃l,xs=[.str (S l)]/\l.length<=sizeLine/\Q (.int l.length) H)\/Ev K xs H Q\/Ew K xs H Q\/∃p kvs,xs=[.ref p]/\Rd H p (.dK kvs)/\Q (.int kvs.length) H
def bA(K:a_)(e:X.K=K):bI X (.builtin "len") (lj K):=by
 subst e;exact bI.or vU (bI.or vV (bI.or vW wl))
noncomputable def AD:FN
 | [.str l],Q=>Q (.dat (.int l.length))
 | [.lst l],Q=>Q (.dat (.int l.length))
 | [.tup l],Q=>Q (.dat (.int l.length))
 | [.scr l],Q=>Q (.dat (.int l.length))
 | [.dic ks _],Q=>Q (.dat (.int ks.length))
 | _,_=>False
def aW:LC K (lj K) AD:=by
 intro O H xs as Q Q' dom fs q k;unfold AD at q
 split at q
 .cases fs with|cons a b=>cases b;rw [a.str.1];exact .inl ⟨_,rfl,sz _ a.str.2,k _ H _ q (Gr.refl _) (.int _)⟩
 .cases fs with
  | cons a b =>
   cases b;obtain⟨p,ys,rfl,e1,f1⟩:=a.lst;exact .inr (.inl ⟨p,ys,rfl,SqL.of e1,by rw [f1.length];exact k _ H _ q (Gr.refl _) (.int _)⟩)
 .cases fs with
  | cons a b =>
   cases b;obtain⟨p,ys,rfl,n1,e1,f1⟩:=a.tup;exact .inr (.inr (.inl ⟨p,ys,rfl,SqT.of e1,by rw [f1.length];exact k _ H _ q (Gr.refl _) (.int _)⟩))
 .cases fs with
  | cons a b =>
   cases b;obtain⟨p,rfl,e1⟩:=a.scr;exact .inr (.inl ⟨p,_,rfl,e1,by rw [length_map];exact k _ H _ q (Gr.refl _) (.int _)⟩)
 .cases fs with
  | cons a b =>
   cases b
   cases a.fv nofun nofun with
   | dic n e m f=>subst m;exact .inr (.inr (.inr ⟨_,_,rfl,.inl e,k _ H _ q (Gr.refl _) (by rw [length_map];exact .int _)⟩))
 .exact q.elim
inductive Kd where
 | int|bool|str|list|tuple|dict
noncomputable def Kd.nm:Kd->String
 | .int=>"int"|.bool=>"bool"|.str=>"str"|.list=>"list"|.tuple=>"tuple"|.dict=>"dict"
noncomputable def isK:Kd->D->Bool
 | .int,.int _=>true
 | .int,.bl _=>true
 | .bool,.bl _=>true
 | .str,.str _=>true
 | .list,.lst _=>true
 | .tuple,.tup _=>true
 | .dict,.dic _ _=>true
 | _,_=>false
noncomputable def D.sort:D->Bool
 | .obj _ _ _=>false
 | .exc _ _ _=>false
 | .scr _=>false
 | .ty _=>false
 | _=>true
def FVc.ty{O:Addr->Prop}{H:Hp}{v:V}{d:D}(h:FVc K O H v d)(s:d.sort=true):∃t,pR K H v t/\∀k:Kd,Hk K t (.type k.nm)=some (isK k d):=by
 rcases h with h|⟨a,xs,ds',rfl,rfl,e3,f⟩|⟨a,dx,c,fs,ns,ds',rfl,rfl,_⟩
 .cases h with
  | non=>exact⟨_,.non,λk=>by cases k <;> rfl⟩
  | bl b=>exact⟨_,.bl b,λk=>by cases k <;> rfl⟩
  | int i=>exact⟨_,.int i,λk=>by cases k <;> rfl⟩
  | str l h=>exact⟨_,.str _,λk=>by cases k <;> rfl⟩
  | ty n=>cases s
  | scr _=>cases s
  | lst n e f=>exact⟨_,.lst e,λk=>by cases k <;> rfl⟩
  | tup n e f=>exact⟨_,.tup e,λk=>by cases k <;> rfl⟩
  | dic n e m f=>exact⟨_,.dK e,λk=>by cases k <;> rfl⟩
  | obj _ _ _ _=>cases s
  | exc0 _ _=>cases s
  | exc1 _ _ _ _ _ _=>cases s
 .exact⟨_,.lst e3,λk=>by cases k <;> rfl⟩
 .cases s
def x8(K:a_)(e:X.K=K):bI X (.builtin "isinstance") (FA K):=by subst e;exact rH
noncomputable def FF(k:Kd)(pa:PA1):PTE:=λρ Q=>pa ρ λx ρ1=>match cont ρ1 x with
 | some d=>ic d.sort (Q (.dat (.bl (isK k d))) ρ1) False
 | _=>False
def tQ(k:Kd)(ha:LA1 K ta pa):LE K (tCB (FA K) (ba ta (ba (tC (.ty k.nm)) fi))) (FF k pa):=λA ρ σ H Q Q' R q kk =>
 ha A ρ σ H _ _ R q λv H1 a ρ1 q1 f1 R1 o1=>by
  split at q1
  .rename_i d e1
   cases hs:d.sort with
   | false=>rw [hs] at q1;exact q1.elim
   | true =>
    rw [hs] at q1;obtain⟨t,ty,hk⟩:=(R1.cont o1 e1).ty hs;exact⟨v,k.nm,t,isK k d,rfl,ty,hk k,kk _ H1 _ ρ1 q1 f1 ⟨R1,.bl _⟩⟩
  .exact q1.elim
noncomputable def FG(K:a_):List V->Hp->VK->Prop:=λxs H Q=>∃(x:V) (p:Addr) (ts:List String) (t:Value) (b:Bool),xs=[x,.ref p]/\pR K H x t/\H p=some (.tup (ts.map V.ty))/\Iy K t (ts.map HZ)=some b/\Q (.bl b) H
def EL(K:a_)(e:X.K=K):bI X (.builtin "isinstance") (FG K):=by subst e;exact qm
noncomputable def Gp(k l:Kd)(pa:PA1):PTE:=λρ Q=>pa ρ λx ρ1=>match cont ρ1 x with
 | some d=>ic d.sort (Q (.dat (.bl (isK k d || isK l d))) ρ1) False
 | _=>False
def FVc.keeps{O O':Addr->Prop}{H H':Hp}{v:V}{d:D}(k:aZ O H O' H')(g:Gr H H')(h:FVc K O H v d):FVc K O' H' v d:=by
 rcases h with h|⟨a,xs,ds',e1,e2,e3,f⟩|⟨a,dx,c,fs,ns,ds',e1,e2,e3,m,f⟩
 .exact .inl (h.keeps k)
 .exact .inr (.inl ⟨a,xs,ds',e1,e2,g _ _ e3,f.keeps k⟩)
 .exact .inr (.inr ⟨a,dx,c,fs,ns,ds',e1,e2,g _ _ e3,m,f.keeps k⟩)
def C2(k l:Kd)(hkl:∀t b c,Hk K t (.type k.nm)=some b->Hk K t (.type l.nm)=some c->Iy K t [.type k.nm,.type l.nm]=some (b || c))(ha:LA1 K ta pa):LE K (tCB (FG K) (ba ta (ba (Cd (ba (tC (.ty k.nm)) (ba (tC (.ty l.nm)) fi))) fi))) (Gp k l pa):=λA ρ σ H Q Q' R q kk =>
 ha A ρ σ H _ _ R q λv H1 a ρ1 q1 f1 R1 o1=>by
  split at q1
  .rename_i d e1
   cases hs:d.sort with
   | false=>rw [hs] at q1;exact q1.elim
   | true =>
    rw [hs] at q1;refine⟨by show 2<=sizeLine;decide,λp hp=>?_⟩;have g:Gr H1 (upd H1 p (.tup [V.ty k.nm,V.ty l.nm])):=Gr.new hp;obtain⟨t,ty,hk⟩:=((R1.cont o1 e1).keeps (g.fr (ρ:=ρ1) (σ:=σ)).keeps g).ty hs;exact⟨v,p,[k.nm,l.nm],t,_,rfl,ty,bd,hkl _ _ _ (hk k) (hk l),kk _ _ _ ρ1 q1 (f1.trans g.fr) ⟨R1.gr g,.bl _⟩⟩
  .exact q1.elim
end
structure C3 where
 nx:PSt->Prop
 rt:PV->PSt->Prop
 bk:PSt->Prop:=λ_=>False
 ct:PSt->Prop:=λ_=>False
abbrev PTS:=C3->PSt->Prop
structure gc (fx:List (Nat×V)) (R:Addr->Prop) (H0:Hp) (ρ:PSt) (σ:St) (H:Hp):Prop where
 kp:∀b o,¬ R b->H0 b=some o->H b=some o
 dm:∀b,H0 b≠none->H b≠none
 ow:∀b,Wr ρ σ b->R b\/H0 b=none
 fx:∀p∈fx,σ[p.1]?=some (some p.2)
section
variable {K:a_}{fx:List (Nat×V)}{A R:Addr->Prop}{H0 H H':Hp}{ρ ρ':PSt}{σ:St}
def gc.fr(F:gc fx R H0 ρ σ H)(f:Fr ρ σ H ρ' H'):gc fx R H0 ρ' σ H' :=
 ⟨λb o n e=>f.kp b o (λw=>(F.ow b w).elim n (λz=>by rw [z] at e;cases e)) (F.kp b o n e),λb z=>f.dm b (F.dm b z),λb w=>F.ow b (f.ow b w),F.fx⟩
def gc.start(hfx:∀p∈fx,σ[p.1]?=some (some p.2)):gc fx (Wr ρ σ) H ρ σ H:=⟨λ_ _ _ h=>h,λ_ h=>h,λ_ h=>.inl h,hfx⟩
def gc.keepsR{ρ1:PSt}{σ1:St}{H1:Hp}(F:gc fx R H1 ρ σ H)(hR:∀b,R b->OO A ρ1 σ1 b):aZ (OO A ρ1 σ1) H1 (OO A ρ σ) H:=λb o n e=>by
 refine⟨λz=>?_,F.kp b o (λz=>n (hR b z)) e⟩
 rcases z with z|z
 .exact n (.inl z)
 .rcases F.ow b z with z|z
  .exact n (hR b z)
  .rw [z] at e;cases e
def gc.keeps{ρ1:PSt}{σ1:St}{H1:Hp}(F:gc fx (Wr ρ1 σ1) H1 ρ σ H):aZ (OO A ρ1 σ1) H1 (OO A ρ σ) H:=F.keepsR λb z=>.inr z
def gc.trans{fx':List (Nat×V)}{ρ1:PSt}{σ1:St}{H1:Hp}(F:gc fx R H0 ρ1 σ1 H1)(G:gc fx' (Wr ρ1 σ1) H1 ρ σ H)(hfx:∀p∈fx,σ[p.1]?=some (some p.2)):gc fx R H0 ρ σ H:=by
 refine⟨λb o n e=>G.kp b o (λw=>(F.ow b w).elim n (λz=>by rw [z] at e;cases e)) (F.kp b o n e),λb z=>G.dm b (F.dm b z),λb w=>?_,hfx⟩
 rcases G.ow b w with z|z
 .exact F.ow b z
 .refine .inr ?_
  cases e:H0 b with
  | none=>rfl
  | some o=>exact absurd z (F.dm b (by rw [e];exact nofun))
def Out.put{p:PV}{v:V}{i:Nat}(h:Out K A ρ σ H0 H p v):Rel K A (ρ.set i (some p)) (σ.set i (some v)) H/\∀b,Wr (ρ.set i (some p)) (σ.set i (some v)) b->Wr ρ σ b\/H0 b=none:=by
 have get:∀(j:Nat) (q:PV),(ρ.set i (some p))[j]?=some (some q)->(j=i/\q=p/\i<ρ.length)\/(j≠i/\ρ[j]?=some (some q)):=λj q e=>by
  by_cases z:i=j
  .subst z
   by_cases hi:i<ρ.length
   .rw [p_ hi] at e;cases e;exact .inl ⟨rfl,rfl,hi⟩
   .rw [we (by rw [GN];omega)] at e;cases e
  .rw [n_ z] at e;exact .inr ⟨λq=>z q.symm,e⟩
 cases p with
 | dat d =>
  obtain⟨R1,f⟩:=h
  have ow:∀b,Wr (ρ.set i (some (.dat d))) (σ.set i (some v)) b->Wr ρ σ b:=λb ⟨j,r,e1,o1,s1⟩=>by
   rcases get j r e1 with ⟨_,rfl,_⟩|⟨n,e⟩
   .cases o1
   .rw [n_ (λz=>n z.symm)] at s1;exact⟨j,r,e,o1,s1⟩
  have k:aZ (OO A ρ σ) H (OO A (ρ.set i (some (.dat d))) (σ.set i (some v))) H:=aZ.less λb z=>z.imp id (ow b)
  refine⟨⟨by rw [GN,GN];exact R1.len,λj r e1=>?_,λj l p1 q1 v' e1 e2 o1 o2 s1 s2=>?_,R1.dom,λb z w=>R1.sep b z (ow b w)⟩,λb w=>.inl (ow b w)⟩
  .rcases get j r e1 with ⟨rfl,rfl,hi⟩|⟨n,e⟩
   .exact⟨v,p_ (by rw [<- R1.len];exact hi),f.keeps k⟩
   .obtain⟨u,s,r'⟩:=R1.get j r e;exact⟨u,by rw [n_ (λz=>n z.symm)];exact s,r'.keeps k λ_ _ _=>rfl⟩
  .rcases get j p1 e1 with ⟨_,rfl,_⟩|⟨n1,e1⟩
   .cases o1
   .rcases get l q1 e2 with ⟨_,rfl,_⟩|⟨n2,e2⟩
    .cases o2
    .rw [n_ (λz=>n1 z.symm)] at s1;rw [n_ (λz=>n2 z.symm)] at s2;exact R1.dj j l p1 q1 v' e1 e2 o1 o2 s1 s2
 | own ds =>
  obtain⟨a,xs,rfl,na,hn,e0,R1,f⟩:=h
  have ow:∀b,Wr (ρ.set i (some (.own ds))) (σ.set i (some (.ref a))) b->Wr ρ σ b\/b=a:=λb ⟨j,r,e1,o1,s1⟩=>by
   rcases get j r e1 with ⟨rfl,rfl,hi⟩|⟨n,e⟩
   .rw [p_ (by rw [<- R1.len];exact hi)] at s1;cases s1;exact .inr rfl
   .rw [n_ (λz=>n z.symm)] at s1;exact .inl ⟨j,r,e,o1,s1⟩
  have k:aZ (OO (fS A a) ρ σ) H (OO A (ρ.set i (some (.own ds))) (σ.set i (some (.ref a)))) H:=aZ.less λb z=>by
   rcases z with z|z
   .exact .inl (.inl z)
   .rcases ow b z with z|z
    .exact .inr z
    .exact .inl (.inr z)
  refine⟨⟨by rw [GN,GN];exact R1.len,λj r e1=>?_,λj l p1 q1 v' e1 e2 o1 o2 s1 s2=>?_,λb z=>R1.dom b (.inl z),λb z w=>?_⟩,λb w=>(ow b w).imp id λz=>by rw [z];exact hn⟩
  .rcases get j r e1 with ⟨rfl,rfl,hi⟩|⟨n,e⟩
   .exact⟨_,p_ (by rw [<- R1.len];exact hi),a,xs,rfl,e0,f.keeps k⟩
   .obtain⟨u,s,r'⟩:=R1.get j r e;exact⟨u,by rw [n_ (λz=>n z.symm)];exact s,r'.keeps k λ_ _ _=>rfl⟩
  .rcases get j p1 e1 with ⟨rfl,rfl,hi⟩|⟨n1,e1'⟩
   .rw [p_ (by rw [<- R1.len];exact hi)] at s1;cases s1
    rcases get l q1 e2 with ⟨rfl,rfl,_⟩|⟨n2,e2⟩
    .rfl
    .rw [n_ (λz=>n2 z.symm)] at s2;exact absurd ⟨l,q1,e2,o2,s2⟩ (R1.sep a (.inr rfl))
   .rw [n_ (λz=>n1 z.symm)] at s1
    rcases get l q1 e2 with ⟨rfl,rfl,hi⟩|⟨n2,e2⟩
    .rw [p_ (by rw [<- R1.len];exact hi)] at s2;cases s2;exact absurd ⟨j,p1,e1',o1,s1⟩ (R1.sep a (.inr rfl))
    .rw [n_ (λz=>n2 z.symm)] at s2;exact R1.dj j l p1 q1 v' e1' e2 o1 o2 s1 s2
  .rcases ow b w with w|w
   .exact R1.sep b (.inl z) w
   .rw [w] at z;exact na z
 | ins c ns ds =>
  obtain⟨a,dx,fs,rfl,na,hn,e0,m,R1,f⟩:=h
  have ow:∀b,Wr (ρ.set i (some (.ins c ns ds))) (σ.set i (some (.ref a))) b->Wr ρ σ b\/b=a:=λb ⟨j,r,e1,o1,s1⟩=>by
   rcases get j r e1 with ⟨rfl,rfl,hi⟩|⟨n,e⟩
   .rw [p_ (by rw [<- R1.len];exact hi)] at s1;cases s1;exact .inr rfl
   .rw [n_ (λz=>n z.symm)] at s1;exact .inl ⟨j,r,e,o1,s1⟩
  have k:aZ (OO (fS A a) ρ σ) H (OO A (ρ.set i (some (.ins c ns ds))) (σ.set i (some (.ref a)))) H:=aZ.less λb z=>by
   rcases z with z|z
   .exact .inl (.inl z)
   .rcases ow b z with z|z
    .exact .inr z
    .exact .inl (.inr z)
  refine⟨⟨by rw [GN,GN];exact R1.len,λj r e1=>?_,λj l p1 q1 v' e1 e2 o1 o2 s1 s2=>?_,λb z=>R1.dom b (.inl z),λb z w=>?_⟩,λb w=>(ow b w).imp id λz=>by rw [z];exact hn⟩
  .rcases get j r e1 with ⟨rfl,rfl,hi⟩|⟨n,e⟩
   .exact⟨_,p_ (by rw [<- R1.len];exact hi),a,dx,fs,rfl,e0,m,f.keeps k⟩
   .obtain⟨u,s,r'⟩:=R1.get j r e;exact⟨u,by rw [n_ (λz=>n z.symm)];exact s,r'.keeps k λ_ _ _=>rfl⟩
  .rcases get j p1 e1 with ⟨rfl,rfl,hi⟩|⟨n1,e1'⟩
   .rw [p_ (by rw [<- R1.len];exact hi)] at s1;cases s1
    rcases get l q1 e2 with ⟨rfl,rfl,_⟩|⟨n2,e2⟩
    .rfl
    .rw [n_ (λz=>n2 z.symm)] at s2;exact absurd ⟨l,q1,e2,o2,s2⟩ (R1.sep a (.inr rfl))
   .rw [n_ (λz=>n1 z.symm)] at s1
    rcases get l q1 e2 with ⟨rfl,rfl,hi⟩|⟨n2,e2⟩
    .rw [p_ (by rw [<- R1.len];exact hi)] at s2;cases s2;exact absurd ⟨j,p1,e1',o1,s1⟩ (R1.sep a (.inr rfl))
    .rw [n_ (λz=>n2 z.symm)] at s2;exact R1.dj j l p1 q1 v' e1' e2 o1 o2 s1 s2
  .rcases ow b w with w|w
   .exact R1.sep b (.inl z) w
   .rw [w] at z;exact na z
end
abbrev PTG:=PV->PSt->(PSt->Prop)->Prop
abbrev yQ:=List D->PSt->(PSt->Prop)->Prop
noncomputable def LG(K:a_)(fs:List Nat)(g:TG)(pg:PTG):Prop:=∀(fx:List (Nat×V)) (A R:Addr->Prop) (H0:Hp) (ρ:PSt) (σ:St) (H:Hp) (p:PV) (v:V) (Q:PSt->Prop) (Q':St->Hp->Prop),fx.map G1=fs->gc fx R H0 ρ σ H->Out K A ρ σ H0 H p v->pg p ρ Q ->
 (∀ρ' σ' H',Q ρ'->Rel K A ρ' σ' H'->gc fx R H0 ρ' σ' H'->Q' σ' H')->g v σ H Q'
noncomputable def LGs(K:a_)(fs:List Nat)(g:TGs)(pg:yQ):Prop:=∀(fx:List (Nat×V)) (A R:Addr->Prop) (H0:Hp) (ρ:PSt) (σ:St) (H:Hp) (ds:List D) (vs:List V) (Q:PSt->Prop) (Q':St->Hp->Prop),fx.map G1=fs->gc fx R H0 ρ σ H->Rel K A ρ σ H->FVs K (OO A ρ σ) H vs ds->pg ds ρ Q ->
 (∀ρ' σ',Q ρ'->Rel K A ρ' σ' H->gc fx R H0 ρ' σ' H->(∀b,Wr ρ' σ' b->Wr ρ σ b)->Q' σ' H)->g vs σ H Q'
noncomputable def LGd(K:a_)(fs:List Nat)(g:TG)(pg:PTG):Prop:=∀(fx:List (Nat×V)) (A R:Addr->Prop) (H0:Hp) (ρ:PSt) (σ:St) (H:Hp) (d:D) (v:V) (Q:PSt->Prop) (Q':St->Hp->Prop),fx.map G1=fs->gc fx R H0 ρ σ H->Rel K A ρ σ H->FV K (OO A ρ σ) H v d->pg (.dat d) ρ Q ->
 (∀ρ' σ',Q ρ'->Rel K A ρ' σ' H->gc fx R H0 ρ' σ' H->(∀b,Wr ρ' σ' b->Wr ρ σ b)->Q' σ' H)->g v σ H Q'
noncomputable def ei(i:Nat):PTG:=λp ρ Q=>Q (ρ.set i (some p))
noncomputable def AE:yQ:=λds ρ Q=>match ds with|[]=>Q ρ|_=>False
noncomputable def tR(g:PTG)(gs:yQ):yQ:=λds ρ Q=>match ds with|d::r=>g (.dat d) ρ λρ1=>gs r ρ1 Q|[]=>False
section
variable {K:a_}{fs:List Nat}
def gc.put{fx:List (Nat×V)}{R:Addr->Prop}{H0 H:Hp}{ρ:PSt}{σ:St}{i:Nat}{p:PV}{v:V}(hf:fx.map G1=fs)(hi:fs.contains i=false)(F:gc fx R H0 ρ σ H)(ow:∀b,Wr (ρ.set i (some p)) (σ.set i (some v)) b->Wr ρ σ b\/H0 b=none):gc fx R H0 (ρ.set i (some p)) (σ.set i (some v)) H :=
 ⟨F.kp,F.dm,λb w=>(ow b w).elim (F.ow b) .inr,λq hq=>by
  have:q.1≠i:=λz=>by
   have h1:i∈fs:=by rw [<- hf,<- z];exact mem_map_of_mem hq
   rw [HP.mpr h1] at hi;cases hi
  rw [n_ (λz=>this z.symm)];exact F.fx q hq⟩
def ar{i:Nat}(hi:fs.contains i=false):LG K fs (bQ i) (ei i):=λfx A R H0 ρ σ H p v Q Q' hf F o q k=>k _ _ _ q o.put.1 (F.put hf hi o.put.2)
def c8:LGs K fs xC AE:=λfx A R H0 ρ σ H ds vs Q Q' hf F r fv q k=>by
 unfold AE at q
 split at q
 .cases fv;exact⟨rfl,k _ _ q r F λ_ h=>h⟩
 .exact q.elim
def au{i:Nat}(hi:fs.contains i=false):LGd K fs (bQ i) (ei i):=λfx A R H0 ρ σ H d v Q Q' hf F r fv q k=>by
 have o:Out K A ρ σ H0 H (.dat d) v:=⟨r,fv⟩
 have ow:∀b,Wr (ρ.set i (some (.dat d))) (σ.set i (some v)) b->Wr ρ σ b:=λb ⟨j,p,e1,o1,s1⟩=>by
  by_cases z:i=j
  .subst z
   by_cases hl:i<ρ.length
   .rw [p_ hl] at e1;cases e1;cases o1
   .rw [we (by rw [GN];omega)] at e1;cases e1
  .rw [n_ z] at e1 s1;exact⟨j,p,e1,o1,s1⟩
 exact k _ _ q o.put.1 (F.put hf hi o.put.2) ow
def aY{g:TG}{pg:PTG}{gs:TGs}{pgs:yQ}(hg:LGd K fs g pg)(h:LGs K fs gs pgs):LGs K fs (f8 g gs) (tR pg pgs):=λfx A R H0 ρ σ H ds vs Q Q' hf F r fv q k=>by
 unfold tR at q
 split at q
 .cases fv with
  | cons a b =>
   exact⟨_,_,rfl,hg fx A R H0 ρ σ H _ _ _ _ hf F r a q λρ1 σ1 q1 r1 F1 w1=>h fx A R H0 ρ1 σ1 H _ _ _ _ hf F1 r1 (b.keeps (aZ.less λb z=>z.imp id (w1 b))) q1 λρ2 σ2 q2 r2 F2 w2=>k ρ2 σ2 q2 r2 F2 λb z=>w1 b (w2 b z)⟩
 .exact q.elim
end
noncomputable def LS(K:a_)(fs:List Nat)(ts:TS)(ps:PTS):Prop:=∀(fx:List (Nat×V)) (A R:Addr->Prop) (H0:Hp) (ρ:PSt) (σ:St) (H:Hp) (D:C3) (D':Bw),fx.map G1=fs->Rel K A ρ σ H->gc fx R H0 ρ σ H->ps D ρ ->
 (∀ρ' σ' H',D.nx ρ'->Rel K A ρ' σ' H'->gc fx R H0 ρ' σ' H'->D'.nx σ' H') ->
 (∀v p ρ' σ' H',D.rt p ρ'->Out K A ρ' σ' H0 H' p v->gc fx R H0 ρ' σ' H'->D'.rt v H') ->
 (∀ρ' σ' H',D.bk ρ'->Rel K A ρ' σ' H'->gc fx R H0 ρ' σ' H'->D'.bk σ' H') ->
 (∀ρ' σ' H',D.ct ρ'->Rel K A ρ' σ' H'->gc fx R H0 ρ' σ' H'->D'.ct σ' H')->ts D' σ H
def ll:PTS:=λD ρ=>D.nx ρ
noncomputable def h9(a b:PTS):PTS:=λD ρ=>a { D with nx:=b D } ρ
noncomputable def tS(pe:PTE):PTS:=λD ρ=>pe ρ λ_ ρ1=>D.nx ρ1
def ww(pe:PTE):PTS:=λD ρ=>pe ρ D.rt
noncomputable def AF(t:PTT)(a b:PTS):PTS:=λD ρ=>t ρ λc ρ1=>ic c (a D ρ1) (b D ρ1)
def wx:PTS:=λ_ _=>False
noncomputable def rO(pe:PTE)(g:PTG):PTS:=λD ρ=>pe ρ λp ρ1=>g p ρ1 D.nx
noncomputable def yR(a:PTS):PTS:=λD ρ=>∃J:PSt->Prop,a { D with nx:=J } ρ/\∀ρ',J ρ'->D.nx ρ'
section
variable {K:a_}{fs:List Nat}{ta tb:TS}{pa pb:PTS}{te:TE}{pe:PTE}{tt:TT}{pt:PTT}
def aH:LS K fs B3 ll:=λfx A R H0 ρ σ H D D' hf r F q k1 k2 k3 k4=>k1 _ _ _ q r F
def eo:LS K fs vo wx:=λfx A R H0 ρ σ H D D' hf r F q k1 k2 k3 k4=>q
def ao(ha:LS K fs ta pa)(hb:LS K fs tb pb):LS K fs (Fi ta tb) (h9 pa pb):=λfx A R H0 ρ σ H D D' hf r F q k1 k2 k3 k4 =>
 ha fx A R H0 ρ σ H _ _ hf r F q (λρ1 σ1 H1 q1 r1 F1=>hb fx A R H0 ρ1 σ1 H1 _ _ hf r1 F1 q1 k1 k2 k3 k4) k2 k3 k4
def fq(h:LE K te pe):LS K fs (B4 te) (tS pe):=λfx A R H0 ρ σ H D D' hf r F q k1 k2 k3 k4=>h A ρ σ H _ _ r q λv H1 p ρ1 q1 f1 o1=>k1 _ _ _ q1 o1.frz.1 (F.fr f1)
def aK(h:LE K te pe):LS K fs (Fj te) (ww pe):=λfx A R H0 ρ σ H D D' hf r F q k1 k2 k3 k4=>h A ρ σ H _ _ r q λv H1 p ρ1 q1 f1 o1=>k2 v p ρ1 σ H1 q1 (o1.h0 F.dm) (F.fr f1)
def bn(ht:LT K tt pt)(ha:LS K fs ta pa)(hb:LS K fs tb pb):LS K fs (Fk tt ta tb) (AF pt pa pb):=λfx A R H0 ρ σ H D D' hf r F q k1 k2 k3 k4=>ht A ρ σ H _ _ r q λc H1 ρ1 q1 f1 r1=>by
 cases c with
 | true=>exact ha fx A R H0 ρ1 σ H1 D D' hf r1 (F.fr f1) q1 k1 k2 k3 k4
 | false=>exact hb fx A R H0 ρ1 σ H1 D D' hf r1 (F.fr f1) q1 k1 k2 k3 k4
def aw{g:TG}{pg:PTG}(h:LE K te pe)(hg:LG K fs g pg):LS K fs (Bx te g) (rO pe pg):=λfx A R H0 ρ σ H D D' hf r F q k1 k2 k3 k4=>h A ρ σ H _ _ r q λv H1 p ρ1 q1 f1 o1 =>
 hg fx A R H0 ρ1 σ H1 p v _ _ hf (F.fr f1) (o1.h0 F.dm) q1 k1
def dt(h:LS K fs ta pa):LS K fs (CH ta) (yR pa):=λfx A R H0 ρ σ H D D' hf r F q k1 k2 k3 k4=>by
 obtain⟨J,q1,q2⟩:=q;refine⟨λσ' H'=>∃ρ',J ρ'/\Rel K A ρ' σ' H'/\gc fx R H0 ρ' σ' H',?_,λσ' H' ⟨ρ',j,r',F'⟩=>k1 ρ' σ' H' (q2 ρ' j) r' F'⟩;exact h fx A R H0 ρ σ H _ _ hf r F q1 (λρ' σ' H' j r' F'=>⟨ρ',j,r',F'⟩) k2 k3 k4
end
noncomputable def qs(K:a_)(tl:TE):TI:=λσ H R=>tl σ H λx H1=>(∃k a xs,x=.ref a/\Sq k K H1 a xs/\R (Itk k K a) H1)\/∃l,x=.str (S l)/\R (Its (gg l)) H1
section
variable {X:Cx}{tg:Expr}
def AG{l:Expr}{tl:TE}(hl:PE X l tl):PI X tg l (qs X.K tl):=by
 intro pins s σ H R I h;refine thn (hl pins s σ H _ I h) λv s1 ⟨x,H1,I1,r1,q1⟩=>?_
 have fin:∀b∈[s1.heap.objs.size],vj X pins H1 b:=λb hb=>by
  have e:b=s1.heap.objs.size:=by simpa using hb
  subst e;exact I1.fpOk (o_ _) (I1.hok.fresh (o_ _))
 rcases q1 with ⟨k,a,xs,e,hq,q⟩|⟨l,e,q⟩
 .subst e;cases r1
  cases k with
  | false =>
   obtain⟨its,rv,p,hz⟩:=I1.list hq;refine HK p.isList ?_;exact⟨s1.heap.objs.size,[s1.heap.objs.size],_,_,H1,rfl,I1.kept (t':=s1.toks) λb o e=>d_ _ e,vp a _,⟨_,j_ _ rfl,rfl,rfl⟩,fin,q⟩
  | true =>
   obtain⟨its,rv,p,hz⟩:=I1.tuple hq;refine Jb (show s1.heap.IsTuple a its.toArray from p) ?_;exact⟨s1.heap.objs.size,[s1.heap.objs.size],_,_,H1,rfl,I1.kept (t':=s1.toks) λb o e=>d_ _ e,uo a _,⟨_,j_ _ rfl,rfl,rfl⟩,fin,q⟩
 .subst e;obtain⟨t,rfl⟩:=r1
  have hv:∀i v,i<(S l).cps.size->SignAt (S l) i v->∃x,(gg l)[i]?=some x/\cY x v:=λi v _ ⟨c,u,hc,e⟩=>by
   subst e;have hc':l[i]?=some c:=by simpa [S] using hc
   exact⟨.str (S [c]),by unfold gg;rw [i_,hc'];rfl,u,rfl⟩
  have hsc:∀i v,SignAt (S l) i v->∀a,v≠.ref a:=λi v ⟨c,u,hc,e⟩ a z=>by subst e;cases z
  have hn:(gg l).length=(S l).cps.size:=by rw [jD];simp [S]
  have hobj:∀ty i (h:Heap),h.IsStrIter s1.heap.objs.size ty (S l) t i->∃o,h.get? s1.heap.objs.size=some o/\∀v,o.data≠.cell v:=λty i h ⟨o,ho,_,hd⟩=>⟨o,ho,λv z=>by rw [hd] at z;cases z⟩
  have hfr:∀ty i (h h':Heap),h.IsStrIter s1.heap.objs.size ty (S l) t i->(∀b∈[s1.heap.objs.size],∀o,h.get? b=some o->h'.get? b=some o)->h'.IsStrIter s1.heap.objs.size ty (S l) t i:=λty i h h' ⟨o,ho,r⟩ k=>⟨o,k _ (by simp) o ho,r⟩
  cases ha:(S l).cps.all (·<128)
  .refine wpAny_pyIter_wide ha ⟨s1.heap.objs.size,[s1.heap.objs.size],_,Its (gg l),H1,rfl,I1.kept (t':=s1.toks) λb o e=>d_ _ e,
    k9 (λA hA=>Walks.strWide hA _ (S l) t) hn hv hsc (hobj _) (hfr _) (λA i s Q E st q=>wpAny_pyIter_striter_wide st q),⟨_,j_ _ rfl,rfl,rfl⟩,fin,q⟩
  .refine wpAny_pyIter_ascii ha ⟨s1.heap.objs.size,[s1.heap.objs.size],_,Its (gg l),H1,rfl,I1.kept (t':=s1.toks) λb o e=>d_ _ e,
    k9 (λA hA=>Walks.strAscii hA _ (S l) t) hn hv hsc (hobj _) (hfr _) (λA i s Q E st q=>wpAny_pyIter_striter_ascii st q),⟨_,j_ _ rfl,rfl,rfl⟩,fin,q⟩
def dz(K:a_)(e:X.K=K){l:Expr}{tl:TE}(hl:PE X l tl):PI X tg l (qs K tl):=by subst e;exact AG hl
end
abbrev PTI:=PSt->(Nat->(Nat->D)->PSt->Prop)->Prop
noncomputable def Wlk(K:a_)(O:Addr->Prop)(H:Hp)(J:It)(n:Nat)(it:Nat->D):Prop:=∀(O':Addr->Prop) (H':Hp),aZ O H O' H'->(∀b,O' b->H' b≠none) ->
 (∀k,k<n->J.go k H'/\∀x H'',J.yld k H' x H''->Gr H' H''/\FV K O' H'' x (it k))/\J.stop n H'
noncomputable def LI(K:a_)(wi:TI)(pi:PTI):Prop:=∀(A:Addr->Prop) (ρ:PSt) (σ:St) (H:Hp) (Q:Nat->(Nat->D)->PSt->Prop) (Q':It->Hp->Prop),Rel K A ρ σ H->pi ρ Q ->
 (∀J H' n it ρ',Q n it ρ'->Fr ρ σ H ρ' H'->Rel K A ρ' σ H'->Wlk K (OO A ρ' σ) H' J n it->Q' J H')->wi σ H Q'
noncomputable def itD(ds:List D)(k:Nat):D:=ds.getD k .non
def iY{ds:List D}{k:Nat}{d:D}(h:ds[k]?=some d):itD ds k=d:=by unfold itD;rw [cx,h];rfl
noncomputable def EM:D->Option (Nat×(Nat->D))
 | .lst ds=>some (ds.length,itD ds)
 | .tup ds=>some (ds.length,itD ds)
 | .scr ns=>some (ns.length,λk=>.int (ns.getD k 0))
 | .str l=>some (l.length,λk=>.str [l.getD k 0])
 | _=>none
noncomputable def C4(pe:PTE):PTI:=λρ Q=>pe ρ λp ρ1=>match EM p.d with
 | some (n,it)=>Q n it ρ1
 | none=>False
section
variable {K:a_}{te:TE}{pe:PTE}{ta:TA}{pa:PTA}
def FV.row{O:Addr->Prop}{H:Hp}{v:V}{d:D}{n:Nat}{it:Nat->D}(h:FV K O H v d)(e:EM d=some (n,it)) :
  (∃k a xs,v=.ref a/\xs.length=n/\(∀O' H',aZ O H O' H'->Sq k K H' a xs/\∀j x,xs[j]?=some x->FV K O' H' x (it j)))\/∃l,v=.str (S l)/\l.length=n/\(∀k,it k=.str [l.getD k 0]):=by
 cases h with
 | lst nn e0 f =>
  cases e;refine .inl ⟨false,_,_,rfl,f.length,λO' H' k=>⟨SqL.of (k _ _ nn e0).2,λj x hx=>?_⟩⟩;obtain⟨d,hd,fd⟩:=f.get hx;rw [iY hd];exact fd.keeps k
 | tup nn e0 f =>
  cases e;refine .inl ⟨true,_,_,rfl,f.length,λO' H' k=>⟨SqT.of (k _ _ nn e0).2,λj x hx=>?_⟩⟩;obtain⟨d,hd,fd⟩:=f.get hx;rw [iY hd];exact fd.keeps k
 | scr s =>
  cases e;refine .inl ⟨false,_,_,rfl,length_map _,λO' H' k=>⟨(s.keeps k).sq,λj x hx=>?_⟩⟩;obtain⟨z,hz,rfl⟩:=xS hx;show FV K O' H' (V.int z) (D.int (List.getD _ j 0));rw [cx,hz];exact .int z
 | str l hl=>cases e;exact .inr ⟨l,rfl,rfl,λ_=>rfl⟩
 | non=>cases e
 | bl b=>cases e
 | int i=>cases e
 | ty n=>cases e
 | dic _ _ _ _=>cases e
 | obj _ _ _ _=>cases e
 | exc0 _ _=>cases e
 | exc1 _ _ _ _ _ _=>cases e
def dA(h:LE K te pe):LI K (qs K te) (C4 pe):=λA ρ σ H Q Q' R q k=>h A ρ σ H _ _ R q λv H1 p ρ1 q1 f1 o1=>by
 obtain⟨R1,fv⟩:=o1.frz
 split at q1
 .rename_i n it e
  rcases fv.row e with ⟨b,a,xs,rfl,hl,hr⟩|⟨l,rfl,hl,hi⟩
  .refine .inl ⟨b,a,xs,rfl,(hr _ H1 (λb o n h=>⟨n,h⟩)).1,k _ H1 n it ρ1 q1 f1 R1 λO' H' kk dom=>?_⟩;obtain⟨sq,hx⟩:=hr O' H' kk
   cases b with
   | false =>
    refine⟨λj hj=>⟨⟨xs,_,sq,cy (by rw [hl];exact hj)⟩,λx H'' ⟨e,y⟩=>?_⟩,⟨xs,sq,by rw [hl];exact o_ _⟩⟩;subst e;exact⟨Gr.refl _,hx j x (y xs sq)⟩
   | true =>
    refine⟨λj hj=>⟨⟨xs,_,sq,cy (by rw [hl];exact hj)⟩,λx H'' ⟨e,y⟩=>?_⟩,⟨xs,sq,by rw [hl];exact o_ _⟩⟩;subst e;exact⟨Gr.refl _,hx j x (y xs sq)⟩
  .refine .inr ⟨l,rfl,k _ H1 n it ρ1 q1 f1 R1 λO' H' kk dom=>?_⟩;refine⟨λj hj=>⟨by show j<(gg l).length;rw [jD,hl];exact hj,λx H'' ⟨e,y⟩=>?_⟩,by show (gg l).length=n;rw [jD,hl]⟩;subst e;obtain⟨c,hc,rfl⟩:=uH y;rw [hi,cx,hc];exact⟨Gr.refl _,.str _ (by show 1<=1000000;decide)⟩
 .exact q1.elim
noncomputable def FH(pa:PTA):PTI:=λρ Q=>pa ρ λas ρ1=>match as with
 | [.v (.int j)]=>(-(2^60)<=j/\j<2^60)/\Q j.toNat (λk=>.int (k:Int)) ρ1
 | _=>False
noncomputable def Gq(pa:PTA):PTI:=λρ Q=>pa ρ λas ρ1=>match as with
 | [.v (.int i),.v (.int j),.v (.int (-1))]=>(-(2^60)<=i/\i<2^60/\-(2^60)<=j/\j<2^60)/\Q (i - j).toNat (λk=>.int (i - (k:Int))) ρ1
 | _=>False
def EN{O:Addr->Prop}{H:Hp}{lo:Int}{n:Nat}{it:Nat->D}(h:∀k:Nat,it k=.int (lo+k)):Wlk K O H (Itr lo n) n it:=λO' H' _ _ =>
 ⟨λj hj=>⟨hj,λx H'' ⟨e,y⟩=>by subst e y;rw [h];exact⟨Gr.refl _,.int _⟩⟩,o_ _⟩
def EO{O:Addr->Prop}{H:Hp}{lo:Int}{n:Nat}:Wlk K O H (Its (nO lo n)) n (λk=>.int (lo - (k:Int))):=λO' H' _ _ =>
 ⟨λj hj=>⟨by show j<(nO lo n).length;rw [lb];exact hj,λx H'' ⟨e,y⟩=>by subst e;rw [(vT y).2];exact⟨Gr.refl _,.int _⟩⟩,lb _ _⟩
def gi(h:LAs K ta pa):LI K (rE ta) (FH pa):=λA ρ σ H Q Q' R q k=>h A ρ σ H _ _ R q λvs H1 as ρ1 q1 f1 R1 o1=>by
 split at q1
 .rename_i j
  cases o1 with
  | cons a b =>
   cases b;cases a;exact⟨j,rfl,by omega,by omega,k _ H1 _ _ ρ1 q1.2 f1 R1 (EN λk=>by rw [Int.zero_add])⟩
 .exact q1.elim
def C5(h:LAs K ta pa):LI K (Cu ta) (Gq pa):=λA ρ σ H Q Q' R q k=>h A ρ σ H _ _ R q λvs H1 as ρ1 q1 f1 R1 o1=>by
 split at q1
 .rename_i i j
  cases o1 with
  | cons a b =>
   cases b with
   | cons c d =>
    cases d with
    | cons e f =>
     cases f;cases a;cases c;cases e;exact⟨i,j,rfl,q1.1,k _ H1 _ _ ρ1 q1.2 f1 R1 EO⟩
 .exact q1.elim
noncomputable def rowD:D->Option (List D)
 | .lst ds=>some ds
 | .tup ds=>some ds
 | .scr ns=>some (ns.map .int)
 | _=>none
def FV.rowD{O:Addr->Prop}{H:Hp}{v:V}{d:D}{ds:List D}(h:FV K O H v d)(e:L2.rowD d=some ds) :
  ∃k a xs,v=.ref a/\xs.length=ds.length/\(∀O' H',aZ O H O' H'->Sq k K H' a xs/\FVs K O' H' xs ds):=by
 cases h with
 | lst nn e0 f=>cases e;exact⟨false,_,_,rfl,f.length,λO' H' k=>⟨SqL.of (k _ _ nn e0).2,f.keeps k⟩⟩
 | tup nn e0 f=>cases e;exact⟨true,_,_,rfl,f.length,λO' H' k=>⟨SqT.of (k _ _ nn e0).2,f.keeps k⟩⟩
 | scr s=>cases e;exact⟨false,_,_,rfl,by rw [length_map,length_map],λO' H' k=>⟨(s.keeps k).sq,FVs.of_ints _⟩⟩
 | str l hl=>cases e
 | non=>cases e
 | bl b=>cases e
 | int i=>cases e
 | ty n=>cases e
 | dic _ _ _ _=>cases e
 | obj _ _ _ _=>cases e
 | exc0 _ _=>cases e
 | exc1 _ _ _ _ _ _=>cases e
noncomputable def C6(pa:PTA):PTI:=λρ Q=>pa ρ λas ρ1=>match as with
 | [.v a,.v b]=>(match rowD a,rowD b with
  | some xs,some ys=>Q (min xs.length ys.length) (λk=>.tup [itD xs k,itD ys k]) ρ1
  | _,_=>False)
 | _=>False
noncomputable def C7(pa:PTA):PTI:=λρ Q=>pa ρ λas ρ1=>match as with
 | [.v a]=>(match rowD a with
  | some xs=>Q xs.length (λk=>.tup [.int (k:Int),itD xs k]) ρ1
  | _=>False)
 | _=>False
def tT(h:LAs K ta pa):LI K (uK K ta) (C6 pa):=λA ρ σ H Q Q' R q k=>h A ρ σ H _ _ R q λvs H1 as ρ1 q1 f1 R1 o1=>by
 split at q1
 .rename_i da db
  cases o1 with
  | cons o1 o2 =>
   cases o2 with
   | cons o2 o3 =>
    cases o3
    split at q1
    .rename_i xs ys ex ey;obtain⟨b1,a1,us,rfl,l1,w1⟩:=FV.rowD (show FV K _ H1 _ da from o1) ex;obtain⟨b2,a2,ws,rfl,l2,w2⟩:=FV.rowD (show FV K _ H1 _ db from o2) ey;have t1:=w1 _ H1 (λb o n h=>⟨n,h⟩);have t2:=w2 _ H1 (λb o n h=>⟨n,h⟩);refine⟨b1,b2,a1,a2,rfl,⟨us,ws,t1.1,t2.1⟩,k _ H1 _ _ ρ1 q1 f1 R1 λO' H' kk dom=>?_⟩;obtain⟨s1,g1⟩:=w1 O' H' kk;obtain⟨s2,g2⟩:=w2 O' H' kk;refine⟨λj hj=>?_,⟨us,ws,s1,s2,by omega⟩⟩
     have h1:j<us.length:=by omega
     have h2:j<ws.length:=by omega
     refine⟨⟨us,ws,_,_,s1,s2,cy h1,cy h2⟩,λx H'' ⟨T,u,w,hT,e,y1,y2,e2⟩=>?_⟩;subst e e2;obtain⟨d1,hd1,fd1⟩:=g1.get (y1 us s1);obtain⟨d2,hd2,fd2⟩:=g2.get (y2 ws s2);have e1:itD xs j=d1:=by unfold itD;rw [cx,hd1];rfl
     have e2:itD ys j=d2:=by unfold itD;rw [cx,hd2];rfl
     rw [e1,e2];have kk2:aZ O' H' O' (upd H' T (.tup [u,w])):=λb o n e=>⟨n,by rw [aR (bb e hT)];exact e⟩
     exact⟨Gr.new hT,.tup (λz=>dom T z hT) bd (.cons (fd1.keeps kk2) (.cons (fd2.keeps kk2) .nil))⟩
    .exact q1.elim
 .exact q1.elim
def rP(h:LAs K ta pa):LI K (x5 K ta) (C7 pa):=λA ρ σ H Q Q' R q k=>h A ρ σ H _ _ R q λvs H1 as ρ1 q1 f1 R1 o1=>by
 split at q1
 .rename_i da
  cases o1 with
  | cons o1 o3 =>
   cases o3
   split at q1
   .rename_i xs ex;obtain⟨b1,a1,us,rfl,l1,w1⟩:=FV.rowD (show FV K _ H1 _ da from o1) ex;have t1:=w1 _ H1 (λb o n h=>⟨n,h⟩);refine⟨b1,a1,rfl,⟨us,t1.1⟩,k _ H1 _ _ ρ1 q1 f1 R1 λO' H' kk dom=>?_⟩;obtain⟨s1,g1⟩:=w1 O' H' kk;refine⟨λj hj=>?_,⟨us,s1,by omega⟩⟩;have h1:j<us.length:=by omega
    refine⟨⟨us,_,s1,cy h1⟩,λx H'' ⟨T,u,hT,e,y1,e2⟩=>?_⟩;subst e e2;obtain⟨d1,hd1,fd1⟩:=g1.get (y1 us s1);have e1:itD xs j=d1:=by unfold itD;rw [cx,hd1];rfl
    rw [e1];have kk2:aZ O' H' O' (upd H' T (.tup [.int (j:Int),u])):=λb o n e=>⟨n,by rw [aR (bb e hT)];exact e⟩
    exact⟨Gr.new hT,.tup (λz=>dom T z hT) bd (.cons (.int _) (.cons (fd1.keeps kk2) .nil))⟩
   .exact q1.elim
 .exact q1.elim
end
noncomputable def C8(pi:PTI)(g:PTG)(pb:PTS):PTS:=λD ρ=>pi ρ λn it ρ1=>∃I:Nat->PSt->Prop,I 0 ρ1/\(∀k ρ d,k<n->d=it k->I k ρ->g (.dat d) ρ λρ2=>pb { D with nx:=I (k+1),ct:=I (k+1),bk:=D.nx } ρ2)/\∀ρ,I n ρ->D.nx ρ
noncomputable def AH(pt:PTT)(pb:PTS):PTS:=λD ρ=>∃I:Nat->PSt->Prop,(∃m,I m ρ)/\∀m ρ,I m ρ->pt ρ λb ρ1=>ic b (pb { D with nx:=λρ'=>∃m',m'<m/\I m' ρ',ct:=λρ'=>∃m',m'<m/\I m' ρ',bk:=D.nx } ρ1) (D.nx ρ1)
section
variable {K:a_}{fs:List Nat}{wi:TI}{pi:PTI}{g:TG}{pg:PTG}{tb:TS}{pb:PTS}{tt:TT}{pt:PTT}
def cr(hi:LI K wi pi)(hg:LGd K fs g pg)(hb:LS K fs tb pb):LS K fs (Fo wi g tb) (C8 pi pg pb):=λfx A R H0 ρ σ H D D' hf r F q k1 k2 k3 k4=>hi A ρ σ H _ _ r q λJ H1 n it ρ1 q1 f1 r1 W=>by
 obtain⟨I,i0,turn,after⟩:=q1;have F1:=F.fr f1;refine⟨λi m σ' H'=>i+m=n/\∃ρ',I i ρ'/\Rel K A ρ' σ' H'/\gc fx (Wr ρ1 σ) H1 ρ' σ' H',⟨n,IV n,ρ1,i0,r1,gc.start F1.fx⟩,λi m σ' H' ⟨him,ρ',iv,r',F'⟩=>?_⟩;obtain⟨go,stop⟩:=W _ H' F'.keeps r'.dom2
 by_cases hk:i<n
 .obtain⟨g1,g2⟩:=go i hk;refine .inr ⟨g1,λσ'' H''=>∃ρ'',I (i+1) ρ''/\Rel K A ρ'' σ'' H''/\gc fx (Wr ρ1 σ) H1 ρ'' σ'' H'',λσ'' H'' z=>⟨m - 1,by omega,by omega,z⟩,λx H'' y=>?_⟩;obtain⟨gr,fv⟩:=g2 x H'' y;refine hg fx A (Wr ρ1 σ) H1 ρ' σ' H'' _ x _ _ hf (F'.fr gr.fr) (r'.gr gr) fv (turn i ρ' _ hk rfl iv) λρ2 σ2 q2 r2 F2 _=>?_;refine hb fx A (Wr ρ1 σ) H1 ρ2 σ2 H'' _ _ hf r2 F2 q2 (λρ3 σ3 H3 q3 r3 F3=>⟨ρ3,q3,r3,F3⟩) (λv p ρ3 σ3 H3 q3 o3 F3=>k2 v p ρ3 σ3 H3 q3 (o3.h0 F1.dm) (F1.trans F3 F3.fx)) (λρ3 σ3 H3 q3 r3 F3=>k1 ρ3 σ3 H3 q3 r3 (F1.trans F3 F3.fx)) (λρ3 σ3 H3 q3 r3 F3=>⟨ρ3,q3,r3,F3⟩)
 .have e:i=n:=by omega
  subst e;exact .inl ⟨stop,k1 ρ' σ' H' (after ρ' iv) r' (F1.trans F' F'.fx)⟩
def n5(ht:LT K tt pt)(hb:LS K fs tb pb):LS K fs (yG tt tb) (AH pt pb):=λfx A R H0 ρ σ H D D' hf r F q k1 k2 k3 k4=>by
 obtain⟨I,⟨m0,i0⟩,turn⟩:=q;refine⟨λm σ' H'=>∃ρ',I m ρ'/\Rel K A ρ' σ' H'/\gc fx R H0 ρ' σ' H',⟨m0,ρ,i0,r,F⟩,λm σ' H' ⟨ρ',iv,r',F'⟩=>?_⟩;refine ht A ρ' σ' H' _ _ r' (turn m ρ' iv) λb H1 ρ1 q1 f1 r1=>?_
 cases b with
 | true =>
  refine⟨λσ'' H''=>∃ρ'' m',m'<m/\I m' ρ''/\Rel K A ρ'' σ'' H''/\gc fx R H0 ρ'' σ'' H'',λσ'' H'' ⟨ρ'',m',h1,h2⟩=>⟨m',h1,ρ'',h2⟩,?_⟩;exact hb fx A R H0 ρ1 σ' H1 _ _ hf r1 (F'.fr f1) q1 (λρ3 σ3 H3 ⟨m',h1,h2⟩ r3 F3=>⟨ρ3,m',h1,h2,r3,F3⟩) k2 k1 (λρ3 σ3 H3 ⟨m',h1,h2⟩ r3 F3=>⟨ρ3,m',h1,h2,r3,F3⟩)
 | false=>exact k1 ρ1 σ' H1 q1 r1 (F'.fr f1)
end
noncomputable def bx(ix:List (Option Nat))(ρ:PSt):PSt:=ix.map λo=>match o with
 | none=>none
 | some j=>match ρ[j]? with
  | some v=>v
  | none=>none
noncomputable def fU:List (Option Nat)->PSt->PSt->PSt
 | some j::ix,ρ,t::τ=>fU ix (ρ.set j t) τ
 | none::ix,ρ,_::τ=>fU ix ρ τ
 | _,ρ,_=>ρ
noncomputable def AI:List (Option Nat)->Bool
 | []=>true
 | none::r=>AI r
 | some j::r=>!r.contains (some j) && AI r
theorem n6:∀(ix:List (Option Nat)) (ρ τ:PSt),(fU ix ρ τ).length=ρ.length
 | [],ρ,τ=>by unfold fU;rfl
 | some j::ix,ρ,t::τ=>by show (fU ix (ρ.set j t) τ).length=_;rw [n6 ix,GN]
 | none::ix,ρ,t::τ=>by show (fU ix ρ τ).length=_;exact n6 ix ρ τ
 | some j::ix,ρ,[]=>by unfold fU;rfl
 | none::ix,ρ,[]=>by unfold fU;rfl
theorem kN:∀(ix:List (Option Nat)) (ρ τ:PSt) (j:Nat),some j∉ix->(fU ix ρ τ)[j]?=ρ[j]?
 | [],ρ,τ,j,_=>by unfold fU;rfl
 | some i::ix,ρ,t::τ,j,h=>by
  show (fU ix (ρ.set i t) τ)[j]?=_;rw [kN ix _ τ j (λz=>h (m_ _ z)),n_ (λz=>h (by rw [z];exact mem_cons_self ..))]
 | none::ix,ρ,t::τ,j,h=>by show (fU ix ρ τ)[j]?=_;exact kN ix ρ τ j λz=>h (m_ _ z)
 | some i::ix,ρ,[],j,_=>by unfold fU;rfl
 | none::ix,ρ,[],j,_=>by unfold fU;rfl
theorem rQ:∀(ix:List (Option Nat)) (ρ τ:PSt) (j k:Nat),AI ix=true->ix[k]?=some (some j)->k<τ.length->j<ρ.length->(fU ix ρ τ)[j]?=τ[k]?
 | some i::ix,ρ,t::τ,j,k,h,e,hk,hj=>by
  have h:(!ix.contains (some i) && AI ix)=true:=h;rw [and_eq_true] at h;show (fU ix (ρ.set i t) τ)[j]?=_
  cases k with
  | zero =>
   have e:some (some i)=some (some j):=e;cases e
   have hn:some i∉ix:=λz=>by
    have:=h.1;rw [HP.mpr z] at this;cases this
   rw [kN ix _ τ i hn,p_ hj];rfl
  | succ k =>
   have e:ix[k]?=some (some j):=by simpa using e
   rw [rQ ix _ τ j k h.2 e (by simpa using hk) (by rw [GN];exact hj)];simp
 | none::ix,ρ,t::τ,j,k,h,e,hk,hj=>by
  show (fU ix ρ τ)[j]?=_
  cases k with
  | zero=>cases e
  | succ k =>
   have e:ix[k]?=some (some j):=by simpa using e
   rw [rQ ix _ τ j k h e (by simpa using hk) hj];simp
 | [],ρ,τ,j,k,h,e,hk,hj=>by simp at e
 | some i::ix,ρ,[],j,k,h,e,hk,hj=>absurd hk (G_ _)
 | none::ix,ρ,[],j,k,h,e,hk,hj=>absurd hk (G_ _)
theorem n8:∀{ix:List (Option Nat)}{k l j:Nat},AI ix=true->ix[k]?=some (some j)->ix[l]?=some (some j)->k=l
 | some i::ix,k,l,j,h,e1,e2=>by
  have h:(!ix.contains (some i) && AI ix)=true:=h;rw [and_eq_true] at h
  have no:∀m,ix[m]?≠some (some i):=λm z=>by
   have:=h.1;rw [HP.mpr (GD z)] at this;cases this
  cases k with
  | zero =>
   have e1:some (some i)=some (some j):=e1;cases e1
   cases l with
   | zero=>rfl
   | succ l=>exact absurd (by simpa using e2) (no l)
  | succ k =>
   cases l with
   | zero =>
    have e2:some (some i)=some (some j):=e2;cases e2;exact absurd (by simpa using e1) (no k)
   | succ l=>rw [n8 (k:=k) (l:=l) h.2 (by simpa using e1) (by simpa using e2)]
 | none::ix,k,l,j,h,e1,e2=>by
  cases k with
  | zero=>cases e1
  | succ k =>
   cases l with
   | zero=>cases e2
   | succ l=>rw [n8 (ix:=ix) (k:=k) (l:=l) (j:=j) h (by simpa using e1) (by simpa using e2)]
 | [],k,l,j,h,e1,e2=>by simp at e1
def gj{ix:List (Option Nat)}{ρ:PSt}{k:Nat}{p:PV}(h:(bx ix ρ)[k]?=some (some p)):∃j,ix[k]?=some (some j)/\ρ[j]?=some (some p):=by
 unfold bx at h;rw [i_] at h
 cases e:ix[k]? with
 | none=>rw [e] at h;cases h
 | some o =>
  rw [e] at h
  cases o with
  | none=>cases h
  | some j =>
   refine⟨j,rfl,?_⟩;have h:some (match ρ[j]? with|some v=>v|none=>none)=some (some p):=h
   cases e2:ρ[j]? with
   | none=>rw [e2] at h;cases h
   | some v=>rw [e2] at h;exact h
def hC{ix:List (Option Nat)}{σ:St}{k j:Nat}{v:V}(h:ix[k]?=some (some j))(e:σ[j]?=some (some v)):(v9 ix σ)[k]?=some (some v):=by
 unfold v9;rw [i_,h];show some (match σ[j]? with|some v=>v|none=>none)=some (some v);rw [e]
def Rel.amb{K:a_}{A:Addr->Prop}{ρ:PSt}{σ:St}{H:Hp}{a:Addr}{o:HO}(R:Rel K A ρ σ H)(ha:A a):Rel K A ρ σ (upd H a o):=by
 have k:aZ (OO A ρ σ) H (OO A ρ σ) (upd H a o):=λb u n e=>⟨n,by rw [aR (λz=>n (by rw [z];exact .inl ha))];exact e⟩
 refine⟨R.len,λi q e=>?_,R.dj,λb z=>?_,R.sep⟩
 .obtain⟨v,s,r⟩:=R.get i q e;refine⟨v,s,r.keeps k λow b eb=>?_⟩;rw [aR];intro z;subst z eb;exact R.sep b ha ⟨i,q,e,ow,s⟩
 .by_cases z':b=a
  .rw [z',bd];exact nofun
  .rw [aR z'];exact R.dom b z
noncomputable def EQ(ix:List (Option Nat))(ρ:PSt):Bool:=ix.all λo=>match o with|none=>true|some j=>(match ρ[j]? with|some (some _)=>true|_=>false)
structure mJ (ix:List (Option Nat)) (ρ1:PSt) (n:Nat) (it:Nat->D) (g:PTG) (pt:PTT) (pe:PTE) (Q:PKt):Prop where
 ex:∃I:Nat->List D->PSt->Prop,I 0 [] (bx ix ρ1) /\
  (∀k ys τ d,k<n->d=it k->I k ys τ->g (.dat d) τ λτ2=>pt τ2 λok τ3=>ic ok (pe τ3 λp τ4=>I (k+1) (ys++[p.d]) τ4) (I (k+1) ys τ3))/\∀ys τ,I n ys τ->Q (.own ys) (fU ix ρ1 τ)
noncomputable def AJ(ix:List (Option Nat))(pi:PTI)(g:PTG)(pt:PTT)(pe:PTE):PTE:=λρ Q=>pi ρ λn it ρ1=>EQ ix ρ1=true/\n<=1000000/\mJ ix ρ1 n it g pt pe Q
def x9:PTT:=λρ Q=>Q true ρ
def dB{K:a_}:LT K mH x9:=λA ρ σ H Q Q' R q k=>k true H ρ q (Fr.refl _ _ _) R
noncomputable def BF(ix:List (Option Nat)):List Nat:=(e_ ix.length).filter λk=>(ix.getD k none).isSome
def bK{K:a_}{ix:List (Option Nat)}{wi:TI}{pi:PTI}{g:TG}{pg:PTG}{tts:TT}{pt:PTT}{te:TE}{pe:PTE}(hix:AI ix=true)(hi:LI K wi pi)(hg:∀fs:List Nat,(∀k∈fs,k∈BF ix)->LGd K fs g pg)(ht:LT K tts pt)(he:LE K te pe) :
  LE K (rK ix wi g tts te) (AJ ix pi pg pt pe):=λA ρ σ H Q Q' R q k=>hi A ρ σ H _ _ R q λJ H1 n it ρ1 q1 f1 R1 W D hD=>by
 obtain⟨hcap,hn,⟨I,i0,turn,after⟩⟩:=q1
 let τρ0:=bx ix ρ1
 let τσ0:=v9 ix σ
 let Ai:Addr->Prop:=λb=>A b\/b=D\/(Wr ρ1 σ b/\¬ Wr τρ0 τσ0 b)
 let H0':=upd H1 D (.lst [])
 have wsub:∀b,Wr τρ0 τσ0 b->Wr ρ1 σ b:=λb ⟨m,p,e,o,s⟩=>by
  obtain⟨j,h1,h2⟩:=gj e;obtain⟨v,hv,_⟩:=R1.get j p h2;have:=hC h1 hv;rw [s] at this;cases this;exact⟨j,p,h2,o,hv⟩
 have nD:¬ Wr ρ1 σ D:=λz=>R1.wr z hD
 have oosub:∀b,OO Ai τρ0 τσ0 b->OO A ρ1 σ b\/b=D:=λb z=>by
  rcases z with (z|z|z)|z
  .exact .inl (.inl z)
  .exact .inr z
  .exact .inl (.inr z.1)
  .exact .inl (.inr (wsub b z))
 have kD:aZ (OO A ρ1 σ) H1 (OO Ai τρ0 τσ0) H0':=λb o nn e=>by
  refine⟨λz=>?_,?_⟩
  .rcases oosub b z with z|z
   .exact nn z
   .rw [z,hD] at e;cases e
  .rw [show H0' b=H1 b from aR (bb e hD)];exact e
 have Ri:Rel K Ai τρ0 τσ0 H0':=by
  refine⟨by show (bx ix ρ1).length=(v9 ix σ).length;unfold bx v9;rw [length_map,length_map],λm p e=>?_,λm l p q v e1 e2 o1 o2 s1 s2=>?_,λb z=>?_,λb z w=>?_⟩
  .obtain⟨j,h1,h2⟩:=gj e;obtain⟨v,hv,r⟩:=R1.get j p h2;refine⟨v,hC h1 hv,r.keeps kD λow a ea=>?_⟩;subst ea;exact aR (λz=>nD (by rw [<- z];exact⟨j,p,h2,ow,hv⟩))
  .obtain⟨j,h1,h2⟩:=gj e1;obtain⟨j',h3,h4⟩:=gj e2;obtain⟨v1,hv1,_⟩:=R1.get j p h2;obtain⟨v2,hv2,_⟩:=R1.get j' q h4;have t1:=hC h1 hv1;have t2:=hC h3 hv2;rw [s1] at t1;rw [s2] at t2;cases t1;cases t2;have:=R1.dj j j' p q _ h2 h4 o1 o2 hv1 hv2;subst this;exact n8 hix h1 h3
  .rcases z with z|z|z
   .intro e
    by_cases zz:b=D
    .exact R1.dom b z (by rw [zz];exact hD)
    .rw [show H0' b=H1 b from aR zz] at e;exact R1.dom b z e
   .rw [z];show upd H1 D _ D≠none;rw [bd];exact nofun
   .intro e;rw [show H0' b=H1 b from aR (λzz=>nD (by rw [<- zz];exact z.1))] at e;exact R1.wr z.1 e
  .rcases z with z|z|z
   .exact R1.sep b z (wsub b w)
   .rw [z] at w;exact nD (wsub D w)
   .exact z.2 w
 let fxi:List (Nat×V):=(BF ix).filterMap λm=>match (τσ0[m]?) with|some (some v)=>some (m,v)|_=>none
 have hfx:∀p∈fxi,τσ0[p.1]?=some (some p.2):=λp hp=>by
  obtain⟨m,hm,e⟩:=IG.mp hp
  split at e
  .rename_i v ev;cases e;exact ev
  .cases e
 have hfs:∀m∈fxi.map G1,m∈BF ix:=λm hm=>by
  obtain⟨p,hp,rfl⟩:=Hb.mp hm;obtain⟨m',hm',e⟩:=IG.mp hp
  split at e
  .cases e;exact hm'
  .cases e
 have hgi:=hg (fxi.map G1) hfs
 have fxget:∀(m j:Nat) (v:V),ix[m]?=some (some j)->σ[j]?=some (some v)->(m,v)∈fxi:=λm j v h1 h2=>by
  refine IG.mpr ⟨m,?_,?_⟩
  .unfold BF;refine GW.mpr ⟨GQ.mpr (h_.mp h1).1,?_⟩;rw [cx,h1];rfl
  .show (match (v9 ix σ)[m]? with|some (some v)=>some (m,v)|_=>none)=_;rw [hC h1 h2]
 let Rr:Addr->Prop:=λb=>Wr τρ0 τσ0 b\/b=D
 have hRr:∀b,Rr b->OO Ai τρ0 τσ0 b:=λb z=>z.elim (λz=>.inr z) (λz=>.inl (.inr (.inl z)));have F0:gc fxi Rr H0' τρ0 τσ0 H0':=⟨λ_ _ _ h=>h,λ_ h=>h,λb w=>.inl (.inl w),hfx⟩
 refine⟨λi m τ H2=>i+m=n/\∃ys τρ xs,I i ys τρ/\ys.length<=i/\Rel K Ai τρ τ H2/\gc fxi Rr H0' τρ τ H2/\H2 D=some (.lst xs)/\FVs K (OO Ai τρ τ) H2 xs ys/\∀b,Wr τρ τ b->Wr τρ0 τσ0 b,
  ⟨n,IV n,[],τρ0,[],i0,o_ _,Ri,F0,bd,.nil,λ_ h=>h⟩,λi m τ H2 ⟨him,ys,τρ,xs,iv,hy,r2,F2,eD,fD,hw⟩=>?_⟩
 have kk:aZ (OO A ρ1 σ) H1 (OO Ai τρ τ) H2:=λb o nn e=>(F2.keepsR hRr) b o (kD b o nn e).1 (kD b o nn e).2;obtain⟨go,stop⟩:=W _ H2 kk r2.dom2
 by_cases hk:i<n
 .obtain⟨g1,g2⟩:=go i hk;refine .inr ⟨g1,λx H3 y=>?_⟩;obtain⟨gr,fv⟩:=g2 x H3 y;have AiD:Ai D:=.inr (.inl rfl);refine hgi fxi Ai Rr H0' τρ τ H3 _ x _ _ rfl (F2.fr gr.fr) (r2.gr gr) fv (turn i ys τρ _ hk rfl iv) λτρ2 τ2 q2 r3 F3 w3=>?_;refine ht Ai τρ2 τ2 H3 _ _ r3 q2 λok H5 τρ3 q3 f5 r5=>?_;have F5:=F3.fr f5;have fD5:FVs K (OO Ai τρ3 τ2) H5 xs ys:=((fD.keeps (gr.fr (ρ:=τρ) (σ:=τ)).keeps).keeps (aZ.less λb z=>z.imp id (w3 b))).keeps f5.keeps
  have eD5:H5 D=some (.lst xs):=f5.kp D _ (r3.sep D AiD) (gr D _ eD)
  cases ok with
  | true =>
   refine he Ai τρ3 τ2 H5 _ _ r5 q3 λv H6 p τρ4 q4 f6 o6=>?_;obtain⟨r6,fv6⟩:=o6.frz;have F6:=F5.fr f6;have eD6:H6 D=some (.lst xs):=f6.kp D _ (r5.sep D AiD) eD5;have kw:aZ (OO Ai τρ4 τ2) H6 (OO Ai τρ4 τ2) (upd H6 D (.lst (xs++[v]))):=λb o nn e=>⟨nn,by rw [aR (λz=>nn (by rw [z];exact .inl AiD))];exact e⟩
   refine⟨xs,eD6,?_,m - 1,by omega,by omega,ys++[p.d],τρ4,xs++[v],q4,by rw [length_append];show _+1<=_;omega,r6.amb AiD,⟨λb o nn e=>?_,λb z=>?_,F6.ow,F6.fx⟩,bd,((fD5.keeps f6.keeps).append (.cons fv6 .nil)).keeps kw,λb z=>hw b (w3 b (f5.ow b (f6.ow b z)))⟩
   .have:xs.length=ys.length:=fD.length;exact u_ (by omega:xs.length<1000000) (sz _ (o_ _))
   .rw [aR (λz=>nn (.inr z))];exact F6.kp b o nn e
   .by_cases zz:b=D
    .rw [zz,bd];exact nofun
    .rw [aR zz];exact F6.dm b z
  | false=>exact⟨m - 1,by omega,by omega,ys,τρ3,xs,q3,by omega,r5,F5,eD5,fD5,λb z=>hw b (w3 b (f5.ow b z))⟩
 .have e:i=n:=by omega
  subst e;refine .inl ⟨stop,?_⟩;have q':=after ys τρ iv
  have cap:∀(m j:Nat),ix[m]?=some (some j)->∃p v,ρ1[j]?=some (some p)/\σ[j]?=some (some v)/\τ[m]?=some (some v):=λm j e=>by
   have h1:=Jm.mp hcap _ (GD e);have h1:(match ρ1[j]? with|some (some _)=>true|_=>false)=true:=h1
   split at h1
   .rename_i p ep;obtain⟨v,hv,_⟩:=R1.get j p ep;exact⟨p,v,ep,hv,F2.fx _ (fxget m j v e hv)⟩
   .cases h1
  have get':∀(j:Nat) (p:PV),(fU ix ρ1 τρ)[j]?=some (some p)->(∃m v,ix[m]?=some (some j)/\σ[j]?=some (some v)/\τ[m]?=some (some v)/\τρ[m]?=some (some p))\/(some j∉ix/\ρ1[j]?=some (some p)):=λj p e=>by
   by_cases hj:some j∈ix
   .obtain⟨m,hm,em⟩:=Iz hj;have em':ix[m]?=some (some j):=by rw [cy hm,em]
    obtain⟨p0,v,h1,h2,h3⟩:=cap m j em';rw [rQ ix ρ1 τρ j m hix em' (by rw [r2.len];exact (h_.mp h3).1) (h_.mp h1).1] at e;exact .inl ⟨m,v,em',h2,h3,e⟩
   .rw [kN ix ρ1 τρ j hj] at e;exact .inr ⟨hj,e⟩
  have nocap:∀(j:Nat) (p:PV) (b:Addr),some j∉ix->ρ1[j]?=some (some p)->p.isOwn=true->σ[j]?=some (some (.ref b))->¬ Wr τρ0 τσ0 b:=λj p b hj e o s ⟨m,q,e1,o1,s1⟩=>by
   obtain⟨j',h1,h2⟩:=gj e1;obtain⟨v,hv,_⟩:=R1.get j' q h2;have:=hC h1 hv;rw [s1] at this;cases this;have:=R1.dj j j' p q _ e h2 o o1 s hv;subst this;exact hj (GD h1)
  have w':∀b,Wr (fU ix ρ1 τρ) σ b->Wr τρ τ b\/(Wr ρ1 σ b/\¬ Wr τρ0 τσ0 b):=λb ⟨j,p,e,o,s⟩=>by
   rcases get' j p e with ⟨m,v,h1,h2,h3,h4⟩|⟨hj,h1⟩
   .rw [s] at h2;cases h2;exact .inl ⟨m,p,h4,o,h3⟩
   .exact .inr ⟨⟨j,p,h1,o,s⟩,nocap j p b hj h1 o s⟩
  have oo':∀b,OO (fS A D) (fU ix ρ1 τρ) σ b->OO Ai τρ τ b:=λb z=>by
   rcases z with (z|z)|z
   .exact .inl (.inl z)
   .exact .inl (.inr (.inl z))
   .rcases w' b z with z|z
    .exact .inr z
    .exact .inl (.inr (.inr z))
  have kp1:∀b o,¬ Wr τρ0 τσ0 b->b≠D->H1 b=some o->H2 b=some o:=λb o n1 n2 e=>F2.kp b o (λz=>z.elim n1 n2) (by rw [show H0' b=H1 b from aR n2];exact e);have k1:aZ (OO A ρ1 σ) H1 (OO (fS A D) (fU ix ρ1 τρ) σ) H2:=λb o nn e=>⟨λz=>(kk b o nn e).1 (oo' b z),(kk b o nn e).2⟩
  have AiD:Ai D:=.inr (.inl rfl)
  have R':Rel K (fS A D) (fU ix ρ1 τρ) σ H2:=by
   refine⟨by rw [n6];exact R1.len,λj p e=>?_,λj l p q v e1 e2 o1 o2 s1 s2=>?_,λb z=>?_,λb z w=>?_⟩
   .rcases get' j p e with ⟨m,v,h1,h2,h3,h4⟩|⟨hj,h1⟩
    .obtain⟨v',hv',r⟩:=r2.get m p h4;rw [h3] at hv';cases hv';exact⟨v,h2,r.keeps (aZ.less oo') λ_ _ _=>rfl⟩
    .obtain⟨v,hv,r⟩:=R1.get j p h1;refine⟨v,hv,r.keeps k1 λow a ea=>?_⟩;subst ea;obtain⟨a',u,e1,e2⟩:=r.ref ow;cases e1;rw [e2];exact kp1 a u (nocap j p a hj h1 ow hv) (λz=>by rw [z,hD] at e2;cases e2) e2
   .rcases get' j p e1 with ⟨m,v1,h1,h2,h3,h4⟩|⟨hj,h1⟩
    .rw [s1] at h2;cases h2
     rcases get' l q e2 with ⟨m',v2,g1,g2,g3,g4⟩|⟨hl,g1⟩
     .rw [s2] at g2;cases g2;have:=r2.dj m m' p q _ h4 g4 o1 o2 h3 g3;subst this;rw [h1] at g1;cases g1;rfl
     .exfalso;obtain⟨v',hv',r⟩:=r2.get m p h4;rw [h3] at hv';cases hv';obtain⟨a,u,ea,_⟩:=r.ref o1;subst ea;exact nocap l q a hl g1 o2 s2 (hw a ⟨m,p,h4,o1,h3⟩)
    .rcases get' l q e2 with ⟨m',v2,g1,g2,g3,g4⟩|⟨hl,g1⟩
     .rw [s2] at g2;cases g2;exfalso;obtain⟨v',hv',r⟩:=r2.get m' q g4;rw [g3] at hv';cases hv';obtain⟨a,u,ea,_⟩:=r.ref o2;subst ea;exact nocap j p a hj h1 o1 s1 (hw a ⟨m',q,g4,o2,g3⟩)
     .exact R1.dj j l p q v h1 g1 o1 o2 s1 s2
   .rcases z with z|z
    .exact r2.dom b (.inl z)
    .rw [z,eD];exact nofun
   .rcases w' b w with w|w
    .rcases z with z|z
     .exact r2.sep b (.inl z) w
     .rw [z] at w;exact r2.sep D AiD w
    .rcases z with z|z
     .exact R1.sep b z w.1
     .rw [z] at w;exact nD w.1
  have f2:Fr ρ1 σ H1 (fU ix ρ1 τρ) H2:=by
   refine⟨λb o nn e=>kp1 b o (λz=>nn (wsub b z)) (λz=>by rw [z,hD] at e;cases e) e,λb z=>F2.dm b ?_,λb z=>?_⟩
   .intro e
    by_cases zz:b=D
    .exact z (by rw [zz];exact hD)
    .rw [show H0' b=H1 b from aR zz] at e;exact z e
   .rcases w' b z with z|z
    .exact wsub b (hw b z)
    .exact z.1
  have hD0:H D=none:=by
   cases e:H D with
   | none=>rfl
   | some o=>exact absurd hD (f1.dm D (by rw [e];exact nofun))
  exact k _ H2 (.own ys) _ q' (f1.trans f2) ⟨D,xs,rfl,λz=>R1.dom D z hD,hD0,eD,R',fD.keeps (aZ.less oo')⟩
section
variable {K:a_}{A A':Addr->Prop}{ρ:PSt}{σ:St}{H H':Hp}
def Rel.step(R:Rel K A ρ σ H){i:Nat}{p q:PV}{a:Addr}(e:ρ[i]?=some (some p))(ow:p.isOwn=true)(ow':q.isOwn=true)(es:σ[i]?=some (some (.ref a)))
  (kp:∀b o,b≠a->H b=some o->H' b=some o) (ha:H' a≠none) (h1:∀b,A b->A' b) (h2:∀b,A' b->A b\/H b=none) (dom':∀b,A' b->H' b≠none)
  (new:RS K (OO A' ρ σ) H' q (.ref a)):Rel K A' (ρ.set i (some q)) σ H'/\Fr ρ σ H (ρ.set i (some q)) H':=by
 have hi:i<ρ.length:=(h_.mp e).1;have wa:Wr ρ σ a:=⟨i,p,e,ow,es⟩
 have weq:∀b,Wr (ρ.set i (some q)) σ b ↔ Wr ρ σ b:=λb=>by
  constructor
  .rintro⟨j,r,e1,o1,s1⟩
   by_cases z:i=j
   .subst z;exact⟨i,p,e,ow,s1⟩
   .rw [n_ z] at e1;exact⟨j,r,e1,o1,s1⟩
  .rintro⟨j,r,e1,o1,s1⟩
   by_cases z:i=j
   .subst z;exact⟨i,q,p_ hi,ow',s1⟩
   .exact⟨j,r,by rw [n_ z];exact e1,o1,s1⟩
 have oeq:OO A' (ρ.set i (some q)) σ=OO A' ρ σ:=funext λb=>propext (or_congr Iff.rfl (weq b));have kp1:∀b u,¬ Wr ρ σ b->H b=some u->H' b=some u:=λb u n h=>kp b u (λz=>n (by rw [z];exact wa)) h
 have k:aZ (OO A ρ σ) H (OO A' ρ σ) H':=λb u n h=>by
  refine⟨λz=>?_,kp1 b u (λz=>n (.inr z)) h⟩
  rcases z with z|z
  .rcases h2 b z with z|z
   .exact n (.inl z)
   .rw [z] at h;cases h
  .exact n (.inr z)
 have dm:∀b,H b≠none->H' b≠none:=λb n=>by
  by_cases z:b=a
  .rw [z];exact ha
  .cases eb:H b with
   | none=>exact absurd eb n
   | some o=>rw [kp b o z eb];exact nofun
 refine⟨⟨by rw [GN];exact R.len,λj r e1=>?_,λj l p1 q1 v e1 e2 o1 o2 s1 s2=>?_,dom',λb z w=>?_⟩,⟨kp1,dm,λb w=>(weq b).mp w⟩⟩
 .rw [oeq]
  by_cases z:i=j
  .subst z;rw [p_ hi] at e1;cases e1;exact⟨_,es,new⟩
  .rw [n_ z] at e1;obtain⟨v,s,rr⟩:=R.get j r e1;refine⟨v,s,rr.keeps k λow2 b eb=>?_⟩;obtain⟨b',u,e3,e4⟩:=rr.ref ow2;rw [eb] at e3;cases e3;rw [e4];refine kp b u (λzz=>?_) e4;subst zz;rw [eb] at s;exact z (R.dj i j p r _ e e1 ow ow2 es s)
 .have ex:∀(m:Nat) (x:PV),(ρ.set i (some q))[m]?=some (some x)->x.isOwn=true->∃y:PV,ρ[m]?=some (some y)/\y.isOwn=true:=λm x em ox=>by
   by_cases z:i=m
   .subst z;exact⟨p,e,ow⟩
   .rw [n_ z] at em;exact⟨x,em,ox⟩
  obtain⟨y1,g1,g2⟩:=ex j p1 e1 o1;obtain⟨y2,g3,g4⟩:=ex l q1 e2 o2;exact R.dj j l y1 y2 v g1 g3 g2 g4 s1 s2
 .rcases h2 b z with z|z
  .exact R.sep b z ((weq b).mp w)
  .exact R.wr ((weq b).mp w) z
def Rel.lstw(R:Rel K A ρ σ H){i:Nat}{ds es:List D}{a:Addr}{ys:List V}(e:ρ[i]?=some (some (.own ds)))(es':σ[i]?=some (some (.ref a)))(f:FVs K (OO A ρ σ) H ys es) :
  Rel K A (ρ.set i (some (.own es))) σ (upd H a (.lst ys))/\Fr ρ σ H (ρ.set i (some (.own es))) (upd H a (.lst ys)):=by
 have wa:OO A ρ σ a:=.inr ⟨i,_,e,rfl,es'⟩;exact R.write (q:=.own es) e rfl rfl es' ⟨a,ys,rfl,bd,f.keeps λb u n h=>⟨n,by rw [aR (λz=>n (by rw [z];exact wa))];exact h⟩⟩
def Rel.ownAt(R:Rel K A ρ σ H){i:Nat}{ds:List D}(e:ρ[i]?=some (some (.own ds))):∃a xs,σ[i]?=some (some (.ref a))/\H a=some (.lst xs)/\FVs K (OO A ρ σ) H xs ds:=by
 obtain⟨v,s,a,xs,rfl,g,f⟩:=R.get i _ e;exact⟨a,xs,s,g,f⟩
end
noncomputable def FI(i:Nat)(pe:PTE):PTE:=λρ Q=>match ρ[i]? with
 | some (some (.own _))=>pe ρ λp ρ1=>(match ρ1[i]? with
  | some (some (.own ds))=>ds.length<1000000/\Q (.dat .non) (ρ1.set i (some (.own (ds++[p.d]))))
  | _=>False)
 | _=>False
noncomputable def C9(i:Nat)(pe pk:PTE):PTS:=λD ρ=>pe ρ λp ρ1=>(match ρ1[i]? with
 | some (some (.own _))=>pk ρ1 λkp ρ2=>(match ρ2[i]?,kp with
  | some (some (.own ds)),.dat (.int k)=>∃j,ixN ds.length k=some j/\D.nx (ρ2.set i (some (.own (ds.set j p.d))))
  | _,_=>False)
 | _=>False)
section
variable {K:a_}{te tk:TE}{pe pk:PTE}{fs:List Nat}
def qt{i:Nat}(h:LE K te pe):LE K (tBM K "list" vJ (bu i) (ba te fi)) (FI i pe):=λA ρ σ H Q Q' R q k=>by
 unfold FI at q
 split at q
 .rename_i ds0 e0;obtain⟨a0,xs0,s0,g0,f0⟩:=R.ownAt e0;refine⟨_,s0,.inl ⟨rfl,xs0,SqL.of g0⟩,h A ρ σ H _ _ R q λv H1 p ρ1 q1 f1 o1=>?_⟩;obtain⟨R1,fv⟩:=o1.frz
  split at q1
  .rename_i ds e1;obtain⟨a,xs,s,g,f⟩:=R1.ownAt e1;rw [s0] at s;cases s;obtain⟨R2,f2⟩:=R1.lstw e1 s0 (f.append (.cons fv .nil));exact⟨a0,xs,v,rfl,rfl,g,u_ (by rw [f.length];exact q1.1) (sz _ (o_ _)),k _ _ _ _ q1.2 (f1.trans f2) ⟨R2,.non⟩⟩
  .exact q1.elim
 .exact q.elim
def wy{i:Nat}(h:LE K te pe)(hk:LE K tk pk):LS K fs (Bx te (Fm (bu i) tk Ck)) (C9 i pe pk):=λfx A R H0 ρ σ H D D' hf r F q k1 k2 k3 k4=>h A ρ σ H _ _ r q λv H1 p ρ1 q1 f1 o1=>by
 obtain⟨R1,fv⟩:=o1.frz
 split at q1
 .rename_i ds0 e0;obtain⟨a0,xs0,s0,g0,f0⟩:=R1.ownAt e0;refine⟨_,s0,hk A ρ1 σ H1 _ _ R1 q1 λw H2 kp ρ2 q2 f2 o2=>?_⟩
  split at q2
  .rename_i ds j e2;obtain⟨n,hn,q2⟩:=q2;obtain⟨R2,fw⟩:=o2;cases fw;obtain⟨a,xs,s,g,f⟩:=R2.ownAt e2;rw [s0] at s;cases s;obtain⟨R3,f3⟩:=R2.lstw e2 s0 (FVs.set (fv.keeps f2.keeps) n f);exact⟨a0,xs,j,n,rfl,rfl,g,by rw [f.length];exact hn,k1 _ _ _ q2 R3 (((F.fr f1).fr f2).fr f3)⟩
  .exact q2.elim
 .exact q1.elim
end
noncomputable def spP(K:a_)(c:FN):Sp:=λvs H Q _=>∃(O:Addr->Prop) (ds:List D) (Qc:PV->Prop),(∀b,O b->H b≠none)/\FVs K O H vs ds/\c ds Qc/\∀r,Qc r->∀v H',Gr H H'->uL K O H H' r v->Q v H'
noncomputable def iZ(c:FN)(pr:PTA):PTE:=λρ Q=>pr ρ λas ρ1=>match avD as with
 | some ds=>c ds λr=>Q r ρ1
 | none=>False
def lm{N:List Str}{vs:List V}{i:Nat}{v:V}(h:vs[i]?=some v):(start N vs)[i]?=some (some v):=by
 unfold start;rw [G8 (by rw [length_map];exact (h_.mp h).1),i_,h];rfl
noncomputable def c6(n:Nat)(ps:List PV):PSt:=ps.map some++f_ (n - ps.length) none
def e6{n:Nat}{ps:List PV}{i:Nat}{p:PV}(h:(c6 n ps)[i]?=some (some p)):ps[i]?=some p:=by
 unfold c6 at h
 by_cases hi:i<ps.length
 .rw [G8 (by rw [length_map];exact hi),i_] at h
  cases e:ps[i]? with
  | none=>rw [e] at h;cases h
  | some q=>rw [e] at h;cases h;rfl
 .rw [G3 (by rw [length_map];omega)] at h;have:=GD h;rw [HH] at this;cases this.2
section
variable {K:a_}{tr:TA}{pr:PTA}{ts:TS}{ps:PTS}
def ax{c:FN}(h:LAs K tr pr):LE K (f9 (spP K c) [] E0 tr) (iZ c pr):=λA ρ σ H Q Q' R q k=>h A ρ σ H _ _ R q λvs H1 as ρ1 q1 f1 R1 o1=>by
 split at q1
 .rename_i ds e;rw [append_nil];exact⟨OO A ρ1 σ,ds,_,R1.dom2,o1.avD e,q1,λr qr v H' g ov=>k v H' r ρ1 qr (f1.trans g.fr) ((ov.out R1 g).h0 f1.dm)⟩
 .exact q1.elim
def Out.outV{O:Addr->Prop}{ρ:PSt}{σ:St}{H H':Hp}{p:PV}{v:V}(h:Out K O ρ σ H H' p v):uL K O H H' p v:=by
 cases p with
 | dat d=>exact h.2.keeps (aZ.less λb z=>.inl z)
 | own ds =>
  obtain⟨a,xs,e1,na,e2,e3,R,f⟩:=h;exact⟨a,xs,e1,e2,e3,f.keeps (aZ.less λb z=>.inl z)⟩
 | ins c ns ds =>
  obtain⟨a,dx,fs,e1,na,e2,e3,m,R,f⟩:=h;exact⟨a,dx,fs,e1,e2,e3,m,f.keeps (aZ.less λb z=>.inl z)⟩
def fnP{c:FN}{N:List Str}(hl:LS K [] ts ps)(hn:∀ds Q,c ds Q->ds.length<=N.length)(hc:∀ds Q,c ds Q->ps { nx:=λ_=>Q (.dat .non),rt:=λp _=>Q p } (c6 N.length (ds.map .dat)))
  {vs:List V}{H:Hp}{Q:VK}{E:XK} (h:spP K c vs H Q E):ts { nx:=λ_ H'=>Q .non H',rt:=Q } (start N vs) H:=by
 obtain⟨O,ds,Qc,dom,fv,hq,k⟩:=h
 have nw:∀(ρ:PSt) (b:Addr),ρ=c6 N.length (ds.map .dat)->¬ Wr ρ (start N vs) b:=λρ b e ⟨i,p,e1,o1,s1⟩=>by
  rw [e] at e1;have:=e6 e1;rw [i_] at this
  cases e2:ds[i]? with
  | none=>rw [e2] at this;cases this
  | some d=>rw [e2] at this;cases this;cases o1
 have lenv:=fv.length;have hle:=hn ds Qc hq
 have R0:Rel K O (c6 N.length (ds.map .dat)) (start N vs) H:=by
  refine⟨?_,λi p e=>?_,λi j p q v e1 e2 o1 o2 s1 s2=>?_,dom,λb _ w=>nw _ b rfl w⟩
  .unfold c6 start;rw [length_append,length_append,length_map,length_map,length_map,length_replicate,length_replicate,lenv]
  .have:=e6 e;rw [i_] at this
   cases e2:ds[i]? with
   | none=>rw [e2] at this;cases this
   | some d =>
    rw [e2] at this;cases this;obtain⟨v,hv,f⟩:=fv.getD e2;exact⟨v,lm hv,f.keeps (aZ.less λb z=>z.elim id λw=>absurd w (nw _ b rfl))⟩
  .have:=e6 e1;rw [i_] at this
   cases e3:ds[i]? with
   | none=>rw [e3] at this;cases this
   | some d=>rw [e3] at this;cases this;cases o1
 refine hl [] O (λ_=>False) H _ _ H _ _ rfl R0 ⟨λ_ _ _ h=>h,λ_ h=>h,λb w=>absurd w (nw _ b rfl),λp hp=>nomatch hp⟩ (hc ds Qc hq) (λρ' σ' H' q r F=>?_) (λv p ρ' σ' H' q o F=>?_) (λ_ _ _ z=>z.elim) (λ_ _ _ z=>z.elim)
 .exact k _ q .non H' (λb o e=>F.kp b o id e) .non
 .exact k _ q v H' (λb o e=>F.kp b o id e) o.outV
abbrev FR:=PV->List D->(PV->PV->Prop)->Prop
noncomputable def spR(K:a_)(c:FR):Sp:=λvs H Q _=>∃(A:Addr->Prop) (a:Addr) (p:PV) (ws:List V) (ds:List D) (Qc:PV->PV->Prop),vs=.ref a::ws/\p.isOwn=true/\(∀b,A b->H b≠none)/\¬ A a/\RS K (fS A a) H p (.ref a)/\FVs K (fS A a) H ws ds/\c p ds Qc /\
 ∀r p',Qc r p'->p'.isOwn=true->∀v H',(∀b o,b≠a->H b=some o->H' b=some o)->H' a≠none->RS K (fS A a) H' p' (.ref a)->uL K (fS A a) H H' r v->(∀a',v=.ref a'->r.isOwn=true->RS K (fS (fS A a) a') H' p' (.ref a))->Q v H'
noncomputable def yS(c:FR)(i:Nat)(pr:PTA):PTE:=λρ Q=>match ρ[i]? with
 | some (some _)=>pr ρ λas ρ1=>(match ρ1[i]?,avD as with
  | some (some p),some ds=>p.isOwn=true/\c p ds λr p'=>Q r (ρ1.set i (some p'))
  | _,_=>False)
 | _=>False
def aD{c:FR}{i:Nat}(h:LAs K tr pr):LE K (f9 (spR K c) [] E0 (ba (bu i) tr)) (yS c i pr):=λA ρ σ H Q Q' R q k=>by
 unfold yS at q
 split at q
 .rename_i p0 e0;obtain⟨v0,s0,_⟩:=R.get i p0 e0;refine⟨v0,s0,h A ρ σ H _ _ R q λvs H1 as ρ1 q1 f1 R1 o1=>?_⟩
  split at q1
  .rename_i p ds e1 ed;obtain⟨ow,q1⟩:=q1;obtain⟨v1,s1,rs⟩:=R1.get i p e1;rw [s0] at s1;cases s1;obtain⟨a,u,rfl,ea⟩:=rs.ref ow;rw [append_nil];have wa:Wr ρ1 σ a:=⟨i,p,e1,ow,s0⟩
   have oeq:fS (λb=>(OO A ρ1 σ b)/\b≠a) a=OO A ρ1 σ:=funext λb=>propext ⟨λz=>z.elim (λz=>z.1) (λz=>by rw [z];exact .inr wa),λz=>by
    by_cases e:b=a
    .exact .inr e
    .exact .inl ⟨z,e⟩⟩
   refine⟨λb=>(OO A ρ1 σ b)/\b≠a,a,p,vs,ds,_,rfl,ow,λb z=>R1.dom2 b z.1,λz=>z.2 rfl,by rw [oeq];exact rs,by rw [oeq];exact o1.avD ed,q1,λr p' qr ow' v H' kp ha rs' ov hx=>?_⟩;rw [oeq] at rs' ov hx
   have domA:∀b,A b->H' b≠none:=λb z=>by
    have:b≠a:=λe=>R1.sep b z (by rw [e];exact wa)
    cases eb:H1 b with
    | none=>exact absurd eb (R1.dom b z)
    | some o=>rw [kp b o this eb];exact nofun
   cases r with
   | dat d =>
    obtain⟨R2,f2⟩:=R1.step (A':=A) e1 ow ow' s0 kp ha (λ_ h=>h) (λ_ h=>.inl h) domA rs';exact k v H' _ _ qr (f1.trans f2) ⟨R2,FV.keeps (aZ.less λb z=>z.imp id (f2.ow b)) ov⟩
   | own es =>
    obtain⟨a',xs,rfl,n1,e2,f⟩:=ov;have hx:=hx a' rfl rfl;have na:a'≠a:=λe=>by rw [e,ea] at n1;cases n1
    have oo2:∀b,OO (fS A a') ρ1 σ b ↔ fS (OO A ρ1 σ) a' b:=λb=>⟨λz=>by
     rcases z with (z|z)|z
     .exact .inl (.inl z)
     .exact .inr z
     .exact .inl (.inr z),λz=>by
     rcases z with (z|z)|z
     .exact .inl (.inl z)
     .exact .inr z
     .exact .inl (.inr z)⟩
    have oo2':OO (fS A a') ρ1 σ=fS (OO A ρ1 σ) a':=funext λb=>propext (oo2 b)
    obtain⟨R2,f2⟩:=R1.step (A':=fS A a') e1 ow ow' s0 kp ha (λ_ h=>.inl h) (λb z=>z.imp id λz=>by rw [z];exact n1) (λb z=>z.elim (domA b) λz=>by rw [z,e2];exact nofun) (by rw [oo2'];exact hx)
    .refine k _ H' (.own es) _ qr (f1.trans f2) ⟨a',xs,rfl,λz=>R1.dom a' z n1,?_,e2,R2,f.keeps (aZ.less λb z=>?_)⟩
     .cases eb:H a' with
      | none=>rfl
      | some o=>exact absurd n1 (f1.dm a' (by rw [eb];exact nofun))
     .rw [<- oo2'];exact z.imp id (f2.ow b)
   | ins c ns es =>
    obtain⟨a',dx,fs,rfl,n1,e2,m,f⟩:=ov;have hx:=hx a' rfl rfl
    have oo2':OO (fS A a') ρ1 σ=fS (OO A ρ1 σ) a':=funext λb=>propext ⟨λz=>by
     rcases z with (z|z)|z
     .exact .inl (.inl z)
     .exact .inr z
     .exact .inl (.inr z),λz=>by
     rcases z with (z|z)|z
     .exact .inl (.inl z)
     .exact .inr z
     .exact .inl (.inr z)⟩
    obtain⟨R2,f2⟩:=R1.step (A':=fS A a') e1 ow ow' s0 kp ha (λ_ h=>.inl h) (λb z=>z.imp id λz=>by rw [z];exact n1) (λb z=>z.elim (domA b) λz=>by rw [z,e2];exact nofun) (by rw [oo2'];exact hx)
    .refine k _ H' (.ins c ns es) _ qr (f1.trans f2) ⟨a',dx,fs,rfl,λz=>R1.dom a' z n1,?_,e2,m,R2,f.keeps (aZ.less λb z=>?_)⟩
     .cases eb:H a' with
      | none=>rfl
      | some o=>exact absurd n1 (f1.dm a' (by rw [eb];exact nofun))
     .rw [<- oo2'];exact z.imp id (f2.ow b)
  .exact q1.elim
 .exact q.elim
noncomputable def BG(Q:PV->PV->Prop)(r:PV)(ρ:PSt):Prop:=match ρ[0]? with
 | some (some p)=>p.isOwn=true/\Q r p
 | _=>False
def fnR{c:FR}{N:List Str}(hl:LS K [0] ts ps)(hn:∀p ds Q,c p ds Q->ds.length+1<=N.length)(hc:∀p ds Q,p.isOwn=true->c p ds Q->ps { nx:=BG Q (.dat .non),rt:=BG Q } (c6 N.length (p::ds.map .dat)))
  {vs:List V}{H:Hp}{Q:VK}{E:XK} (h:spR K c vs H Q E):ts { nx:=λ_ H'=>Q .non H',rt:=Q } (start N vs) H:=by
 obtain⟨A,a,p,ws,ds,Qc,rfl,ow,dom,na,rs,fv,hq,k⟩:=h;have s0:(start N (V.ref a::ws))[0]?=some (some (.ref a)):=lm rfl;have b0:(c6 N.length (p::ds.map .dat))[0]?=some (some p):=rfl
 have wr:∀b,Wr (c6 N.length (p::ds.map .dat)) (start N (.ref a::ws)) b->b=a:=λb ⟨i,q,e1,o1,s1⟩=>by
  have:=e6 e1
  cases i with
  | zero=>rw [s0] at s1;cases s1;rfl
  | succ i =>
   rw [Ie,i_] at this
   cases e2:ds[i]? with
   | none=>rw [e2] at this;cases this
   | some d=>rw [e2] at this;cases this;cases o1
 have wa:Wr (c6 N.length (p::ds.map .dat)) (start N (.ref a::ws)) a:=⟨0,p,b0,ow,s0⟩
 have oeq:OO A (c6 N.length (p::ds.map .dat)) (start N (.ref a::ws))=fS A a:=funext λb=>propext ⟨λz=>z.imp id (wr b),λz=>z.imp id λz=>by rw [z];exact wa⟩;have lenv:=fv.length;have hle:=hn p ds Qc hq
 have R0:Rel K A (c6 N.length (p::ds.map .dat)) (start N (.ref a::ws)) H:=by
  refine⟨?_,λi q e=>?_,λi j q1 q2 v e1 e2 o1 o2 s1 s2=>?_,dom,λb z w=>?_⟩
  .unfold c6 start;simp only [length_append,length_map,length_replicate,length_cons,lenv]
  .have:=e6 e;rw [oeq]
   cases i with
   | zero=>cases this;exact⟨_,s0,rs⟩
   | succ i =>
    rw [Ie,i_] at this
    cases e2:ds[i]? with
    | none=>rw [e2] at this;cases this
    | some d =>
     rw [e2] at this;cases this;obtain⟨v,hv,f⟩:=fv.getD e2;exact⟨v,lm (by rw [Ie];exact hv),f⟩
  .have own0:∀(i:Nat) (q:PV),(c6 N.length (p::ds.map .dat))[i]?=some (some q)->q.isOwn=true->i=0:=λi q e o=>by
    have:=e6 e
    cases i with
    | zero=>rfl
    | succ i =>
     rw [Ie,i_] at this
     cases e2:ds[i]? with
     | none=>rw [e2] at this;cases this
     | some d=>rw [e2] at this;cases this;cases o
   rw [own0 i q1 e1 o1,own0 j q2 e2 o2]
  .rw [wr b w] at z;exact na z
 have fin:∀(v:V) (r:PV) (ρ':PSt) (σ':St) (H':Hp),BG Qc r ρ'->Out K A ρ' σ' H H' r v->gc [(0,.ref a)] (λb=>b=a) H ρ' σ' H'->Q v H':=λv r ρ' σ' H' q o F=>by
  unfold BG at q
  split at q
  .rename_i p' e';obtain⟨ow',q⟩:=q;have sa:=F.fx (0,.ref a) (v_.mpr rfl);have wa':Wr ρ' σ' a:=⟨0,p',e',ow',sa⟩
   have kpa:∀b o,b≠a->H b=some o->H' b=some o:=λb o n e=>F.kp b o n e
   cases r with
   | dat d =>
    obtain⟨R1,f1⟩:=o;obtain⟨v1,s1,rs1⟩:=R1.get 0 p' e';rw [sa] at s1;cases s1;have less:∀b,fS A a b->OO A ρ' σ' b:=λb z=>z.imp id λz=>by rw [z];exact wa'
    exact k _ p' q ow' v H' kpa (R1.wr wa') (rs1.keeps (aZ.less less) λ_ _ _=>rfl) (f1.keeps (aZ.less less)) (λ_ _ z=>nomatch z)
   | own es =>
    obtain⟨a',xs,rfl,n1,n2,e3,R1,f1⟩:=o;obtain⟨v1,s1,rs1⟩:=R1.get 0 p' e';rw [sa] at s1;cases s1
    have less:∀b,fS (fS A a) a' b->OO (fS A a') ρ' σ' b:=λb z=>by
     rcases z with (z|z)|z
     .exact .inl (.inl z)
     .exact .inr (by rw [z];exact wa')
     .exact .inl (.inr z)
    exact k _ p' q ow' _ H' kpa (R1.wr wa') (rs1.keeps (aZ.less λb z=>less b (.inl z)) λ_ _ _=>rfl) ⟨a',xs,rfl,n2,e3,f1.keeps (aZ.less less)⟩ (λa'' e _=>by cases e;exact rs1.keeps (aZ.less less) λ_ _ _=>rfl)
   | ins c ns es =>
    obtain⟨a',dx,fs,rfl,n1,n2,e3,m,R1,f1⟩:=o;obtain⟨v1,s1,rs1⟩:=R1.get 0 p' e';rw [sa] at s1;cases s1
    have less:∀b,fS (fS A a) a' b->OO (fS A a') ρ' σ' b:=λb z=>by
     rcases z with (z|z)|z
     .exact .inl (.inl z)
     .exact .inr (by rw [z];exact wa')
     .exact .inl (.inr z)
    exact k _ p' q ow' _ H' kpa (R1.wr wa') (rs1.keeps (aZ.less λb z=>less b (.inl z)) λ_ _ _=>rfl) ⟨a',dx,fs,rfl,n2,e3,m,f1.keeps (aZ.less less)⟩ (λa'' e _=>by cases e;exact rs1.keeps (aZ.less less) λ_ _ _=>rfl)
  .exact q.elim
 refine hl [(0,.ref a)] A (λb=>b=a) H _ _ H _ _ rfl R0 ⟨λ_ _ _ h=>h,λ_ h=>h,λb w=>.inl (wr b w),λq hq=>by rw [v_.mp hq];exact s0⟩ (hc p ds Qc ow hq) (λρ' σ' H' q r F=>fin .non (.dat .non) ρ' σ' H' q ⟨r,.non⟩ F) (λv p ρ' σ' H' q o F=>fin v p ρ' σ' H' q o F) (λ_ _ _ z=>z.elim) (λ_ _ _ z=>z.elim)
end
noncomputable def FJ:FN:=λas Q=>∃ns:List Int,as=[.scr ns]/\ns.length<=63/\Q (.dat (.bl true))
def AK{K:a_}{vs:List V}{H:Hp}{Q:VK}{E:XK}(h:uI K vs H Q E):spP K FJ vs H Q E:=by
 obtain⟨a,ns,rfl,hS,h63,q⟩:=h
 refine⟨λ_=>False,[.scr ns],λr=>r=.dat (.bl true),nofun,.cons (.scr ?_) .nil,⟨ns,rfl,h63,rfl⟩,λr e v H' g o=>?_⟩
 .rcases hS with h|h
  .exact .inl ⟨id,h⟩
  .exact .inr h
 .subst e;cases o;exact q H'
section
variable {K:a_}{X:Cx}
noncomputable def FK:List V->Hp->VK->Prop:=λxs H Q=>∃i,xs=[.int i]/\Q (.int (if i<0 then -i else i)) H
noncomputable def Db:List V->Hp->VK->Prop:=λxs H Q=>∃i j,xs=[.int i,.int j]/\Q (.int (if j<i then j else i)) H
noncomputable def Dc:List V->Hp->VK->Prop:=λxs H Q=>∃i j,xs=[.int i,.int j]/\Q (.int (if j > i then j else i)) H
def ER:bI X (.builtin "abs") FK:=xL
def wz(hc:X.calm=true):bI X (.builtin "min") Db:=vB hc
def Dd(hc:X.calm=true):bI X (.builtin "max") Dc:=vA hc
noncomputable def FL:FN
 | [.int i],Q=>Q (.dat (.int (if i<0 then -i else i)))
 | _,_=>False
noncomputable def De:FN
 | [.int i,.int j],Q=>Q (.dat (.int (if j<i then j else i)))
 | _,_=>False
noncomputable def Df:FN
 | [.int i,.int j],Q=>Q (.dat (.int (if j > i then j else i)))
 | _,_=>False
def Dg:LC K FK FL:=by
 intro O H xs as Q Q' dom fs q k;unfold FL at q
 split at q
 .cases fs with|cons a b=>cases b;rw [a.int];exact⟨_,rfl,k _ H _ q (Gr.refl _) (.int _)⟩
 .exact q.elim
def rR:LC K Db De:=by
 intro O H xs as Q Q' dom fs q k;unfold De at q
 split at q
 .cases fs with
  | cons a b=>cases b with|cons b c=>cases c;rw [a.int,b.int];exact⟨_,_,rfl,k _ H _ q (Gr.refl _) (.int _)⟩
 .exact q.elim
def AL:LC K Dc Df:=by
 intro O H xs as Q Q' dom fs q k;unfold Df at q
 split at q
 .cases fs with
  | cons a b=>cases b with|cons b c=>cases c;rw [a.int,b.int];exact⟨_,_,rfl,k _ H _ q (Gr.refl _) (.int _)⟩
 .exact q.elim
noncomputable def Dh(K:a_):List V->Hp->VK->Prop:=λxs H Q=>∃(p:Addr) (ns:List Int),xs=[.ref p]/\SqL K H p (ns.map V.int)/\Q (.int ns.sum) H
noncomputable def FO(K:a_):List V->Hp->VK->Prop:=λxs H Q=>∃(p:Addr) (bs:List Bool),xs=[.ref p]/\SqL K H p (bs.map V.bl)/\Q (.bl (bs.all id)) H
noncomputable def FP(K:a_):List V->Hp->VK->Prop:=λxs H Q=>∃(p:Addr) (bs:List Bool),xs=[.ref p]/\SqL K H p (bs.map V.bl)/\Q (.bl (bs.any id)) H
def yT(K:a_)(e:X.K=K)(hc:X.calm=true):bI X (.builtin "sum") (Dh K):=by subst e;exact wo hc
def ES(K:a_)(e:X.K=K)(hc:X.calm=true):bI X (.builtin "all") (FO K):=by subst e;exact xY hc
def ET(K:a_)(e:X.K=K)(hc:X.calm=true):bI X (.builtin "any") (FP K):=by subst e;exact xZ hc
noncomputable def AM:FN
 | [.lst ds],Q=>∃ns:List Int,ds=ns.map .int/\Q (.dat (.int ns.sum))
 | _,_=>False
noncomputable def EU:FN
 | [.lst ds],Q=>∃bs:List Bool,ds=bs.map .bl/\Q (.dat (.bl (bs.all id)))
 | _,_=>False
noncomputable def FQ:FN
 | [.lst ds],Q=>∃bs:List Bool,ds=bs.map .bl/\Q (.dat (.bl (bs.any id)))
 | _,_=>False
def wA:LC K (Dh K) AM:=by
 intro O H xs as Q Q' dom fs q k;unfold AM at q
 split at q
 .obtain⟨ns,rfl,q⟩:=q
  cases fs with
  | cons a b =>
   cases b;obtain⟨p,ys,rfl,e1,f1⟩:=a.lst;rw [f1.ints] at e1;exact⟨p,ns,rfl,SqL.of e1,k _ H _ q (Gr.refl _) (.int _)⟩
 .exact q.elim
def Di:LC K (FO K) EU:=by
 intro O H xs as Q Q' dom fs q k;unfold EU at q
 split at q
 .obtain⟨ns,rfl,q⟩:=q
  cases fs with
  | cons a b =>
   cases b;obtain⟨p,ys,rfl,e1,f1⟩:=a.lst;rw [f1.bls] at e1;exact⟨p,ns,rfl,SqL.of e1,k _ H _ q (Gr.refl _) (.bl _)⟩
 .exact q.elim
def Dj:LC K (FP K) FQ:=by
 intro O H xs as Q Q' dom fs q k;unfold FQ at q
 split at q
 .obtain⟨ns,rfl,q⟩:=q
  cases fs with
  | cons a b =>
   cases b;obtain⟨p,ys,rfl,e1,f1⟩:=a.lst;rw [f1.bls] at e1;exact⟨p,ns,rfl,SqL.of e1,k _ H _ q (Gr.refl _) (.bl _)⟩
 .exact q.elim
noncomputable def AN(K:a_):List V->Hp->VK->Prop:=λxs H Q=>∃p ys,xs=[.ref p]/\((SqL K H p ys/\∀l,H l=none->Q (.ref l) (upd H l (.tup ys)))\/(SqT K H p ys/\Q (.ref p) H))
def lp(K:a_)(e:X.K=K):bI X (.type "tuple") (AN K):=by subst e;exact nN
def tU(K:a_)(e:X.K=K):bI X (.type "list") (wq K):=by subst e;exact p8
noncomputable def tV:FN
 | [.lst ds],Q=>Q (.dat (.tup ds))
 | [.tup ds],Q=>Q (.dat (.tup ds))
 | [.scr ns],Q=>Q (.dat (.tup (ns.map .int)))
 | _,_=>False
noncomputable def AO:FN
 | [.lst ds],Q=>Q (.own ds)
 | [.tup ds],Q=>Q (.own ds)
 | [.scr ns],Q=>Q (.own (ns.map .int))
 | _,_=>False
def i3:LC K (AN K) tV:=by
 intro O H xs as Q Q' dom fs q k;unfold tV at q
 split at q
 .cases fs with
  | cons a b =>
   cases b;obtain⟨p,ys,rfl,e1,f1⟩:=a.lst;exact⟨p,ys,rfl,.inl ⟨SqL.of e1,λl hl=>k _ _ _ q (Gr.new hl) (nY dom hl f1)⟩⟩
 .cases fs with
  | cons a b =>
   cases b;obtain⟨p,ys,rfl,n1,e1,f1⟩:=a.tup;exact⟨p,ys,rfl,.inr ⟨SqT.of e1,k _ H _ q (Gr.refl _) (.tup n1 e1 f1)⟩⟩
 .cases fs with
  | cons a b =>
   cases b;obtain⟨p,rfl,e1⟩:=a.scr;exact⟨p,_,rfl,.inl ⟨e1,λl hl=>k _ _ _ q (Gr.new hl) (nY dom hl (FVs.of_ints _))⟩⟩
 .exact q.elim
def n9:LC K (wq K) AO:=by
 intro O H xs as Q Q' dom fs q k;unfold AO at q
 split at q
 .cases fs with
  | cons a b =>
   cases b;obtain⟨p,ys,rfl,e1,f1⟩:=a.lst;exact⟨p,ys,rfl,.inl (SqL.of e1),λl hl=>k _ _ _ q (Gr.new hl) (eL hl f1)⟩
 .cases fs with
  | cons a b =>
   cases b;obtain⟨p,ys,rfl,n1,e1,f1⟩:=a.tup;exact⟨p,ys,rfl,.inr (SqT.of e1),λl hl=>k _ _ _ q (Gr.new hl) (eL hl f1)⟩
 .cases fs with
  | cons a b =>
   cases b;obtain⟨p,rfl,e1⟩:=a.scr;exact⟨p,_,rfl,.inl e1,λl hl=>k _ _ _ q (Gr.new hl) (eL hl (FVs.of_ints _))⟩
 .exact q.elim
variable {ta:TE}{pa:PA1}{tr:TA}{pr:PTA}{pe:PTE}
noncomputable def mkL(tup:Bool)(ds:List D):PV:=match tup with|true=>.dat (.tup ds)|false=>.own ds
abbrev FM:=List Nat->List D->(PV->Prop)->Prop
noncomputable def LM(K:a_)(r:V->List V->Hp->VK->Prop)(f:FM):Prop:=∀(O:Addr->Prop) (H:Hp) (l:List Nat) (xs:List V) (as:List D) (Q:PV->Prop) (Q':VK),(∀b,O b->H b≠none)->l.length<=1000000->BC K O H xs as->f l as Q ->
 (∀v H' p,Q p->Gr H H'->uL K O H H' p v->Q' v H')->r (.str (S l)) xs H Q'
noncomputable def pSM(f:FM)(pe:PTE)(pr:PTA):PTE:=λρ Q=>pe ρ λp ρ1=>match p with
 | .dat (.str l)=>pr ρ1 λas ρ2=>(match conts ρ2 as with
  | some ds=>f l ds λr=>Q r ρ2
  | none=>False)
 | _=>False
def wB{r:V->List V->Hp->VK->Prop}{f:FM}(o:LM K r f)(he:LE K ta pe)(hr:LAs K tr pr):LE K (tBM K "str" r ta tr) (pSM f pe pr):=λA ρ σ H Q Q' R q k=>he A ρ σ H _ _ R q λv H1 p ρ1 q1 f1 o1=>by
 split at q1
 .rename_i l;obtain⟨R1,fv⟩:=o1
  cases fv with
  | str _ hl =>
   refine⟨rfl,hr A ρ1 σ H1 _ _ R1 q1 λvs H2 as ρ2 q2 f2 R2 o2=>?_⟩
   split at q2
   .rename_i ds e;exact o _ H2 l vs ds _ _ R2.dom2 hl (R2.conts o2 e) q2 λz H3 p q3 g ov=>k z H3 p ρ2 q3 ((f1.trans f2).trans g.fr) ((ov.out R2 g).h0 λb z=>f2.dm b (f1.dm b z))
   .exact q2.elim
 .exact q1.elim
noncomputable def Dk:V->List V->Hp->VK->Prop:=λx xs H Q=>∃a b,x=.str (S a)/\xs=[.str (S b)]/\Q (.bl (decide (b <:+ a))) H
noncomputable def yU:V->List V->Hp->VK->Prop:=λx xs H Q=>∃a b,x=.str (S a)/\xs=[.str (S b)]/\Q (.int (fnd a b 0)) H
def AQ:MtR X "str.endswith" Dk:=rJ
def tW:MtR X "str.find" yU:=xW
noncomputable def Dl:FM
 | a,[.str b],Q=>Q (.dat (.bl (decide (b <:+ a))))
 | _,_,_=>False
noncomputable def yV:FM
 | a,[.str b],Q=>Q (.dat (.int (fnd a b 0)))
 | _,_,_=>False
def AR:LM K Dk Dl:=by
 intro O H l xs as Q Q' dom hl fs q k;unfold Dl at q
 split at q
 .cases fs with|cons a b=>cases b;rw [a.str.1];exact⟨_,_,rfl,rfl,k _ H _ q (Gr.refl _) (.bl _)⟩
 .exact q.elim
def tX:LM K yU yV:=by
 intro O H l xs as Q Q' dom hl fs q k;unfold yV at q
 split at q
 .cases fs with|cons a b=>cases b;rw [a.str.1];exact⟨_,_,rfl,rfl,k _ H _ q (Gr.refl _) (.int _)⟩
 .exact q.elim
noncomputable def ie(f:Str):List Str->Option Nat
 | []=>none
 | n::r=>if n=f then some 0 else (ie f r).map (·+1)
theorem qu{f:Str}:∀{fs:List (Str×V)}{k:Nat},ie f (fs.map G1)=some k->fs.lookup f=(fs.map IL)[k]?
 | [],k,h=>by cases h
 | (n,v)::r,k,h=>by
  unfold ie at h;rw [map_cons] at h;simp only at h;rw [G9]
  by_cases e:n=f
  .rw [if_pos e] at h;cases h;rw [show (f == n)=true by rw [e];exact beq_self_eq_true _];rfl
  .rw [if_neg e] at h;rw [show (f == n)=false from beq_eq_false_iff_ne.mpr λz=>e z.symm]
   cases e2:ie f (r.map G1) with
   | none=>rw [e2] at h;cases h
   | some j=>rw [e2] at h;cases h;show HM f r=_;rw [qu e2];simp
theorem oa{f:Str}{v:V}:∀{fs:List (Str×V)},ie f (fs.map G1)=none->mW f v fs=fs++[(f,v)]
 | [],h=>rfl
 | (n,x)::r,h=>by
  unfold ie at h;rw [map_cons] at h;simp only at h
  by_cases e:n=f
  .rw [if_pos e] at h;cases h
  .rw [if_neg e] at h
   cases e2:ie f (r.map G1) with
   | none=>unfold mW;rw [if_neg e,oa e2];rfl
   | some j=>rw [e2] at h;cases h
def FVc.obj{O:Addr->Prop}{H:Hp}{v:V}{c:Str}{ns:List Str}{ds:List D}(h:FVc K O H v (.obj c ns ds)):∃a dx fs,v=.ref a/\H a=some (.ins (cG K c) dx fs)/\fs.map G1=ns/\FVs K O H (fs.map IL) ds:=by
 rcases h with h|⟨a,xs,ds',e1,e2,e3,f⟩|⟨a,dx,c,fs,ns,ds',e1,e2,e3,m,f⟩
 .cases h with
  | obj n e m f=>exact⟨_,_,_,rfl,e,m,f⟩
 .cases e2
 .cases e2;exact⟨a,dx,fs,e1,e3,m,f⟩
noncomputable def D9(c0:Str)(ns0:List Str)(k:Nat)(pa:PA1):PTE:=λρ Q=>pa ρ λx ρ1=>match cont ρ1 x with
 | some (.obj c ns ds)=>(c=c0/\ns=ns0)/\∃d,ds[k]?=some d/\Q (.dat d) ρ1
 | _=>False
def lu{c0 f:Str}{ns0:List Str}{i:Nat}(hc:Cls K (cG K c0))(hn:fQ K (cG K c0) f)(hk:ie f ns0=some i)(h:LA1 K ta pa):LE K (BA K ta f) (D9 c0 ns0 i pa):=λA ρ σ H Q Q' R q k=>h A ρ σ H _ _ R q λv H1 a ρ1 q1 f1 R1 o1=>by
 split at q1
 .rename_i c ns ds e;obtain⟨⟨rfl,rfl⟩,d,hd,q1⟩:=q1;obtain⟨a,dx,fs,rfl,e1,m,f⟩:=(R1.cont o1 e).obj;obtain⟨v,hv,fv⟩:=f.getD hd;exact⟨a,_,dx,fs,v,rfl,e1,hc,hn,by rw [qu (k:=i) (by rw [m];exact hk)];exact hv,k v H1 _ ρ1 q1 f1 ⟨R1,fv⟩⟩
 .exact q1.elim
noncomputable def qv(c0:Str)(ns0:List Str)(f:Str)(i:Nat)(pe:PTE):PTS:=λD ρ=>pe ρ λp ρ1=>match ρ1[i]? with
 | some (some (.ins c ns ds))=>(c=c0/\ns=ns0/\ns0.length<1000)/\D.nx (ρ1.set i (some (.ins c0 (ns0++[f]) (ds++[p.d]))))
 | _=>False
def og{fs':List Nat}{c0 f:Str}{ns0:List Str}{i:Nat}(hc:Cls K (cG K c0))(hn:fQ K (cG K c0) f)(hk:ie f ns0=none)(h:LE K ta pe):LS K fs' (Fs K (bu i) ta f) (qv c0 ns0 f i pe):=λfx A R H0 ρ σ H D D' hf r F q k1 k2 k3 k4=>h A ρ σ H _ _ r q λv H1 p ρ1 q1 f1 o1=>by
 obtain⟨R1,fv⟩:=o1.frz
 split at q1
 .rename_i c ns ds e;obtain⟨⟨rfl,rfl,hl⟩,q1⟩:=q1;obtain⟨w,s,a,dx,fs,rfl,g,m,ff⟩:=R1.get i _ e;have hk':ie f (fs.map G1)=none:=by rw [m];exact hk
  have wa:OO A ρ1 σ a:=.inr ⟨i,_,e,rfl,s⟩;have kw:∀o,aZ (OO A ρ1 σ) H1 (OO A ρ1 σ) (upd H1 a o):=λo b u n h=>⟨n,by rw [aR (λz=>n (by rw [z];exact wa))];exact h⟩
  obtain⟨R2,f2⟩:=R1.write (o:=.ins (cG K c) dx (mW f v fs)) (q:=.ins c (ns++[f]) (ds++[p.d])) e rfl rfl s ⟨a,dx,mW f v fs,rfl,bd,by rw [oa hk',map_append,m];rfl,by rw [oa hk',map_append];exact (ff.append (.cons fv .nil)).keeps (kw _)⟩;refine⟨_,s,a,_,dx,fs,rfl,g,hc,hn,?_,k1 _ _ _ q1 R2 ((F.fr f1).fr f2)⟩;have:fs.length=ns.length:=by rw [<- m,length_map]
  omega
 .exact q1.elim
noncomputable def EV(c0:Str)(c:FR)(pr:PTA):PTE:=λρ Q=>pr ρ λas ρ1=>match avD as with
 | some ds=>c (.ins c0 [] []) ds λr p'=>(match r,p' with
  | .dat .non,.ins c1 ns es=>c1=c0/\Q (.ins c1 ns es) ρ1
  | _,_=>False)
 | none=>False
def lv{c0:Str}{c:FR}(h:LAs K tr pr):LE K (xN (cG K c0) (spR K c) [] E0 tr) (EV c0 c pr):=λA ρ σ H Q Q' R q k=>h A ρ σ H _ _ R q λvs H1 as ρ1 q1 f1 R1 o1=>by
 split at q1
 .rename_i ds e;intro x dx hx hdx hne;rw [append_nil]
  let H2:=upd (upd H1 dx (.own x)) x (.ins (cG K c0) dx [])
  have g2:Gr H1 H2:=λb o z=>by
   show upd (upd H1 dx (.own x)) x _ b=_;rw [aR (bb z hx),aR (bb z hdx)];exact z
  have nx:¬ OO A ρ1 σ x:=R1.oo hx
  have keep2:aZ (OO A ρ1 σ) H1 (fS (OO A ρ1 σ) x) H2:=λb o n z=>by
   refine⟨λy=>?_,g2 b o z⟩
   rcases y with y|y
   .exact n y
   .rw [y,hx] at z;cases z
  refine⟨OO A ρ1 σ,x,.ins c0 [] [],vs,ds,_,rfl,rfl,λb z=>(g2.fr (ρ:=ρ1) (σ:=σ)).dm b (R1.dom2 b z),nx,⟨x,dx,[],rfl,bd,rfl,.nil⟩,(o1.avD e).keeps keep2,q1,λr p' qr ow' v H' kp ha rs ov _=>?_⟩
  split at qr
  .obtain⟨rfl,qr⟩:=qr;cases ov;refine⟨rfl,?_⟩;obtain⟨a',dx',fs,ea,e2,m,f⟩:=rs;cases ea;have g:Gr H1 H':=λb o z=>kp b o (bb z hx) (g2 b o z)
   have hx0:H x=none:=by
    cases eb:H x with
    | none=>rfl
    | some o=>exact absurd hx (f1.dm x (by rw [eb];exact nofun))
   refine k _ H' _ ρ1 qr (f1.trans g.fr) ⟨x,dx',fs,rfl,λz=>nx (.inl z),hx0,e2,m,R1.grA g hx (by rw [e2];exact nofun),f.keeps (aZ.less λb z=>?_)⟩
   rcases z with (z|z)|z
   .exact .inl (.inl z)
   .exact .inr z
   .exact .inl (.inr z)
  .exact qr.elim
 .exact q1.elim
end
abbrev ya:R2:=rI0 λi j=>.int (i - j)
abbrev Dm:R2:=rI (λ_ j=>0<j) λi j=>.int (i % j)
abbrev Dn:R2:=rI Ee λi j=>.int (i / j)
abbrev EW:R2:=rI0 λi j=>.bl (decide (j<i))
abbrev Gs:R2:=rI0 λi j=>.bl (decide (j<=i))
abbrev Do:V->Hp->VK->Prop:=rU λi=>.int (-i)
abbrev Gu:F2:=fI0 λi j=>.int (i - j)
abbrev fGt:F2:=fI0 λi j=>.bl (decide (j<i))
noncomputable def FS:D->(PV->Prop)->Prop
 | .int i,Q=>Q (.dat (.int (-i)))
 | _,_=>False
section
variable {K:a_}{X:Cx}{ta:TE}{tr:TA}{pr:PTA}{ts:TS}{ps:PTS}
def iw:OpR X (binaryOp .Sub) ya:=B8
def rS:OpR X (binaryOp .Mod) Dm:=Ca
def qw:OpR X (binaryOp .FloorDiv) Dn:=zP
def rB:OpR X (compareOp .Gt) EW:=Ej
def FT:OpR X (compareOp .GtE) Gs:=Ek
def wC:LU K Do FS:=by
 intro O H x a Q Q' dom fx q k;unfold FS at q
 split at q
 .rename_i i;exact⟨i,fx.int,k _ H _ q (Gr.refl _) (.int _)⟩
 .exact q.elim
def oh{es:List Expr}{ct:Nat}{tp:Pos}(K:a_)(e:X.K=K){a:Expr}{ta:TA}{p pos:Pos}(hg:Gl X "enumerate")(hm:X.mg "enumerate"=none)(ha:PA X [a] ta)(hs:starEach [a] X.env=[(false,eval a X.env)]:=by rfl) :
  PI X (.Tuple es ct tp) (.Call (.Name "enumerate" p) [a] [] pos) (x5 K ta):=by subst e;exact As hg hm ha hs
def oi{es:List Expr}{ct:Nat}{tp:Pos}(K:a_)(e:X.K=K){a b:Expr}{ta:TA}{p pos:Pos}(hg:Gl X "zip")(hm:X.mg "zip"=none)(ha:PA X [a,b] ta)
  (hs:starEach [a,b] X.env=[(false,eval a X.env),(false,eval b X.env)]:=by rfl) (hs2:starEach [b] X.env=[(false,eval b X.env)]:=by rfl) :
  PI X (.Tuple es ct tp) (.Call (.Name "zip" p) [a,b] [] pos) (uK K ta):=by subst e;exact At hg hm ha hs hs2
def jH{ix:List (Option Nat)}{fs:List Nat}{i:Nat}(h:∀k∈fs,k∈BF ix)(hi:(BF ix).contains i=false):fs.contains i=false:=by
 cases e:fs.contains i with
 | false=>rfl
 | true =>
  have:=h i (HP.mp e);rw [HP.mpr this] at hi;cases hi
def mK(t:Value)(b c:Bool)(h1:Hk K t (.type "list")=some b)(h2:Hk K t (.type "tuple")=some c):Iy K t [.type "list",.type "tuple"]=some (b || c):=by
 simp only [Iy,h1,h2];cases b <;> cases c <;> rfl
noncomputable def Dp(c:FN)(es:List D)(pr:PTA):PTE:=λρ Q=>pr ρ λas ρ1=>match avD as with
 | some ds=>c (ds++es) λr=>Q r ρ1
 | none=>False
def yb{c:FN}{vs0:List V}{ds:List D}(hd:∀{O:Addr->Prop}{H:Hp},FVs K O H vs0 ds)(h:LAs K tr pr):LE K (f9 (spP K c) vs0 E0 tr) (Dp c ds pr):=λA ρ σ H Q Q' R q k=>h A ρ σ H _ _ R q λvs H1 as ρ1 q1 f1 R1 o1=>by
 split at q1
 .rename_i es e;exact⟨OO A ρ1 σ,_,_,R1.dom2,(o1.avD e).append hd,q1,λr qr v H' g ov=>k v H' r ρ1 qr (f1.trans g.fr) ((ov.out R1 g).h0 f1.dm)⟩
 .exact q1.elim
def FU{c:FN}{n:Nat}(hn:∀ds Q,c ds Q->ds.length=n){vs:List V}{H:Hp}{Q:VK}{E:XK}(h:spP K c vs H Q E):vs.length=n:=by
 obtain⟨O,ds,Qc,_,f,hq,_⟩:=h;rw [f.length];exact hn ds Qc hq
def FW{c:FR}{n:Nat}(hn:∀p ds Q,c p ds Q->ds.length+1=n){vs:List V}{H:Hp}{Q:VK}{E:XK}(h:spR K c vs H Q E):vs.length=n:=by
 obtain⟨A,a,p,ws,ds,Qc,rfl,_,_,_,_,f,hq,_⟩:=h;rw [length_cons,f.length];exact hn p ds Qc hq
abbrev BH(pp:PTS)(n:Nat)(ds:List D)(Q:PV->Prop):Prop:=pp { nx:=λ_=>Q (.dat .non),rt:=λp _=>Q p } (c6 n (ds.map .dat))
abbrev EX(pp:PTS)(n:Nat)(p:PV)(ds:List D)(Q:PV->PV->Prop):Prop:=pp { nx:=BG Q (.dat .non),rt:=BG Q } (c6 n (p::ds.map .dat))
end
end L2
namespace L2
def Cal.imp{P:PySem.Program}{w:PySem.World}{K:a_}{mg:PySem.Str->Option PySem.Value}{base:PySem.Heap}{k:Nat}{x:PySem.Str}{ps:List PySem.Str}{sp sp':Sp}(C:Cal P w K mg base k x ps sp)(h:∀vs H Q E,sp' vs H Q E->sp vs H Q E):Cal P w K mg base k x ps sp':=by
 obtain⟨f,fd,F,r⟩:=C.ex;exact⟨f,fd,F.imp h,r⟩
end L2
namespace L2
open PySem PySem.Spec PyProof.Rows
def cfm{ix:List (Option Nat)}{ρ1:PSt}{n:Nat}{it:Nat->D}{g:PTG}{pt:PTT}{pe:PTE}{Q:PKt}(T:PSt->Prop)(f:Nat->Option D)(h0:T (bx ix ρ1))
  (hs:∀k τ d,k<n->d=it k->T τ->∀(K1:D->PSt->Prop) (K2:PSt->Prop),(∀d τ',f k=some d->T τ'->K1 d τ')->(∀τ',f k=none->T τ'->K2 τ')->g (.dat d) τ λτ2=>pt τ2 λok τ3=>ic ok (pe τ3 λp τ4=>K1 p.d τ4) (K2 τ3))
  (hq:∀τ,T τ->Q (.own ((e_ n).filterMap f)) (fU ix ρ1 τ)) :
  mJ ix ρ1 n it g pt pe Q:=by
 refine⟨λk ys τ=>ys=(e_ k).filterMap f/\T τ,⟨rfl,h0⟩,λk ys τ dd hk ed ⟨e,t⟩=>?_,λys τ ⟨e,t⟩=>by rw [e];exact hq τ t⟩
 have r:(e_ (k+1)).filterMap f=(e_ k).filterMap f++(f k).toList:=by
  rw [range_succ,filterMap_append]
  cases e:f k with
  | none=>rw [show [k].filterMap f=[] by simp [e]];rfl
  | some d=>rw [show [k].filterMap f=[d] by simp [e]];rfl
 refine hs k τ dd hk ed t (λd τ'=>(ys++[d]=(e_ (k+1)).filterMap f/\T τ')) (λτ'=>(ys=(e_ (k+1)).filterMap f/\T τ')) (λd τ' h t'=>⟨?_,t'⟩) (λτ' h t'=>⟨?_,t'⟩)
 .rw [r,e,h];rfl
 .rw [r,e,h];simp
def yW{ix:List (Option Nat)}{ρ1:PSt}{n:Nat}{it:Nat->D}{g:PTG}{pe:PTE}{Q:PKt}(T:PSt->Prop)(f:Nat->D)(h0:T (bx ix ρ1))
  (hs:∀k τ d,k<n->d=it k->T τ->∀K1:D->PSt->Prop,(∀τ',T τ'->K1 (f k) τ')->g (.dat d) τ λτ2=>pe τ2 λp τ4=>K1 p.d τ4)
  (hq:∀τ,T τ->Q (.own ((e_ n).map f)) (fU ix ρ1 τ)) :
  mJ ix ρ1 n it g x9 pe Q:=by
 refine cfm T (λk=>some (f k)) h0 (λk τ d hk ed t K1 K2 k1 k2=>?_) λτ t=>?_
 .exact hs k τ d hk ed t K1 λτ' t'=>k1 _ τ' rfl t'
 .have:(e_ n).filterMap (λk=>some (f k))=(e_ n).map f:=by rw [<- filterMap_eq_map];rfl
  rw [this];exact hq τ t
def rT{β:Type}(f:Nat->β)(l:List Nat):(e_ l.length).map (λk=>f (l.getD k 0))=l.map f:=by
 apply IW;intro i;rw [i_,i_]
 by_cases h:i<l.length
 .rw [GK h];show some (f (l.getD i 0))=_;rw [cx,cy h];rfl
 .rw [we (by rw [B_];omega),we (by omega)];rfl
noncomputable def pw(ws:List (List Nat))(k:Nat):List Nat:=ws.getD k []
def dO{ws:List (List Nat)}{k:Nat}(h:k<ws.length):ws[k]?=some (pw ws k):=by unfold pw;rw [cx,cy h];rfl
def cK{ws:List (List Nat)}{k:Nat}(h:k<ws.length):pw ws k∈ws:=GD (dO h)
def iy{ws:List (List Nat)}{k:Nat}(h:k<(ws.map D.str).length):itD (ws.map D.str) k=.str (pw ws k):=iY (by rw [i_,dO (by rwa [length_map] at h)];rfl)
def ft{ws:List (List Nat)}{i:Int}{k:Nat}(h:k<ws.length)(e:i=(k:Int)):atI (ws.map D.str) i=some (.str (pw ws k)):=iV (j:=k) (by rw [i_,dO h];rfl) e
def qx{l:List Nat}{k:Nat}(h:k<l.length):l.take (k+1)=l.take k++[l.getD k 0]:=by
 rw [take_succ,cx,cy h];rfl
noncomputable def Pc(m:Nat)(w:List Nat):Prop:=0<w.length/\w.length<=m/\Lts w
noncomputable def Pcs(m:Nat)(ws:List (List Nat)):Prop:=∀w∈ws,Pc m w
noncomputable def ltB(c:Nat):Bool:=decide (97<=c) && decide (c<=122)
noncomputable def yc:D->Int->Int->Bool
 | .str l,a,b=>(decide (a<=(l.length:Int)) && decide ((l.length:Int)<=b)) && l.all ltB
 | _,_,_=>false
def oj(l:List Nat)(a b:Int):yc (.str l) a b=((decide (a<=(l.length:Int)) && decide ((l.length:Int)<=b)) && l.all ltB):=rfl
noncomputable def EY:D->Nat
 | .str l=>l.length
 | _=>0
def AS{l:List Nat}:l.all ltB=true ↔ Lts l:=by
 rw [Jm];unfold Lts ltB
 constructor
 .intro h c hc;have:=h c hc;rw [and_eq_true,decide_eq_true_eq,decide_eq_true_eq] at this;exact this
 .intro h c hc;rw [and_eq_true,decide_eq_true_eq,decide_eq_true_eq];exact h c hc
def wD{w:List Nat}:yc (.str w) 1 60=true ↔ Pc 60 w:=by
 unfold yc Pc;rw [and_eq_true,and_eq_true,decide_eq_true_eq,decide_eq_true_eq,AS]
 constructor
 .rintro⟨⟨h1,h2⟩,h3⟩;exact⟨by omega,by omega,h3⟩
 .rintro⟨h1,h2,h3⟩;exact⟨⟨by omega,by omega⟩,h3⟩
def ki(ls:List Nat):(ls.map λc=>[c]).flatten=ls:=by
 induction ls with
 | nil=>rfl
 | cons c r ih=>rw [map_cons,flatten_cons,ih];rfl
def yd(ls:List Nat):ls.map (λc=>D.str [c])=(ls.map λc=>[c]).map D.str:=by rw [map_map];rfl
def rV(i j:Nat):(!decide (([j]:List Nat)<[i]))=decide (i<=j):=by
 by_cases h:i<=j
 .rw [decide_eq_true h]
  have:¬ ([j]:List Nat)<[i]:=by
   rw [GH]
   rintro (z|⟨_,z⟩)
   .omega
   .exact absurd z (List.lt_irrefl _)
  rw [decide_eq_false this];rfl
 .rw [decide_eq_false h]
  have:([j]:List Nat)<[i]:=by
   rw [GH];exact .inl (by omega)
  rw [decide_eq_true this];rfl
theorem wE:∀ws:List (List Nat),D.pys (ws.map .str)=ws.map λw=>PyData.str (S w)
 | []=>rfl
 | w::r=>by rw [map_cons,map_cons,<- wE r];rfl
theorem m5:∀ws:List (List Nat),D.plains (ws.map .str)=true
 | []=>rfl
 | w::r=>by rw [map_cons];show (true && D.plains (r.map .str))=true;rw [m5 r];rfl
theorem om:∀ns:List Int,D.pys (ns.map .int)=ns.map JO
 | []=>rfl
 | n::r=>by rw [map_cons,map_cons,<- om r];rfl
theorem m7:∀ns:List Int,D.plains (ns.map .int)=true
 | []=>rfl
 | n::r=>by rw [map_cons];show (true && D.plains (r.map .int))=true;rw [m7 r];rfl
noncomputable def Sh(d:D):Prop:=d.plain=true/\Hg d.py=true
def yP.of{a b:D}(h:Sh a)(h':Sh b):yP a b:=⟨h.1,h'.1,h.2,h'.2⟩
def Sh.lstS{ws:List (List Nat)}(h:∀w∈ws,Lts w):Sh (.lst (ws.map .str)):=⟨m5 ws,by show Hg (.list (D.pys _))=true;rw [wE];exact ql h⟩
def Sh.lstI(ns:List Int):Sh (.lst (ns.map .int)):=⟨m7 ns,by show Hg (.list (D.pys _))=true;rw [om];exact (rA.list (wf ns)).shaped (by decide)⟩
def tY{α:Type}(c:α)(n:Nat):g9 [c] (n:Int)=f_ n c:=by
 unfold g9;rw [toNat_natCast]
 induction n with
 | zero=>rfl
 | succ n ih=>rw [replicate_succ,flatten_cons,ih];rfl
noncomputable def mL(sep:List Nat):List (List Nat)->List Nat
 | []=>[]
 | [w]=>w
 | w::v::r=>w++sep++mL sep (v::r)
theorem wF(sep:List Nat):∀ws:List (List Nat),PySem.Str.join (S sep) (ws.map S)=S (mL sep ws)
 | []=>rfl
 | [w]=>rfl
 | w::v::r=>by
  show S w++S sep++PySem.Str.join (S sep) ((v::r).map S)=S (w++sep++mL sep (v::r));rw [wF sep (v::r),Af,Af]
theorem qy(sep:List Nat):∀ws:List (List Nat),(mL sep ws).length<=ws.flatten.length+ws.length*sep.length
 | []=>G4 _
 | [w]=>by show w.length<=_;rw [flatten_cons,flatten_nil,append_nil];omega
 | w::v::r=>by
  have ih:=qy sep (v::r);show (w++sep++mL sep (v::r)).length<=_;rw [flatten_cons,length_append,length_append,length_append];rw [length_cons (as:=v::r),succ_mul];omega
section
variable {K:a_}{X:Cx}
noncomputable def yX(K:a_):V->List V->Hp->VK->Prop:=λx xs H Q=>∃(p:Addr) (sep:List Nat) (ws:List (List Nat)),x=.str (S sep)/\xs=[.ref p]/\SqL K H p (ws.map tx)/\ws.flatten.length+ws.length*sep.length<=1000000/\Q (.str (S (mL sep ws))) H
def tZ(K:a_)(e:X.K=K):MtR X "str.join" (yX K):=by
 subst e;intro pins s σ H x xs v us Q I rx rs h;obtain⟨p,sep,ws,rfl,rfl,hS,hz,q⟩:=h;obtain⟨t,rfl⟩:=rx;obtain⟨u,rfl,ru⟩:=iq rs;cases (show u=u1 p from ru);obtain⟨its,rv,pl,_⟩:=I.list hS
 refine join_list pl.isList (by simpa using rN rv) ?_ λt' k=>?_
 .rw [map_map,gb]
  have e1:(ws.map ((λy:Str=>y.length) ∘ S)).sum=ws.flatten.length:=by
   rw [length_flatten];exact congrArg List.sum (Ja λw _=>gb w)
  rw [e1];simp only [length_map];omega
 .refine⟨.str (S (mL sep ws)),H,I.tok _,⟨t',?_⟩,q⟩;rw [<- wF];exact congrArg (λz=>IB z t') (StrLaws.glued_eq_join _ _)
noncomputable def yY:FM
 | [],[.lst ds],Q=>∃ws:List (List Nat),ds=ws.map .str/\ws.flatten.length<=1000000/\Q (.dat (.str ws.flatten))
 | c::sep,[.lst ds],Q=>∃ws:List (List Nat),ds=ws.map .str/\ws.flatten.length+ws.length*(c::sep).length<=1000000/\Q (.dat (.str (mL (c::sep) ws)))
 | _,_,_=>False
theorem qz:∀ws:List (List Nat),mL [] ws=ws.flatten
 | []=>rfl
 | [w]=>by show w=w++[];rw [append_nil]
 | w::v::r=>by show w++[]++mL [] (v::r)=_;rw [qz (v::r),append_nil];rfl
def t7:LM K (yX K) yY:=by
 intro O H l xs as Q Q' dom hl fs q k;unfold yY at q
 split at q
 .obtain⟨ws,rfl,hw,q⟩:=q
  cases fs with
  | cons a b =>
   cases b;obtain⟨p,ys,rfl,e1,f1⟩:=a.lst;rw [f1.strs] at e1;refine⟨p,[],ws,rfl,rfl,SqL.of e1,by rw [length_nil,mul_zero];exact hw,?_⟩;rw [qz];exact k _ H _ q (Gr.refl _) (.str _ hw)
 .obtain⟨ws,rfl,hw,q⟩:=q
  cases fs with
  | cons a b =>
   cases b;obtain⟨p,ys,rfl,e1,f1⟩:=a.lst;rw [f1.strs] at e1;exact⟨p,_,ws,rfl,rfl,SqL.of e1,hw,k _ H _ q (Gr.refl _) (.str _ (E_ (qy _ _) hw))⟩
 .exact q.elim
end
section
variable {X:Cx}{K:a_}
noncomputable def wG(neg:Bool):R2:=λx y H Q=>∃a b,x=.ref a/\y=.ref b/\H a=some (.dK [])/\H b=some (.dK [])/\Q (.bl (!neg)) H
def ye(hu:X.A.units+64<cLine):OpR X (compareOp .Eq) (wG false):=by
 intro pins s σ H x y v u Q I rx ry ⟨a,b,e1,e2,h1,h2,q⟩;subst e1 e2;cases rx;cases ry;obtain⟨_,y1,vs,r1,p1⟩:=(show bZ X.prog X.w H s.heap a (.dK []) from I.hok a _ h1)
 obtain⟨_,y2,ws,r2,p2⟩:=(show bZ X.prog X.w H s.heap b (.dK []) from I.hok b _ h2)
 cases r1;cases r2;exact PySem.W.keq_eq (r:=true) y1 y2 p1 p2 (by omega) (λ_=>.nil) ⟨.bl true,H,I,rfl,q⟩
def yf(hu:X.A.units+64<cLine):OpR X (compareOp .NotEq) (wG true):=by
 intro pins s σ H x y v u Q I rx ry ⟨a,b,e1,e2,h1,h2,q⟩;subst e1 e2;cases rx;cases ry;obtain⟨_,y1,vs,r1,p1⟩:=(show bZ X.prog X.w H s.heap a (.dK []) from I.hok a _ h1)
 obtain⟨_,y2,ws,r2,p2⟩:=(show bZ X.prog X.w H s.heap b (.dK []) from I.hok b _ h2)
 cases r1;cases r2;exact PySem.W.keq_ne (r:=true) y1 y2 p1 p2 (by omega) (λ_=>.nil) ⟨.bl false,H,I,rfl,q⟩
noncomputable def wH(K:a_)(neg:Bool):R2:=λx y H Q=>CV K neg x y H Q\/wG neg x y H Q
def dP(K:a_)(e:X.K=K)(hu:X.A.units+64<cLine):OpR X (compareOp .Eq) (wH K false):=OpR.or (Gm K e hu) (ye hu)
def kA(K:a_)(e:X.K=K)(hu:X.A.units+64<cLine):OpR X (compareOp .NotEq) (wH K true):=OpR.or (Gn K e hu) (yf hu)
noncomputable def EZ:F2
 | .dic [] [],.dic [] [],Q=>Q (.dat (.bl true))
 | a,b,Q=>fEq a b Q
noncomputable def E1:F2
 | .dic [] [],.dic [] [],Q=>Q (.dat (.bl false))
 | a,b,Q=>fNe a b Q
def FVc.dic0{O:Addr->Prop}{H:Hp}{v:V}(h:FVc K O H v (.dic [] [])):∃a,v=.ref a/\H a=some (.dK []):=by
 cases h.fv nofun nofun with
 | dic n e m f =>
  rename_i a kvs
  cases kvs with
  | nil=>exact⟨a,rfl,e⟩
  | cons x r=>cases m
def bU:LO K (wH K false) EZ:=by
 intro O H x y a b Q Q' dom fx fy q k;unfold EZ at q
 split at q
 .obtain⟨a,rfl,e1⟩:=fx.dic0;obtain⟨b,rfl,e2⟩:=fy.dic0;exact .inr ⟨a,b,rfl,rfl,e1,e2,k _ H _ q (Gr.refl _) (.bl _)⟩
 .exact .inl (EJ O H x y _ _ Q Q' dom fx fy q k)
def fV:LO K (wH K true) E1:=by
 intro O H x y a b Q Q' dom fx fy q k;unfold E1 at q
 split at q
 .obtain⟨a,rfl,e1⟩:=fx.dic0;obtain⟨b,rfl,e2⟩:=fy.dic0;exact .inr ⟨a,b,rfl,rfl,e1,e2,k _ H _ q (Gr.refl _) (.bl _)⟩
 .exact .inl (EK O H x y _ _ Q Q' dom fx fy q k)
end
noncomputable def AT:D->Bool
 | .int _=>true
 | _=>false
noncomputable def E2:D->Bool
 | .lst _=>true
 | .tup _=>true
 | _=>false
def toI:D->Int
 | .int i=>i
 | _=>0
section
variable {X:Cx}{K:a_}{te:TE}{pe:PTE}
noncomputable def Dq(K:a_):List V->Hp->VK->Prop:=λxs H Q=>∃(p:Addr) (ns:List Int),xs=[.ref p]/\SqL K H p (ns.map V.int)/\0<ns.length/\∀m:Int,m∈ns->(∀a∈ns,a<=m)->Q (.int m) H
def m8(K:a_)(e:X.K=K)(hc:X.calm=true):bI X (.builtin "max") (Dq K):=by
 subst e;intro pins s σ H xs us Q I r h;obtain⟨p,ns,rfl,hS,hne,q⟩:=h;obtain⟨u,rfl,ru⟩:=iq r;cases (show u=u1 p from ru);obtain⟨its,rv,pl,hz⟩:=I.list hS;have hi:=mY rv;have hl:=pl.isList;obtain⟨ys,e⟩:=hi.allInts.items;have hns:ns=ys.toList.map (·.1):=by rw [<- hi.numsOf,<- nums_intItems,<- e]
 have hsz:0<ys.size:=by
  have h3:=hne;rw [hns,length_map,G2] at h3;exact h3
 rw [e] at hl;refine max_intList (by exact I.ok.hd hc) hl hsz λv h' tk hv hk=>?_;obtain⟨t,rfl⟩:=intItems_at hv;obtain⟨h1,h2⟩:=argBest_gt (numAt ys) (ys.size - 1)
 refine⟨.int _,H,I.kept (t':=tk) hk,⟨t,rfl⟩,q _ ?_ λa ha=>?_⟩
 .rw [hns,numAt_eq];exact getD_mem (by rw [length_map,G2];omega)
 .rw [hns] at ha;obtain⟨j,hj,rfl⟩:=mem_getD ha;rw [length_map,G2] at hj;rw [<- numAt_eq];exact h2 j (by omega)
noncomputable def AU:FN
 | [.lst ds],Q=>∃ns:List Int,ds=ns.map .int/\0<ns.length/\∀m:Int,m∈ns->(∀a∈ns,a<=m)->Q (.dat (.int m))
 | _,_=>False
def jI:LC K (Dq K) AU:=by
 intro O H xs as Q Q' dom fs q k;unfold AU at q
 split at q
 .obtain⟨ns,rfl,h0,q⟩:=q
  cases fs with
  | cons a b =>
   cases b;obtain⟨p,ys,rfl,e1,f1⟩:=a.lst;rw [f1.ints] at e1;exact⟨p,ns,rfl,SqL.of e1,h0,λm h1 h2=>k _ H _ (q m h1 h2) (Gr.refl _) (.int _)⟩
 .exact q.elim
noncomputable def yZ(i:Nat)(pe:PTE):PTE:=λρ Q=>match ρ[i]? with
 | some (some (.own _))=>pe ρ λp ρ1=>(match ρ1[i]?,p with
  | some (some (.own ds)),.dat (.int j)=>∃k d,(ixN ds.length j=some k/\ds.length<=1000000)/\ds[k]?=some d/\Q (.dat d) (ρ1.set i (some (.own (ds.eraseIdx k))))
  | _,_=>False)
 | _=>False
theorem FVs.eraseIdx{O:Addr->Prop}{H:Hp}:∀{xs:List V}{ds:List D} (k:Nat),FVs K O H xs ds->FVs K O H (xs.eraseIdx k) (ds.eraseIdx k)
 | _,_,_,.nil=>.nil
 | _,_,0,.cons a b=>b
 | _,_,k+1,.cons a b=>.cons a (FVs.eraseIdx k b)
def t9{i:Nat}(h:LE K te pe):LE K (tBM K "list" yL (bu i) (ba te fi)) (yZ i pe):=λA ρ σ H Q Q' R q k=>by
 unfold yZ at q
 split at q
 .rename_i ds0 e0;obtain⟨a0,xs0,s0,g0,f0⟩:=R.ownAt e0;refine⟨_,s0,.inl ⟨rfl,xs0,SqL.of g0⟩,h A ρ σ H _ _ R q λv H1 p ρ1 q1 f1 o1=>?_⟩;obtain⟨R1,fv⟩:=o1.frz
  split at q1
  .rename_i ds j e1;obtain⟨a,xs,s,g,f⟩:=R1.ownAt e1;rw [s0] at s;cases s;obtain⟨m,d,⟨hm,hl⟩,hd,q1⟩:=q1;obtain⟨w,hw,fw⟩:=f.getD hd;cases (show FV K _ H1 v (.int j) from fv);obtain⟨t1,t2,t3,t4⟩:=rF hm;obtain⟨R2,f2⟩:=R1.lstw (es:=ds.eraseIdx m) (ys:=xs.eraseIdx m) e1 s0 (f.eraseIdx m);have hx:xs.length=ds.length:=f.length;exact⟨a0,xs,j,m,w,rfl,rfl,g,by omega,by omega,by rw [hx];exact t1,hw,k _ _ _ _ q1 (f1.trans f2) ⟨R2,(fw.keeps f2.keeps)⟩⟩
  .exact q1.elim
 .exact q.elim
end
section
variable {prog:s_}{w:World}{A:z_}{E:Value->c_->Prop}{s:c_}
theorem qA{it t:Addr}{items:Array Value}(hne:t≠it):∀(n i:Nat) (s:c_) (Q:List Value->c_->Prop),s.heap.IsListIter it t i->s.heap.IsList t items->i+n<=items.size ->
  (∀h',h'.IsListIter it t (i+n)->Io it s.heap h'->Q ((items.toList.drop i).take n) { s with heap:=h' })->wpAny (model prog w) A (draw (.ref it) n) Q E s
 | 0,i,s,Q,hit,_,_,hQ=>by
  show wpAny _ _ (pure []) Q E s;exact gV (by simpa using hQ s.heap hit (Heap.SameBut.refl ..))
 | n+1,i,s,Q,hit,ht,hle,hQ=>by
  have hlt:i<items.size:=by omega
  show wpAny _ _ (pyNext (.ref it) >>= _) Q E s;refine b_ (wpAny_pyNext_list_item hit ht (x:=items[i]) (by simp [hlt]) λh₁ hit₁ hs₁=>?_);refine b_ (GS (qA hne n (i+1) _ _ hit₁ (ht.extBut hs₁.extBut hne) (by omega) λh₂ hit₂ hs₂=>gV ?_));have hd:items.toList.drop i=items[i]::items.toList.drop (i+1):=by simp [drop_eq_getElem_cons,hlt]
  have:=hQ h₂ (by rw [show i+(n+1)=i+1+n by omega];exact hit₂) (hs₁.trans hs₂);rw [hd,take_succ_cons] at this;exact this
def kB{t:Addr}{items:Array Value}{Q:List Value->c_->Prop}(hh:A.handled=none)(ht:s.heap.IsList t items)
  (hQ:∀h',Kb s.heap.objs.size s.heap h'->Q items.toList { s with heap:=h' }):wpAny (model prog w) A (unpackItems (.ref t) items.size none) Q E s:=by
 have hlt:t≠s.heap.objs.size:=by obtain⟨o,ho,_⟩:=ht;exact GR (l_ ho)
 unfold unpackItems
 refine b_ ?_
 .unfold notIterableAtAll;refine b_ (wpAny_specialOf ht.typeIs PySem.F.slot_list_iter.lookup ?_);refine gV ?_;simp only [false_eq_true,if_false];refine b_ (GS (HK ht ?_));refine b_ (GS (qA hlt items.size 0 _ _ ⟨_,j_ _ rfl,rfl,rfl⟩ (ht.push _) (by omega) λh₁ hit₁ hs₁=>?_))
  have hall:List.take items.size (List.drop 0 items.toList)=items.toList:=by
   rw [drop_zero];exact G0 (by simp)
  rw [hall];rw [if_neg (by simp)];have ht₁:h₁.IsList t items:=(ht.push _).extBut hs₁.extBut hlt;refine b_ (GS (wpAny_pyNext_list_end hh hit₁ ht₁ (by simp) λh₂ he₂=>?_));simp only [Option.isSome_none,false_eq_true,if_false];refine gV (hQ h₂ λb o hb e=>he₂ b o hb (hs₁.extBut b o hb (d_ _ e)))
def jJ{env:Env}{elts:List Expr}{x1}{pos:Pos}{t:Addr}{items:Array Value}{Q:Unit->c_->Prop}(hh:A.handled=none)(ht:s.heap.IsList t items)
  (hn:(assignEach elts env).length=items.size) (hstar:(assignEach elts env).findIdx? (·.1)=none)
  (h:∀h',Kb s.heap.objs.size s.heap h'->wpAny (model prog w) A (assignInOrder ((assignEach elts env).map (·.2)) items.toList) Q E { s with heap:=h' }) :
  wpAny (model prog w) A (assign (.Tuple elts x1 pos) env (.ref t)) Q E s:=by
 rw [assign_Tuple];refine b_ (Js ?_);unfold unpack;rw [hn,hstar];exact b_ (GS (kB hh ht h))
end
noncomputable def wI(K:a_)(n:Nat)(t:TGs):TG:=λv σ H Q=>∃b a xs,v=.ref a/\Sq b K H a xs/\xs.length=n/\t xs σ H Q
section
variable {X:Cx}
def e7(K:a_)(eK:X.K=K){es:List Expr}{k:Nat}{t:TGs}{n:Nat}{pos:Pos}(hc:X.calm=true)(h:PGs X es t)
  (hn:(assignEach es X.env).length=n:=by rfl) (hst:(assignEach es X.env).findIdx? (·.1)=none:=by rfl):PG X (.Tuple es k pos) (wI K n t):=by
 subst eK;intro pins s σ H v u Q I r hw;obtain⟨b,a,xs,e1,hq,hl,hw⟩:=hw
 cases b with
 | true=>exact B5 hc h hn hst pins s σ H v u Q I r ⟨a,xs,e1,hq,hl,hw⟩
 | false =>
  subst e1;cases r;obtain⟨its,rv,ht,hz⟩:=I.list hq;refine jJ (I.ok.hd hc) ht.isList (by simp [hn,<- hl,rv.length]) hst λh' hx=>?_;have I1:Inv X pins σ H { s with heap:=h' }:=I.kept (t':=s.toks) λb o e=>hx b o (GR (l_ e)) e;exact h pins _ σ H xs _ Q I1 (by simpa using rv) hw
noncomputable def qB(n:Nat)(gs:yQ):PTG:=λp ρ Q=>match p with|.dat (.tup ds)=>ds.length=n/\gs ds ρ Q|.dat (.lst ds)=>ds.length=n/\gs ds ρ Q|.own ds=>ds.length=n/\gs ds ρ Q|_=>False
end
section
variable {K:a_}{fs:List Nat}
def eM{n:Nat}{gs:TGs}{pgs:yQ}(h:LGs K fs gs pgs):LGd K fs (wI K n gs) (qB n pgs):=λfx A R H0 ρ σ H d v Q Q' hf F r fv q k=>by
 unfold qB at q
 split at q
 .rename_i e;cases e
  cases fv with
  | tup nn e f=>exact⟨true,_,_,rfl,SqT.of e,by rw [f.length];exact q.1,h fx A R H0 ρ σ H _ _ Q Q' hf F r f q.2 k⟩
 .rename_i e;cases e
  cases fv with
  | lst nn e f=>exact⟨false,_,_,rfl,SqL.of e,by rw [f.length];exact q.1,h fx A R H0 ρ σ H _ _ Q Q' hf F r f q.2 k⟩
 .rename_i e;cases e
 .exact q.elim
def wJ{n:Nat}{gs:TGs}{pgs:yQ}(h:LGs K fs gs pgs):LG K fs (wI K n gs) (qB n pgs):=λfx A R H0 ρ σ H p v Q Q' hf F o q k=>by
 unfold qB at q
 split at q
 .obtain⟨r,fv⟩:=o
  cases fv with
  | tup nn e f=>exact⟨true,_,_,rfl,SqT.of e,by rw [f.length];exact q.1,h fx A R H0 ρ σ H _ _ Q Q' hf F r f q.2 λρ' σ' q' r' F' _=>k ρ' σ' H q' r' F'⟩
 .obtain⟨r,fv⟩:=o
  cases fv with
  | lst nn e f=>exact⟨false,_,_,rfl,SqL.of e,by rw [f.length];exact q.1,h fx A R H0 ρ σ H _ _ Q Q' hf F r f q.2 λρ' σ' q' r' F' _=>k ρ' σ' H q' r' F'⟩
 .obtain⟨r,fv⟩:=o.frz
  cases fv with
  | lst nn e f=>exact⟨false,_,_,rfl,SqL.of e,by rw [f.length];exact q.1,h fx A R H0 ρ σ H _ _ Q Q' hf F r f q.2 λρ' σ' q' r' F' _=>k ρ' σ' H q' r' F'⟩
 .exact q.elim
end
noncomputable def jB(d:D)(xs:List D):Prop:=d=.lst xs\/d=.tup xs
def y0{d:D}{xs:List D}{Q:PV->Prop}(h:jB d xs)(q:Q (.dat (.int xs.length))):AD [d] Q:=by
 rcases h with rfl|rfl <;> exact q
def AW{d:D}{xs:List D}{Q:PV->Prop}(h:jB d xs)(q:Q (.own xs)):AO [d] Q:=by
 rcases h with rfl|rfl <;> exact q
theorem Dr{d:D}{xs:List D}{F:Nat->(Nat->D)->Prop}(h:jB d xs)(q:F xs.length (itD xs)):(match EM d with|some (n,it)=>F n it|none=>False):=by
 rcases h with rfl|rfl <;> exact q
def jB.lst(xs:List D):jB (.lst xs) xs:=.inl rfl
def jB.tup(xs:List D):jB (.tup xs) xs:=.inr rfl
noncomputable def nSt:Expr->Bool
 | .Starred _ _=>false
 | _=>true
def iA{e:Expr}{es:List Expr}{env:Env}(h:nSt e=true):starEach (e::es) env=(false,eval e env)::starEach es env:=by
 cases e <;> first|rfl|cases h
theorem hG{env:Env}{pos:Pos}:∀{es:List Expr},es.all nSt=true->(backTo pos (starEach es env)).any (·.1)=false
 | [],_=>rfl
 | e::es,h=>by
  rw [all_cons,and_eq_true] at h;rw [iA h.1];show (false || (backTo pos (starEach es env)).any (·.1))=false;rw [hG h.2];rfl
section
variable {X:Cx}{k:Nat}{x:Str}{ps:List Str}{sp:Sp}{e:Expr}{es:List Expr}{te:TE}{t:TA}{p pos:Pos}{dvs:List V}{C:Addr}{id T:String}{r:List V->Hp->VK->Prop}
def paC(ha:PE X e te)(hr:PA X es t)(hn:nSt e=true:=by rfl):PA X (e::es) (ba te t):=zT ha hr (iA hn)
def aq(C:Cal X.prog X.w X.K X.mg X.base k x ps sp)(hr:fh k X.A)(ha:PA X (e::es) t)(hg:Gl X x:=by rfl)(hdb:(x == ("__debug__":Str))=false:=by decide)(hn:nSt e=true:=by rfl)(hp:es.all nSt=true:=by rfl) :
  PE X (.Call (.Name x p) (e::es) [] pos) (f9 sp [] E0 t):=CD C hr ha hg hdb (iA hn) (hG hp)
def yg(j:Nat)(C:CK X.prog X.w X.K X.mg X.base k x ps dvs sp)(hr:fh k X.A)(hj:j<=dvs.length)(ha:PA X (e::es) t)(hg:Gl X x:=by rfl)(hdb:(x == ("__debug__":Str))=false:=by decide)(hn:nSt e=true:=by rfl)(hp:es.all nSt=true:=by rfl) :
  PE X (.Call (.Name x p) (e::es) [] pos) (f9 sp (dvs.drop j) E0 t):=Aq j C hr hj ha hg hdb (iA hn) (hG hp)
def i4(M:CN X.prog X.w X.K X.mg X.base k C x ps sp)(hr:fh (k+1) X.A)(ha:PA X (e::es) t)(hg:Gl X x:=by rfl)(hdb:(x == ("__debug__":Str))=false:=by decide)(hn:nSt e=true:=by rfl)(hp:es.all nSt=true:=by rfl) :
  PE X (.Call (.Name x p) (e::es) [] pos) (xN C sp [] E0 t):=Ar M hr ha hg hdb (iA hn) (hG hp)
def am(hc:bI X (.builtin id) r)(hg:Gl X x)(hm:X.mg x=none)(hv:bootBuiltins x=some (.builtin id))(ha:PA X (e::es) t)(hnn:x≠"__name__":=by decide)(hdb:(x == ("__debug__":Str))=false:=by decide)(hn:nSt e=true:=by rfl)(hp:es.all nSt=true:=by rfl) :
  PE X (.Call (.Name x p) (e::es) [] pos) (tCB r t):=xP hc hg hm hv ha hnn hdb (iA hn) (hG hp)
def bP(hc:bI X (.type T) r)(hg:Gl X x)(hm:X.mg x=none)(hv:bootBuiltins x=some (.type T))(ha:PA X (e::es) t)(hnn:x≠"__name__":=by decide)(hdb:(x == ("__debug__":Str))=false:=by decide)(hn:nSt e=true:=by rfl)(hp:es.all nSt=true:=by rfl) :
  PE X (.Call (.Name x p) (e::es) [] pos) (tCB r t):=vH hc hg hm hv ha hnn hdb (iA hn) (hG hp)
end
noncomputable def plT:Expr->Bool
 | .Call _ _ _ _=>true
 | .Name _ _=>true
 | .Subscript _ _ _=>true
 | .Attribute _ _ _=>true
 | _=>false
def AX{e:Expr}{env:Env}(h:plT e=true):∀whole,isTrue e env whole=(do let v <- whole;standAt e.pos;holding [v] (truthy v)):=by
 cases e <;> first|(intro _;rfl)|cases h
def bL{X:Cx}{e:Expr}{t:TE}(h:PE X e t)(hp:plT e=true:=by rfl):PT X e (tB t):=BZ h (AX hp)
noncomputable def ia(a b:List Nat):Bool:=decide (0<=fnd b a 0)
noncomputable def bM(ps:List (List Nat))(i:Nat):Bool:=!decide (pw ps i∈ps.take i) && !(ps.filter λo=>decide ((pw ps i).length<o.length)).any λo=>ia (pw ps i) o
def lw{a b:List Nat}:ia a b=true ↔ ∃k,stA b a k=true:=by
 unfold ia
 constructor
 .intro h;have h0:fnd b a 0≠-1:=λz=>by rw [z] at h;exact absurd (of_decide_eq_true h) (by decide)
  obtain⟨k,_,_,h1,_⟩:=tI h0;exact⟨k,h1⟩
 .rintro⟨k,hk⟩
  by_cases h0:fnd b a 0=-1
  .rw [xX h0 k (G4 _)] at hk;cases hk
  .obtain⟨j,e,_⟩:=tI h0;rw [e];exact decide_eq_true (by omega)
def yh(a:List Nat):ia a a=true:=lw.mpr ⟨0,decide_eq_true ⟨by omega,by rw [drop_zero,take_length]⟩⟩
def wK{a b c:List Nat}(h1:ia a b=true)(h2:ia b c=true):ia a c=true:=by
 obtain⟨k1,e1⟩:=lw.mp h1;obtain⟨k2,e2⟩:=lw.mp h2;obtain⟨l1,t1⟩:=of_decide_eq_true e1;obtain⟨l2,t2⟩:=of_decide_eq_true e2;refine lw.mpr ⟨k2+k1,decide_eq_true ⟨by omega,?_⟩⟩
 have hb:b.drop k1=(c.drop (k2+k1)).take (b.length - k1):=by
  rw [<- t2,drop_take,drop_drop,t2]
 have ha:a=((c.drop (k2+k1)).take (b.length - k1)).take a.length:=by rw [<- hb,t1]
 rw [take_take,show min a.length (b.length - k1)=a.length by omega] at ha;exact ha.symm
def fu{ps:List (List Nat)}{i:Nat}:bM ps i=true ↔ pw ps i∉ps.take i/\∀o∈ps,(pw ps i).length<o.length->ia (pw ps i) o=false:=by
 unfold bM;rw [and_eq_true,Jn,Jn,decide_eq_false_iff_not,any_eq_false]
 constructor
 .rintro⟨h1,h2⟩;refine⟨h1,λo ho hl=>?_⟩;have:=h2 o (GW.mpr ⟨ho,decide_eq_true hl⟩);simpa using this
 .rintro⟨h1,h2⟩;refine⟨h1,λo ho=>?_⟩;obtain⟨m1,m2⟩:=GW.mp ho;rw [h2 o m1 (of_decide_eq_true m2)];decide
def wL{ps:List (List Nat)}(hw:∀w∈ps,w.length<=60):∀(m i:Nat),i<ps.length->(61 - (pw ps i).length)*(ps.length+1)+i<=m->∃j,j<ps.length/\bM ps j=true/\ia (pw ps i) (pw ps j)=true:=by
 intro m
 induction m with
 | zero =>
  intro i hi h;have hl:=hw _ (GD (dO hi));have:0<(61 - (pw ps i).length)*(ps.length+1):=mul_pos (by omega) (by omega);omega
 | succ m ih =>
  intro i hi h;have hl:=hw _ (GD (dO hi))
  by_cases hk:bM ps i=true
  .exact⟨i,hi,hk,yh _⟩
  .by_cases h1:pw ps i∈ps.take i
   .obtain⟨i',hi'⟩:=IE.mp h1
    have hlt:i'<i:=by
     have:=(h_.mp hi').1;rw [length_take] at this;omega
    have he:pw ps i'=pw ps i:=by
     rw [getElem?_take,if_pos hlt] at hi';have:=dO (ws:=ps) (k:=i') (by omega);rw [hi'] at this;exact (q_ this).symm
    obtain⟨j,a1,a2,a3⟩:=ih i' (by omega) (by rw [he];omega);exact⟨j,a1,a2,by rw [<- he];exact a3⟩
   .have h2:∃o∈ps,(pw ps i).length<o.length/\ia (pw ps i) o=true:=by
     apply Classical.byContradiction;intro z;refine hk (fu.mpr ⟨h1,λo ho hlo=>?_⟩)
     cases hs:ia (pw ps i) o with
     | false=>rfl
     | true=>exact absurd ⟨o,ho,hlo,hs⟩ z
    obtain⟨o,ho,hlo,hs⟩:=h2;obtain⟨i',hi'⟩:=IE.mp ho;have hlt:i'<ps.length:=(h_.mp hi').1
    have he:pw ps i'=o:=by
     have:=dO hlt;rw [hi'] at this;exact (q_ this).symm
    have hm:(61 - o.length+1)*(ps.length+1)<=(61 - (pw ps i).length)*(ps.length+1):=JA _ (by have:=hw o ho;omega);rw [add_mul,one_mul] at hm;obtain⟨j,a1,a2,a3⟩:=ih i' hlt (by rw [he];omega);rw [he] at a3;exact⟨j,a1,a2,wK hs a3⟩
noncomputable def oq(a b:List Nat)(k:Nat):Prop:=k<min a.length b.length/\b.take k <:+ a/\∀j,j<min a.length b.length->b.take j <:+ a->j<=k
def oq.uniq{a b:List Nat}{j k:Nat}(x:oq a b j)(y:oq a b k):j=k:=le_antisymm (y.2.2 j x.1 x.2.1) (x.2.2 k y.1 y.2.1)
noncomputable def cA(a b:List Nat):Nat:=open Classical in if h:∃k,oq a b k then Classical.choose h else 0
def dQ{a b:List Nat}(ha:0<a.length)(hb:0<b.length):oq a b (cA a b):=by
 obtain⟨k,h1,h2,h3⟩:=lf (λk=>b.take k <:+ a) (by rw [take_zero];exact Jc) (min a.length b.length) (by omega);have h:∃k,oq a b k:=⟨k,h1,h2,h3⟩
 unfold cA;rw [dif_pos h];exact JY h
def ot{a b:List Nat}{k:Nat}(h:oq a b k):cA a b=k:=(dQ (by have:=h.1;omega) (by have:=h.1;omega)).uniq h
noncomputable def ig(ps:List (List Nat)):List Nat:=(e_ ps.length).filter (bM ps)
noncomputable def cB(ps:List (List Nat)):List (List Nat):=(ig ps).map (pw ps)
def qC{ps:List (List Nat)}{i:Nat}(h:i∈ig ps):i<ps.length:=GQ.mp (GW.mp h).1
def uO(ps:List (List Nat)):(ig ps).length<=ps.length:=E_ (JB ..) (by rw [B_];omega)
def uP{m:Nat}{ps:List (List Nat)}(h:Pcs m ps):Pcs m (cB ps):=λw hw=>by
 obtain⟨i,hi,rfl⟩:=Hb.mp hw;exact h _ (cK (qC hi))
def uQ(ps:List (List Nat)):(cB ps).length<=ps.length:=by unfold cB;rw [length_map];exact uO ps
def qD(ps:List (List Nat)):(ig ps).Pairwise (·<·):=Jo.filter _
noncomputable def qE(ws:List (List Nat)):D:=.tup (ws.map λw=>.tup (ws.map λv=>.int (cA w v:Int)))
def nD(k:Nat):D:=.int (k:Int)
def Ds{ks:List Nat}{k:Nat}(h:k<(ks.map nD).length):itD (ks.map nD) k=.int ((ks.getD k 0:Nat):Int):=iY (by
 have h:k<ks.length:=by rwa [length_map] at h
 rw [i_,cx,cy h];rfl)
theorem ou(w:List Nat):∀ws:List (List Nat),inD (.str w) (ws.map .str)=decide (w∈ws)
 | []=>by simp [inD]
 | v::r=>by
  have ih:=ou w r;unfold inD at ih ⊢;rw [map_cons,any_cons,ih];show ((v == w) || decide (w∈r))=_
  by_cases h:v=w
  .subst h;simp
  .rw [beq_eq_false_iff_ne.mpr h,Bool.false_or]
   by_cases h2:w∈r
   .rw [decide_eq_true h2,decide_eq_true (m_ _ h2)]
   .rw [decide_eq_false h2,decide_eq_false (λz=>(w_.mp z).elim (λe=>h e.symm) h2)]
def wM(ws:List (List Nat)):(ws.map D.str).all D.fl=true:=by rw [all_map];exact Jm.mpr λ_ _=>rfl
def y6(ws:List (List Nat)):(e_ ws.length).map (pw ws)=ws:=by
 apply IW;intro k;rw [i_]
 by_cases hk:k<ws.length
 .rw [GK hk,dO hk];rfl
 .rw [we (by rw [B_];omega),we (by omega)];rfl
def yi{β:Type}(f:List Nat->Option β)(ws:List (List Nat)):(e_ ws.length).filterMap (λk=>f (pw ws k))=ws.filterMap f:=by
 conv=>rhs;rw [<- y6 ws]
 rw [Jt];rfl
theorem gk{α β:Type}(p:α->Bool)(g:α->β):∀l:List α,l.filterMap (λa=>if p a=true then some (g a) else none)=(l.filter p).map g
 | []=>rfl
 | a::r=>by
  rw [Im,filter_cons]
  cases h:p a with
  | true=>simp [gk p g r]
  | false=>simp [gk p g r]
def ua(a b:List Int):deq (.lst (a.map .int)) (.lst (b.map .int))=decide (a=b):=by
 unfold deq;show Ib (.list (D.pys _)) (.list (D.pys _))=_;rw [om,om];simp only [Ib];exact lc a b
open PySem.Builtin PySem.Builtin.ObjectAttr
open PySem.Builtin PySem.Builtin.ObjectAttr
open PySem.Builtin PySem.Builtin.ObjectAttr
open PySem.Builtin PySem.Builtin.ObjectAttr
def wN(d:D):(PV.dat d).d=d:=rfl
def wO(ds:List D):(PV.own ds).d=.lst ds:=rfl
def wP(c:Str)(ns:List Str)(ds:List D):(PV.ins c ns ds).d=.obj c ns ds:=rfl
def Dt(ds:List D):mkL false ds=.own ds:=rfl
def Du(ds:List D):mkL true ds=.dat (.tup ds):=rfl
noncomputable def pkm(ρ:PSt)(j:Nat):Option PV:=match ρ[j]? with
 | some v=>v
 | none=>none
def ub(v:Option PV)(r:PSt):pkm (v::r) 0=v:=rfl
def uc(v:Option PV)(r:PSt)(n:Nat):pkm (v::r) (n+1)=pkm r n:=rfl
def qF(ρ:PSt):bx [] ρ=[]:=rfl
def m9(ix:List (Option Nat))(ρ:PSt):bx (none::ix) ρ=none::bx ix ρ:=rfl
def ng(j:Nat)(ix:List (Option Nat))(ρ:PSt):bx (some j::ix) ρ=pkm ρ j::bx ix ρ:=rfl
def qG(j:Nat)(ix:List (Option Nat))(ρ:PSt)(t:Option PV)(τ:PSt):fU (some j::ix) ρ (t::τ)=fU ix (ρ.set j t) τ:=rfl
def qH(ix:List (Option Nat))(ρ:PSt)(t:Option PV)(τ:PSt):fU (none::ix) ρ (t::τ)=fU ix ρ τ:=rfl
def ud(ρ τ:PSt):fU [] ρ τ=ρ:=rfl
noncomputable def Gv(pe:PTE):PTE:=λρ Q=>pe ρ λp ρ1=>Q (.dat p.d) ρ1
def ue{K:a_}{ta:TE}{pe:PTE}(h:LE K ta pe):LE K ta (Gv pe):=λA ρ σ H Q Q' R q k=>h A ρ σ H _ Q' R q λv H' p ρ' q f o=>k v H' (.dat p.d) ρ' q f o.frz
def lx{α:Type}{e:α->D}{xs:List α}{k:Nat}(h:k<xs.length):itD (xs.map e) k=e xs[k]:=iY (by rw [i_,cy h];rfl)
def wQ{α β:Type}(f:α->β)(xs:List α)(g:Nat->β)(h:∀k (hk:k<xs.length),g k=f xs[k]):(e_ xs.length).map g=xs.map f:=by
 apply IW;intro i;rw [i_,i_]
 by_cases hi:i<xs.length
 .rw [GK hi,cy hi];exact congrArg some (h i hi)
 .rw [we (by rw [B_];omega),we (by omega)];rfl
section
variable {α:Type}{e:α->D}{xs:List α}{ix:List (Option Nat)}{ρ1:PSt}{g:PTG}{pt:PTT}{pe:PTE}{Q:PKt}
def Gw(T:PSt->Prop)(f:α->Option D)(h0:T (bx ix ρ1))
  (hs:∀x∈xs,∀τ,T τ->∀(K1:D->PSt->Prop) (K2:PSt->Prop),(∀d τ',f x=some d->T τ'->K1 d τ')->(∀τ',f x=none->T τ'->K2 τ')->g (.dat (e x)) τ λτ2=>pt τ2 λok τ3=>ic ok (pe τ3 λp τ4=>K1 p.d τ4) (K2 τ3))
  (hq:∀τ,T τ->Q (.own (xs.filterMap f)) (fU ix ρ1 τ)):mJ ix ρ1 (xs.map e).length (itD (xs.map e)) g pt pe Q:=by
 refine cfm T (λk=>(xs[k]?).bind f) h0 (λk τ d hk ed t K1 K2 k1 k2=>?_) λτ t=>?_
 .rw [length_map] at hk;rw [lx hk] at ed;subst ed;have eg:(xs[k]?).bind f=f xs[k]:=by rw [cy hk];rfl
  rw [eg] at k1 k2;exact hs _ (Hy hk) τ t K1 K2 k1 k2
 .have e1:(e_ (xs.map e).length).filterMap (λk=>(xs[k]?).bind f)=xs.filterMap f:=by
   rw [length_map];have h1:(e_ xs.length).map (λk=>(xs[k]?).bind f)=xs.map f:=wQ f xs _ λk hk=>by rw [cy hk];rfl
   have h2:∀l:List Nat,l.filterMap (λk=>(xs[k]?).bind f)=(l.map λk=>(xs[k]?).bind f).filterMap id:=λl=>by rw [Jt];rfl
   rw [h2,h1,Jt];rfl
  rw [e1];exact hq τ t
def Dv(T:PSt->Prop)(f:α->D)(h0:T (bx ix ρ1))
  (hs:∀x∈xs,∀τ,T τ->∀K1:D->PSt->Prop,(∀τ',T τ'->K1 (f x) τ')->g (.dat (e x)) τ λτ2=>pe τ2 λp τ4=>K1 p.d τ4)
  (hq:∀τ,T τ->Q (.own (xs.map f)) (fU ix ρ1 τ)):mJ ix ρ1 (xs.map e).length (itD (xs.map e)) g x9 pe Q:=by
 refine Gw T (λx=>some (f x)) h0 (λx hx τ t K1 K2 k1 k2=>?_) λτ t=>?_
 .exact hs x hx τ t K1 λτ' t'=>k1 _ τ' rfl t'
 .rw [show xs.filterMap (λx=>some (f x))=xs.map f by rw [<- filterMap_eq_map];rfl];exact hq τ t
def cm1(f:α->D)
  (hs:∀x∈xs,∀(v:Option PV) (K1:D->PSt->Prop),(∀v',K1 (f x) (v'::(bx ix ρ1).tail))->g (.dat (e x)) (v::(bx ix ρ1).tail) λτ2=>pe τ2 λp τ4=>K1 p.d τ4)
  (hq:∀v:Option PV,Q (.own (xs.map f)) (fU ix ρ1 (v::(bx ix ρ1).tail))) (hx:bx ix ρ1=none::(bx ix ρ1).tail:=by rfl):mJ ix ρ1 (xs.map e).length (itD (xs.map e)) g x9 pe Q:=by
 refine Dv (λτ=>∃v,τ=v::(bx ix ρ1).tail) f ⟨none,hx⟩ ?_ ?_
 .rintro x hx τ ⟨v,rfl⟩ K1 k1;exact hs x hx v K1 λv'=>k1 _ ⟨v',rfl⟩
 .rintro τ ⟨v,rfl⟩;exact hq v
end
def cmR{ix:List (Option Nat)}{ρ1:PSt}{g:PTG}{pe:PTE}{Q:PKt}{n:Nat}{it:Nat->D}(f:Nat->D)
  (hs:∀k,k<n->∀(v:Option PV) (K1:D->PSt->Prop),(∀v',K1 (f k) (v'::(bx ix ρ1).tail))->g (.dat (it k)) (v::(bx ix ρ1).tail) λτ2=>pe τ2 λp τ4=>K1 p.d τ4)
  (hq:∀v:Option PV,Q (.own ((e_ n).map f)) (fU ix ρ1 (v::(bx ix ρ1).tail))) (hx:bx ix ρ1=none::(bx ix ρ1).tail:=by rfl):mJ ix ρ1 n it g x9 pe Q:=by
 refine yW (λτ=>∃v,τ=v::(bx ix ρ1).tail) f ⟨none,hx⟩ ?_ ?_
 .rintro k τ d hk rfl ⟨v,rfl⟩ K1 k1;exact hs k hk v K1 λv'=>k1 _ ⟨v',rfl⟩
 .rintro τ ⟨v,rfl⟩;exact hq v
def cfR{ix:List (Option Nat)}{ρ1:PSt}{g:PTG}{pt:PTT}{pe:PTE}{Q:PKt}{n:Nat}{it:Nat->D}(p:Nat->Bool)(f:Nat->D)
  (hs:∀k,k<n->∀(v:Option PV) (K1:D->PSt->Prop) (K2:PSt->Prop),(∀v',p k=true->K1 (f k) (v'::(bx ix ρ1).tail))->(∀v',p k=false->K2 (v'::(bx ix ρ1).tail))->g (.dat (it k)) (v::(bx ix ρ1).tail) λτ2=>pt τ2 λok τ3=>ic ok (pe τ3 λp τ4=>K1 p.d τ4) (K2 τ3))
  (hq:∀v:Option PV,Q (.own (((e_ n).filter p).map f)) (fU ix ρ1 (v::(bx ix ρ1).tail))) (hx:bx ix ρ1=none::(bx ix ρ1).tail:=by rfl):mJ ix ρ1 n it g pt pe Q:=by
 refine cfm (λτ=>∃v,τ=v::(bx ix ρ1).tail) (λk=>if p k=true then some (f k) else none) ⟨none,hx⟩ ?_ ?_
 .rintro k τ d hk rfl ⟨v,rfl⟩ K1 K2 k1 k2;exact hs k hk v K1 K2 (λv' h=>k1 _ _ (by rw [if_pos h]) ⟨v',rfl⟩) λv' h=>k2 _ (by rw [if_neg (by rw [h];decide)]) ⟨v',rfl⟩
 .rintro τ ⟨v,rfl⟩;rw [gk];exact hq v
section
variable {α:Type}{e:α->D}{xs:List α}{ρ1:PSt}{g:PTG}{pb:PTS}{nx bk:PSt->Prop}{rt:PV->PSt->Prop}
def Ea(J:List α->PSt->Prop)(h0:J [] ρ1)
  (hs:∀pre x suf ρ,xs=pre++x::suf->J pre ρ->g (.dat (e x)) ρ λρ2=>pb { nx:=J (pre++[x]),rt:=rt,bk:=bk,ct:=J (pre++[x]) } ρ2) (hq:∀ρ,J xs ρ->nx ρ) :
  ∃I:Nat->PSt->Prop,I 0 ρ1/\(∀k ρ d,k<(xs.map e).length->d=itD (xs.map e) k->I k ρ->g (.dat d) ρ λρ2=>pb { nx:=I (k+1),rt:=rt,bk:=bk,ct:=I (k+1) } ρ2)/\∀ρ,I (xs.map e).length ρ->nx ρ:=by
 refine⟨λk ρ=>J (xs.take k) ρ,by show J (xs.take 0) ρ1;rw [take_zero];exact h0,λk ρ d hk ed hJ=>?_,λρ h=>hq ρ (by have h:J (xs.take (xs.map e).length) ρ:=h;rw [length_map,take_length] at h;exact h)⟩;rw [length_map] at hk;rw [lx hk] at ed;subst ed;have ht:xs.take (k+1)=xs.take k++[xs[k]]:=by rw [take_succ,cy hk];rfl
 show g _ ρ λρ2=>pb { nx:=J (xs.take (k+1)),rt:=rt,bk:=bk,ct:=J (xs.take (k+1)) } ρ2;rw [ht];exact hs _ _ (xs.drop (k+1)) ρ (by rw [Jp,GM]) hJ
def Gx{it:Nat->D}(J:List α->PSt->Prop)(h0:J [] ρ1)
  (hs:∀pre x suf ρ,xs=pre++x::suf->J pre ρ->g (.dat (.tup [.int (pre.length:Int),e x])) ρ λρ2=>pb { nx:=J (pre++[x]),rt:=rt,bk:=bk,ct:=J (pre++[x]) } ρ2) (hq:∀ρ,J xs ρ->nx ρ)
  (hit:∀k,it k=.tup [.int (k:Int),itD (xs.map e) k]:=by intro k;rfl) :
  ∃I:Nat->PSt->Prop,I 0 ρ1/\(∀k ρ d,k<(xs.map e).length->d=it k->I k ρ->g (.dat d) ρ λρ2=>pb { nx:=I (k+1),rt:=rt,bk:=bk,ct:=I (k+1) } ρ2)/\∀ρ,I (xs.map e).length ρ->nx ρ:=by
 refine⟨λk ρ=>J (xs.take k) ρ,by show J (xs.take 0) ρ1;rw [take_zero];exact h0,λk ρ d hk ed hJ=>?_,λρ h=>hq ρ (by have h:J (xs.take (xs.map e).length) ρ:=h;rw [length_map,take_length] at h;exact h)⟩;rw [length_map] at hk;rw [hit,lx hk] at ed;subst ed;have ht:xs.take (k+1)=xs.take k++[xs[k]]:=by rw [take_succ,cy hk];rfl
 show g _ ρ λρ2=>pb { nx:=J (xs.take (k+1)),rt:=rt,bk:=bk,ct:=J (xs.take (k+1)) } ρ2;rw [ht];have hl:(xs.take k).length=k:=by rw [length_take];omega
 have:=hs (xs.take k) xs[k] (xs.drop (k+1)) ρ (by rw [Jp,GM]) hJ;rw [hl] at this;exact this
end
def jK{t w:List Nat}{k:Nat}:stA t w k=true ↔ ∃a b,t=a++w++b/\a.length=k:=by
 unfold stA;rw [decide_eq_true_eq]
 constructor
 .rintro⟨h1,h2⟩;refine⟨t.take k,t.drop (k+w.length),?_,by rw [length_take];omega⟩
  have h3:t.drop k=w++t.drop (k+w.length):=by
   conv=>lhs;rw [<- GM w.length (t.drop k),h2,drop_drop]
  rw [append_assoc,<- h3,GM]
 .rintro⟨a,b,rfl,rfl⟩;refine⟨by rw [length_append,length_append];omega,?_⟩;rw [append_assoc,drop_left,take_left]
def qI{a b:List Nat}:ia a b=true ↔ a <:+: b:=by
 rw [lw]
 constructor
 .rintro⟨k,hk⟩;obtain⟨u,v,e,_⟩:=jK.mp hk;exact⟨u,v,e.symm⟩
 .rintro⟨u,v,e⟩;exact⟨u.length,jK.mpr ⟨u,v,e.symm,rfl⟩⟩
def AY{a b:List Nat}:ia a b=true ↔ 0<=fnd b a 0:=by unfold ia;exact decide_eq_true_iff
def yj{a b:List Nat}:ia a b=false ↔ fnd b a 0<0:=by
 unfold ia;rw [decide_eq_false_iff_not];omega
def yk{a b t:List Nat}{k:Nat}(h:oq a b k)(ht:a <:+ t):b <:+ t++b.drop k:=by
 obtain⟨u,hu⟩:=List.IsSuffix.trans h.2.1 ht;refine⟨u,?_⟩;rw [<- hu,append_assoc,GM]
def qJ{α β:Type}(f:α->β)(xs:List α)(i:Nat):(xs.map f).eraseIdx i=(xs.eraseIdx i).map f:=by
 rw [eraseIdx_eq_take_drop_succ,eraseIdx_eq_take_drop_succ,map_append,map_take,map_drop]
def qK{α:Type}{js:List α}{i:Nat}(h:i<js.length):(js.eraseIdx i++[js[i]]).Perm js:=by
 rw [eraseIdx_eq_take_drop_succ,append_assoc];have e:js=js.take i++(js[i]::js.drop (i+1)):=by rw [Jp,GM]
 conv=>rhs;rw [e]
 exact List.Perm.append_left _ (perm_append_singleton _ _)
def FY{n i:Nat}(h:i<n):ixN n (i:Int)=some i:=by
 unfold ixN;rw [if_pos (by omega),if_pos (by omega),toNat_natCast]
def oy{α:Type}{P:List α->Prop}(h0:P [])(h1:∀l a,P l->P (l++[a]))(l:List α):P l:=by
 have go:∀r:List α,P r.reverse:=λr=>by
  induction r with
  | nil=>exact h0
  | cons a r ih=>rw [reverse_cons];exact h1 _ _ ih
 have:=go l.reverse
 rwa [reverse_reverse] at this
noncomputable def glT(ws:List (List Nat)):Nat->List Nat->List Nat
 | _,[]=>[]
 | i,j::r=>(pw ws j).drop (cA (pw ws i) (pw ws j))++glT ws j r
noncomputable def glN(ws:List (List Nat)):List Nat->List Nat
 | []=>[]
 | j::r=>pw ws j++glT ws j r
theorem uf(ws:List (List Nat))(j:Nat):∀(i:Nat) (r:List Nat) (l:Nat),glT ws i (r++[l]++[j])=glT ws i (r++[l])++(pw ws j).drop (cA (pw ws l) (pw ws j))
 | i,[],l=>by
  show (pw ws l).drop _++((pw ws j).drop _++[])=(pw ws l).drop _++[]++_;rw [append_nil,append_nil]
 | i,a::r,l=>by
  show (pw ws a).drop _++glT ws a (r++[l]++[j])=(pw ws a).drop _++glT ws a (r++[l])++_;rw [uf ws j a r l,append_assoc]
def oz(ws:List (List Nat))(pre:List Nat)(l j:Nat):glN ws (pre++[l]++[j])=glN ws (pre++[l])++(pw ws j).drop (cA (pw ws l) (pw ws j)):=by
 cases pre with
 | nil=>show pw ws l++((pw ws j).drop _++[])=pw ws l++[]++_;rw [append_nil,append_nil]
 | cons a r =>
  show pw ws a++glT ws a (r++[l]++[j])=pw ws a++glT ws a (r++[l])++_;rw [uf,append_assoc]
def AZ{ws:List (List Nat)}:∀{pre:List Nat}{l:Nat},(∀j∈pre++[l],0<(pw ws j).length)->pw ws l <:+ glN ws (pre++[l]):=λ{pre}=>by
 induction pre using oy with
 | h0=>intro l _;exact⟨[],by show pw ws l=pw ws l++[];rw [append_nil]⟩
 | h1 pre a ih =>
  intro l h;rw [oz];have ha:=h a (by simp);have hl:=h l (by simp);exact yk (dQ ha hl) (ih λj hj=>h j (HW _ hj))
def A0{ws:List (List Nat)}(pre suf:List Nat):glN ws pre <+: glN ws (pre++suf):=by
 induction suf using oy with
 | h0=>rw [append_nil];exact prefix_refl _
 | h1 suf a ih =>
  rw [<- append_assoc]
  rcases eq_nil_or_concat (pre++suf) with e|⟨r,l,e⟩
  .have:pre=[]:=(append_eq_nil_iff.mp e).1;rw [this];exact nil_prefix
  .rw [concat_eq_append] at e;rw [e] at ih ⊢;rw [oz];exact ih.trans (prefix_append _ _)
def wR{t:List Nat}{a b c:Nat}(h1:a<=b)(h2:b<=c):(t.drop a).take (b - a)++(t.drop b).take (c - b)=(t.drop a).take (c - a):=by
 rw [show c - a=(b - a)+(c - b) by omega,take_add,drop_drop,show a+(b - a)=b by omega]
def wS{a b:List Nat}(h:a <:+: b):a.length<=b.length:=h.length_le
def hX{ps:List (List Nat)}{a b:Nat}(ha:a<ps.length)(hb:b<ps.length)(ka:bM ps a=true)(kb:bM ps b=true)(h:a≠b):¬ pw ps a <:+: pw ps b:=λhi=>by
 obtain⟨a1,a2⟩:=fu.mp ka;obtain⟨b1,b2⟩:=fu.mp kb
 rcases GX (pw ps a).length (pw ps b).length with z|z
 .have:=a2 _ (cK hb) z;rw [qI.mpr hi] at this;cases this
 .have e:pw ps a=pw ps b:=hi.eq_of_length (by have:=wS hi;omega)
  have mem:∀{x y:Nat},x<y->y<ps.length->pw ps x=pw ps y->pw ps y∈ps.take y:=λ{x y} h1 h2 h3=>by
   rw [<- h3];refine GD (i:=x) ?_;rw [getElem?_take,if_pos h1];exact dO (by omega)
  rcases GX a b with z|z
  .exact b1 (mem z hb e)
  .exact a1 (mem (by omega) ha e.symm)
def ug{ps:List (List Nat)}{i:Nat}(h:i<(cB ps).length):∃k,(ig ps)[i]?=some k/\pw (cB ps) i=pw ps k/\k<ps.length/\bM ps k=true:=by
 have hk:i<(ig ps).length:=by unfold cB at h;rwa [length_map] at h
 have hm:=Hy hk;refine⟨(ig ps)[i],cy hk,?_,qC hm,(GW.mp hm).2⟩;unfold cB pw;rw [cx,i_,cy hk];rfl
def uR{ps:List (List Nat)}{i j:Nat}(hi:i<(cB ps).length)(hj:j<(cB ps).length)(h:i≠j):¬ pw (cB ps) i <:+: pw (cB ps) j:=by
 obtain⟨a,a1,a2,a3,a4⟩:=ug hi;obtain⟨b,b1,b2,b3,b4⟩:=ug hj;rw [a2,b2];refine hX a3 b3 a4 b4 λe=>h ?_;subst e;have nd:(ig ps).Nodup:=(qD ps).imp λh=>GR h;have l1:=(h_.mp a1).1;exact (getElem?_inj l1 nd).mp (a1.trans b1.symm)
def Gy{α β:Type}(f:α->β)(xs:List α):cZ (xs.map f) (some 1) none=(xs.tail).map f:=by
 rw [show (1:Int)=((1:Nat):Int) from rfl,eV,<- map_drop,drop_one]
section
variable {α β:Type}{e:α->D}{e':β->D}{xs:List α}{ys:List β}{ix:List (Option Nat)}{ρ1:PSt}{g:PTG}{pt:PTT}{pe:PTE}{Q:PKt}
def wT{γ:Type}(f:α->β->γ)(xs:List α)(ys:List β)(h:Nat->γ)(hh:∀k (h1:k<xs.length) (h2:k<ys.length),h k=f xs[k] ys[k]):(e_ (min xs.length ys.length)).map h=(xs.zip ys).map λp=>f p.1 p.2:=by
 apply IW;intro i;rw [i_,i_]
 by_cases hi:i<min xs.length ys.length
 .have h1:i<xs.length:=by omega
  have h2:i<ys.length:=by omega
  rw [GK hi,cy (by rw [length_zip];exact hi),getElem_zip];exact congrArg some (hh i h1 h2)
 .rw [we (by rw [B_];omega),we (by rw [length_zip];omega)];rfl
def cmZ{it:Nat->D}{n:Nat}(f:α->β->D)
  (hs:∀a b,(a,b)∈xs.zip ys->∀(v w:Option PV) (K1:D->PSt->Prop),(∀v' w',K1 (f a b) (v'::w'::(bx ix ρ1).tail.tail))->g (.dat (.tup [e a,e' b])) (v::w::(bx ix ρ1).tail.tail) λτ2=>pe τ2 λp τ4=>K1 p.d τ4)
  (hq:∀v w:Option PV,Q (.own ((xs.zip ys).map λp=>f p.1 p.2)) (fU ix ρ1 (v::w::(bx ix ρ1).tail.tail))) (hx:bx ix ρ1=none::none::(bx ix ρ1).tail.tail:=by rfl)
  (hn:n=min (xs.map e).length (ys.map e').length:=by rfl) (hit:∀k,it k=.tup [itD (xs.map e) k,itD (ys.map e') k]:=by intro k;rfl):mJ ix ρ1 n it g x9 pe Q:=by
 rw [length_map,length_map] at hn;subst hn
 by_cases h0:0<min xs.length ys.length
 .have ga:∀k,k<min xs.length ys.length->∃h1:k<xs.length,∃h2:k<ys.length,it k=.tup [e xs[k],e' ys[k]]:=λk hk=>⟨by omega,by omega,by rw [hit,lx (by omega),lx (by omega)]⟩
  have hx0:0<xs.length:=by omega
  have hy0:0<ys.length:=by omega
  refine yW (λτ=>∃v w,τ=v::w::(bx ix ρ1).tail.tail) (λk=>f (xs.getD k xs[0]) (ys.getD k ys[0])) ⟨none,none,hx⟩ ?_ ?_
  .rintro k τ d hk rfl ⟨v,w,rfl⟩ K1 k1;obtain⟨h1,h2,ek⟩:=ga k hk;rw [ek];have g1:xs.getD k xs[0]=xs[k]:=by rw [cx,cy h1];rfl
   have g2:ys.getD k ys[0]=ys[k]:=by rw [cx,cy h2];rfl
   rw [g1,g2] at k1;refine hs _ _ ?_ v w K1 λv' w'=>k1 _ ⟨v',w',rfl⟩;refine mem_iff_getElem.mpr ⟨k,by rw [length_zip];exact hk,by rw [getElem_zip]⟩
  .rintro τ ⟨v,w,rfl⟩;rw [wT f xs ys _ λk h1 h2=>by rw [cx,cy h1,cx,cy h2];rfl];exact hq v w
 .refine yW (λτ=>∃v w,τ=v::w::(bx ix ρ1).tail.tail) (λ_=>.non) ⟨none,none,hx⟩ (λk τ d hk=>by omega) ?_;rintro τ ⟨v,w,rfl⟩;have e1:min xs.length ys.length=0:=by omega
  have e2:xs.zip ys=[]:=Hl.mp (by rw [length_zip];exact e1);have:=hq v w;rw [e2] at this;rw [e1];exact this
end
def cm2{α:Type}{e:α->D}{xs:List α}{ix:List (Option Nat)}{ρ1:PSt}{g:PTG}{pe:PTE}{Q:PKt}(f:α->D)
  (hs:∀x∈xs,∀(v w:Option PV) (K1:D->PSt->Prop),(∀v' w',K1 (f x) (v'::w'::(bx ix ρ1).tail.tail))->g (.dat (e x)) (v::w::(bx ix ρ1).tail.tail) λτ2=>pe τ2 λp τ4=>K1 p.d τ4)
  (hq:∀v w:Option PV,Q (.own (xs.map f)) (fU ix ρ1 (v::w::(bx ix ρ1).tail.tail))) (hx:bx ix ρ1=none::none::(bx ix ρ1).tail.tail:=by rfl):mJ ix ρ1 (xs.map e).length (itD (xs.map e)) g x9 pe Q:=by
 refine Dv (λτ=>∃v w,τ=v::w::(bx ix ρ1).tail.tail) f ⟨none,none,hx⟩ ?_ ?_
 .rintro x hx τ ⟨v,w,rfl⟩ K1 k1;exact hs x hx v w K1 λv' w'=>k1 _ ⟨v',w',rfl⟩
 .rintro τ ⟨v,w,rfl⟩;exact hq v w
def wU(a b:List Nat):(!(Il (S b) (S a) 0 (S b).length 1).isEmpty)=ia a b:=by
 have e:=wc b a 0;unfold ia;rw [<- e]
 cases Il (S b) (S a) 0 (S b).length 1 with
 | nil=>rfl
 | cons k r=>exact (decide_eq_true (by omega:(0:Int)<=(k:Int))).symm
section
variable {X:Cx}{K:a_}
noncomputable def E3(neg:Bool):R2:=λx y H Q=>∃a b,x=.str (S a)/\y=.str (S b)/\Q (.bl (if neg then !ia a b else ia a b)) H
def Dw:OpR X (compareOp .In) (E3 false):=by
 intro pins s σ H x y v u Q I rx ry h;obtain⟨a,b,rfl,rfl,q⟩:=h;obtain⟨t,rfl⟩:=rx;obtain⟨t',rfl⟩:=ry;exact P.in_str ⟨.bl _,H,I,rfl,by rw [wU];exact q⟩
def wV:OpR X (compareOp .NotIn) (E3 true):=by
 intro pins s σ H x y v u Q I rx ry h;obtain⟨a,b,rfl,rfl,q⟩:=h;obtain⟨t,rfl⟩:=rx;obtain⟨t',rfl⟩:=ry;exact P.notIn_str ⟨.bl _,H,I,rfl,by rw [wU];exact q⟩
noncomputable def E4(K:a_)(neg:Bool):R2:=λx y H Q=>rIn K neg x y H Q\/E3 neg x y H Q
def E5(K:a_)(e:X.K=K):OpR X (compareOp .In) (E4 K false):=OpR.or (Go K e) Dw
def yl(K:a_)(e:X.K=K):OpR X (compareOp .NotIn) (E4 K true):=OpR.or (AA K e) wV
noncomputable def FZ(neg:Bool):F2
 | .str a,.str b,Q=>Q (.dat (.bl (if neg then !ia a b else ia a b)))
 | a,.lst ds,Q=>(a.fl=true/\ds.all D.fl=true)/\Q (.dat (.bl (if neg then !inD a ds else inD a ds)))
 | a,.tup ds,Q=>(a.fl=true/\ds.all D.fl=true)/\Q (.dat (.bl (if neg then !inD a ds else inD a ds)))
 | _,_,_=>False
def y8{neg:Bool}:LO K (E4 K neg) (FZ neg):=by
 intro O H x y a b Q Q' dom fx fy q k;unfold FZ at q
 split at q
 .obtain⟨rfl,_⟩:=fx.str;obtain⟨rfl,_⟩:=fy.str;exact .inr ⟨_,_,rfl,rfl,k _ H _ q (Gr.refl _) (.bl _)⟩
 .exact .inl (CZ O H x y _ _ Q Q' dom fx fy q k)
 .exact .inl (CZ O H x y _ _ Q Q' dom fx fy q k)
 .exact q.elim
end
def Dx{ws:List (List Nat)}{m:Nat}(hw:∀j,(pw ws j).length<=m):∀js:List Nat,(glN ws js).length<=js.length*m:=by
 have go:∀(r:List Nat) (i:Nat),(glT ws i r).length<=r.length*m:=λr=>by
  induction r with
  | nil=>intro i;exact G4 _
  | cons j r ih =>
   intro i;show ((pw ws j).drop _++glT ws j r).length<=_;rw [length_append,length_drop,length_cons,succ_mul];have:=ih j;have:=hw j;omega
 intro js
 cases js with
 | nil=>exact G4 _
 | cons j r =>
  show (pw ws j++glT ws j r).length<=_;rw [length_append,length_cons,succ_mul];have:=go r j;have:=hw j;omega
def A1{ws:List (List Nat)}{m:Nat}(hw:∀w∈ws,w.length<=m)(j:Nat):(pw ws j).length<=m:=by
 by_cases h:j<ws.length
 .exact hw _ (cK h)
 .unfold pw;rw [cx,we (by omega)];exact G4 _
def uh{ws:List (List Nat)}{js:List Nat}{k:Nat}(h:k<js.length):glN ws (js.take (k+1))=glN ws (js.take k)++(pw ws (js.getD k 0)).drop (if k=0 then 0 else cA (pw ws (js.getD (k - 1) 0)) (pw ws (js.getD k 0))):=by
 have t1:js.take (k+1)=js.take k++[js.getD k 0]:=qx h
 by_cases e:k=0
 .subst e;rw [if_pos rfl,t1,take_zero,drop_zero];show pw ws _++[]=[]++pw ws _;rw [append_nil,nil_append]
 .have t0:js.take k=js.take (k - 1)++[js.getD (k - 1) 0]:=by
   have:=qx (l:=js) (k:=k - 1) (by omega)
   rwa [show k - 1+1=k by omega] at this
  rw [if_neg e,t1,t0,oz]
noncomputable def stv(s:Int×Int):PV:=.own [.int s.1,.int s.2]
noncomputable def SOk:Int×Int->Prop
 | (a,b)=>0<=a/\0<=b/\b < 2 ^ 60
section
variable {X:Cx}{K:a_}
noncomputable def y9(K:a_):R2:=λx y H Q=>∃a b ys,x=.ref a/\y=.ref b/\SqT K H a []/\SqT K H b ys/\Q (.ref b) H
def ym:OpR X (binaryOp .Add) (y9 X.K):=by
 intro pins s σ H x y v u Q I rx ry h;obtain⟨a,b,ys,rfl,rfl,ha,hb,q⟩:=h;cases rx;cases ry;obtain⟨its,r1,p1,_⟩:=I.tuple ha;obtain⟨its2,r2,p2,_⟩:=I.tuple hb;have e0:its=[]:=r1.nil_iff.mpr rfl;subst e0;obtain⟨⟨cls,dd,data,sl⟩,ho,hc,n,hd⟩:=id p1;obtain⟨⟨cls2,dd2,data2,sl2⟩,ho2,hc2,n2,hd2⟩:=id p2;simp only at hc hd hc2 hd2;subst hc hd hc2 hd2;exact JJ ⟨_,ho,rfl⟩ ⟨_,ho2,rfl⟩ Jy seq_tuple_add Iv Ih (HS _ _) (tuple_addW0 a b _ _ n n2 dd dd2 sl sl2 rfl) ⟨ho,ho2,.ref b,H,I,rfl,q⟩
noncomputable def qL(K:a_):R2:=λx y H Q=>Az K x y H Q\/y9 K x y H Q
def aS(K:a_)(e:X.K=K):OpR X (binaryOp .Add) (qL K):=OpR.or (EF K e) (by subst e;exact ym)
noncomputable def uS:F2
 | .tup a,.tup b,Q=>a.length+b.length<=1000000/\Q (.dat (.tup (a++b)))
 | a,b,Q=>EG a b Q
def aI:LO K (qL K) uS:=by
 intro O H x y a b Q Q' dom fx fy q k;unfold uS at q
 split at q
 .rename_i Q ds es
  cases ds with
  | cons d ds=>exact .inl (yO O H x y _ _ _ Q' dom fx fy ⟨nofun,q⟩ k)
  | nil =>
   obtain⟨p1,xs1,rfl,n1,e1,f1⟩:=fx.tup;obtain⟨p2,xs2,rfl,n2,e2,f2⟩:=fy.tup;cases f1;exact .inr ⟨p1,p2,xs2,rfl,rfl,SqT.of e1,SqT.of e2,k _ H _ q.2 (Gr.refl _) (.tup n2 e2 f2)⟩
 .exact .inl (yO O H x y _ _ _ Q' dom fx fy q k)
end
section
variable {X:Cx}
noncomputable def F4:Expr->Bool
 | .ListComp ..|.SetComp ..|.DictComp ..=>false
 | _=>true
def wW{o i e:Expr}{p:Pos}{l:Nat}{env:Env}(h:F4 e=true):swapsWithSole [.Subscript o i p] e l env=pure false:=by
 show swapsWith e (some (.Subscript o i p)) l env=pure false;cases e <;> first|rfl|cases h
def rW{o i e:Expr}{p:Pos}{env:Env}:swappedStores [.Subscript o i p] e env=pure none:=rfl
def wX{o i e:Expr}{p:Pos}{te:TE}{g:TG}{pos:Pos}(he:PE X e te)(hg:PG X (.Subscript o i p) g)(hn:F4 e=true:=by rfl):PS X (.Assign [.Subscript o i p] e pos) (Bx te g) :=
 tm he hg (wW hn) rW rfl
end
noncomputable def eC(K:a_)(x:Str)(st:Stmt):Prop:=∃(f:Addr) (oc kV dc pm cd ct:Value) (od an:Option Addr) (sl:Array (Option Value)),tf K mainGlobals x=some (some (.ref f)) /\
 K.lookup f=some ⟨oc,od,.func (C_ x x (bS st) (bj st) (ak st) .none kV dc pm an cd ct),sl⟩/\GT K cd x=true/\A_ K (.ref f)=true
def Dy{K:a_}{x:Str}{st:Stmt}{f:Addr}{oc kV dc pm cd ct:Value}{od an:Option Addr}{sl:Array (Option Value)}(a:tf K mainGlobals x=some (some (.ref f)))(l:K.lookup f=some ⟨oc,od,.func (C_ x x (bS st) (bj st) (ak st) .none kV dc pm an cd ct),sl⟩)
  (c:GT K cd x=true) (k:A_ K (.ref f)=true):eC K x st:=⟨f,oc,kV,dc,pm,cd,ct,od,an,sl,a,l,c,k⟩
def a8{K:a_}{h:Heap}{mg:Str->Option Value}{x:Str}{st:Stmt}(q:eC K x st)(X:K.In h)(G:h.Ns mainGlobals mg):aV K mg x st:=by
 obtain⟨f,oc,kV,dc,pm,cd,ct,od,an,sl,a,l,c,k⟩:=q;exact .mk' X G a l c k
section
variable {P:s_}{w:World}{A:z_}{R:Result->c_->Prop}{I T B:Addr}{xs:Array Value}
def A2(hh:A.handled=none)(hn:T≠I){z:c_}{v:Value}{c:Nat}(hB1:B≠I)(hB:z.heap.get? B=some { cls:=.type "list",dict:=none,data:=.seq #[v,v] c,slots:=#[] })
  (it:z.heap.IsTupleIter I T xs.size) (hT:z.heap.IsTuple T xs)
  (k:∀h' tk,(∀b o,b≠I->b≠B->z.heap.get? b=some o->h'.get? b=some o)->R (.ok (.ret v)) { z with heap:=h',toks:=tk }) :
  codeAny (model P w) A (.builtin "min.loop" ⟨[.ref I,.none,.ref B],[]⟩) R z:=by
 refine JW F.entry_min_loop ?_;rw [IM F.plain_min_loop _];show wpAny _ A.in1 (seqItems? (.ref B) >>= _) _ _ z;refine b_ (GU hB rfl ?_);show wpAny _ A.in1 (tryCatch (pyNext (.ref I)) _ >>= _) _ _ z;refine b_ (Jd ((Walks.tuple (A:=A.in1) hh I T hn xs).done z _ _ ⟨it,hT⟩ λh' tk old=>?_));have hB':=old B _ (by simpa using hB1) hB
 show wpAny _ A.in1 (updateSeq B (λ_=>#[]) >>= _) _ _ _;refine b_ (JX hB' rfl (b_ (Ij (gV ?_))));exact k _ tk λb o h1 h2 e=>(Eo _ _ (HA h2)).trans (old b o (by simpa using h1) e)
def A3(hh:A.handled=none)(hn:T≠I){z:c_}{v x:Value}{c i:Nat}{bt:Bool}(hB1:B≠I)(hB2:B≠T)(hB:z.heap.get? B=some { cls:=.type "list",dict:=none,data:=.seq #[v,v] c,slots:=#[] })
  (it:z.heap.IsTupleIter I T i) (hT:z.heap.IsTuple T xs) (hx:xs[i]?=some x)
  (hc:∀(y:c_) (Q:Value->c_->Prop) (E:Value->c_->Prop),(∀b o,b≠I->b≠B->z.heap.get? b=some o->y.heap.get? b=some o)->Q (.bool bt) y->wpAny (model P w) A.in1 (richCompare .Lt x v) Q E y)
  (k:∀h' tk c',(∀b o,b≠I->b≠B->z.heap.get? b=some o->h'.get? b=some o)->h'.IsTupleIter I T (i+1)->h'.IsTuple T xs->h'.get? B=some { cls:=.type "list",dict:=none,data:=.seq #[if bt then x else v,if bt then x else v] c',slots:=#[] } ->
   codeAny (model P w) A (.builtin "min.loop" ⟨[.ref I,.none,.ref B],[]⟩) R { z with heap:=h',toks:=tk }) :
  codeAny (model P w) A (.builtin "min.loop" ⟨[.ref I,.none,.ref B],[]⟩) R z:=by
 have hname:(toString "min"++toString ".loop":String)="min.loop":=by decide
 have hi:i<xs.size:=by
  by_cases h:i<xs.size
  .exact h
  .rw [JP (by omega)] at hx;cases hx
 refine JW F.entry_min_loop ?_;rw [IM F.plain_min_loop _];show wpAny _ A.in1 (seqItems? (.ref B) >>= _) _ _ z;refine b_ (GU hB rfl ?_);show wpAny _ A.in1 (tryCatch (pyNext (.ref I)) _ >>= _) _ _ z;refine b_ (Jd ((Walks.tuple (A:=A.in1) hh I T hn xs).item i z _ _ hi ⟨it,hT⟩ λv' h' tk hv st old=>?_));have hv:xs[i]?=some v':=hv;rw [hx] at hv
 cases hv;have hB':=old B _ (by simpa using hB1) hB;show wpAny _ A.in1 (tryCatch (holding [x,x] (richCompare .Lt x v >>= _)) _ >>= _) _ _ _;refine b_ (Jd (GS (b_ (hc _ _ _ (λb o h1 h2 e=>old b o (by simpa using h1) e) ?_))));refine b_ (GS (D_ ?_));refine b_ (Ij (gV ?_))
 cases bt with
 | true =>
  simp only [if_true];refine b_ (JX hB' rfl (b_ (Ij ?_)));rw [hname]
  refine gV ⟨Jv F.plain_min_loop _,k _ tk _ (λb o h1 h2 e=>(Eo _ _ (HA h2)).trans (old b o (by simpa using h1) e)) ?_ ?_ (HI _ hB' rfl)⟩
  .exact st.1.at λo e=>(Eo _ _ hB1).trans e
  .exact st.2.at λo e=>(Eo _ _ hB2).trans e
 | false =>
  simp only [false_eq_true,if_false];refine b_ (Ij ?_);rw [hname];exact gV ⟨Jv F.plain_min_loop _,k _ tk _ (λb o h1 h2 e=>old b o (by simpa using h1) e) st.1 st.2 hB'⟩
def yn(hh:A.handled=none)(hn:T≠I){z:c_}{x:Value}{c:Nat}(hB1:B≠I)(hB2:B≠T)(hB:z.heap.get? B=some { cls:=.type "list",dict:=none,data:=.seq #[] c,slots:=#[] })
  (it:z.heap.IsTupleIter I T 0) (hT:z.heap.IsTuple T xs) (hx:xs[0]?=some x)
  (k:∀h' tk c',(∀b o,b≠I->b≠B->z.heap.get? b=some o->h'.get? b=some o)->h'.IsTupleIter I T 1->h'.IsTuple T xs->h'.get? B=some { cls:=.type "list",dict:=none,data:=.seq #[x,x] c',slots:=#[] } ->
   codeAny (model P w) A (.builtin "min.loop" ⟨[.ref I,.none,.ref B],[]⟩) R { z with heap:=h',toks:=tk }) :
  codeAny (model P w) A (.builtin "min.loop" ⟨[.ref I,.none,.ref B],[]⟩) R z:=by
 have hname:(toString "min"++toString ".loop":String)="min.loop":=by decide
 have hi:0<xs.size:=by
  by_cases h:0<xs.size
  .exact h
  .rw [JP (by omega)] at hx;cases hx
 refine JW F.entry_min_loop ?_;rw [IM F.plain_min_loop _];show wpAny _ A.in1 (seqItems? (.ref B) >>= _) _ _ z;refine b_ (GU hB rfl ?_);show wpAny _ A.in1 (tryCatch (pyNext (.ref I)) _ >>= _) _ _ z;refine b_ (Jd ((Walks.tuple (A:=A.in1) hh I T hn xs).item 0 z _ _ hi ⟨it,hT⟩ λv' h' tk hv st old=>?_));have hv:xs[0]?=some v':=hv;rw [hx] at hv
 cases hv;have hB':=old B _ (by simpa using hB1) hB;show wpAny _ A.in1 (updateSeq B (λ_=>#[x,x]) >>= _) _ _ _;refine b_ (JX hB' rfl ?_);rw [hname]
 refine gV ⟨Jv F.plain_min_loop _,k _ tk _ (λb o h1 h2 e=>(Eo _ _ (HA h2)).trans (old b o (by simpa using h1) e)) ?_ ?_ (HI _ hB' rfl)⟩
 .exact st.1.at λo e=>(Eo _ _ hB1).trans e
 .exact st.2.at λo e=>(Eo _ _ hB2).trans e
end
def uT{P:s_}{w:World}{A:z_}{z:c_}{a b:Value}{bt:Bool}{Q:Value->c_->Prop}{E:Value->c_->Prop}(hh:A.handled=none)
  (hc:∀(y:c_) (Q:Value->c_->Prop) (E:Value->c_->Prop),(∀c o,z.heap.get? c=some o->y.heap.get? c=some o)->Q (.bool bt) y->wpAny (model P w) A.in1 (richCompare .Lt b a) Q E y)
  (k:∀h' tk,(∀c o,z.heap.get? c=some o->h'.get? c=some o)->Q (if bt then b else a) { z with heap:=h',toks:=tk }) :
  wpAny (model P w) A (call (.builtin "min") [a,b]) Q E z:=by
 have hname:(toString "min"++toString ".loop":String)="min.loop":=by decide
 refine call_function_tree F.kind_min F.plain_min F.entry_min (F.args_min2 _ _) ?_;show wpAny _ A.in1 (Builtin.Builtins.bindParams "min" ["key","default"] 0 ⟨[],[]⟩ >>= _) _ _ z;refine b_ (wpAny_of_eq (show _=pure [none,none] from rfl) ?_);show wpAny _ A.in1 (newTuple [a,b] >>= _) _ _ z;refine b_ (GP ?_);have hT:(z.heap.push { cls:=.type "tuple",data:=.seq #[a,b] }).IsTuple z.heap.objs.size #[a,b]:=⟨_,j_ _ rfl,rfl,0,rfl⟩
 refine b_ (Jb hT ?_);refine b_ (GP ?_);rw [hname];refine gV ⟨Jv F.plain_min_loop _,?_⟩;have e1:∀(h:Heap) (o:Obj),(h.push o).objs.size=h.objs.size+1:=λh o=>GG ..;generalize hq:z.heap.push { cls:=.type "tuple",data:=.seq #[a,b] }=h1 at hT ⊢;have l1:h1.objs.size=z.heap.objs.size+1:=by rw [<- hq,e1]
 have o1:∀c o,z.heap.get? c=some o->h1.get? c=some o:=λc o e=>by rw [<- hq];exact d_ _ e
 clear hq;generalize hq:h1.push { cls:=.type "tuple_iterator",data:=.fields #[.ref z.heap.objs.size,.int 0 0] }=h2;have l2:h2.objs.size=z.heap.objs.size+2:=by rw [<- hq,e1,l1]
 have o2:∀c o,h1.get? c=some o->h2.get? c=some o:=λc o e=>by rw [<- hq];exact d_ _ e
 have it2:h2.IsTupleIter h1.objs.size z.heap.objs.size 0:=by rw [<- hq];exact⟨_,j_ _ rfl,rfl,rfl⟩
 clear hq;have hT2:h2.IsTuple z.heap.objs.size #[a,b]:=hT.at λo e=>o2 _ o e;generalize hq:h2.push { cls:=.type "list",data:=.seq [].toArray }=h3;have o3:∀c o,h2.get? c=some o->h3.get? c=some o:=λc o e=>by rw [<- hq];exact d_ _ e
 have b3:h3.get? h2.objs.size=some { cls:=.type "list",dict:=none,data:=.seq #[] 0,slots:=#[] }:=by rw [<- hq];exact j_ _ rfl
 clear hq
 have lt:∀c o,z.heap.get? c=some o->c≠h1.objs.size/\c≠h2.objs.size:=λc o e=>by
  exact⟨GR (u_ (l_ e) (by omega)),GR (u_ (l_ e) (by omega))⟩
 have n1:z.heap.objs.size≠h1.objs.size:=by omega
 have n2:h2.objs.size≠h1.objs.size:=by omega
 have n3:h2.objs.size≠z.heap.objs.size:=by omega
 refine yn (xs:=#[a,b]) (x:=a) hh n1 n2 n3 b3 (it2.at λo e=>o3 _ o e) (hT2.at λo e=>o3 _ o e) rfl λh4 t4 c4 o4 it4 hT4 b4=>?_;refine A3 (xs:=#[a,b]) (x:=b) (bt:=bt) hh n1 n2 n3 b4 it4 hT4 rfl (λy Q E o5 q=>hc y Q E (λc o e=>o5 c o (lt c o e).1 (lt c o e).2 (o4 c o (lt c o e).1 (lt c o e).2 (o3 c o (o2 c o (o1 c o e))))) q) λh5 t5 c5 o5 it5 hT5 b5=>?_;refine A2 (xs:=#[a,b]) hh n1 n2 b5 it5 hT5 λh6 t6 o6=>?_
 exact k h6 t6 λc o e=>o6 c o (lt c o e).1 (lt c o e).2 (o5 c o (lt c o e).1 (lt c o e).2 (o4 c o (lt c o e).1 (lt c o e).2 (o3 c o (o2 c o (o1 c o e)))))
section
variable {K:a_}{c:FX}{C x dx:Addr}{H:Hp}{E:XK}{vs:List V}
def A4{X:Cx}{st:List Stmt}:PSs X st vo:=λ_ _ _ _ _ _ h=>h.elim
end
section
open PySem.AutoSeq1 (wpAny_loadPart')
open PySem.MeetsSeq PySem.MeetsSeq2 PySem.MeetsSeq3
variable {P:s_}{w:World}{A:z_}
end
noncomputable def F7(i:Nat)(pe:PTE):PTE:=λρ Q=>match ρ[i]? with
 | some (some (.own _))=>pe ρ λp ρ1=>(match ρ1[i]?,p.d with
  | some (some (.own ds)),.lst es=>ds.length+es.length<=1000000/\Q (.dat .non) (ρ1.set i (some (.own (ds++es))))
  | _,_=>False)
 | _=>False
section
variable {K:a_}{te:TE}{pe:PTE}
def Dz{i:Nat}(h:LE K te pe):LE K (tBM K "list" vK (bu i) (ba te fi)) (F7 i pe):=λA ρ σ H Q Q' R q k=>by
 unfold F7 at q
 split at q
 .rename_i ds0 e0;obtain⟨a0,xs0,s0,g0,f0⟩:=R.ownAt e0;refine⟨_,s0,.inl ⟨rfl,xs0,SqL.of g0⟩,h A ρ σ H _ _ R q λv H1 p ρ1 q1 f1 o1=>?_⟩;obtain⟨R1,fv⟩:=o1.frz
  split at q1
  .rename_i ds es e1 e2;rw [e2] at fv;obtain⟨a,xs,s,g,f⟩:=R1.ownAt e1;rw [s0] at s;cases s
   cases fv with
   | lst no ez fz =>
    obtain⟨R2,f2⟩:=R1.lstw e1 s0 (f.append fz);exact⟨a0,_,xs,_,rfl,rfl,g,ez,E_ (by rw [f.length,fz.length];exact q1.1) (sz _ (o_ _)),k _ _ _ _ q1.2 (f1.trans f2) ⟨R2,.non⟩⟩
  .exact q1.elim
 .exact q.elim
end
section
variable {K:a_}{A O O':Addr->Prop}{fx:List (Nat×V)}{R:Addr->Prop}{H0 H0' H H':Hp}{ρ ρ':PSt}{σ:St}{x:Nat}{Da:Addr}{as:List Addr}{rows:List (List D)}
noncomputable def cl(x:Nat)(ρ:PSt):Option (List (List D))->PSt
 | none=>ρ
 | some rows=>ρ.set x (some (.own (rows.map D.lst)))
def wY(x:Nat)(ρ:PSt):cl x ρ none=ρ:=rfl
def wZ(x:Nat)(ρ:PSt)(rows:List (List D)):cl x ρ (some rows)=ρ.set x (some (.own (rows.map D.lst))):=rfl
end
section
variable {K:a_}{A:Addr->Prop}{fx:List (Nat×V)}{R:Addr->Prop}{H0 H:Hp}{ρ:PSt}{σ:St}
noncomputable def mvd(ρ:PSt)(g r:Nat)(ds:List D):PSt:=(ρ.set r (some (.own ds))).set g none
def za(ρ:PSt)(g r:Nat)(ds:List D):mvd ρ g r ds=(ρ.set r (some (.own ds))).set g none:=rfl
end
noncomputable def ahB(a b:List Nat):Bool:=if a.length≠b.length then decide (a.length<b.length) else decide (a<b)
theorem i5:∀a:List Nat,¬ a<a
 | []=>by simp
 | x::a=>by rw [GH];exact λz=>z.elim (λh=>GF _ h) λh=>i5 a h.2
theorem w4:∀a b:List Nat,a.length=b.length->a<b\/a=b\/b<a
 | [],[],_=>.inr (.inl rfl)
 | x::a,y::b,h=>by
  rw [GH,GH]
  rcases lt_trichotomy x y with c|c|c
  .exact .inl (.inl c)
  .subst c
   rcases w4 a b (JQ h) with e|e|e
   .exact .inl (.inr ⟨rfl,e⟩)
   .exact .inr (.inl (by rw [e]))
   .exact .inr (.inr (.inr ⟨rfl,e⟩))
  .exact .inr (.inr (.inl c))
theorem kO:∀a b c:List Nat,a.length=b.length->b.length=c.length->a<b->b<c->a<c
 | [],[],_,_,_,h,_=>absurd h (i5 [])
 | x::a,y::b,z::c,h1,h2,p,q=>by
  rw [GH] at *
  rcases p with p|⟨p,p'⟩ <;> rcases q with q|⟨q,q'⟩
  .exact .inl (lt_trans p q)
  .exact .inl (q ▸ p)
  .exact .inl (p ▸ q)
  .exact .inr ⟨p.trans q,kO a b c (JQ h1) (JQ h2) p' q'⟩
theorem w6:∀u a b:List Nat,(u++a<u++b) ↔ a<b
 | [],_,_=>Iff.rfl
 | x::u,a,b=>by
  show x::(u++a)<x::(u++b) ↔ _;rw [GH];exact⟨λh=>h.elim (λh=>absurd h (GF _)) λh=>(w6 u a b).mp h.2,λh=>.inr ⟨rfl,(w6 u a b).mpr h⟩⟩
def kj{a b:List Nat}:ahB a b=false ↔ b.length<a.length\/(a.length=b.length/\¬ a<b):=by
 unfold ahB
 by_cases h:a.length=b.length
 .rw [if_neg (λz=>z h),decide_eq_false_iff_not];exact⟨λz=>.inr ⟨h,z⟩,λz=>z.elim (λz=>by omega) λz=>z.2⟩
 .rw [if_pos h,decide_eq_false_iff_not];exact⟨λz=>.inl (by omega),λz=>z.elim (λz=>by omega) λz=>absurd z.1 h⟩
def ly(a:List Nat):ahB a a=false:=kj.mpr (.inr ⟨rfl,i5 a⟩)
def A5{a b:List Nat}(h:ahB a b=false)(h':ahB b a=false):a=b:=by
 rw [kj] at h h'
 rcases h with h|⟨h,n⟩
 .rcases h' with h'|⟨h',_⟩ <;> omega
 .rcases h' with h'|⟨h',n'⟩
  .omega
  .rcases w4 a b h with e|e|e
   .exact absurd e n
   .exact e
   .exact absurd e n'
def hZ{a b c:List Nat}(h:ahB a b=false)(h':ahB b c=false):ahB a c=false:=by
 rw [kj] at *
 rcases h with h|⟨h,n⟩
 .left;rcases h' with h'|⟨h',_⟩ <;> omega
 .rcases h' with h'|⟨h',n'⟩
  .left;omega
  .refine .inr ⟨h.trans h',λz=>?_⟩
   rcases w4 a b h with e|e|e
   .exact n e
   .exact n' (e ▸ z)
   .exact n' (kO b a c h.symm (h.trans h') e z)
def DA{a b:List Nat}(h:ahB a b=true):ahB b a=false:=by
 rw [kj];unfold ahB at h
 by_cases e:a.length=b.length
 .rw [if_neg (λz=>z e),decide_eq_true_eq] at h;exact .inr ⟨e.symm,λz=>i5 a (kO a b a e e.symm h z)⟩
 .rw [if_pos e,decide_eq_true_eq] at h;exact .inl h
def DB(u a b:List Nat):ahB (u++a) (u++b)=ahB a b:=by
 unfold ahB;rw [length_append,length_append]
 by_cases h:a.length=b.length
 .rw [if_neg (by omega),if_neg (by omega)];exact decide_eq_decide.mpr (w6 u a b)
 .rw [if_pos (by omega),if_pos (by omega)];exact decide_eq_decide.mpr (by omega)
noncomputable def Lst(S:List Nat->Prop)(t:List Nat):Prop:=S t/\∀u,S u->ahB u t=false
def Lst.uniq{S:List Nat->Prop}{t u:List Nat}(h:Lst S t)(h':Lst S u):t=u:=A5 (h'.2 t h.1) (h.2 u h'.1)
def Lst.congr{S S':List Nat->Prop}{t:List Nat}(h:Lst S t)(e:∀u,S u ↔ S' u):Lst S' t:=⟨(e t).mp h.1,λu hu=>h.2 u ((e u).mpr hu)⟩
def rX(t:List Nat):Lst (·∈[t]) t:=⟨v_.mpr rfl,λu hu=>by rw [v_.mp hu];exact ly t⟩
def ui{ts:List (List Nat)}{b t:List Nat}(h:Lst (·∈ts) b):Lst (·∈ts++[t]) (if ahB t b=true then t else b):=by
 by_cases c:ahB t b=true
 .rw [if_pos c];refine⟨C0 _ (v_.mpr rfl),λu hu=>?_⟩
  rcases HB.mp hu with h'|h'
  .exact hZ (h.2 u h') (DA c)
  .rw [v_.mp h'];exact ly t
 .rw [if_neg c];refine⟨HW _ h.1,λu hu=>?_⟩
  rcases HB.mp hu with h'|h'
  .exact h.2 u h'
  .rw [v_.mp h'];exact not_eq_true _ ▸ c
def zb:∀{ts:List (List Nat)},ts≠[]->∃t,Lst (·∈ts) t:=λ{ts}=>by
 induction ts using oy with
 | h0=>exact λh=>absurd rfl h
 | h1 l a ih =>
  intro _
  by_cases c:l=[]
  .rw [c];exact⟨a,rX a⟩
  .obtain⟨t,ht⟩:=ih c;exact⟨_,ui ht⟩
inductive Way (L:List (List (Nat×Nat))):Nat->List Nat->Prop
 | nil {n:Nat}:L.getD n []=[]->Way L n []
 | cons {n j r:Nat}{js:List Nat}:(j,r)∈L.getD n []->Way L r js->Way L n (j::js)
noncomputable def tlG(hd:Nat->Nat->List Nat)(ls:Nat->List Nat):Nat->List Nat->List Nat
 | i,[]=>ls i
 | i,j::r=>hd i j++tlG hd ls j r
noncomputable def BI(L:List (List (Nat×Nat)))(hd:Nat->Nat->List Nat)(ls:Nat->List Nat)(n i:Nat)(t:List Nat):Prop:=∃js,Way L n js/\t=tlG hd ls i js
def A6{L:List (List (Nat×Nat))}{hd:Nat->Nat->List Nat}{ls:Nat->List Nat}{n i:Nat}(h:L.getD n []=[]):Lst (BI L hd ls n i) (ls i):=⟨⟨[],.nil h,rfl⟩,λu ⟨js,w,e⟩=>by
 cases w with
 | nil _=>rw [e];exact ly _
 | cons m _=>rw [h] at m;cases m⟩
def yo{L:List (List (Nat×Nat))}{hd:Nat->Nat->List Nat}{ls:Nat->List Nat}{n i:Nat}{E:Nat->Nat->List Nat}(hn:L.getD n []≠[])(hE:∀p∈L.getD n [],Lst (BI L hd ls p.2 p.1) (E p.2 p.1)){t:List Nat}(h:Lst (·∈(L.getD n []).map λp=>hd i p.1++E p.2 p.1) t):Lst (BI L hd ls n i) t:=by
 obtain⟨hm,hl⟩:=h;obtain⟨p,hp,rfl⟩:=Hb.mp hm;obtain⟨js,w,e⟩:=(hE p hp).1;refine⟨⟨p.1::js,.cons hp w,by rw [e];rfl⟩,λu ⟨js',w',e'⟩=>?_⟩
 cases w' with
 | nil z=>exact absurd z hn
 | @cons _ j r js'' m w'' =>
  have h1:=(hE (j,r) m).2 _ ⟨js'',w'',rfl⟩;rw [e'];refine hZ (b:=hd i j++E r j) ?_ (hl _ (Hb.mpr ⟨(j,r),m,rfl⟩));show ahB (hd i j++_) _=false;rw [DB];exact h1
def A7{L:List (List (Nat×Nat))}{hd:Nat->Nat->List Nat}{ls:Nat->List Nat}{n:Nat}{E:Nat->Nat->List Nat}(hn:L.getD n []≠[])(hE:∀p∈L.getD n [],Lst (BI L hd ls p.2 p.1) (E p.2 p.1)){t:List Nat}(h:Lst (·∈(L.getD n []).map λp=>E p.2 p.1) t):Lst (λu=>∃j js,Way L n (j::js)/\u=tlG hd ls j js) t:=by
 obtain⟨hm,hl⟩:=h;obtain⟨p,hp,rfl⟩:=Hb.mp hm;obtain⟨js,w,e⟩:=(hE p hp).1;refine⟨⟨p.1,js,.cons hp w,e⟩,λu ⟨j,js',w',e'⟩=>?_⟩
 cases w' with
 | @cons _ _ r _ m w''=>rw [e'];exact hZ ((hE (j,r) m).2 _ ⟨js',w'',rfl⟩) (hl _ (Hb.mpr ⟨(j,r),m,rfl⟩))
noncomputable def hdW(ws:List (List Nat))(i j:Nat):List Nat:=(pw ws i).take ((pw ws i).length - cA (pw ws i) (pw ws j))
def w9{a b:List Nat}{k:Nat}(h:oq a b k):a=a.take (a.length - k)++b.take k:=by
 have h1:=h.1;obtain⟨u,e⟩:=h.2.1;have hl:(b.take k).length=k:=by rw [length_take];omega
 have:u=a.take (a.length - k):=by
  rw [<- e,length_append,hl,add_sub_cancel,take_left]
 rw [<- this,e]
theorem xa{ws:List (List Nat)}:∀(js:List Nat) (i:Nat),0<(pw ws i).length->(∀j∈js,0<(pw ws j).length)->tlG (hdW ws) (pw ws) i js=glN ws (i::js)
 | [],i,_,_=>by show pw ws i=pw ws i++_;rw [show glT ws i []=[] from rfl,append_nil]
 | j::r,i,hi,hj=>by
  have h0:=hj j mem_cons_self;have ih:=xa r j h0 λk hk=>hj k (m_ _ hk);have hs:=w9 (dQ hi h0);show hdW ws i j++tlG (hdW ws) (pw ws) j r=pw ws i++((pw ws j).drop (cA (pw ws i) (pw ws j))++glT ws j r)
  rw [ih];show _++(pw ws j++glT ws j r)=_;unfold hdW;generalize cA (pw ws i) (pw ws j)=k at hs ⊢;generalize hA:(pw ws i).take ((pw ws i).length - k)=A at hs ⊢;rw [hs,append_assoc,<- append_assoc (as:=(pw ws j).take _),GM]
def zc{L:List (List (Nat×Nat))}{w:Nat}(h:∀n,∀p∈L.getD n [],p.1<w){n:Nat}{js:List Nat}(hw:Way L n js):∀j∈js,j<w:=by
 induction hw with
 | nil _=>exact λj hj=>nomatch hj
 | cons m _ ih=>exact λj hj=>(w_.mp hj).elim (λe=>e ▸ h _ _ m) (ih j)
def A8{L:List (List (Nat×Nat))}(h:∀n,∀p∈L.getD n [],p.2<n){n:Nat}{js:List Nat}(hw:Way L n js):js.length<=n:=by
 induction hw with
 | nil _=>exact G4 _
 | cons m _ ih=>have:=h _ _ m;show _+1<=_;omega
theorem xb{hd:Nat->Nat->List Nat}{ls:Nat->List Nat}{w m:Nat}(h1:∀i j,(hd i j).length<=m)(h2:∀i,(ls i).length<=m):∀(js:List Nat) (i:Nat),(tlG hd ls i js).length<=m*(js.length+1)
 | [],i=>by show (ls i).length<=m*1;rw [Kc];exact h2 i
 | j::r,i=>by
  have:=xb h1 h2 (w:=w) r j;have:=h1 i j;show (hd i j++_).length<=m*(r.length+1+1);rw [length_append,mul_succ];omega
section
variable {X:Cx}{K:a_}{a b:Expr}{rest:List Expr}{ta tb:TE}{pe pe':PTE}
noncomputable def tBL(K:a_)(t:TE):TT:=λσ H Q=>t σ H λx H1=>∃k,D6 K x H1 k/\Q k H1
def A9(K:a_)(e:X.K=K)(ha:PE X a ta)(he:∀whole,isTrue a X.env whole=(do let v <- whole;standAt a.pos;holding [v] (truthy v)):=by intro _;rfl):PT X a (tBL K ta):=by
 subst e;exact xK ha he
noncomputable def pBL(pe:PTE):PTT:=λρ Q=>pe ρ λp ρ1=>match p.d with
 | .lst ds=>Q (!ds.isEmpty) ρ1
 | .tup ds=>Q (!ds.isEmpty) ρ1
 | _=>False
def FVs.emp{O:Addr->Prop}{H:Hp}{xs:List V}{ds:List D}(h:FVs K O H xs ds):(!xs.isEmpty)=!ds.isEmpty:=by cases h <;> rfl
def E6(h:LE K ta pe):LT K (tBL K ta) (pBL pe):=λA ρ σ H Q Q' R q k=>h A ρ σ H _ _ R q λv H1 p ρ1 q1 f1 o1=>by
 obtain⟨R1,f⟩:=o1.frz
 split at q1
 .rename_i ds e;rw [e] at f
  cases f with
  | lst na ea fa=>exact⟨!ds.isEmpty,.inl ⟨_,SqL.of ea,fa.emp.symm⟩,k _ H1 ρ1 q1 f1 R1⟩
 .rename_i ds e;rw [e] at f
  cases f with
  | tup na ea fa=>exact⟨!ds.isEmpty,.inr (.inl ⟨_,SqT.of ea,fa.emp.symm⟩),k _ H1 ρ1 q1 f1 R1⟩
 .exact q1.elim
noncomputable def F8(K:a_)(ta tb:TE):TE:=λσ H Q=>ta σ H λx H1=>∃k,D6 K x H1 k/\if k=true then Q x H1 else tb σ H1 Q
def DC(K:a_)(e:X.K=K)(ha:PE X a ta)(hb:PE X (.BoolOp .Or (b::rest) pos) tb):PE X (.BoolOp .Or (a::b::rest) pos) (F8 K ta tb):=by
 subst e;intro pins s σ H Q I h;refine BoolOp_or (thn (ha pins s σ H _ I h) λv s1 ⟨x,H1,I1,r1,q1⟩=>?_);obtain⟨k,hk,q1⟩:=q1;refine thn (yJ pins s1 σ H1 x v (λk' H'=>k'=k/\H'=H1) I1 r1 ⟨k,hk,rfl,rfl⟩) λc s2 z=>?_;obtain⟨H2,I2,z1,z2⟩:=z;subst z1 z2
 cases c with
 | false=>exact hb pins s2 σ _ Q I2 q1
 | true=>exact⟨x,_,I2,r1,q1⟩
noncomputable def Gz(a b:PTE):PTE:=λρ Q=>a ρ λp ρ1=>match p.d with
 | .lst ds=>ic (!ds.isEmpty) (Q p ρ1) (b ρ1 Q)
 | .tup ds=>ic (!ds.isEmpty) (Q p ρ1) (b ρ1 Q)
 | _=>False
def DD(ha:LE K ta pe)(hb:LE K tb pe'):LE K (F8 K ta tb) (Gz pe pe'):=λA ρ σ H Q Q' R q k=>ha A ρ σ H _ _ R q λv H1 p ρ1 q1 f1 o1=>by
 obtain⟨R1,f⟩:=o1.frz
 have fin:∀c:Bool,ic c (Q p ρ1) (pe' ρ1 Q)->(if c=true then Q' v H1 else tb σ H1 Q'):=λc z=>by
  cases c with
  | false=>exact hb A ρ1 σ H1 _ _ R1 z λb H2 p2 ρ2 q2 f2 o2=>k b H2 p2 ρ2 q2 (f1.trans f2) (o2.h0 λb z=>f1.dm b z)
  | true=>exact k _ H1 _ ρ1 z f1 o1
 split at q1
 .rename_i ds e;rw [e] at f
  cases f with
  | lst na ea fa=>exact⟨!ds.isEmpty,.inl ⟨_,SqL.of ea,fa.emp.symm⟩,fin _ q1⟩
 .rename_i ds e;rw [e] at f
  cases f with
  | tup na ea fa=>exact⟨!ds.isEmpty,.inr (.inl ⟨_,SqT.of ea,fa.emp.symm⟩),fin _ q1⟩
 .exact q1.elim
end
theorem zd:∀a b:List Nat,Spec.ltCps a b=decide (a<b)
 | [],[]=>by rw [decide_eq_false (i5 [])];rfl
 | [],y::b=>by rw [decide_eq_true (nil_lt_cons y b)];rfl
 | x::a,[]=>by rw [decide_eq_false (not_lt_nil (x::a))];rfl
 | x::a,y::b=>by
  show (decide (x<y) || x == y && Spec.ltCps a b)=_;rw [zd a b,HX,decide_eq_true_eq,GH];simp
theorem qM:∀a b c:List Nat,¬ b<a->¬ c<b->¬ c<a
 | [],_,c,_,_=>not_lt_nil c
 | x::a,[],_,h,_=>absurd (nil_lt_cons x a) h
 | x::a,y::b,[],_,h=>absurd (nil_lt_cons y b) h
 | x::a,y::b,z::c,h1,h2=>by
  rw [GH] at *;intro h;have h1':¬ y<x:=λz=>h1 (.inl z);have h2':¬ z<y:=λz=>h2 (.inl z)
  rcases h with h|⟨h,h'⟩
  .omega
  .have e:x=y:=by omega
   have e2:y=z:=by omega
   exact qM a b c (λq=>h1 (.inr ⟨e.symm,q⟩)) (λq=>h2 (.inr ⟨e2.symm,q⟩)) h'
theorem qN:∀(p:Str) (l:List Str),risingS p l=true->(∀x∈l,¬ x.cps.toList<p.cps.toList)/\l.Pairwise λa b=>¬ b.cps.toList<a.cps.toList
 | p,[],_=>⟨λx hx=>(not_mem_nil hx).elim,.nil⟩
 | p,x::r,h=>by
  have h:(!Spec.ltCps x.cps.toList p.cps.toList && risingS x r)=true:=h;rw [and_eq_true,zd,Jn,decide_eq_false_iff_not] at h;obtain⟨h1,h2⟩:=qN x r h.2;refine⟨λy hy=>?_,.cons h1 h2⟩
  rcases w_.mp hy with rfl|hy
  .exact h.1
  .exact qM _ _ _ h.1 (h1 y hy)
def uU{l:List Str}(h:sortedS l=true):l.Pairwise λa b=>¬ b.cps.toList<a.cps.toList:=by
 cases l with
 | nil=>exact .nil
 | cons x r=>obtain⟨h1,h2⟩:=qN x r h;exact .cons h1 h2
def DE(x:Str):S x.cps.toList=x:=by cases x;rfl
theorem nh:∀{vs:List Value}{ss:List Str},StrsAre vs ss->bJ (ss.map V.str) vs
 | _,_,.nil=>.nil
 | _,_,.cons n t h=>.cons ⟨t,rfl⟩ (nh h)
section
variable {X:Cx}{K:a_}
noncomputable def ze(K:a_):List V->Hp->VK->Prop:=λxs H Q=>∃(p:Addr) (ws:List (List Nat)),xs=[.ref p]/\SqL K H p (ws.map tx)/\ws.length<64/\∀ws':List (List Nat),ws'.Perm ws->ws'.Pairwise (λa b=>¬ b<a)->∀q,H q=none->Q (.ref q) (upd H q (.lst (ws'.map tx)))
def Ba(K:a_)(e:X.K=K):bI X (.builtin "sorted") (ze K):=by
 subst e;intro pins s σ H xs us Q I r h;obtain⟨p,ws,rfl,hS,hne,q⟩:=h;obtain⟨u,rfl,ru⟩:=iq r;cases (show u=u1 p from ru);obtain⟨its,rv,pl,hz⟩:=I.list hS;have hi:=rN rv;have hlen:its.length=ws.length:=by have:=rv.length;rw [length_map] at this;exact this.symm
 refine sorted_strs pl.isList hi (by omega) λout ss ho hp hs=>?_
 have e1:(ss.map λx=>x.cps.toList).map tx=ss.map V.str:=by
  rw [map_map];exact Ja λx _=>congrArg V.str (DE x)
 have e2:(ss.map λx=>x.cps.toList).Perm ws:=by
  have:=hp.map λx:Str=>x.cps.toList;rw [map_map,show ((λx:Str=>x.cps.toList) ∘ S)=λx=>x from rfl,List.map_id'] at this;exact this
 obtain⟨e,he⟩:=sortedAll_at s.heap its out;have hle:s.heap.objs.size<=s.heap.objs.size+1:=le_succ _;refine⟨.ref (s.heap.objs.size+1),_,I.laid (a:=s.heap.objs.size+1) (o:=.lst ((ss.map λx=>x.cps.toList).map tx)) (t':=s.toks) (λb o z=>sortedAll_old z) hle ?_,rfl,q _ e2 (pairwise_map.mpr (uU hs)) _ (I.hok.fresh hle)⟩;rw [e1];refine⟨?_,out.toList,e,nh ho,he⟩;rw [length_map,hp.length_eq,length_map]
 exact sz _ (by omega)
noncomputable def zf:FN
 | [.lst ds],Q=>∃ws:List (List Nat),ds=ws.map .str/\ws.length<64/\∀ws':List (List Nat),ws'.Perm ws->ws'.Pairwise (λa b=>¬ b<a)->Q (.own (ws'.map .str))
 | _,_=>False
def yp:LC K (ze K) zf:=by
 intro O H xs as Q Q' dom fs q k;unfold zf at q
 split at q
 .obtain⟨ws,rfl,h0,q⟩:=q
  cases fs with
  | cons a b =>
   cases b;obtain⟨p,ys,rfl,e1,f1⟩:=a.lst;have hle:=f1.strs_le;rw [f1.strs] at e1;exact⟨p,ws,rfl,SqL.of e1,h0,λws' h1 h2 p' hp'=>k _ _ _ (q ws' h1 h2) (Gr.new hp') (eL hp' (FVs.of_strs _ λw hw=>hle w (h1.mem_iff.mp hw)))⟩
 .exact q.elim
end
section
variable {X:Cx}{K:a_}
noncomputable def zg:List V->Hp->VK->Prop:=λxs H Q=>∃l:List Nat,xs=[.str (S l)]/\l.length<=sizeLine/\∀q,H q=none->Q (.ref q) (upd H q (.lst ((l.map λc=>[c]).map tx)))
theorem nj:∀{l:List Nat}{vs:List Value},vs.length=l.length->(∀(j:Nat) (v:Value),vs[j]?=some v->∃c u,l[j]?=some c/\v=IB ⟨#[c]⟩ u)->bJ ((l.map λc=>[c]).map tx) vs
 | [],[],_,_=>.nil
 | [],_::_,h,_=>nomatch h
 | _::_,[],h,_=>nomatch h
 | c::l,v::vs,h,f=>by
  obtain⟨c',u,e1,e2⟩:=f 0 v rfl;have e1:c=c':=q_ e1;subst e1 e2;exact .cons ⟨u,rfl⟩ (nj (JQ h) λj v hv=>f (j+1) v hv)
def Bb(hc:X.calm=true):bI X (.type "list") zg:=by
 intro pins s σ H xs us Q I r h;obtain⟨l,rfl,hz,q⟩:=h;obtain⟨u,rfl,rx⟩:=iq r;obtain⟨t,rfl⟩:=rx;refine call_list_str (I.ok.hd hc) (S l) t (λh' tk acc c' kp e it=>?_) hz;have hl:acc.toList.length=l.length:=it.1
 exact⟨.ref s.heap.objs.size,_,I.laid (t':=tk) kp (o_ _) (show bZ X.prog X.w _ h' _ (.lst ((l.map λc=>[c]).map tx)) from ⟨by rw [length_map,length_map];exact hz,acc.toList,c',nj hl λj v hv=>by
  have:=it.2 j v (by rw [<- IA];exact hv);obtain⟨c,u,e1,e2⟩:=this;exact⟨c,u,by rw [<- e1];exact (IA (xs:=l.toArray)).symm ▸ rfl,e2⟩,e⟩),rfl,q _ (I.hok.fresh (o_ _))⟩
noncomputable def zh:FN
 | [.str l],Q=>Q (.own ((l.map λc=>[c]).map .str))
 | _,_=>False
def yq:LC K zg zh:=by
 intro O H xs as Q Q' dom fs q k;unfold zh at q
 split at q
 .cases fs with
  | cons a b =>
   cases b;obtain⟨rfl,hl⟩:=a.str
   exact⟨_,rfl,sz _ hl,λp hp=>k _ _ _ q (Gr.new hp) (eL hp (FVs.of_strs _ λw hw=>by
    obtain⟨c,_,rfl⟩:=Hb.mp hw;show 1<=1000000;decide))⟩
 .exact q.elim
end
noncomputable def XI(K:a_)(G:Addr)(nm:String)(C:Addr):Prop:=tf K mainGlobals nm=some (some (.ref C))/\(∃(q:Str) (N:Addr) (bs sub:List Value) (sn:List Str) (ab:Bool) (col:Option Bool) (k0 k1 k2 k3 k5:Option Value),K.lookup C=some (excClassObj nm q C N bs (.ref G::[.type "ValueError",.type "Exception",.type "BaseException",.type "object"]) true sn sub ab col none k0 k1 k2 k3 k5 "ValueError.__new__")) /\
 pf K (.ref C) "__getattribute__"=some (some (.builtin "BaseException.__getattribute__"))/\pf K (.ref C) "__getattr__"=some none/\pf K (.ref C) "__setattr__"=some (some (.builtin "object.__setattr__"))/\pf K (.ref C) "__class__"=some (some (.builtin "object.__class__"))/\A_ K (.ref C)=true
def E7{K:a_}{G:Addr}{nm:String}{C:Addr}{q:Str}{N:Addr}{bs sub:List Value}{sn:List Str}{ab:Bool}{col:Option Bool}{k0 k1 k2 k3 k5:Option Value}(a:tf K mainGlobals nm=some (some (.ref C)))
  (l:K.lookup C=some (excClassObj nm q C N bs (.ref G::[.type "ValueError",.type "Exception",.type "BaseException",.type "object"]) true sn sub ab col none k0 k1 k2 k3 k5 "ValueError.__new__"))
  (g:pf K (.ref C) "__getattribute__"=some (some (.builtin "BaseException.__getattribute__"))) (h:pf K (.ref C) "__getattr__"=some none) (s:pf K (.ref C) "__setattr__"=some (some (.builtin "object.__setattr__"))) (c:pf K (.ref C) "__class__"=some (some (.builtin "object.__class__"))) (k:A_ K (.ref C)=true):XI K G nm C :=
 ⟨a,⟨_,_,_,_,_,_,_,_,_,_,_,_,l⟩,g,h,s,c,k⟩
noncomputable def XJ(K:a_)(C:Addr)(qn at_:String)(st:Stmt):Prop:=∃(fx:Addr) (oc kV dc pm cd ct:Value) (od an:Option Addr) (sl:Array (Option Value)),pf K (.ref C) "__init__"=some (some (.ref fx))/\J8 K (.ref fx)=some (.type "function")/\K.lookup fx=some ⟨oc,od,.func (C_ "__init__" qn (bS st) (bj st) (ak st) .none kV dc pm an cd ct),sl⟩/\GT K cd qn=true/\A_ K (.ref fx)=true/\pf K (.ref C) at_=some none
def E8{K:a_}{C:Addr}{qn at_:String}{st:Stmt}{fx:Addr}{oc kV dc pm cd ct:Value}{od an:Option Addr}{sl:Array (Option Value)}(i:pf K (.ref C) "__init__"=some (some (.ref fx)))(t:J8 K (.ref fx)=some (.type "function"))(l:K.lookup fx=some ⟨oc,od,.func (C_ "__init__" qn (bS st) (bj st) (ak st) .none kV dc pm an cd ct),sl⟩)(c:GT K cd qn=true)(k:A_ K (.ref fx)=true)(n:pf K (.ref C) at_=some none):XJ K C qn at_ st :=
 ⟨_,_,_,_,_,_,_,_,_,_,i,t,l,c,k,n⟩
section
open PySem.AutoSeq1 (wpAny_loadPart')
open PySem.MeetsSeq PySem.MeetsSeq2 PySem.MeetsSeq3
variable {P:s_}{w:World}{A:z_}
end
section
variable {X:Cx}{K:a_}{te:TE}{pe:PTE}{fs:List Nat}
noncomputable def ipM:TIp:=λx y H Q=>∃i j,x=.int i/\y=.int j/\yH i j/\Q (.int (i*j)) H
def Bc:PIp X .Mult ipM:=by
 intro pins s σ H x y v u Q I r1 r2 h;obtain⟨i,j,e1,e2,hm,q⟩:=h;subst e1;subst e2;obtain⟨t,rfl⟩:=r1;obtain⟨t',rfl⟩:=r2;exact imul_int ⟨.int _,H,I.tok _,⟨_,rfl⟩,q⟩ hm.ok
noncomputable def zi(i:Nat)(pe:PTE):PTS:=λE ρ=>match ρ[i]? with
 | some (some (.dat (.int a)))=>pe ρ λp ρ1=>(match ρ1[i]?,p with
  | some (some (.dat (.int a'))),.dat (.int b)=>(a'=a/\yH a b)/\ei i (.dat (.int (a*b))) ρ1 E.nx
  | _,_=>False)
 | _=>False
def Bd{i:Nat}(hi:LG K fs (bQ i) (ei i))(h:LE K te pe):LS K fs (Fn i te ipM) (zi i pe):=λfx A R H0 ρ σ H E E' hf r F q k1 k2 k3 k4=>by
 unfold zi at q
 split at q
 .rename_i a e;obtain⟨v0,s0,rs0⟩:=r.get i _ e;cases (show FV K _ H v0 (.int a) from rs0);refine⟨_,s0,h A ρ σ H _ _ r q λv H1 p ρ1 q1 f1 o1=>?_⟩;obtain⟨R1,fv⟩:=o1.frz
  split at q1
  .rename_i a' b e1;obtain⟨⟨rfl,hm⟩,q1⟩:=q1;cases (show FV K _ H1 v (.int b) from fv);exact⟨_,b,rfl,rfl,hm,hi fx A R H0 ρ1 σ H1 (.dat (.int (a'*b))) _ _ _ hf (F.fr f1) ⟨R1,.int _⟩ q1 k1⟩
  .exact q1.elim
 .exact q.elim
end
def fh.m{j k:Nat}{A:z_}(r:fh k A)(h:Ki j k=true):fh j A:=r.mono (Jq h)
section
variable {P:s_}{w:World}{K:a_}{mg:Str->Option Value}{base:Heap}{x:Str}{st:Stmt}{N ps:List Str}{k n:Nat}
abbrev yr(x:Str)(st:Stmt)(ps:List Str):Prop:=∀(kV doc pm:Value) (an:Option Addr) (cdv ct:Value) (us:List Value),us.length=ps.length->bindArgs (C_ x x (bS st) (bj st) (ak st) .none kV doc pm an cdv ct) ⟨us,[]⟩=pure (ps.zip us)
def aV.oP{c:FN}{pp:PTS}(D:aV K mg x st)(S:aA N ps (ak st))(hb:yr x st ps)(ln:∀ds Q,c ds Q->ds.length=n)(h1:n=ps.length)(h2:Ki n N.length=true)(rd:∀ds Q,c ds Q->BH pp N.length ds Q)
  (hbody:∀(f:Addr) (cdv:Value) (A:z_) (outer:List Env) (s:c_) (H:Hp) (E:XK),fh k (A.deeper (envOfC x (ak st) s.heap.objs.size f cdv))->(A.deeper (envOfC x (ak st) s.heap.objs.size f cdv)).units+64<cLine ->
   ∃t,PSs (uB CX0 P w K mg base N x (ak st) f cdv A outer s H E).nox (bj st) t/\LS K [] t pp):Cal P w K mg base (k+1) x ps (spP K c):=by
 refine D.ok S hb (λvs H Q E h=>(FU ln h).trans h1) λf cdv A outer s H vs Q E hr h=>?_;obtain⟨t,h3,h4⟩:=hbody f cdv A outer s H E hr hr.units;exact⟨t,h3,fnP h4 (λds Q h=>E_ (J9 (ln ds Q h)) (Jq h2)) rd h⟩
def aV.oR{c:FR}{pp:PTS}(D:aV K mg x st)(S:aA N ps (ak st))(hb:yr x st ps)(ln:∀p ds Q,c p ds Q->ds.length+1=n)(h1:n=ps.length)(h2:Ki n N.length=true)(rd:∀p ds Q,p.isOwn=true->c p ds Q->EX pp N.length p ds Q)
  (hbody:∀(f:Addr) (cdv:Value) (A:z_) (outer:List Env) (s:c_) (H:Hp) (E:XK),fh k (A.deeper (envOfC x (ak st) s.heap.objs.size f cdv))->(A.deeper (envOfC x (ak st) s.heap.objs.size f cdv)).units+64<cLine ->
   ∃t,PSs (uB CX0 P w K mg base N x (ak st) f cdv A outer s H E).nox (bj st) t/\LS K [0] t pp):Cal P w K mg base (k+1) x ps (spR K c):=by
 refine D.ok S hb (λvs H Q E h=>(FW ln h).trans h1) λf cdv A outer s H vs Q E hr h=>?_;obtain⟨t,h3,h4⟩:=hbody f cdv A outer s H E hr hr.units;exact⟨t,h3,fnR h4 (λp ds Q h=>E_ (J9 (ln p ds Q h)) (Jq h2)) rd h⟩
end
noncomputable def psO{fs:List Nat}{A:a_->(Str->Option Value)->Prop}{ts:a_->(Str->Option Value)->TS}{ps:PTS}(_:∀K mg,A K mg->LS K fs (ts K mg) ps):PTS:=ps
noncomputable def cN(p:Prop):List D->Prop|[]=>p|_=>False
noncomputable def cD(f:D->List D->Prop):List D->Prop|d::r=>f d r|_=>False
noncomputable def cS(f:List Nat->List D->Prop):List D->Prop|.str t::r=>f t r|_=>False
noncomputable def cI(f:Int->List D->Prop):List D->Prop|.int t::r=>f t r|_=>False
noncomputable def cL(f:List D->List D->Prop):List D->Prop|.lst t::r=>f t r|_=>False
noncomputable def cT(f:List D->List D->Prop):List D->Prop|.tup t::r=>f t r|_=>False
noncomputable def cR(f:List Int->List D->Prop):List D->Prop|.scr t::r=>f t r|_=>False
noncomputable def cO(f:Str->List Str->List D->List D->Prop):List D->Prop|.obj c ns fs::r=>f c ns fs r|_=>False
noncomputable def oL(f:List D->Prop):PV->Prop|.own ds=>f ds|_=>False
def E9{α:Type}{l:List α}(h:l.length=1):∃a,l=[a]:=match l,h with|[a],_=>⟨a,rfl⟩
def DF{α:Type}{l:List α}(h:l.length=2):∃a b,l=[a,b]:=match l,h with|[a,b],_=>⟨a,b,rfl⟩
def Fa{α:Type}{l:List α}(h:l.length=3):∃a b c,l=[a,b,c]:=match l,h with|[a,b,c],_=>⟨a,b,c,rfl⟩
noncomputable def oI(c:Str)(f:Prop):PV->Prop|.ins c' ns ds=>c'=c/\ns=[]/\ds=[]/\f|_=>False
section
variable {P:List D->Prop}{ds:List D}
@[elab_as_elim] theorem cC {p:Prop} (h:cN p ds) (k:p->P []):P ds:=match ds,h with|[],h=>k h
@[elab_as_elim] theorem vk {f:D->List D->Prop} (h:cD f ds) (k:∀d r,f d r->P (d::r)):P ds:=match ds,h with|d::r,h=>k d r h
@[elab_as_elim] theorem ii {f:List Nat->List D->Prop} (h:cS f ds) (k:∀t r,f t r->P (.str t::r)):P ds:=match ds,h with|.str t::r,h=>k t r h
@[elab_as_elim] theorem dq {f:Int->List D->Prop} (h:cI f ds) (k:∀t r,f t r->P (.int t::r)):P ds:=match ds,h with|.int t::r,h=>k t r h
@[elab_as_elim] theorem kC {f:List D->List D->Prop} (h:cL f ds) (k:∀t r,f t r->P (.lst t::r)):P ds:=match ds,h with|.lst t::r,h=>k t r h
@[elab_as_elim] theorem BJ {f:List D->List D->Prop} (h:cT f ds) (k:∀t r,f t r->P (.tup t::r)):P ds:=match ds,h with|.tup t::r,h=>k t r h
@[elab_as_elim] theorem GA {f:List Int->List D->Prop} (h:cR f ds) (k:∀t r,f t r->P (.scr t::r)):P ds:=match ds,h with|.scr t::r,h=>k t r h
@[elab_as_elim] theorem GB {f:Str->List Str->List D->List D->Prop} (h:cO f ds) (k:∀c ns fs r,f c ns fs r->P (.obj c ns fs::r)):P ds:=match ds,h with|.obj c ns fs::r,h=>k c ns fs r h
@[elab_as_elim] theorem rC {P:PV->Prop}{p:PV}{f:List D->Prop} (h:oL f p) (k:∀es,f es->P (.own es)):P p:=match p,h with|.own es,h=>k es h
@[elab_as_elim] theorem GC {P:PV->Prop}{p:PV}{c:Str}{f:Prop} (h:oI c f p) (k:f->P (.ins c [] [])):P p:=match p,h with|.ins _ _ _,⟨e1,e2,e3,hf⟩=>by subst e1 e2 e3;exact k hf
end
abbrev PRl(c:FN)(pp:PTS)(m n:Nat):Prop:=∀ds Q,c ds Q->ds.length=n/\BH pp m ds Q
abbrev RRl(c:FR)(pp:PTS)(m n:Nat):Prop:=∀p ds Q,c p ds Q->ds.length+1=n/\EX pp m p ds Q
section
variable {P:s_}{w:World}{K:a_}{mg:Str->Option Value}{base:Heap}{x:Str}{st:Stmt}{N ps:List Str}{k n:Nat}
def aV.oP2{c:FN}{pp:PTS}(D:aV K mg x st)(S:aA N ps (ak st))(hb:yr x st ps)(rl:PRl c pp N.length n)(h1:n=ps.length)(h2:Ki n N.length=true)
  (hbody:∀(f:Addr) (cdv:Value) (A:z_) (outer:List Env) (s:c_) (H:Hp) (E:XK),fh k (A.deeper (envOfC x (ak st) s.heap.objs.size f cdv))->(A.deeper (envOfC x (ak st) s.heap.objs.size f cdv)).units+64<cLine ->
   ∃t,PSs (uB CX0 P w K mg base N x (ak st) f cdv A outer s H E).nox (bj st) t/\LS K [] t pp):Cal P w K mg base (k+1) x ps (spP K c):=D.oP S hb (λds Q h=>(rl ds Q h).1) h1 h2 (λds Q h=>(rl ds Q h).2) hbody
def aV.oR2{c:FR}{pp:PTS}(D:aV K mg x st)(S:aA N ps (ak st))(hb:yr x st ps)(rl:RRl c pp N.length n)(h1:n=ps.length)(h2:Ki n N.length=true)
  (hbody:∀(f:Addr) (cdv:Value) (A:z_) (outer:List Env) (s:c_) (H:Hp) (E:XK),fh k (A.deeper (envOfC x (ak st) s.heap.objs.size f cdv))->(A.deeper (envOfC x (ak st) s.heap.objs.size f cdv)).units+64<cLine ->
   ∃t,PSs (uB CX0 P w K mg base N x (ak st) f cdv A outer s H E).nox (bj st) t/\LS K [0] t pp):Cal P w K mg base (k+1) x ps (spR K c):=D.oR S hb (λp ds Q h=>(rl p ds Q h).1) h1 h2 (λp ds Q _ h=>(rl p ds Q h).2) hbody
end
section
variable {X:Cx}{K:a_}
noncomputable def DG:List V->Hp->VK->Prop:=λxs H Q=>∃i j:List Nat,xs=[.str (S i),.str (S j)]/\Q (.str (S (if j<i then j else i))) H
def DH(hc:X.calm=true):bI X (.builtin "min") DG:=by
 intro pins s σ H xs us Q I r h;obtain⟨i,j,rfl,k⟩:=h;obtain⟨u,v,rfl,ru,rv⟩:=vz r;obtain⟨t,rfl⟩:=ru;obtain⟨t',rfl⟩:=rv
 refine uT (bt:=decide (j<i)) (I.ok.hd hc) (λy Q E old z=>?_) λh' tk old=>⟨_,H,I.kept old,?_,k⟩
 .exact lt_str z
 .by_cases c:j<i
  .rw [if_pos c,decide_eq_true c];exact⟨_,rfl⟩
  .rw [if_neg c,decide_eq_false c];exact⟨_,rfl⟩
noncomputable def DI:FN
 | [.str i,.str j],Q=>Q (.dat (.str (if j<i then j else i)))
 | _,_=>False
def Be:LC K DG DI:=by
 intro O H xs as Q Q' dom fs q k;unfold DI at q
 split at q
 .rename_i i j
  cases fs with
  | cons f1 fs =>
   cases fs with
   | cons f2 fs =>
    cases fs;have e1:=f1.str;have e2:=f2.str;refine⟨i,j,by rw [e1.1,e2.1],k _ H _ q (Gr.refl _) (.str _ ?_)⟩
    split
    .exact e2.2
    .exact e1.2
 .exact q.elim
end
end L2
namespace K56
open PySem PySem.Spec PyProof.Rows L2
noncomputable def top(i:Nat):Stmt:=PySem.Challenge.pw_shortglue_k56_shortest_often.main.body.getD i (.Pass ⟨0,0,0,0⟩)
abbrev oA:Stmt:=top 8
abbrev iB:Stmt:=top 9
abbrev Bf:Stmt:=top 11
abbrev jM:Stmt:=top 12
abbrev e8:Stmt:=top 17
abbrev jN:Stmt:=top 18
abbrev fA:Stmt:=top 19
abbrev eN:Stmt:=top 21
abbrev dR:Stmt:=top 22
abbrev lz:Stmt:=top 23
abbrev fB:Stmt:=top 27
abbrev eO:Stmt:=top 28
abbrev jO:Stmt:=top 29
abbrev bV:Stmt:=Ad (top 30) 0
abbrev jP:Stmt:=top 32
abbrev jQ:Stmt:=top 33
abbrev jR:Stmt:=top 34
abbrev jT:Stmt:=top 35
abbrev dS:Stmt:=top 36
abbrev eP:Stmt:=top 38
abbrev du:Stmt:=top 39
abbrev gn:Stmt:=top 41
abbrev jU:Stmt:=top 42
abbrev jV:Stmt:=top 43
abbrev lC:Stmt:=top 44
abbrev jW:Stmt:=top 45
abbrev gq:Stmt:=top 46
abbrev gu:Stmt:=top 47
abbrev iC:Stmt:=top 48
abbrev gv:Stmt:=top 49
abbrev lD:Stmt:=top 50
abbrev eQ:Stmt:=top 51
abbrev dw:Stmt:=top 51
abbrev gw:Stmt:=top 52
abbrev jX:Stmt:=top 53
abbrev lE:Stmt:=top 54
abbrev gy:Stmt:=top 55
abbrev gC:Stmt:=top 56
abbrev iD:Stmt:=top 57
abbrev gD:Stmt:=top 58
abbrev gE:Stmt:=top 58
abbrev gF:Stmt:=top 58
abbrev gG:Stmt:=top 58
abbrev gH:Stmt:=top 58
abbrev jY:Stmt:=top 58
abbrev iF:Stmt:=top 59
abbrev iG:Stmt:=top 60
abbrev eR:Stmt:=top 61
abbrev de:Stmt:=top 62
abbrev yt:Stmt:=top 63
def xc:aA ["thing"] ["thing"] (ak oA):=⟨rfl,rfl,rfl,by decide +kernel,rfl,by decide +kernel,by decide +kernel⟩
def qO:aA ["thing"] ["thing"] (ak iB):=⟨rfl,rfl,rfl,by decide +kernel,rfl,by decide +kernel,by decide +kernel⟩
def zj:aA ["one","other","k"] ["one","other"] (ak Bf):=⟨rfl,rfl,rfl,by decide +kernel,rfl,by decide +kernel,by decide +kernel⟩
def rY:aA ["words"] ["words"] (ak jM):=⟨rfl,rfl,rfl,by decide +kernel,rfl,by decide +kernel,by decide +kernel⟩
def uV:aA ["thing","least","most"] ["thing","least","most"] (ak e8):=⟨rfl,rfl,rfl,by decide +kernel,rfl,by decide +kernel,by decide +kernel⟩
def rZ:aA ["thing","least","most"] ["thing","least","most"] (ak jN):=⟨rfl,rfl,rfl,by decide +kernel,rfl,by decide +kernel,by decide +kernel⟩
def mM:aA ["text","piece"] ["text","piece"] (ak fA):=⟨rfl,rfl,rfl,by decide +kernel,rfl,by decide +kernel,by decide +kernel⟩
def dU:aA ["things","at","thing"] ["things"] (ak eN):=⟨rfl,rfl,rfl,by decide +kernel,rfl,by decide +kernel,by decide +kernel⟩
def kE:aA ["piece","other"] ["piece","other"] (ak dR):=⟨rfl,rfl,rfl,by decide +kernel,rfl,by decide +kernel,by decide +kernel⟩
def jZ:aA ["pieces","at","piece","longer"] ["pieces","at"] (ak lz):=⟨rfl,rfl,rfl,by decide +kernel,rfl,by decide +kernel,by decide +kernel⟩
def ik:aA ["pieces","at"] ["pieces"] (ak fB):=⟨rfl,rfl,rfl,by decide +kernel,rfl,by decide +kernel,by decide +kernel⟩
def dW:aA ["counts","many","at","count"] ["counts","many"] (ak eO):=⟨rfl,rfl,rfl,by decide +kernel,rfl,by decide +kernel,by decide +kernel⟩
def dX:aA ["counts","steps","step","count"] ["counts"] (ak jO):=⟨rfl,rfl,rfl,by decide +kernel,rfl,by decide +kernel,by decide +kernel⟩
def oB:aA ["self","pieces","counts"] ["self","pieces","counts"] (ak bV):=⟨rfl,rfl,rfl,by decide +kernel,rfl,by decide +kernel,by decide +kernel⟩
def r0:aA ["one","other"] ["one","other"] (ak jP):=⟨rfl,rfl,rfl,by decide +kernel,rfl,by decide +kernel,by decide +kernel⟩
def fC:aA ["texts","best","text"] ["texts"] (ak jQ):=⟨rfl,rfl,rfl,by decide +kernel,rfl,by decide +kernel,by decide +kernel⟩
def r8:aA ["words","laps"] ["words","laps"] (ak jR):=⟨rfl,rfl,rfl,by decide +kernel,rfl,by decide +kernel,by decide +kernel⟩
def fE:aA ["heads","lasts","lefts","ends","choices","nexts"] ["heads","lasts","lefts"] (ak jT):=⟨rfl,rfl,rfl,by decide +kernel,rfl,by decide +kernel,by decide +kernel⟩
def fW:aA ["words","laps","lefts","ends"] ["words","laps","lefts"] (ak dS):=⟨rfl,rfl,rfl,by decide +kernel,rfl,by decide +kernel,by decide +kernel⟩
def lF:aA ["counts","steps","number"] ["counts","steps","number"] (ak eP):=⟨rfl,rfl,rfl,by decide +kernel,rfl,by decide +kernel,by decide +kernel⟩
def b9:aA ["often","steps","many","lefts"] ["often"] (ak du):=⟨rfl,rfl,rfl,by decide +kernel,rfl,by decide +kernel,by decide +kernel⟩
def fF:aA ["_law_script","_law_k","_law_cell"] ["_law_script","_law_k"] (ak gn):=⟨rfl,rfl,rfl,by decide +kernel,rfl,by decide +kernel,by decide +kernel⟩
def lG:aA ["_law_stream_here","_law_many","_law_digit"] ["_law_stream_here","_law_many"] (ak jU):=⟨rfl,rfl,rfl,by decide +kernel,rfl,by decide +kernel,by decide +kernel⟩
def r9:aA ["_law_stream_here","_law_letters","_law_most"] ["_law_stream_here","_law_letters","_law_most"] (ak jV):=⟨rfl,rfl,rfl,by decide +kernel,rfl,by decide +kernel,by decide +kernel⟩
def nk:aA ["_law_stream_here","_law_text","_law_most","_law_at"] ["_law_stream_here","_law_text","_law_most"] (ak lC):=⟨rfl,rfl,rfl,by decide +kernel,rfl,by decide +kernel,by decide +kernel⟩
def fG:aA ["_law_stream_here","_law_most","_law_letters","_law_base_here"] ["_law_stream_here","_law_most"] (ak jW):=⟨rfl,rfl,rfl,by decide +kernel,rfl,by decide +kernel,by decide +kernel⟩
def bq:aA ["_law_stream_here","_law_many","_law_most","_law_letters","_law_base_here","_law_found","_law_k","_law_way","_law_piece"] ["_law_stream_here","_law_many","_law_most"] (ak gq):=⟨rfl,rfl,rfl,by decide +kernel,rfl,by decide +kernel,by decide +kernel⟩
def i6:aA ["_law_pieces_here","_law_k","_law_other"] ["_law_pieces_here","_law_k"] (ak gu):=⟨rfl,rfl,rfl,by decide +kernel,rfl,by decide +kernel,by decide +kernel⟩
def kl:aA ["_law_stream_here","_law_many","_law_most","_law_pieces_here"] ["_law_stream_here","_law_many","_law_most"] (ak iC):=⟨rfl,rfl,rfl,by decide +kernel,rfl,by decide +kernel,by decide +kernel⟩
def oE:aA ["_law_stream_here","_law_many","_law_most"] ["_law_stream_here","_law_many","_law_most"] (ak gv):=⟨rfl,rfl,rfl,by decide +kernel,rfl,by decide +kernel,by decide +kernel⟩
def nq:aA ["_law_one","_law_other","_law_k"] ["_law_one","_law_other"] (ak lD):=⟨rfl,rfl,rfl,by decide +kernel,rfl,by decide +kernel,by decide +kernel⟩
def dY:aA ["_law_stream_here","_law_row_here","_law_left","_law_found"] ["_law_stream_here","_law_row_here"] (ak eQ):=⟨rfl,rfl,rfl,by decide +kernel,rfl,by decide +kernel,by decide +kernel⟩
def df:aA ["_law_stream_here","_law_row_here","_law_left","_law_found"] ["_law_stream_here","_law_row_here"] (ak dw):=⟨rfl,rfl,rfl,by decide +kernel,rfl,by decide +kernel,by decide +kernel⟩
def i7:aA ["_law_stream_here","_law_one","_law_other","_law_many"] ["_law_stream_here","_law_one","_law_other","_law_many"] (ak gw):=⟨rfl,rfl,rfl,by decide +kernel,rfl,by decide +kernel,by decide +kernel⟩
def bz:aA ["_law_stream_here","_law_texts","_law_text","_law_one","_law_word_here","_law_way","_law_many"] ["_law_stream_here","_law_texts"] (ak jX):=⟨rfl,rfl,rfl,by decide +kernel,rfl,by decide +kernel,by decide +kernel⟩
def j1:aA ["_law_stream_here","_law_counts_here","_law_row_here","_law_k"] ["_law_stream_here","_law_counts_here"] (ak lE):=⟨rfl,rfl,rfl,by decide +kernel,rfl,by decide +kernel,by decide +kernel⟩
def oF:aA ["_law_text","_law_piece"] ["_law_text","_law_piece"] (ak gy):=⟨rfl,rfl,rfl,by decide +kernel,rfl,by decide +kernel,by decide +kernel⟩
def fH:aA ["_law_text","_law_pieces_here","_law_counts_here","_law_piece","_law_count"] ["_law_text","_law_pieces_here","_law_counts_here"] (ak gC):=⟨rfl,rfl,rfl,by decide +kernel,rfl,by decide +kernel,by decide +kernel⟩
def qP:aA ["_law_one","_law_other"] ["_law_one","_law_other"] (ak iD):=⟨rfl,rfl,rfl,by decide +kernel,rfl,by decide +kernel,by decide +kernel⟩
def cf:aA ["_law_pieces_here","_law_left","_law_text","_law_one","_law_best_here","_law_k","_law_much","_law_rest","_law_found"] ["_law_pieces_here","_law_left","_law_text","_law_one"] (ak gD):=⟨rfl,rfl,rfl,by decide +kernel,rfl,by decide +kernel,by decide +kernel⟩
def bC:aA ["_law_pieces_here","_law_left","_law_text","_law_one","_law_best_here","_law_k","_law_much","_law_rest","_law_found"] ["_law_pieces_here","_law_left","_law_text","_law_one"] (ak gE):=⟨rfl,rfl,rfl,by decide +kernel,rfl,by decide +kernel,by decide +kernel⟩
def bD:aA ["_law_pieces_here","_law_left","_law_text","_law_one","_law_best_here","_law_k","_law_much","_law_rest","_law_found"] ["_law_pieces_here","_law_left","_law_text","_law_one"] (ak gF):=⟨rfl,rfl,rfl,by decide +kernel,rfl,by decide +kernel,by decide +kernel⟩
def bE:aA ["_law_pieces_here","_law_left","_law_text","_law_one","_law_best_here","_law_k","_law_much","_law_rest","_law_found"] ["_law_pieces_here","_law_left","_law_text","_law_one"] (ak gG):=⟨rfl,rfl,rfl,by decide +kernel,rfl,by decide +kernel,by decide +kernel⟩
def bF:aA ["_law_pieces_here","_law_left","_law_text","_law_one","_law_best_here","_law_k","_law_much","_law_rest","_law_found"] ["_law_pieces_here","_law_left","_law_text","_law_one"] (ak gH):=⟨rfl,rfl,rfl,by decide +kernel,rfl,by decide +kernel,by decide +kernel⟩
def bW:aA ["_law_pieces_here","_law_left","_law_text","_law_one","_law_best_here","_law_k","_law_much","_law_rest","_law_found"] ["_law_pieces_here","_law_left","_law_text","_law_one"] (ak jY):=⟨rfl,rfl,rfl,by decide +kernel,rfl,by decide +kernel,by decide +kernel⟩
def dk:aA ["_law_stream_here","_law_pieces_here","_law_counts_here","_law_often","_law_found","_law_k","_law_texts"] ["_law_stream_here","_law_pieces_here","_law_counts_here"] (ak iF):=⟨rfl,rfl,rfl,by decide +kernel,rfl,by decide +kernel,by decide +kernel⟩
def eE:aA ["_law_stream_here","_law_piece","_law_count","_law_shift"] ["_law_stream_here"] (ak iG):=⟨rfl,rfl,rfl,by decide +kernel,rfl,by decide +kernel,by decide +kernel⟩
def bX:aA ["_law_stream_here","_law_one","_law_other","_law_many","_law_due"] ["_law_stream_here"] (ak eR):=⟨rfl,rfl,rfl,by decide +kernel,rfl,by decide +kernel,by decide +kernel⟩
def bR:aA ["_law_stream_here","_law_letters","_law_counts_here","_law_due"] ["_law_stream_here"] (ak de):=⟨rfl,rfl,rfl,by decide +kernel,rfl,by decide +kernel,by decide +kernel⟩
def lH:aA ["_law_script","_law_k","_law_stream_here","_law_j","_law_pieces_here","_law_counts_here"] ["_law_script"] (ak yt):=⟨rfl,rfl,rfl,by decide +kernel,rfl,by decide +kernel,by decide +kernel⟩
structure Txt (mg:Str->Option Value):Prop where
 b_abs:mg "abs"=none
 b_all:mg "all"=none
 b_any:mg "any"=none
 b_bool:mg "bool"=none
 b_enumerate:mg "enumerate"=none
 b_int:mg "int"=none
 b_isinstance:mg "isinstance"=none
 b_len:mg "len"=none
 b_list:mg "list"=none
 b_max:mg "max"=none
 b_min:mg "min"=none
 b_range:mg "range"=none
 b_sorted:mg "sorted"=none
 b_str:mg "str"=none
 b_sum:mg "sum"=none
 b_tuple:mg "tuple"=none
 b_zip:mg "zip"=none
 g_MOST_COUNT:∃t,mg "MOST_COUNT"=some (.int 9 t)
 g_MOST_PIECES:∃t,mg "MOST_PIECES"=some (.int 40 t)
 g_MOST_PRODUCT:∃t,mg "MOST_PRODUCT"=some (.int 500 t)
 g_MOST_SIGNS:∃t,mg "MOST_SIGNS"=some (.int 60 t)
structure TxC (K:a_):Prop where
 cl_Often:Cls K (cG K "Often")
 n_Often_pieces:fQ K (cG K "Often") "pieces"
 n_Often_counts:fQ K (cG K "Often") "counts"
 n_Often_laps:fQ K (cG K "Often") "laps"
 n_Often_total:fQ K (cG K "Often") "total"
local macro_rules | `(tactic| walk_at "s")=>`(tactic| first | (with_reducible omega) | (with_reducible assumption) | (with_reducible rfl) | exact le_of_ble_eq_true rfl | (simp only [length_cons,length_nil,length_append,length_map];(with_reducible omega)) | assumption | rfl | (refine ⟨?_,?_⟩ <;> first | (with_reducible omega) | (with_reducible assumption) | (with_reducible rfl) | exact le_of_ble_eq_true rfl | assumption | rfl | (refine ⟨?_,?_⟩ <;> first | (with_reducible omega) | (with_reducible assumption) | (with_reducible rfl) | exact le_of_ble_eq_true rfl | assumption | rfl | (refine ⟨?_,?_⟩ <;> first | (with_reducible omega) | (with_reducible assumption) | (with_reducible rfl) | exact le_of_ble_eq_true rfl | assumption | rfl | fail) | fail) | fail) | omega | fail)
local macro_rules | `(tactic| walk_at "r")=>`(tactic| ((try dsimp only [set_cons_zero,set_cons_succ,wN,wO,wP,Dt,Du,qF,m9,ng,ub,uc,tail_cons,qG,qH,ud,wY,wZ,za]);(conv=>whnf);(repeat (first | ((with_reducible refine And.intro ?_ ?_);(next=>walk_at "s");(conv=>whnf)) | ((with_reducible refine (show Exists _ from ?_));(first | (refine ⟨_,rfl,?_⟩) | (refine ⟨_,jB.lst _,?_⟩) | (refine ⟨_,jB.tup _,?_⟩));(conv=>whnf)) | ((refine (show ic _ _ _ from ?_));(first | (with_reducible refine Gg (by assumption) ?_) | (with_reducible refine Gh (by assumption) ?_) | (with_reducible refine Ez (by assumption) ?_) | (with_reducible refine Av (by assumption) ?_) | ((with_reducible refine Ex ?_ ?_);(next=>(first | (with_reducible rfl) | (with_reducible assumption) | (with_reducible omega)))) | ((with_reducible refine Ey ?_ ?_);(next=>(first | (with_reducible rfl) | (with_reducible assumption) | (with_reducible omega)))) | ((with_reducible refine CP ?_ ?_);(next=>(first | (with_reducible rfl) | (with_reducible assumption) | (with_reducible omega)))) | ((with_reducible refine CQ ?_ ?_);(next=>(first | (with_reducible rfl) | (with_reducible assumption) | (with_reducible omega)))));(conv=>whnf))));(try refine (show ic _ _ _ from ?_));(try dsimp only [set_cons_zero,set_cons_succ,wN,wO,wP,Dt,Du,qF,m9,ng,ub,uc,tail_cons,qG,qH,ud,wY,wZ,za])))
local macro_rules | `(tactic| walk_at "z")=>`(tactic| dsimp only [BH,EX,c6,List.map,List.length,List.replicate,cons_append,nil_append,Nat.reduceSub,Nat.reduceAdd,Nat.zero_add])
noncomputable def rwN(cs:List Nat)(n:Nat):List Nat:=(e_ n).flatMap λk=>f_ (cs.getD k 0) k
def eF(cs:List Nat)(n:Nat):rwN cs (n+1)=rwN cs n++f_ (cs.getD n 0) n:=by
 unfold rwN;rw [range_succ,flatMap_append,flatMap_cons,flatMap_nil,append_nil]
theorem lI{cs:List Nat}(h:∀c∈cs,c<=9):∀n,(rwN cs n).length<=9*n
 | 0=>G4 _
 | n+1=>by
  have ih:=lI h n
  have:cs.getD n 0<=9:=by
   rw [cx]
   cases e:cs[n]? with
   | none=>exact G4 _
   | some c=>exact h c (GD e)
  rw [eF,length_append,length_replicate];omega
noncomputable def chD(c:List (Nat×Nat)):D:=.lst (c.map λp=>.tup [nD p.1,nD p.2])
def qQ{cs:List Nat}{n k:Nat}(h:k∈rwN cs n):k<n:=by
 unfold rwN at h;obtain⟨i,hi,hk⟩:=mem_flatMap.mp h;rw [(HH.mp hk).2];exact GQ.mp hi
noncomputable def plN(t w:List Nat):List Nat:=(e_ t.length).filter λk=>stA t w k
def Bg{t w:List Nat}{k:Nat}(h:k∈plN t w):k<t.length/\stA t w k=true:=⟨GQ.mp (GW.mp h).1,(GW.mp h).2⟩
def Bh(t w:List Nat):(plN t w).Pairwise (·<·):=Jo.filter _
noncomputable def BK(ps:List (List Nat))(cs:List Nat)(t:List Nat)(i:Nat):List (Nat×Nat):=((plN t (pw ps i)).take (cs.getD i 0)).map λp=>(p,i)
noncomputable def xD(ps:List (List Nat))(cs:List Nat)(t:List Nat)(n:Nat):List (Nat×Nat):=(e_ n).flatMap (BK ps cs t)
def qR(ps:List (List Nat))(cs t:List Nat)(n:Nat):xD ps cs t (n+1)=xD ps cs t n++BK ps cs t n:=by
 unfold xD;rw [range_succ,flatMap_append,flatMap_cons,flatMap_nil,append_nil]
def uj{ps:List (List Nat)}{cs t:List Nat}{n:Nat}{r:Nat×Nat}(h:r∈xD ps cs t n):r.2<n/\r.1∈plN t (pw ps r.2):=by
 unfold xD at h;obtain⟨i,hi,hr⟩:=mem_flatMap.mp h;unfold BK at hr;obtain⟨p,hp,rfl⟩:=Hb.mp hr;exact⟨GQ.mp hi,JV hp⟩
def Bi{t a b:List Nat}{k:Nat}(ha:stA t a k=true)(hb:stA t b k=true):a <:+: b\/b <:+: a:=by
 obtain⟨_,ea⟩:=of_decide_eq_true ha;obtain⟨_,eb⟩:=of_decide_eq_true hb
 rcases le_total a.length b.length with z|z
 .left;have:a=b.take a.length:=by rw [<- eb,take_take,show min a.length b.length=a.length by omega,ea]
  rw [this];exact (take_prefix _ _).isInfix
 .right;have:b=a.take b.length:=by rw [<- ea,take_take,show min b.length a.length=b.length by omega,eb]
  rw [this];exact (take_prefix _ _).isInfix
theorem xf{ps:List (List Nat)}{cs t:List Nat}(hk:∀i,i<ps.length->bM ps i=true):∀n,n<=ps.length->(xD ps cs t n).Pairwise λa b=>a.1≠b.1
 | 0,_=>Jl
 | n+1,hn=>by
  rw [qR]
  refine pairwise_append.mpr ⟨xf hk n (by omega),?_,λa ha b hb e=>?_⟩
  .unfold BK;rw [pairwise_map];exact ((Bh t _).sublist (take_sublist _ _)).imp λ{x y} h=>by show x≠y;omega
  .obtain⟨h1,h2⟩:=uj ha;unfold BK at hb;obtain⟨p,hp,rfl⟩:=Hb.mp hb;have h3:=(Bg (JV hp)).2;have h4:=(Bg h2).2;rw [show a.1=p from e] at h4
   rcases Bi h4 h3 with z|z
   .exact hX (by omega) (by omega) (hk _ (by omega)) (hk _ (by omega)) (by omega) z
   .exact hX (by omega) (by omega) (hk _ (by omega)) (hk _ (by omega)) (by omega) z
structure lJ (ps:List (List Nat)) (cs t:List Nat) (rows:List (Nat×Nat)):Prop where
 enough:∀j,j<ps.length->cs.getD j 0<=(plN t (pw ps j)).length
 perm:rows.Perm (xD ps cs t ps.length)
 rise:rows.Pairwise λa b=>a.1<b.1
noncomputable def lK:FN:=λds Q=>cD (λd=>cN (d.sort=true/\Q (.dat (.bl (E2 d))))) ds
noncomputable def gI:FN:=λds Q=>cD (λd=>cN (d.sort=true/\Q (.dat (.bl (AT d))))) ds
noncomputable def qS:FN:=λds Q=>cS (λa=>cS (λb=>cN ((0<a.length/\a.length<=10000)/\(0<b.length/\b.length<=10000)/\Q (.dat (.int (cA a b:Int)))))) ds
noncomputable def fJ:FN:=λds Q=>cT (λds=>cN (∃ws:List (List Nat),ds=ws.map .str/\(ws.length<=1000/\∀w∈ws,0<w.length/\w.length<=10000)/\Q (.dat (qE ws)))) ds
noncomputable def e9:FN:=λds Q=>cD (λd=>cI (λa=>cI (λb=>cN (d.sort=true/\EY d<=1000000/\Q (.dat (.bl (yc d a b))))))) ds
noncomputable def BL(d:D)(a b:Int):Bool:=AT d && (decide (a<=toI d) && decide (toI d<=b))
noncomputable def iH:FN:=λds Q=>cD (λd=>cI (λa=>cI (λb=>cN (d.sort=true/\Q (.dat (.bl (BL d a b))))))) ds
noncomputable def eS:FN:=λds Q=>cS (λa=>cS (λb=>cN (Q (.dat (.int (fnd a b 0)))))) ds
noncomputable def cM:FN:=λds Q=>cD (λd=>cN (∃ws:List (List Nat),jB d (ws.map .str)/\(ws.length<=40/\Pcs 60 ws)/\Q (.dat .non))) ds
noncomputable def cE:FN:=λds Q=>cS (λa=>cS (λb=>cN (Q (.dat (.bl (ia a b)))))) ds
noncomputable def j2:FN:=λds Q=>cD (λd=>cI (λi=>cN (∃ws:List (List Nat),jB d (ws.map .str)/\(ws.length<=1000/\∀w∈ws,w.length<=10000)/\(0<=i/\i<(ws.length:Int))/\Q (.dat (.bl (bM ws i.toNat)))))) ds
noncomputable def di:FN:=λds Q=>cD (λd=>cN (∃ws:List (List Nat),jB d (ws.map .str)/\(ws.length<=40/\Pcs 60 ws/\∀i,i<ws.length->bM ws i=true)/\Q (.dat .non))) ds
noncomputable def cP:FN:=λds Q=>cD (λd=>cI (λm=>cN (∃cs:List Nat,jB d (cs.map nD)/\(m=(cs.length:Int)/\cs.length<=40/\∀c∈cs,1<=c/\c<=9)/\Q (.dat .non)))) ds
noncomputable def stp(cs:List Nat):Nat->Nat
 | 0=>1
 | i+1=>stp cs i*(cs.getD i 0+1)
theorem j3(cs:List Nat):∀i,0<stp cs i
 | 0=>one_pos
 | i+1=>mul_pos (j3 cs i) (Ke _)
theorem xg(cs:List Nat)(i:Nat):∀d,stp cs i<=stp cs (i+d)
 | 0=>o_ _
 | d+1=>E_ (xg cs i d) (le_mul_of_pos_right _ (Ke _))
noncomputable def dZ:FN:=λds Q=>cD (λd=>cN (∃cs:List Nat,jB d (cs.map nD)/\(cs.length<=40/\stp cs cs.length<=500/\∀c∈cs,c<=9)/\Q (.dat (.tup [.lst ((e_ cs.length).map λi=>nD (stp cs i)),.int ((stp cs cs.length:Nat):Int)])))) ds
noncomputable def Fb:List Str:=["pieces","counts","laps","total"]
noncomputable def ofT(ps:List (List Nat))(cs:List Nat):Int:=((ps.zip cs).map λp=>(p.1.length:Int)*(p.2:Int)).sum
noncomputable def Fc(ps:List (List Nat))(cs:List Nat):List D:=[.tup (ps.map .str),.tup (cs.map nD),qE ps,.int (ofT ps cs)]
noncomputable def br:FR:=λp ds Q=>oI "Often" (cD (λd=>cD (λe=>cN (∃ps:List (List Nat),jB d (ps.map .str)/\∃cs:List Nat,jB e (cs.map nD)/\(ps.length<=40/\Pcs 60 ps/\(∀i,i<ps.length->bM ps i=true)/\cs.length=ps.length/\(∀c∈cs,1<=c/\c<=9)/\stp cs cs.length<=500)/\Q (.dat .non) (.ins "Often" Fb (Fc ps cs))))) ds) p
noncomputable def iI:FN:=λds Q=>cS (λa=>cS (λb=>cN (Q (.dat (.bl (ahB a b)))))) ds
noncomputable def d0:FN:=λds Q=>cL (λds=>cN (∃ts:List (List Nat),ds=ts.map .str/\(ts≠[]/\ts.length<=100000)/\∀t,Lst (·∈ts) t->Q (.dat (.str t)))) ds
noncomputable def hdD(w:Nat)(hd:Nat->Nat->List Nat):List D:=(e_ w).map λi=>.lst ((e_ w).map λj=>.str (hd i j))
def zk{α β:Type}[Inhabited α](f:List Nat->β)(ws:List (List Nat)):ws.map f=(e_ ws.length).map λi=>f (pw ws i):=by
 refine ext_getElem (by rw [length_map,length_map,B_]) λi h1 h2=>?_;rw [length_map] at h1;rw [getElem_map,getElem_map,getElem_range];congr 1;exact q_ ((cy h1).symm.trans (dO h1))
noncomputable def iJ:FN:=λds Q=>cT (λds=>cT (λls=>cN (∃ws:List (List Nat),ds=ws.map .str/\(.tup ls=qE ws/\ws.length<=200/\∀w∈ws,0<w.length/\w.length<=60)/\Q (.dat (.lst (hdD ws.length (hdW ws))))))) ds
structure lL (L:List (List (Nat×Nat))) (hd:Nat->Nat->List Nat) (ls:Nat->List Nat) (w k:Nat) (es:List (List (List Nat))):Prop where
 len:es.length=k
 wid:∀n,n<k->(es.getD n []).length=w
 lst:∀n,n<k->∀i,i<w->Lst (BI L hd ls n i) ((es.getD n []).getD i [])
noncomputable def esD(es:List (List (List Nat))):List D:=es.map λe=>.lst (e.map .str)
structure iK (L:List (List (Nat×Nat))) (w:Nat):Prop where
 many:L.length<=4096
 ch:∀n,∀p∈L.getD n [],p.1<w/\p.2<n
 few:∀n,(L.getD n []).length<=100
def lL.snoc{L:List (List (Nat×Nat))}{hd:Nat->Nat->List Nat}{ls:Nat->List Nat}{w k:Nat}{es:List (List (List Nat))}(h:lL L hd ls w k es){e:List (List Nat)}(hw:e.length=w)(he:∀i,i<w->Lst (BI L hd ls k i) (e.getD i [])):lL L hd ls w (k+1) (es++[e]):=by
 have g1:∀n,n<k->(es++[e]).getD n []=es.getD n []:=λn hn=>by rw [cx,G8 (by rw [h.len];exact hn),<- cx]
 have g2:(es++[e]).getD k []=e:=by rw [cx,G3 (by rw [h.len];exact o_ _),h.len,sub_self];rfl
 refine⟨by rw [length_append,h.len];rfl,λn hn=>?_,λn hn i hi=>?_⟩
 .by_cases c:n<k
  .rw [g1 n c];exact h.wid n c
  .rw [show n=k by omega,g2];exact hw
 .by_cases c:n<k
  .rw [g1 n c];exact h.lst n c i hi
  .rw [show n=k by omega,g2];exact he i hi
def lL.txt{L:List (List (Nat×Nat))}{hd:Nat->Nat->List Nat}{ls:Nat->List Nat}{w k:Nat}{es:List (List (List Nat))}(h:lL L hd ls w k es)(hL:iK L w)(h1:∀i j,(hd i j).length<=60)(h2:∀i,(ls i).length<=60){n i:Nat}(hn:n<k)(hk:n<=4096)(hi:i<w):((es.getD n []).getD i []).length<=300000:=by
 obtain⟨⟨js,hw,e⟩,_⟩:=h.lst n hn i hi;rw [e];have:=xb (w:=w) h1 h2 js i;have:=A8 (λn p hp=>(hL.ch n p hp).2) hw;omega
def zl{L:List (List (Nat×Nat))}{k:Nat}(h:k<L.length):itD (L.map chD) k=chD (L.getD k []):=iY (by rw [i_,cy h,cx,cy h];rfl)
def zm{es:List (List (List Nat))}{n:Nat}(h:n<es.length):atI (esD es) (n:Int)=some (.lst ((es.getD n []).map .str)):=iV (j:=n) (by unfold esD;rw [i_,cy h,cx,cy h];rfl) rfl
def DJ{w:Nat}{hd:Nat->Nat->List Nat}{i j:Nat}(hj:j<w):atI ((e_ w).map λj=>D.str (hd i j)) (j:Int)=some (.str (hd i j)):=iV (j:=j) (by rw [i_,GK hj];rfl) rfl
noncomputable def yu(ts:List (List Nat)):List Nat:=open Classical in if h:ts≠[] then Classical.choose (zb h) else []
def uk{ts:List (List Nat)}(h:ts≠[]):Lst (·∈ts) (yu ts):=by unfold yu;rw [dif_pos h];exact JY (zb h)
def zn{w:Nat}{f:Nat->List Nat}{i:Nat}(h:i<w):((e_ w).map f).getD i []=f i:=by rw [cx,i_,GK h];rfl
noncomputable def iM:FN:=λds Q=>cL (λhs=>cD (λla=>cL (λcs=>cN (∃(w:Nat) (hd:Nat->Nat->List Nat),hs=hdD w hd/\∃L:List (List (Nat×Nat)),cs=L.map chD/\∃ls:Nat->List Nat,(jB la ((e_ w).map λi=>.str (ls i))/\iK L w/\(∀i j,(hd i j).length<=60)/\(∀i,(ls i).length<=60)/\w<=200)/\∀es:List (List (List Nat)),lL L hd ls w L.length es->Q (.dat (.lst (esD es))))))) ds
def DK{ws:List (List Nat)}(hw:∀w∈ws,0<w.length/\w.length<=60)(i j:Nat):(hdW ws i j).length<=60:=by
 unfold hdW;rw [length_take];have:=A1 (λw h=>(hw w h).2) i;omega
def DL{ws:List (List Nat)}(hw:∀w∈ws,0<w.length/\w.length<=60){L:List (List (Nat×Nat))}(hL:iK L ws.length){n:Nat}(hn:L.getD n []≠[]){t:List Nat}(h:Lst (λu=>∃j js,Way L n (j::js)/\u=tlG (hdW ws) (pw ws) j js) t):Lst (λu=>∃js,Way L n js/\u=glN ws js) t:=by
 have hp:∀i,i<ws.length->0<(pw ws i).length:=λi hi=>(hw _ (cK hi)).1
 refine h.congr λu=>⟨λ⟨j,js,w,e⟩=>?_,λ⟨js,w,e⟩=>?_⟩
 .have hl:=zc (λn p hp=>(hL.ch n p hp).1) w;exact⟨j::js,w,by rw [e,xa js j (hp j (hl j mem_cons_self)) λk hk=>hp k (hl k (m_ _ hk))]⟩
 .cases js with
  | nil=>cases w with|nil z=>exact absurd z hn
  | cons j js =>
   have hl:=zc (λn p hp=>(hL.ch n p hp).1) w;exact⟨j,js,w,by rw [e,xa js j (hp j (hl j mem_cons_self)) λk hk=>hp k (hl k (m_ _ hk))]⟩
def Bj{ws:List (List Nat)}{L:List (List (Nat×Nat))}{n:Nat}(hn:L.getD n []=[]):Lst (λu=>∃js,Way L n js/\u=glN ws js) []:=by
 refine⟨⟨[],.nil hn,rfl⟩,λu ⟨js,w,e⟩=>?_⟩
 cases w with
 | nil _=>rw [e];exact ly _
 | cons m _=>rw [hn] at m;cases m
def Bk{ds:List D}(h:0<ds.length):atI ds (-1)=some (itD ds (ds.length - 1)):=by
 unfold atI ixN;rw [if_neg (by decide),if_pos (by omega),show ((-1:Int)+(ds.length:Int)).toNat=ds.length - 1 by omega];unfold itD;show ds[ds.length - 1]?=_;rw [cx,cy (by omega)];rfl
noncomputable def dy:FN:=λds Q=>cT (λds=>cT (λls=>cL (λcs=>cN (∃ws:List (List Nat),ds=ws.map .str/\∃L:List (List (Nat×Nat)),cs=L.map chD/\(.tup ls=qE ws/\ws.length<=200/\(∀w∈ws,0<w.length/\w.length<=60)/\iK L ws.length/\0<L.length)/\∀t,Lst (λu=>∃js,Way L (L.length - 1) js/\u=glN ws js) t->Q (.dat (.str t)))))) ds
noncomputable def dig(cs:List Nat)(i m:Nat):Nat:=m / stp cs i % (cs.getD i 0+1)
noncomputable def val(cs:List Nat)(d:Nat->Nat):Nat->Nat
 | 0=>0
 | n+1=>val cs d n+d n*stp cs n
theorem ul{cs:List Nat}{d:Nat->Nat}:∀{n:Nat},(∀k,k<n->d k<=cs.getD k 0)->val cs d n<stp cs n
 | 0,_=>one_pos
 | n+1,h=>by
  have ih:=ul (n:=n) λk hk=>h k (by omega);have:=JA (stp cs n) (h n (by omega));show val cs d n+d n*stp cs n<stp cs n*(cs.getD n 0+1);rw [mul_add,Kc,Jz (stp cs n)];omega
theorem xh(cs:List Nat){k:Nat}:∀{n:Nat},k<n->∃r,stp cs n=stp cs k*((cs.getD k 0+1)*r)
 | 0,h=>absurd h (G_ _)
 | n+1,h=>by
  rcases GX k n with z|z
  .obtain⟨r,e⟩:=xh cs z;exact⟨r*(cs.getD n 0+1),by show stp cs n*_=_;rw [e,mul_assoc,mul_assoc]⟩
  .exact⟨1,by rw [show k=n by omega,Kc];rfl⟩
theorem lM{cs:List Nat}{d:Nat->Nat}{k:Nat}:∀{n:Nat},(∀k,k<n->d k<=cs.getD k 0)->k<n->dig cs k (val cs d n)=d k
 | 0,_,h=>absurd h (G_ _)
 | n+1,h,hk=>by
  have p:=j3 cs k;unfold dig;show (val cs d n+d n*stp cs n) / stp cs k % _=_
  rcases GX k n with z|z
  .obtain⟨r,e⟩:=xh cs z;have ih:=lM (n:=n) (λk hk=>h k (by omega)) z;unfold dig at ih;rw [e,show d n*(stp cs k*((cs.getD k 0+1)*r))=(d n*r*(cs.getD k 0+1))*stp cs k by rw [<- mul_assoc,Jz (d n),mul_assoc,Jz (stp cs k)];congr 1;rw [Jz (cs.getD k 0+1),mul_assoc],add_mul_div_right _ _ p,add_mul_mod_self_right];exact ih
  .obtain rfl:k=n:=by omega
   rw [add_mul_div_right _ _ p,div_eq_of_lt (ul λj hj=>h j (by omega)),IV];exact mod_eq_of_lt (by have:=h k hk;omega)
noncomputable def dec(d:Nat->Nat)(i:Nat):Nat->Nat:=λk=>if k=i then d k - 1 else d k
theorem xi{cs:List Nat}{d:Nat->Nat}{i:Nat}(h0:0<d i):∀{n:Nat},(n<=i->val cs (dec d i) n=val cs d n)/\(i<n->val cs (dec d i) n+stp cs i=val cs d n)
 | 0=>⟨λ_=>rfl,λh=>absurd h (G_ _)⟩
 | n+1=>by
  obtain⟨h1,h2⟩:=xi (cs:=cs) (d:=d) (i:=i) h0 (n:=n)
  constructor
  .intro h;show val cs (dec d i) n+dec d i n*_=val cs d n+d n*_;rw [h1 (by omega)];unfold dec;rw [if_neg (by omega)]
  .intro h;show val cs (dec d i) n+dec d i n*stp cs n+_=val cs d n+d n*stp cs n
   rcases GX i n with z|z
   .have:=h2 z;unfold dec;rw [if_neg (by omega)];show val cs (dec d i) n+_+_=_;omega
   .obtain rfl:i=n:=by omega
    rw [h1 (o_ _)];unfold dec;rw [if_pos rfl];obtain⟨e,he⟩:∃e,d i=e+1:=⟨d i - 1,by omega⟩
    rw [he,add_sub_cancel,add_mul,one_mul];omega
noncomputable def uW(cs:List Nat)(m:Nat):List (Nat×Nat):=((e_ cs.length).filter λi=>decide (0<dig cs i m)).map λi=>(i,m - stp cs i)
noncomputable def cQ:FN:=λds Q=>cT (λds=>cL (λes=>cI (λm=>cN (∃cs:List Nat,ds=cs.map nD/\(es=(e_ cs.length).map (λi=>nD (stp cs i))/\cs.length<=40/\stp cs cs.length<=500/\∀c∈cs,c<=9)/\∃k:Nat,m=(k:Int)/\k<=500/\Q (.own ((uW cs k).map λp=>.tup [nD p.1,nD p.2])))))) ds
noncomputable def uX(cs:List Nat):List (List (Nat×Nat)):=(e_ (stp cs cs.length)).map (uW cs)
def oG{cs:List Nat}{m:Nat}(h:m<stp cs cs.length):(uX cs).getD m []=uW cs m:=by
 unfold uX;rw [cx,i_,GK h];rfl
def Bl{cs:List Nat}(hn:cs.length<=40)(hs:stp cs cs.length<=500):iK (uX cs) cs.length:=by
 have hl:(uX cs).length=stp cs cs.length:=by unfold uX;rw [length_map,B_]
 refine⟨by omega,λm p hp=>?_,λm=>?_⟩
 .by_cases h:m<stp cs cs.length
  .rw [oG h] at hp;unfold uW at hp;obtain⟨i,hi,rfl⟩:=Hb.mp hp;obtain⟨h1,h2⟩:=GW.mp hi;have h2:=of_decide_eq_true h2;have hp:=j3 cs i;refine⟨GQ.mp h1,?_⟩
   have:stp cs i<=m:=by
    rcases GX m (stp cs i) with z|z
    .unfold dig at h2;rw [div_eq_of_lt z,zero_mod] at h2;omega
    .exact z
   show m - stp cs i<m;omega
  .rw [cx,we (by omega)] at hp;cases hp
 .by_cases h:m<stp cs cs.length
  .rw [oG h];unfold uW;rw [length_map];have:=JB (λi=>decide (0<dig cs i m)) (e_ cs.length);rw [B_] at this;omega
  .rw [cx,we (by omega)];exact G4 _
theorem lN{cs:List Nat}:∀(js:List Nat) (d:Nat->Nat),(∀k,k<cs.length->d k<=cs.getD k 0)->(Way (uX cs) (val cs d cs.length) js ↔ ∀i,js.count i=if i<cs.length then d i else 0)
 | [],d,hd=>by
  have hl:=oG (ul hd)
  constructor
  .intro w i
   by_cases hi:i<cs.length
   .rw [if_pos hi]
    cases w with
    | nil e =>
     rw [hl] at e;unfold uW at e;have:=filter_eq_nil_iff.mp (Je.mp e) i (GQ.mpr hi);rw [lM hd hi] at this;simp only [decide_eq_true_eq] at this;show 0=d i;omega
   .rw [if_neg hi];rfl
  .intro h;refine .nil ?_;rw [hl];unfold uW
   rw [filter_eq_nil_iff.mpr λi hi=>?_]
   .rfl
   .have hi:=GQ.mp hi;have:=h i;rw [if_pos hi] at this;have this:0=d i:=this;rw [lM hd hi];simp only [decide_eq_true_eq];omega
 | j::r,d,hd=>by
  have hl:=oG (ul hd)
  have key:j<cs.length->0<d j->((∀k,k<cs.length->dec d j k<=cs.getD k 0)/\val cs d cs.length - stp cs j=val cs (dec d j) cs.length):=λhj h0=>by
   refine⟨λk hk=>?_,?_⟩
   .unfold dec;have:=hd k hk;split <;> omega
   .have:=(xi (cs:=cs) (i:=j) h0 (n:=cs.length)).2 hj;omega
  have cnt:∀i,(j::r).count i=r.count i+if j=i then 1 else 0:=λi=>by
   rw [count_cons]
   by_cases e:j=i
   .rw [if_pos e,if_pos (by simpa using e)]
   .rw [if_neg e,if_neg (by simpa using e)]
  constructor
  .intro w i
   cases w with
   | cons m w' =>
    rw [hl] at m;unfold uW at m;obtain⟨i',hi',e⟩:=Hb.mp m;obtain⟨h1,h2⟩:=GW.mp hi';cases e;have hj:=GQ.mp h1;rw [lM hd hj] at h2;have h0:=of_decide_eq_true h2;obtain⟨k1,k2⟩:=key hj h0;rw [k2] at w';have ih:=(lN r (dec d j) k1).mp w' i;rw [cnt,ih];unfold dec
    by_cases e:i=j
    .subst e;rw [if_pos hj,if_pos hj,if_pos rfl,if_pos rfl];omega
    .rw [show (if j=i then 1 else 0)=0 from if_neg λz=>e z.symm]
     by_cases hi:i<cs.length
     .rw [if_pos hi,if_pos hi,if_neg e];rfl
     .rw [if_neg hi,if_neg hi]
  .intro h;have hj0:=h j;rw [cnt,if_pos rfl] at hj0
   have hj:j<cs.length:=by
    rcases GX j cs.length with z|z
    .exact z
    .rw [if_neg (by omega)] at hj0;omega
   rw [if_pos hj] at hj0;obtain⟨k1,k2⟩:=key hj (by omega)
   refine .cons (r:=val cs (dec d j) cs.length) ?_ ((lN r (dec d j) k1).mpr λi=>?_)
   .rw [hl];unfold uW;exact Hb.mpr ⟨j,GW.mpr ⟨GQ.mpr hj,by rw [lM hd hj];exact decide_eq_true (by omega)⟩,by rw [k2]⟩
   .have:=h i;rw [cnt] at this;unfold dec
    by_cases e:i=j
    .subst e;rw [if_pos hj,if_pos rfl];rw [if_pos hj,if_pos rfl] at this;omega
    .rw [show (if j=i then 1 else 0)=0 from if_neg λz=>e z.symm] at this
     by_cases hi:i<cs.length
     .rw [if_pos hi,if_neg e];rw [if_pos hi] at this;omega
     .rw [if_neg hi];rw [if_neg hi] at this;omega
theorem xj(cs:List Nat):∀n,val cs (λk=>cs.getD k 0) n=stp cs n - 1
 | 0=>rfl
 | n+1=>by
  have:=j3 cs n;show val cs _ n+cs.getD n 0*stp cs n=stp cs n*(cs.getD n 0+1) - 1;rw [xj cs n,mul_add,Kc,Jz (stp cs n)];omega
theorem bB(cs:List Nat)(j:Nat):∀n,(rwN cs n).count j=if j<n then cs.getD j 0 else 0
 | 0=>rfl
 | n+1=>by
  rw [eF,count_append,bB cs j n,count_replicate]
  by_cases h:j=n
  .subst h;simp
  .have e:(n == j)=false:=by simp;omega
   rw [e];simp only [false_eq_true,if_false,Nat.add_zero]
   by_cases h2:j<n
   .rw [if_pos h2,if_pos (by omega)]
   .rw [if_neg h2,if_neg (by omega)]
def xk{cs js:List Nat}:Way (uX cs) (stp cs cs.length - 1) js ↔ js.Perm (rwN cs cs.length):=by
 rw [<- xj,lN js _ λk _=>o_ _]
 constructor
 .intro h;exact Hx.mpr λi=>by rw [h i,bB]
 .intro h i;rw [h.count_eq,bB]
noncomputable def GlO(ps:List (List Nat))(cs u:List Nat):Prop:=∃js:List Nat,js.Perm (rwN cs cs.length)/\u=glN ps js
def zo(ws:List (List Nat))(k:Nat):glN ws (e_ (k+1))=glN ws (e_ k)++(pw ws k).drop (if k=0 then 0 else cA (pw ws (k - 1)) (pw ws k)):=by
 have h:=uh (ws:=ws) (js:=e_ (k+1)) (k:=k) (by rw [B_];omega);have g:∀i,i<k+1->(e_ (k+1)).getD i 0=i:=λi hi=>by rw [cx,GK hi];rfl
 rw [g k (by omega),g (k - 1) (by omega),take_range,take_range,min_self,show min k (k+1)=k by omega] at h;exact h
def qT{ws:List (List Nat)}{js:List Nat}{k:Nat}(h:k<js.length):pw (js.map (pw ws)) k=pw ws (js.getD k 0):=by
 show (js.map (pw ws)).getD k []=_;rw [cx,i_,cy h,cx,cy h];rfl
def zp(ws:List (List Nat))(js:List Nat):glN ws js=glN (js.map (pw ws)) (e_ js.length):=by
 have go:∀k,k<=js.length->glN ws (js.take k)=glN (js.map (pw ws)) (e_ k):=λk=>by
  induction k with
  | zero=>intro _;rfl
  | succ k ih =>
   intro hk;rw [uh (by omega),zo,ih (by omega),qT (ws:=ws) (js:=js) (k:=k) (by omega)]
   by_cases h0:k=0
   .rw [if_pos h0,if_pos h0]
   .rw [if_neg h0,if_neg h0,qT (ws:=ws) (js:=js) (k:=k - 1) (by omega)]
 have:=go js.length (o_ _)
 rwa [take_length] at this
noncomputable def gS(ws:List (List Nat))(k:Nat):Nat:=(glN ws (e_ (k+1))).length - (pw ws k).length
def DM{ws:List (List Nat)}{n k:Nat}(hp:∀j,j<n->0<(pw ws j).length)(hk:k<n):stA (glN ws (e_ n)) (pw ws k) (gS ws k)=true/\(pw ws k).length<=(glN ws (e_ (k+1))).length:=by
 have h1:pw ws k <:+ glN ws (e_ (k+1)):=by
  rw [range_succ];exact AZ λj hj=>hp j (by rw [<- range_succ] at hj;have:=GQ.mp hj;omega)
 have h2:glN ws (e_ (k+1)) <+: glN ws (e_ n):=by
  have e:e_ n=e_ (k+1)++(e_ (n - (k+1))).map (k+1+·):=by rw [<- range_add];congr 1;omega
  rw [e];exact A0 _ _
 obtain⟨a,ea⟩:=h1;obtain⟨b,eb⟩:=h2;refine⟨jK.mpr ⟨a,b,by rw [<- eb,<- ea],?_⟩,by rw [<- ea,length_append];omega⟩;unfold gS;rw [<- ea,length_append];omega
def Bm{ws:List (List Nat)}{n k:Nat}(hp:∀j,j<n->0<(pw ws j).length)(hk:k+1<n):gS ws k<gS ws (k+1):=by
 have h1:=(DM hp (show k<n by omega)).2;have h2:=(dQ (hp k (by omega)) (hp (k+1) hk)).1;have h3:=hp k (by omega);unfold gS;rw [zo ws (k+1),if_neg (by omega),length_append,length_drop,add_sub_cancel];omega
def Fd{ws:List (List Nat)}{n:Nat}(hp:∀j,j<n->0<(pw ws j).length){i:Nat}:∀{j:Nat},i<j->j<n->gS ws i<gS ws j:=λ{j}=>by
 induction j with
 | zero=>intro h _;omega
 | succ j ih =>
  intro h hj;have:=Bm hp hj
  rcases GX i j with z|z
  .have:=ih z (by omega);omega
  .rw [show i=j by omega];exact this
theorem zq:∀{l m:List Nat},l.Nodup->(∀x∈l,x∈m)->l.length<=m.length
 | [],_,_,_=>G4 _
 | a::l,m,hn,h=>by
  obtain⟨h1,h2⟩:=Ia.mp hn;have ha:=h a (mem_cons_self ..);have:=zq (l:=l) (m:=m.erase a) h2 λx hx=>(mem_erase_of_ne (λe:x=a=>h1 (by rw [<- e];exact hx))).mpr (h x (m_ _ hx));rw [length_erase_of_mem ha] at this;have:=length_pos_of_mem ha;rw [length_cons];omega
def xl(j:Nat)(js:List Nat):((e_ js.length).filter λk=>decide (js.getD k 0=j)).length=js.count j:=by
 induction js using L2.oy with
 | h0=>rfl
 | h1 l a ih =>
  rw [length_append,length_singleton,range_succ,filter_append,length_append,count_append,<- ih]
  congr 1
  .congr 1;refine filter_congr λk hk=>?_;rw [cx,G8 (GQ.mp hk),<- cx]
  .have e:(l++[a]).getD l.length 0=a:=by rw [cx,G3 (o_ _),sub_self];rfl
   by_cases h:a=j
   .rw [filter_cons_of_pos (by rw [e];exact decide_eq_true h),h];simp
   .rw [filter_cons_of_neg (by rw [e,decide_eq_false h];decide)];simp [h]
def DN{ps:List (List Nat)}{cs js T:List Nat}{S:Nat->Nat}(hp:∀w∈ps,0<w.length)(hcl:cs.length=ps.length)(hj:js.Perm (rwN cs cs.length))(hS:∀k,k<js.length->stA T (pw ps (js.getD k 0)) (S k)=true)(hlt:∀i j,i<j->j<js.length->S i<S j){j:Nat}(hjl:j<ps.length):cs.getD j 0<=(plN T (pw ps j)).length:=by
 have hc:((e_ js.length).filter λk=>decide (js.getD k 0=j)).length=cs.getD j 0:=by
  rw [xl,hj.count_eq,bB,if_pos (by omega)]
 rw [<- hc,<- length_map S]
 refine zq ?_ λx hx=>?_
 .refine pairwise_map.mpr (List.Pairwise.imp_of_mem (R:=λa b=>a<b) (λ{a b} ha hb h=>?_) (Jo.filter _));have hb:=GQ.mp (GW.mp hb).1;have:=hlt a b h hb;show S a≠S b;omega
 .obtain⟨k,hk,rfl⟩:=Hb.mp hx;obtain⟨k1,k2⟩:=GW.mp hk;have k1:=GQ.mp k1;have k2:=of_decide_eq_true k2;have st:=hS k k1;rw [k2] at st;refine GW.mpr ⟨GQ.mpr ?_,st⟩;have:=(of_decide_eq_true st).1;have:=hp _ (cK hjl);omega
def xm{ps:List (List Nat)}{cs js:List Nat}(hp:∀w∈ps,0<w.length)(hcl:cs.length=ps.length)(hj:js.Perm (rwN cs cs.length)){j:Nat}(hjl:j<ps.length):cs.getD j 0<=(plN (glN ps js) (pw ps j)).length:=by
 have hlt:∀k,k<js.length->js.getD k 0<ps.length:=λk hk=>by
  rw [<- hcl];refine qQ (hj.mem_iff.mp ?_);rw [cx,cy hk];exact Hy _
 have pos:∀k,k<js.length->0<(pw (js.map (pw ps)) k).length:=λk hk=>by rw [qT hk];exact hp _ (cK (hlt k hk))
 refine DN (S:=gS (js.map (pw ps))) hp hcl hj (λk hk=>?_) (λi j h1 h2=>Fd pos h1 h2) hjl;have st:=(DM pos hk).1
 rwa [qT hk,<- zp] at st
theorem nr{ws:List (List Nat)}{t:List Nat}{P:Nat->Nat}:∀{i:Nat}{r:List Nat},(∀j∈i::r,0<(pw ws j).length/\stA t (pw ws j) (P j)=true)->(i::r).Pairwise (λa b=>P a<P b)->(i::r).Pairwise (λa b=>¬ pw ws b <:+: pw ws a\/pw ws a=pw ws b) ->
  ∃e,e<=t.length/\P i+(pw ws i).length<=e/\(glT ws i r).length<=e - (P i+(pw ws i).length)/\((glT ws i r).length=e - (P i+(pw ws i).length)->glT ws i r=(t.drop (P i+(pw ws i).length)).take (e - (P i+(pw ws i).length)))
 | i,[],h,_,_=>⟨P i+(pw ws i).length,(of_decide_eq_true (h i (mem_cons_self ..)).2).1,o_ _,G4 _,λ_=>by rw [sub_self,take_zero];rfl⟩
 | i,j::r,h,hp,ha=>by
  obtain⟨p1,p2⟩:=Ju.mp hp;obtain⟨a1,a2⟩:=Ju.mp ha;obtain⟨e,e1,e2,e3,e4⟩:=nr (i:=j) (r:=r) (λk hk=>h k (m_ _ hk)) p2 a2;have hij:=p1 j (mem_cons_self ..);have nij:=a1 j (mem_cons_self ..);obtain⟨i0,iS⟩:=h i (mem_cons_self ..);obtain⟨j0,jS⟩:=h j (m_ _ (mem_cons_self ..));obtain⟨iL,iE⟩:=of_decide_eq_true iS;obtain⟨jL,jE⟩:=of_decide_eq_true jS;obtain⟨k1,k2,k3⟩:=dQ i0 j0
  generalize hwi:pw ws i=wi at *;generalize hwj:pw ws j=wj at *
  have hend:P i+wi.length<P j+wj.length:=by
   rcases GX (P i+wi.length) (P j+wj.length) with z|z
   .exact z
   .rcases nij with nij|nij
    .refine absurd ?_ nij
     have e:wj=((wi.drop (P j - P i)).take wj.length):=by
      conv=>rhs;rw [<- iE]
      rw [drop_take,drop_drop,show P i+(P j - P i)=P j by omega,take_take,show min wj.length (wi.length - (P j - P i))=wj.length by omega,jE]
     rw [e];exact (take_prefix _ _).isInfix.trans (drop_suffix _ _).isInfix
    .rw [nij] at z;omega
  have hgl:glT ws i (j::r)=wj.drop (cA wi wj)++glT ws j r:=by show (pw ws j).drop (cA (pw ws i) (pw ws j))++_=_;rw [hwi,hwj]
  have hk:P i+wi.length - P j<=cA wi wj:=by
   rcases eq_zero_or_pos (P i+wi.length - P j) with z|z
   .omega
   .refine k3 _ (by omega) ?_;refine⟨wi.take (wi.length - (P i+wi.length - P j)),?_⟩
    have e:wj.take (P i+wi.length - P j)=wi.drop (wi.length - (P i+wi.length - P j)):=by
     conv=>lhs;rw [<- jE]
     conv=>rhs;rw [<- iE]
     have hm:min wi.length (t.length - P i)=wi.length:=Ii (by omega);rw [take_take,drop_take,drop_drop,length_take,length_drop,hm,Ii (by omega:P i+wi.length - P j<=wj.length)]
     congr 1
     .omega
     .congr 1;omega
    rw [e,GM]
  refine⟨e,e1,by omega,?_,λhe=>?_⟩
  .rw [hgl,length_append,length_drop];clear e4;omega
  .rw [hgl,length_append,length_drop] at he;have o1:P j<=P i+wi.length:=by clear e4;omega
   have o2:cA wi wj=P i+wi.length - P j:=by clear e4;omega
   rw [hgl,e4 (by omega),<- wR (t:=t) (a:=P i+wi.length) (b:=P j+wj.length) (c:=e) (by omega) (by omega)];congr 1;rw [o2]
   conv=>lhs;rw [<- jE]
   rw [drop_take,drop_drop,show P j+(P i+wi.length - P j)=P i+wi.length by omega];congr 1;omega
def uY{ws:List (List Nat)}{t:List Nat}{P:Nat->Nat}{js:List Nat}(h:∀j∈js,0<(pw ws j).length/\stA t (pw ws j) (P j)=true)(hp:js.Pairwise (λa b=>P a<P b))(ha:js.Pairwise (λa b=>¬ pw ws b <:+: pw ws a\/pw ws a=pw ws b)) :
  (glN ws js).length<=t.length/\((glN ws js).length=t.length->glN ws js=t):=by
 cases js with
 | nil=>exact⟨G4 _,λe=>(Hl.mp e.symm).symm⟩
 | cons i r =>
  obtain⟨e,e1,e2,e3,e4⟩:=nr h hp ha;obtain⟨iL,iE⟩:=of_decide_eq_true (h i (mem_cons_self ..)).2;have hg:glN ws (i::r)=pw ws i++glT ws i r:=rfl;rw [hg,length_append];refine⟨by omega,λz=>?_⟩;have p0:P i=0:=by omega
  rw [e4 (by omega)];have el:e=t.length:=by omega
  rw [p0,drop_zero] at iE;rw [el,p0,IV];have:=wR (t:=t) (a:=0) (b:=(pw ws i).length) (c:=t.length) (G4 _) (by omega);rw [drop_zero,IS,IS,take_length,iE] at this;exact this
section
variable {ps:List (List Nat)}{cs t:List Nat}{rows:List (Nat×Nat)}
def lJ.row(ok:lJ ps cs t rows)(hcl:cs.length=ps.length):(rows.map (·.2)).Perm (rwN cs cs.length):=by
 have e:∀n,n<=ps.length->(xD ps cs t n).map (·.2)=rwN cs n:=λn=>by
  induction n with
  | zero=>intro _;rfl
  | succ n ih =>
   intro hn;rw [qR,eF,map_append,ih (by omega)];congr 1;unfold BK;rw [map_map];have:((plN t (pw ps n)).take (cs.getD n 0)).length=cs.getD n 0:=by rw [length_take];have:=ok.enough n (by omega);omega
   generalize (plN t (pw ps n)).take (cs.getD n 0)=l at this;rw [<- this];exact List.map_const'
 have:=ok.perm.map (·.2);rw [e _ (o_ _),<- hcl] at this;exact this
def lJ.mem(ok:lJ ps cs t rows){r:Nat×Nat}(h:r∈rows):r.2<ps.length/\r.1∈plN t (pw ps r.2):=uj (ok.perm.mem_iff.mp h)
def lJ.short(ok:lJ ps cs t rows)(hp:∀w∈ps,0<w.length)(hk:∀i,i<ps.length->bM ps i=true):(glN ps (rows.map (·.2))).length<=t.length/\((glN ps (rows.map (·.2))).length=t.length->glN ps (rows.map (·.2))=t):=by
 rw [zp,length_map,map_map]
 have at_:∀k (h:k<rows.length),pw (rows.map (pw ps ∘ (·.2))) k=pw ps rows[k].2:=λk h=>by
  show (rows.map _).getD k []=_;rw [cx,i_,cy h];rfl
 refine uY (P:=λk=>(rows.getD k (0,0)).1) (λj hj=>?_) ?_ ?_
 .have hj:=GQ.mp hj;obtain⟨h1,h2⟩:=ok.mem (Hy hj);rw [at_ j hj,cx,cy hj];exact⟨hp _ (cK h1),(Bg h2).2⟩
 .refine IP.mpr λi j hi hj hij=>?_;rw [B_] at hi hj;rw [getElem_range,getElem_range];show (rows.getD i (0,0)).1<(rows.getD j (0,0)).1;rw [cx,cy hi,cx,cy hj];exact IP.mp ok.rise i j hi hj hij
 .refine IP.mpr λi j hi hj hij=>?_;rw [B_] at hi hj;rw [getElem_range,getElem_range,at_ i hi,at_ j hj]
  by_cases h:rows[j].2=rows[i].2
  .rw [h];exact .inr rfl
  .have h1:=(ok.mem (Hy hi)).1;have h2:=(ok.mem (Hy hj)).1;exact .inl (hX h2 h1 (hk _ h2) (hk _ h1) h)
end
noncomputable def EnO(ps:List (List Nat))(cs u:List Nat):Prop:=∀j,j<ps.length->cs.getD j 0<=(plN u (pw ps j)).length
def Bn{ps:List (List Nat)}{cs u:List Nat}(hk:∀i,i<ps.length->bM ps i=true)(he:EnO ps cs u):∃rows,lJ ps cs u rows:=by
 let le:Nat×Nat->Nat×Nat->Bool:=λa b=>decide (a.1<=b.1)
 have hp:=mergeSort_perm (xD ps cs u ps.length) le
 have hs:((xD ps cs u ps.length).mergeSort le).Pairwise (λa b=>le a b=true):=pairwise_mergeSort (le:=le) (λa b c h1 h2=>decide_eq_true (E_ (of_decide_eq_true h1) (of_decide_eq_true h2))) (λa b=>by
  rcases le_total a.1 b.1 with h|h
  .rw [show le a b=true from decide_eq_true h,Bool.true_or]
  .rw [show le b a=true from decide_eq_true h,Bool.or_true]) _
 have ne:=(hp.pairwise_iff (R:=λa b:Nat×Nat=>a.1≠b.1) λ{a b} h=>HA h).mpr (xf hk _ (o_ _));exact⟨_,he,hp,(hs.and ne).imp λ{a b} ⟨h1,h2⟩=>by have:=of_decide_eq_true h1;omega⟩
section
variable {ps:List (List Nat)}{cs t u:List Nat}
def DO(hp:∀w∈ps,0<w.length)(hcl:cs.length=ps.length)(h:GlO ps cs u):EnO ps cs u:=by
 obtain⟨js,hj,rfl⟩:=h;exact λj hjl=>xm hp hcl hj hjl
def yv(hp:∀w∈ps,0<w.length)(hcl:cs.length=ps.length)(hk:∀i,i<ps.length->bM ps i=true)(he:EnO ps cs u):∃js:List Nat,js.Perm (rwN cs cs.length)/\ahB u (glN ps js)=false:=by
 obtain⟨rows,ok⟩:=Bn hk he;obtain⟨h1,h2⟩:=ok.short hp hk;refine⟨_,ok.row hcl,?_⟩
 by_cases e:(glN ps (rows.map (·.2))).length=u.length
 .rw [h2 e];exact ly u
 .rw [kj];left;omega
def DP(hp:∀w∈ps,0<w.length)(hcl:cs.length=ps.length)(hk:∀i,i<ps.length->bM ps i=true)(h:Lst (GlO ps cs) t):Lst (EnO ps cs) t :=
 ⟨DO hp hcl h.1,λu hu=>by
  obtain⟨js,h1,h2⟩:=yv hp hcl hk hu;exact hZ h2 (h.2 _ ⟨js,h1,rfl⟩)⟩
end
noncomputable def a9:FN:=λds Q=>cO (λc ns fs=>cN (c="Often"/\ns=Fb/\∃ps:List (List Nat),∃cs:List Nat,fs=Fc ps cs/\(ps.length<=40/\Pcs 60 ps/\cs.length=ps.length/\stp cs cs.length<=500/\∀c∈cs,c<=9)/\∀t,Lst (GlO ps cs) t->Q (.dat (.str t)))) ds
noncomputable def dC:FN:=λds Q=>cR (λns=>cI (λk=>cN ((0<=k/\k<=1000/\ns.length<=1000)/\∀s:Int×Int,SOk s->Q (stv s)))) ds
noncomputable def aC:FR:=λp ds Q=>oL (λes_=>cI (λc0=>cI (λc1=>cN (cI (λm=>cN (SOk (c0,c1)/\0<m/\m<=1000000/\∀(x:Int) (s:Int×Int),SOk s->0<=x->x<m->Q (.dat (.int x)) (stv s))) ds))) es_) p
noncomputable def d4:FR:=λp ds Q=>oL (λes_=>cI (λc0=>cI (λc1=>cN (cS (λls=>cI (λm=>cN (SOk (c0,c1)/\(0<ls.length/\ls.length<=26/\Lts ls)/\(0<m/\m<=10000)/\∀(w:List Nat) (s:Int×Int),SOk s->0<w.length->w.length<=m.toNat->Lts w->Q (.dat (.str w)) (stv s)))) ds))) es_) p
noncomputable def j4:FR:=λp ds Q=>oL (λes_=>cI (λc0=>cI (λc1=>cN (cS (λt=>cI (λm=>cN (SOk (c0,c1)/\(0<t.length/\t.length<=100000/\Lts t)/\(0<m/\m<=10000)/\∀(w:List Nat) (s:Int×Int),SOk s->0<w.length->w.length<=m.toNat->Lts w->Q (.dat (.str w)) (stv s)))) ds))) es_) p
noncomputable def iN:FR:=λp ds Q=>oL (λes_=>cI (λc0=>cI (λc1=>cN (cI (λm=>cN (SOk (c0,c1)/\(0<m/\m<=100)/\∀(ls b:List Nat) (s:Int×Int),SOk s->(0<ls.length/\ls.length<=26/\Lts ls)->(0<b.length/\b.length<=100000/\Lts b)->Q (.dat (.tup [.str ls,.str b])) (stv s))) ds))) es_) p
def yw{α:Type}{xs:List α}{x:α}{n:Int}(h:x∈g9 xs n):x∈xs:=by
 unfold g9 at h;obtain⟨l,hl,hx⟩:=mem_flatten.mp h;rw [eq_of_mem_replicate hl] at hx;exact hx
noncomputable def dD:FR:=λp ds Q=>oL (λes_=>cI (λc0=>cI (λc1=>cN (cI (λn=>cI (λm=>cN (SOk (c0,c1)/\(0<=n/\n<=100/\0<m/\m<=60)/\∀(ps:List (List Nat)) (s:Int×Int),SOk s->ps.length=n.toNat->Pcs m.toNat ps->Q (.dat (.lst (ps.map .str))) (stv s)))) ds))) es_) p
noncomputable def dE:FN:=λds Q=>cL (λds=>cI (λi=>cN (∃ws:List (List Nat),ds=ws.map .str/\(ws.length<=100/\Pcs 60 ws)/\(0<=i/\i<(ws.length:Int))/\Q (.dat (.bl (!bM ws i.toNat)))))) ds
noncomputable def gJ:FR:=λp ds Q=>oL (λes_=>cI (λc0=>cI (λc1=>cN (cI (λn=>cI (λm=>cN (SOk (c0,c1)/\(0<=n/\n<=100/\0<m/\m<=60)/\∀(ps:List (List Nat)) (s:Int×Int),SOk s->ps.length=n.toNat->Pcs m.toNat ps->Q (.own ((cB ps).map .str)) (stv s)))) ds))) es_) p
noncomputable def fK:FR:=λp ds Q=>oL (λes_=>cI (λc0=>cI (λc1=>cN (cI (λn=>cI (λm=>cN (SOk (c0,c1)/\(0<=n/\n<=100/\0<m/\m<=60)/\∀(cs:List Nat) (s:Int×Int),SOk s->cs.length=n.toNat->(∀c∈cs,1<=c/\c<=m.toNat)->Q (.own (cs.map nD)) (stv s)))) ds))) es_) p
noncomputable def bN:FN:=λds Q=>cS (λa=>cS (λb=>cN (a.length<=10000/\(0<b.length/\b.length<=10000)/\Q (.dat (.int (cA a b:Int)))))) ds
def xn(js:List Nat):js.map nD=(js.map λj=>((j:Nat):Int)).map D.int:=by rw [map_map];rfl
def xo(rs:List Nat):yP (.lst (rs.map nD)) (.lst []):=by rw [xn];exact yP.of (Sh.lstI _) (Sh.lstI [])
def Bo(rs:List Nat):deq (.lst (rs.map nD)) (.lst [])=decide (rs=[]):=by
 rw [xn,show (D.lst [])=D.lst (([]:List Int).map D.int) from rfl,ua];exact decide_eq_decide.mpr ⟨λz=>by simpa using z,λz=>by rw [z];rfl⟩
noncomputable def cU:FR:=λp ds Q=>oL (λes_=>cI (λc0=>cI (λc1=>cN (cL (λds=>cN (∃xs:List Nat,ds=xs.map nD/\(SOk (c0,c1)/\xs.length<=1000)/\∀(js:List Nat) (s:Int×Int),js.Perm xs->SOk s->Q (.dat (.lst (js.map nD))) (stv s))) ds))) es_) p
def sgD(c:Nat):D:=.str [c]
def zr(rs:List Nat):rs.map sgD=(rs.map λc=>[c]).map D.str:=by rw [map_map];rfl
def uZ{rs:List Nat}(h:Lts rs):yP (.lst (rs.map sgD)) (.lst []):=by
 rw [zr]
 exact yP.of (Sh.lstS λw hw=>by
  obtain⟨c,hc,rfl⟩:=Hb.mp hw;exact λx hx=>by rw [v_.mp hx];exact h c hc) (Sh.lstI [])
def yx(rs:List Nat):deq (.lst (rs.map sgD)) (.lst [])=decide (rs=[]):=by
 cases rs with
 | nil=>rw [decide_eq_true rfl];exact ua [] []
 | cons a r =>
  rw [decide_eq_false nofun];unfold deq;show Ib (.list (D.pys (sgD a::r.map sgD))) (.list (D.pys []))=_;simp only [D.pys,Ib,HU]
noncomputable def cj:FR:=λp ds Q=>oL (λes_=>cI (λc0=>cI (λc1=>cN (cS (λt=>cN ((SOk (c0,c1)/\t.length<=100/\Lts t)/\∀(js:List Nat) (s:Int×Int),js.Perm t->SOk s->Q (.dat (.lst (js.map sgD))) (stv s))) ds))) es_) p
noncomputable def fL:FR:=λp ds Q=>oL (λes_=>cI (λc0=>cI (λc1=>cN (cS (λa=>cS (λb=>cI (λm=>cN (SOk (c0,c1)/\(0<=m/\m<=(a.length:Int)/\a.length<=10000/\b.length<=10000)/\∀(r:Nat) (s:Int×Int),SOk s->(r:Int)<=m->b.take r <:+ a->Q (.dat (.int (r:Int))) (stv s))))) ds))) es_) p
def zt{t w y:List Nat}{k:Nat}(h:stA t w k=true):stA (t++y) w k=true:=by
 obtain⟨a,b,e,hl⟩:=jK.mp h;exact jK.mpr ⟨a,b++y,by rw [e,append_assoc],hl⟩
noncomputable def u0(ws:List (List Nat))(T:List Nat)(S:Nat->Nat):Prop:=(∀k,k<ws.length->stA T (pw ws k) (S k)=true)/\∀k,k+1<ws.length->S k<S (k+1)
def yy{ws vs:List (List Nat)}{k:Nat}(h:k<ws.length):pw (ws++vs) k=pw ws k:=by
 show (ws++vs).getD k []=ws.getD k [];rw [cx,G8 h,<- cx]
def yz(ws:List (List Nat))(x:List Nat):pw (ws++[x]) ws.length=x:=by
 show (ws++[x]).getD ws.length []=x;rw [cx,G3 (o_ _),sub_self];rfl
def xp{pre:List (List Nat)}{x T F:List Nat}{k:Nat}{S:Nat->Nat}(hS:u0 pre T S)(hF:T <+: F)(hk:x.take k <:+ F)(hkx:k<=x.length)(hl:0<pre.length->S (pre.length - 1)+k<F.length) :
  u0 (pre++[x]) (F++x.drop k) (λi=>if i<pre.length then S i else F.length - k)/\x <:+ F++x.drop k/\k<=F.length:=by
 obtain⟨F0,e0⟩:=hk;obtain⟨T1,e1⟩:=hF;have hl0:F0.length+k=F.length:=by rw [<- e0,length_append,length_take];omega
 have e2:F++x.drop k=F0++x:=by
  conv=>lhs;rw [<- e0]
  rw [append_assoc,GM]
 refine⟨⟨λi hi=>?_,λi hi=>?_⟩,⟨F0,e2.symm⟩,by omega⟩
 .rw [length_append] at hi;have hi:i<pre.length+1:=hi
  by_cases c:i<pre.length
  .show stA _ _ (if i<pre.length then S i else F.length - k)=true;rw [if_pos c,yy c,<- e1,append_assoc];exact zt (hS.1 i c)
  .obtain rfl:i=pre.length:=by omega
   show stA _ _ (if pre.length<pre.length then S pre.length else F.length - k)=true;rw [if_neg c,yz,e2];exact jK.mpr ⟨F0,[],by rw [append_nil],by omega⟩
 .rw [length_append] at hi;have hi:i+1<pre.length+1:=hi;show (if i<pre.length then S i else F.length - k)<if i+1<pre.length then S (i+1) else F.length - k
  rw [if_pos (by omega)]
  by_cases c:i+1<pre.length
  .rw [if_pos c];exact hS.2 i c
  .rw [if_neg c];have:=hl (by omega);rw [show pre.length - 1=i by omega] at this;omega
def u0.lt{ws:List (List Nat)}{T:List Nat}{S:Nat->Nat}(h:u0 ws T S){i:Nat}:∀{j:Nat},i<j->j<ws.length->S i<S j:=λ{j}=>by
 induction j with
 | zero=>intro h _;omega
 | succ j ih =>
  intro hij hj;have:=h.2 j hj
  rcases GX i j with z|z
  .have:=ih z (by omega);omega
  .rw [show i=j by omega];exact this
noncomputable def iO:FR:=λp ds Q=>oL (λes_=>cI (λc0=>cI (λc1=>cN (cL (λds=>cN (∃ws:List (List Nat),ds=ws.map .str/\(SOk (c0,c1)/\ws.length<=40/\Pcs 60 ws)/\∀(T:List Nat) (s:Int×Int),SOk s->T.length<=10000->(∃S,u0 ws T S)->Q (.dat (.str T)) (stv s))) ds))) es_) p
noncomputable def h7:FR:=λp ds Q=>oL (λes_=>cI (λc0=>cI (λc1=>cN (cL (λds=>cN (∃cs:List Nat,ds=cs.map nD/\(SOk (c0,c1)/\cs.length<=20/\∀c∈cs,c<=9)/\∀(js:List Nat) (s:Int×Int),js.Perm (rwN cs cs.length)->SOk s->Q (.dat (.lst (js.map nD))) (stv s))) ds))) es_) p
noncomputable def fM:FN:=λds Q=>cS (λt=>cS (λw=>cN ((t.length<=100000/\w.length<=100000)/\Q (.own ((plN t w).map nD))))) ds
noncomputable def fN:FN:=λds Q=>cS (λt=>cL (λds=>cL (λes=>cN (∃ps:List (List Nat),ds=ps.map .str/\∃cs:List Nat,es=cs.map nD/\(t.length<=100000/\(∀w∈ps,w.length<=60)/\cs.length=ps.length/\∀j,j<ps.length->cs.getD j 0<=(plN t (pw ps j)).length)/\Q (.dat (.bl true)))))) ds
noncomputable def bG:FN:=λds Q=>cS (λa=>cS (λb=>cN (Q (.dat (.bl (ahB a b)))))) ds
noncomputable def gB(ps:List (List Nat)):List Nat->List Nat->List Nat
 | _,[]=>[]
 | one,j::r=>(pw ps j).drop (if one=[] then 0 else cA one (pw ps j))++gB ps (pw ps j) r
noncomputable def gK(ps:List (List Nat))(cs t one u:List Nat):Prop:=∃js:List Nat,js.Perm (rwN cs cs.length)/\u=t++gB ps one js
noncomputable def BOk(d:Nat)(ps:List (List Nat))(cs t o:List Nat):Prop:=0<ps.length/\ps.length<=20/\Pcs 60 ps/\cs.length=ps.length/\cs.sum<=d/\t.length+60*d<=1000/\o.length<=60
def Bp{cs:List Nat}:∀{k:Nat},k<cs.length->0<cs.getD k 0->(cs.set k (cs.getD k 0 - 1)).sum+1=cs.sum:=by
 induction cs with
 | nil=>intro k h;exact absurd h (G_ _)
 | cons c r ih =>
  intro k hk h0
  cases k with
  | zero =>
   have h0:0<c:=h0;show (c - 1)+r.sum+1=c+r.sum;omega
  | succ k =>
   have:=ih (k:=k) (by simpa using hk) h0;show c+(r.set k (r.getD k 0 - 1)).sum+1=c+r.sum;omega
def um{cs:List Nat}{k i x:Nat}(hk:k<cs.length):(cs.set k x).getD i 0=if k=i then x else cs.getD i 0:=by
 rw [cx,getElem?_set]
 by_cases h:k=i
 .subst h;rw [if_pos rfl,if_pos rfl,if_pos hk];rfl
 .rw [if_neg h,if_neg h,<- cx]
def zu{cs:List Nat}{i:Nat}:cs.getD i 0<=cs.sum:=by
 induction cs generalizing i with
 | nil=>exact G4 _
 | cons c r ih =>
  cases i with
  | zero=>show c<=c+r.sum;omega
  | succ i=>have:=ih (i:=i);show r.getD i 0<=c+r.sum;omega
def xq{cs js:List Nat}:(∃k r,js=k::r/\k<cs.length/\0<cs.getD k 0/\r.Perm (rwN (cs.set k (cs.getD k 0 - 1)) cs.length)) ↔ js≠[]/\js.Perm (rwN cs cs.length):=by
 have cn:∀(k i:Nat) (r:List Nat),(k::r).count i=r.count i+if k=i then 1 else 0:=λk i r=>by
  rw [count_cons]
  by_cases e:k=i
  .rw [if_pos e,if_pos (by simpa using e)]
  .rw [if_neg e,if_neg (by simpa using e)]
 constructor
 .rintro⟨k,r,rfl,hk,h0,hp⟩;refine⟨nofun,Hx.mpr λi=>?_⟩;have:=Hx.mp hp i;rw [cn,this,bB,bB,um hk]
  by_cases e:k=i
  .subst e;rw [if_pos rfl,if_pos rfl,if_pos hk,if_pos hk];omega
  .rw [if_neg e,if_neg e];omega
 .rintro⟨h,hp⟩
  cases js with
  | nil=>exact absurd rfl h
  | cons k r =>
   have hc:=λi=>Hx.mp hp i;have hk:=hc k;rw [cn,if_pos rfl,bB] at hk
   have hk1:k<cs.length:=by
    rcases GX k cs.length with z|z
    .exact z
    .rw [if_neg (by omega)] at hk;omega
   rw [if_pos hk1] at hk;refine⟨k,r,rfl,hk1,by omega,Hx.mpr λi=>?_⟩;have:=hc i;rw [cn,bB] at this;rw [bB,um hk1]
   by_cases e:k=i
   .subst e;rw [if_pos rfl,if_pos hk1] at this;rw [if_pos rfl,if_pos hk1];omega
   .rw [if_neg e] at this;rw [if_neg e];omega
noncomputable def lO(ps:List (List Nat))(o:List Nat)(k:Nat):Nat:=if o=[] then 0 else cA o (pw ps k)
def qU{ps:List (List Nat)}{cs t o u:List Nat}(h:0<cs.sum):gK ps cs t o u ↔ ∃k,k<cs.length/\0<cs.getD k 0/\gK ps (cs.set k (cs.getD k 0 - 1)) (t++(pw ps k).drop (lO ps o k)) (pw ps k) u:=by
 have ne:∀js:List Nat,js.Perm (rwN cs cs.length)->js≠[]:=λjs hp z=>by
  subst z
  have hz:∀i,cs.getD i 0=0:=λi=>by
   have:=Hx.mp hp i;rw [bB] at this
   by_cases e:i<cs.length
   .rw [if_pos e] at this;exact this.symm
   .rw [cx,we (by omega)];rfl
  have:cs.sum=0:=by
   refine Ha.mpr λx hx=>?_;obtain⟨i,hi,rfl⟩:=Iz hx;have:=hz i
   rwa [cx,cy hi] at this
  omega
 constructor
 .rintro⟨js,hp,rfl⟩;obtain⟨k,r,rfl,hk,h0,hr⟩:=xq.mpr ⟨ne js hp,hp⟩;exact⟨k,hk,h0,r,by rw [GN];exact hr,by rw [append_assoc];rfl⟩
 .rintro⟨k,hk,h0,r,hr,rfl⟩;rw [GN] at hr;exact⟨k::r,(xq.mp ⟨k,r,rfl,hk,h0,hr⟩).2,by rw [append_assoc];rfl⟩
def kP{ps:List (List Nat)}{cs t o u:List Nat}(h:cs.sum=0):gK ps cs t o u ↔ u=t:=by
 have e:rwN cs cs.length=[]:=by
  refine eq_nil_iff_forall_not_mem.mpr λk hk=>?_;have:=count_pos_iff.mpr hk;rw [bB] at this;have:=zu (cs:=cs) (i:=k);split at*<;> omega
 unfold gK;rw [e]
 constructor
 .rintro⟨js,hp,rfl⟩;rw [perm_nil.mp hp];exact append_nil _
 .rintro rfl;exact⟨[],Kf _,(append_nil _).symm⟩
def DQ{A B:List Nat->Prop}{a b:List Nat}(ha:Lst A a)(hb:Lst B b):Lst (λu=>A u\/B u) (if ahB b a=true then b else a):=by
 by_cases h:ahB b a=true
 .rw [if_pos h];exact⟨.inr hb.1,λu hu=>hu.elim (λz=>hZ (ha.2 u z) (DA h)) (hb.2 u)⟩
 .rw [if_neg h];have h:ahB b a=false:=by simpa using h
  exact⟨.inl ha.1,λu hu=>hu.elim (ha.2 u) λz=>hZ (hb.2 u z) h⟩
noncomputable def ppB(c:FN):PTS:=(h9 (AF (pB (pOp EZ (pFz (pCB AU (bH (pSl 1) eJ))) (pFz (pC (.int 0))))) (ww (qo 2)) ll) (h9 (rO (pC .non) (ei 4)) (h9 (C8 (FH (bH (pFz (pCB AD (bH (pSl 0) eJ))) eJ)) (ei 5) (AF (pB (pOp fGt (pFz (pOp fIx (pSl 1) (pSl 5))) (pFz (pC (.int 0))))) (h9 (rO (pC (.int 0)) (ei 6)) (h9 (yR (AF (pB (pOp E1 (pSl 3) (pFz (pC (.str []))))) (rO (iZ bN (bH (pFz (qo 3)) (bH (pFz (pOp fIx (pSl 0) (pSl 5))) eJ))) (ei 6)) ll)) (h9 (rO (pOp uS (pFz (pOp uS (pFz (tP (pSl 1) tN (tO (qo 5)))) (pFz (FB (bH (pFz (pOp Gu (pFz (pOp fIx (pSl 1) (pSl 5))) (pFz (pC (.int 1))))) eJ))))) (pFz (tP (pSl 1) (tO (pOp uS (pSl 5) (pFz (pC (.int 1))))) tN))) (ei 7)) (h9 (rO (iZ c (bH (pFz (qo 0)) (bH (pFz (qo 7)) (bH (pFz (pOp uS (pSl 2) (pFz (tP (pFz (pOp fIx (pSl 0) (pSl 5))) (tO (qo 6)) tN)))) (bH (pFz (pOp fIx (pSl 0) (pSl 5))) eJ))))) (ei 8)) (AF (pOr (pB (pOp (fIs false) (pSl 4) (pFz (pC .non)))) (pB (iZ bG (bH (pFz (qo 8)) (bH (pFz (qo 4)) eJ))))) (rO (qo 8) (ei 4)) ll))))) ll)) (ww (qo 4)))))
def rdB{d:Nat}{c:FN}(hc:∀(ps:List (List Nat)) (cs t o:List Nat) (Q:PV->Prop),BOk d ps cs t o->(∀u,Lst (gK ps cs t o) u->Q (.dat (.str u)))->c [.lst (ps.map .str),.lst (cs.map nD),.str t,.str o] Q)
  {ps:List (List Nat)}{cs t o:List Nat}{Q:PV->Prop} (g:BOk (d+1) ps cs t o) (q:∀u,Lst (gK ps cs t o) u->Q (.dat (.str u))):BH (ppB c) 9 [.lst (ps.map .str),.lst (cs.map nD),.str t,.str o] Q:=by
 obtain⟨hn0,hn,hp,hcl,hs,ht,ho⟩:=g;have hpm:(ps.map D.str).length=ps.length:=length_map _;have hcm:(cs.map nD).length=cs.length:=length_map _;dsimp only [BH,c6,List.map,J_,f_,cons_append,nil_append,Nat.reduceSub,Nat.reduceAdd,IV,ppB];walk_at "r";refine⟨cs.map λc=>((c:Nat):Int),by rw [map_map];rfl,by rw [length_map];omega,λm hm hle=>?_⟩;obtain⟨c1,hc1,rfl⟩:=Hb.mp hm
 have hmx:∀i,cs.getD i 0<=c1:=λi=>by
  rw [cx]
  cases e:cs[i]? with
  | none=>exact G4 _
  | some x=>have:=hle _ (Hb.mpr ⟨x,GD e,rfl⟩);show x<=c1;omega
 walk_at "r"
 refine cJ (λc0=>?_) (λc0=>?_)
 .have h0:cs.sum=0:=Ha.mpr λx hx=>by
   obtain⟨i,hi,rfl⟩:=Iz hx;have:=hmx i;rw [cx,cy hi] at this;have:cs[i]<=c1:=this;omega
  walk_at "r";exact q t ⟨(kP h0).mpr rfl,λu hu=>by rw [(kP h0).mp hu];exact ly t⟩
 have h0:0<cs.sum:=by
  obtain⟨i,hi,rfl⟩:=Iz hc1;have:=zu (cs:=cs) (i:=i);rw [cx,cy hi] at this;have:cs[i]<=cs.sum:=this;omega
 walk_at "r"
 refine⟨λk ρ=>∃b v5 v6 v7 v8:Option PV,((∀i,i<k->cs.getD i 0=0)/\b=some (.dat .non)\/∃u,b=some (.dat (.str u))/\Lst (λu=>∃i,i<k/\0<cs.getD i 0/\gK ps (cs.set i (cs.getD i 0 - 1)) (t++(pw ps i).drop (lO ps o i)) (pw ps i) u) u) /\
  ρ=[some (.dat (.lst (ps.map .str))),some (.dat (.lst (cs.map nD))),some (.dat (.str t)),some (.dat (.str o)),b,v5,v6,v7,v8],⟨_,_,_,_,_,.inl ⟨λi h=>absurd h (G_ _),rfl⟩,rfl⟩,?_,?_⟩
 .rintro k ρ _ hk rfl ⟨b,v5,v6,v7,v8,hb,rfl⟩;have hk:k<ps.length:=by omega
  have hkc:k<cs.length:=by omega
  have ec:atI (cs.map nD) (k:Int)=some (nD (cs.getD k 0)):=iV (j:=k) (by rw [i_,cy hkc,cx,cy hkc];rfl) rfl;have ep:=ft (ws:=ps) hk rfl;walk_at "r";refine⟨_,ec,?_⟩;walk_at "r"
  refine cJ (λc2=>?_) (λc2=>?_)
  .have hkp:0<cs.getD k 0:=by omega
   have hw:=hp (pw ps k) (cK hk);have hs2:=Bp hkc hkp;walk_at "r"
   refine⟨λρ=>ρ=[some (.dat (.lst (ps.map .str))),some (.dat (.lst (cs.map nD))),some (.dat (.str t)),some (.dat (.str o)),b,some (.dat (.int (k:Int))),some (.dat (.int (lO ps o k:Int))),v7,v8],?_,?_⟩
   .walk_at "r"
    refine nV (λc3=>?_) (λc3=>?_)
    .have gl:o.length<=10000/\(0<(pw ps k).length/\(pw ps k).length<=10000):=⟨by omega,hw.1,by have:=hw.2.1;omega⟩
     walk_at "r";refine⟨_,ep,?_⟩;walk_at "r";unfold lO;rw [if_neg c3]
    .unfold lO;rw [if_pos c3];rfl
   rintro ρ rfl;have e1:cZ (cs.map nD) none (some (k:Int))=(cs.take k).map nD:=by rw [dL,map_take]
   have e2:cZ (cs.map nD) (some ((k:Int)+1)) none=(cs.drop (k+1)).map nD:=by rw [show ((k:Int)+1)=((k+1:Nat):Int) from rfl,eV,map_drop]
   have e3:(cs.take k).map nD++[D.int (((cs.getD k 0:Nat):Int) - 1)]++(cs.drop (k+1)).map nD=(cs.set k (cs.getD k 0 - 1)).map nD:=by
    rw [set_eq_take_append_cons_drop,if_pos hkc,map_append,map_cons,append_assoc];show _++(D.int _::_)=_++(D.int _::_)
    rw [show (((cs.getD k 0:Nat):Int) - 1)=((cs.getD k 0 - 1:Nat):Int) by omega];rfl
   have e4:cZ (pw ps k) (some ((lO ps o k:Nat):Int)) none=(pw ps k).drop (lO ps o k):=eV _ _;have l1:((cs.take k).map nD).length<=20:=by rw [length_map,length_take];omega
   have l2:((cs.drop (k+1)).map nD).length<=20:=by rw [length_map,length_drop];omega
   have l4:((pw ps k).drop (lO ps o k)).length<=60:=by rw [length_drop];have:=hw.2.1;omega
   walk_at "r";refine⟨_,ec,?_⟩;walk_at "r";rw [e1];refine⟨by show _+1<=_;omega,?_⟩;walk_at "r";rw [e2];refine⟨by rw [length_append];show _+1+_<=_;omega,?_⟩;rw [e3];walk_at "r";refine⟨_,ep,?_⟩;walk_at "r";rw [e4];walk_at "r";refine⟨_,ep,?_⟩;walk_at "r";refine hc ps _ _ _ _ ⟨hn0,hn,hp,by rw [GN];exact hcl,by omega,by rw [length_append];omega,hw.2.1⟩ λf hf=>?_;walk_at "r"
   rcases hb with ⟨hz,rfl⟩|⟨u,rfl,hu⟩
   .walk_at "r";refine⟨_,_,_,_,_,.inr ⟨f,rfl,hf.congr λu=>⟨λz=>⟨k,by omega,hkp,z⟩,λ⟨i,h1,h2,h3⟩=>?_⟩⟩,rfl⟩
    rcases GX i k with z|z
    .have:=hz i z;omega
    .rw [show i=k by omega] at h3;exact h3
   .have hor:=DQ hu hf
    have cg:∀u,((∃i,i<k/\0<cs.getD i 0/\gK ps (cs.set i (cs.getD i 0 - 1)) (t++(pw ps i).drop (lO ps o i)) (pw ps i) u)\/gK ps (cs.set k (cs.getD k 0 - 1)) (t++(pw ps k).drop (lO ps o k)) (pw ps k) u) ↔ ∃i,i<k+1/\0<cs.getD i 0/\gK ps (cs.set i (cs.getD i 0 - 1)) (t++(pw ps i).drop (lO ps o i)) (pw ps i) u:=λu=>by
     constructor
     .rintro (⟨i,h1,h2⟩|h)
      .exact⟨i,by omega,h2⟩
      .exact⟨k,by omega,hkp,h⟩
     .rintro⟨i,h1,h2⟩
      rcases GX i k with z|z
      .exact .inl ⟨i,z,h2⟩
      .rw [show i=k by omega] at h2;exact .inr h2.2
    have hor:=hor.congr cg
    refine CO (λe=>?_) (λe=>?_)
    .rw [if_pos e] at hor;walk_at "r";exact⟨_,_,_,_,_,.inr ⟨f,rfl,hor⟩,rfl⟩
    .rw [if_neg (by rw [e];decide)] at hor;walk_at "r";exact⟨_,_,_,_,_,.inr ⟨u,rfl,hor⟩,rfl⟩
  .walk_at "r"
   rcases hb with ⟨hz,rfl⟩|⟨u,rfl,hu⟩
   .refine⟨_,_,_,_,_,.inl ⟨λi hi=>?_,rfl⟩,rfl⟩
    rcases GX i k with z|z
    .exact hz i z
    .rw [show i=k by omega];omega
   .refine⟨_,_,_,_,_,.inr ⟨u,rfl,hu.congr λu=>⟨λ⟨i,h1,h2⟩=>⟨i,by omega,h2⟩,λ⟨i,h1,h2⟩=>⟨i,?_,h2⟩⟩⟩,rfl⟩
    rcases GX i k with z|z
    .exact z
    .rw [show i=k by omega] at h2;omega
 .rintro ρ ⟨b,v5,v6,v7,v8,hb,rfl⟩;walk_at "r"
  rcases hb with ⟨h,rfl⟩|⟨u,rfl,hu⟩
  .have:cs.sum=0:=Ha.mpr λx hx=>by
    obtain⟨i,hi,rfl⟩:=Iz hx;have:=h i (by omega)
    rwa [cx,cy hi] at this
   omega
  walk_at "r"
  exact q u (hu.congr λu=>⟨λ⟨i,h1,h2,h3⟩=>(qU h0).mpr ⟨i,by omega,h2,h3⟩,λz=>by
   obtain⟨i,h1,h2,h3⟩:=(qU h0).mp z;exact⟨i,by omega,h2,h3⟩⟩)
noncomputable def dF:FN:=λds Q=>cL (λds=>cL (λes=>cS (λt=>cS (λo=>cN (∃ps:List (List Nat),ds=ps.map .str/\∃cs:List Nat,es=cs.map nD/\BOk 0 ps cs t o/\∀u,Lst (gK ps cs t o) u->Q (.dat (.str u))))))) ds
noncomputable def dG:FN:=λds Q=>cL (λds=>cL (λes=>cS (λt=>cS (λo=>cN (∃ps:List (List Nat),ds=ps.map .str/\∃cs:List Nat,es=cs.map nD/\BOk 1 ps cs t o/\∀u,Lst (gK ps cs t o) u->Q (.dat (.str u))))))) ds
noncomputable def dH:FN:=λds Q=>cL (λds=>cL (λes=>cS (λt=>cS (λo=>cN (∃ps:List (List Nat),ds=ps.map .str/\∃cs:List Nat,es=cs.map nD/\BOk 2 ps cs t o/\∀u,Lst (gK ps cs t o) u->Q (.dat (.str u))))))) ds
noncomputable def dI:FN:=λds Q=>cL (λds=>cL (λes=>cS (λt=>cS (λo=>cN (∃ps:List (List Nat),ds=ps.map .str/\∃cs:List Nat,es=cs.map nD/\BOk 3 ps cs t o/\∀u,Lst (gK ps cs t o) u->Q (.dat (.str u))))))) ds
noncomputable def dJ:FN:=λds Q=>cL (λds=>cL (λes=>cS (λt=>cS (λo=>cN (∃ps:List (List Nat),ds=ps.map .str/\∃cs:List Nat,es=cs.map nD/\BOk 4 ps cs t o/\∀u,Lst (gK ps cs t o) u->Q (.dat (.str u))))))) ds
noncomputable def iP:FN:=λds Q=>cL (λds=>cL (λes=>cS (λt=>cS (λo=>cN (∃ps:List (List Nat),ds=ps.map .str/\∃cs:List Nat,es=cs.map nD/\BOk 5 ps cs t o/\∀u,Lst (gK ps cs t o) u->Q (.dat (.str u))))))) ds
def j5{ps:List (List Nat)}(h:∀i j,i<ps.length->j<ps.length->i≠j->¬ pw ps i <:+: pw ps j){i:Nat}(hi:i<ps.length):bM ps i=true:=by
 refine fu.mpr ⟨λhm=>?_,λo ho hl=>?_⟩
 .obtain⟨j,hj⟩:=IE.mp hm
  have hlt:j<i:=by
   have:=(h_.mp hj).1;rw [length_take] at this;omega
  rw [getElem?_take,if_pos hlt,dO (show j<ps.length by omega)] at hj;refine h j i (by omega) hi (by omega) ?_;rw [q_ hj];exact⟨[],[],by simp⟩
 .obtain⟨j,hj⟩:=IE.mp ho;have hlt:j<ps.length:=(h_.mp hj).1;rw [dO hlt] at hj;have ej:=q_ hj;rw [<- ej] at hl ⊢;have ne:i≠j:=λz=>by rw [z] at hl;omega
  have na:=h i j hi hlt ne
  cases e:ia (pw ps i) (pw ps j) with
  | false=>rfl
  | true=>exact absurd (qI.mp e) na
def xr{ps:List (List Nat)}{i:Nat}(h:i<(cB ps).length):bM (cB ps) i=true:=j5 (λi j hi hj h=>uR hi hj h) h
theorem DR{cs:List Nat}(h:∀c∈cs,c<=3):∀n,stp cs n<=4^n
 | 0=>o_ _
 | n+1=>by
  have:cs.getD n 0<=3:=by
   rw [cx]
   cases e:cs[n]? with
   | none=>exact G4 _
   | some c=>exact h c (GD e)
  show stp cs n*(cs.getD n 0+1)<=4^n*4;exact Jf (DR h n) (by omega)
def Bq{n:Nat}(h:n<=4):4^n<=256:=pow_le_pow_right (by decide) h
theorem DS{ps:List (List Nat)}(hp:∀w∈ps,0<w.length):∀(js:List Nat) (i:Nat),(∀j∈i::js,j<ps.length)->gB ps (pw ps i) js=glT ps i js
 | [],_,_=>rfl
 | j::r,i,h=>by
  have h0:=hp _ (cK (h i (mem_cons_self ..)));show (pw ps j).drop (if pw ps i=[] then 0 else cA (pw ps i) (pw ps j))++gB ps (pw ps j) r=(pw ps j).drop (cA (pw ps i) (pw ps j))++glT ps j r;rw [if_neg (λz=>by rw [z] at h0;cases h0),DS hp r j λk hk=>h k (m_ _ hk)]
def Br{ps:List (List Nat)}{cs u:List Nat}(hp:∀w∈ps,0<w.length)(hcl:cs.length=ps.length):gK ps cs [] [] u ↔ GlO ps cs u:=by
 have key:∀js:List Nat,js.Perm (rwN cs cs.length)->gB ps [] js=glN ps js:=λjs h=>by
  cases js with
  | nil=>rfl
  | cons i r =>
   have hj:∀j∈i::r,j<ps.length:=λj hj=>by rw [<- hcl];exact qQ (h.mem_iff.mp hj)
   show (pw ps i).drop (if ([]:List Nat)=[] then 0 else _)++gB ps (pw ps i) r=pw ps i++glT ps i r;rw [if_pos rfl,DS hp r i hj];rfl
 constructor
 .rintro⟨js,h,rfl⟩;exact⟨js,h,by rw [nil_append];exact key js h⟩
 .rintro⟨js,h,rfl⟩;exact⟨js,h,by rw [nil_append];exact (key js h).symm⟩
def yA(cs:List Nat):(cs.map λc=>((c:Nat):Int)).sum=((cs.sum:Nat):Int):=by
 induction cs with
 | nil=>rfl
 | cons c r ih=>rw [map_cons,sum_cons,ih];show _=((c+r.sum:Nat):Int);omega
def yB{ps:List (List Nat)}(h0:0<ps.length)(hw:∀w∈ps,w.length<=60):0<(cB ps).length:=by
 obtain⟨j,hj,hk,_⟩:=wL hw _ 0 h0 (o_ _);have:j∈ig ps:=GW.mpr ⟨GQ.mpr hj,hk⟩;unfold cB;rw [length_map];exact length_pos_of_mem this
noncomputable def gL:FR:=λp ds Q=>oL (λes_=>cI (λc0=>cI (λc1=>cN (cL (λds=>cL (λes=>cN (∃ps:List (List Nat),ds=ps.map .str/\∃cs:List Nat,es=cs.map nD/\(SOk (c0,c1)/\0<ps.length/\ps.length<=4/\Pcs 60 ps/\(∀i,i<ps.length->bM ps i=true)/\cs.length=ps.length/\(∀c∈cs,1<=c/\c<=3))/\∀s:Int×Int,SOk s->Q (.dat (.bl true)) (stv s)))) ds))) es_) p
theorem zw{p:List Nat}(hp:0<p.length):∀i:Nat,p++glT [p] 0 (f_ i 0)=g9 (p.take (p.length - cA p p)) i++p
 | 0=>by show p++[]=([]:List Nat)++p;simp
 | i+1=>by
  have h:=w9 (dQ hp hp);have ih:=zw hp i
  have e:g9 (p.take (p.length - cA p p)) ((i+1:Nat):Int)=p.take (p.length - cA p p)++g9 (p.take (p.length - cA p p)) (i:Int):=by
   unfold g9;rw [toNat_natCast,toNat_natCast,replicate_succ,flatten_cons]
  have e2:p++p.drop (cA p p)=p.take (p.length - cA p p)++p:=by
   conv=>lhs;arg 1;rw [h]
   rw [append_assoc,GM]
  rw [e,append_assoc,<- ih,replicate_succ];show p++(p.drop (cA p p)++glT [p] 0 _)=_;rw [<- append_assoc,e2,append_assoc]
def Bs{p u:List Nat}{n:Nat}(hp:0<p.length)(h:GlO [p] [n+1] u):u=g9 (p.take (p.length - cA p p)) n++p:=by
 obtain⟨js,hj,rfl⟩:=h
 have e:rwN [n+1] [n+1].length=f_ (n+1) 0:=by
  show rwN [n+1] (0+1)=_;rw [eF];rfl
 rw [e] at hj;rw [perm_replicate.mp hj,replicate_succ];exact zw hp n
noncomputable def gM:FR:=λp ds Q=>oL (λes_=>cI (λc0=>cI (λc1=>cN (cN (SOk (c0,c1)/\∀s:Int×Int,SOk s->Q (.dat (.bl true)) (stv s)) ds))) es_) p
noncomputable def f2(a b i:Nat):Nat:=if i=0 then a else b
noncomputable def alN(a b:Nat):Nat->Nat->List Nat
 | _,0=>[]
 | i,n+1=>f2 a b i::alN a b (1 - i) n
noncomputable def abP(a b:Nat):List (List Nat):=[[a,b],[b,a]]
section
variable {a b:Nat}
def mN{i:Nat}(h:i<2):pw (abP a b) i=[f2 a b i,f2 a b (1 - i)]:=by
 rcases (show i=0\/i=1 by omega) with rfl|rfl <;> rfl
def zx(h:a≠b){i j:Nat}(hi:i<2)(hj:j<2):cA (pw (abP a b) i) (pw (abP a b) j)=if i=j then 0 else 1:=by
 rw [mN hi,mN hj];obtain⟨h1,h2,h3⟩:=dQ (a:=[f2 a b i,f2 a b (1 - i)]) (b:=[f2 a b j,f2 a b (1 - j)]) (Ke _) (Ke _);have h1:cA [f2 a b i,f2 a b (1 - i)] [f2 a b j,f2 a b (1 - j)]<2:=h1
 have sf:∀x y z:Nat,[x] <:+ [y,z]->x=z:=λx y z ⟨u,e⟩=>by
  have:=congrArg List.getLast? e;simpa using this
 by_cases e:i=j
 .subst e;rw [if_pos rfl]
  rcases (show cA [f2 a b i,f2 a b (1 - i)] [f2 a b i,f2 a b (1 - i)]=0\/cA [f2 a b i,f2 a b (1 - i)] [f2 a b i,f2 a b (1 - i)]=1 by omega) with z|z
  .exact z
  .rw [z] at h2;have:=sf _ _ _ (show [f2 a b i] <:+ _ from h2)
   rcases (show i=0\/i=1 by omega) with rfl|rfl
   .exact absurd this h
   .exact absurd this.symm h
 .rw [if_neg e]
  have:=h3 1 (by show 1<2;decide) ⟨[f2 a b i],by
   rcases (show i=0\/i=1 by omega) with rfl|rfl <;> rcases (show j=0\/j=1 by omega) with rfl|rfl <;> first|rfl|exact absurd rfl e⟩
  omega
def xt(h:a≠b){i j:Nat}(hi:i<2)(hj:j<2)(e:i≠j):(pw (abP a b) j).drop (cA (pw (abP a b) i) (pw (abP a b) j))=[f2 a b i]:=by
 rw [zx h hi hj,if_neg e,mN hj];rcases (show i=0\/i=1 by omega) with rfl|rfl <;> rcases (show j=0\/j=1 by omega) with rfl|rfl <;> first|rfl|exact absurd rfl e
theorem DT(h:a≠b):∀(r:List Nat) (i:Nat),i<2->(∀j∈r,j<2)->r.length<=(glT (abP a b) i r).length/\((glT (abP a b) i r).length=r.length->glT (abP a b) i r=alN a b i r.length)
 | [],_,_,_=>⟨o_ _,λ_=>rfl⟩
 | j::r,i,hi,hr=>by
  have hj:=hr j (mem_cons_self ..);obtain⟨h1,h2⟩:=DT h r j hj λk hk=>hr k (m_ _ hk);show r.length+1<=((pw (abP a b) j).drop (cA (pw (abP a b) i) (pw (abP a b) j))++glT (abP a b) j r).length/\(((pw (abP a b) j).drop (cA (pw (abP a b) i) (pw (abP a b) j))++glT (abP a b) j r).length=r.length+1->(pw (abP a b) j).drop (cA (pw (abP a b) i) (pw (abP a b) j))++glT (abP a b) j r=f2 a b i::alN a b (1 - i) r.length)
  by_cases e:i=j
  .subst e;rw [zx h hi hi,if_pos rfl,mN hi,length_append];show r.length+1<=2+_/\(2+_=r.length+1->_)
   exact⟨by omega,λz=>by omega⟩
  .rw [xt h hi hj e,length_append];show r.length+1<=1+_/\(1+_=r.length+1->_)
   refine⟨by omega,λz=>?_⟩;rw [h2 (by omega),show j=1 - i by omega];rfl
theorem DU(h:a≠b):∀(n i:Nat),i<2->glT (abP a b) i (alN 0 1 (1 - i) n)=alN a b i n
 | 0,_,_=>rfl
 | n+1,i,hi=>by
  have hj:f2 0 1 (1 - i)=1 - i:=by rcases (show i=0\/i=1 by omega) with rfl|rfl <;> rfl
  show (pw (abP a b) (f2 0 1 (1 - i))).drop (cA (pw (abP a b) i) (pw (abP a b) (f2 0 1 (1 - i))))++glT (abP a b) (f2 0 1 (1 - i)) (alN 0 1 (1 - (1 - i)) n)=f2 a b i::alN a b (1 - i) n;rw [hj,xt h hi (by omega) (by omega),DU h n (1 - i) (by omega)];rfl
def xu:∀(m i:Nat),i<2->(alN 0 1 i (2*m)).Perm (rwN [m,m] 2):=λm i hi=>by
 refine Hx.mpr λx=>?_;rw [bB]
 have go:∀k,(alN 0 1 i (2*k)).count x=if x<2 then k else 0:=λk=>by
  induction k with
  | zero=>simp [alN]
  | succ k ih =>
   rw [show 2*(k+1)=2*k+1+1 by omega];show (f2 0 1 i::f2 0 1 (1 - i)::alN 0 1 (1 - (1 - i)) (2*k)).count x=_;rw [show 1 - (1 - i)=i by omega,count_cons,count_cons,ih]
   rcases (show x=0\/x=1\/2<=x by omega) with rfl|rfl|hx
   .rcases (show i=0\/i=1 by omega) with rfl|rfl <;> simp [f2]
   .rcases (show i=0\/i=1 by omega) with rfl|rfl <;> simp [f2]
   .have e0:(0 == x)=false:=by simp;omega
    have e1:(1 == x)=false:=by simp;omega
    have hx':¬ x<2:=by omega
    rcases (show i=0\/i=1 by omega) with rfl|rfl <;> simp [f2,e0,e1,hx']
 rw [go]
 rcases (show x=0\/x=1\/2<=x by omega) with rfl|rfl|hx
 .rfl
 .rfl
 .rw [if_neg (by omega),if_neg (by omega)]
theorem xv(i:Nat)(hi:i<2):∀m:Nat,alN a b i (2*m+1)=g9 [f2 a b i,f2 a b (1 - i)] m++[f2 a b i]
 | 0=>rfl
 | m+1=>by
  have e:g9 [f2 a b i,f2 a b (1 - i)] ((m+1:Nat):Int)=[f2 a b i,f2 a b (1 - i)]++g9 [f2 a b i,f2 a b (1 - i)] (m:Int):=by
   unfold g9;rw [toNat_natCast,toNat_natCast,replicate_succ,flatten_cons]
  rw [e,show 2*(m+1)+1=2*m+1+1+1 by omega];show f2 a b i::f2 a b (1 - i)::alN a b (1 - (1 - i)) (2*m+1)=_;rw [show 1 - (1 - i)=i by omega,xv i hi m];rfl
def xw(i n:Nat):(alN a b i n).length=n:=by
 induction n generalizing i with
 | zero=>rfl
 | succ n ih=>show (alN a b (1 - i) n).length+1=_;rw [ih]
def zy(h:a≠b){m i:Nat}(hm:0<m)(hi:i<2):GlO (abP a b) [m,m] (alN a b i (2*m+1)):=by
 refine⟨alN 0 1 i (2*m),xu m i hi,?_⟩;obtain⟨n,rfl⟩:∃n,m=n+1:=⟨m - 1,by omega⟩
 have hj:f2 0 1 i=i:=by rcases (show i=0\/i=1 by omega) with rfl|rfl <;> rfl
 show f2 a b i::f2 a b (1 - i)::alN a b (1 - (1 - i)) (2*n+1)=pw (abP a b) (f2 0 1 i)++glT (abP a b) (f2 0 1 i) (alN 0 1 (1 - i) (2*n+1));rw [hj,DU h _ i hi,mN hi,show 1 - (1 - i)=i by omega];rfl
def DW(h:a≠b){m:Nat}{u:List Nat}(hm:0<m)(hu:GlO (abP a b) [m,m] u):2*m+1<=u.length/\(u.length=2*m+1->∃i,i<2/\u=alN a b i (2*m+1)):=by
 obtain⟨js,hj,rfl⟩:=hu;have hl:=hj.length_eq;have hl2:js.length=2*m:=by rw [hl];exact (xu m 0 (by decide)).length_eq.symm.trans (xw _ _)
 cases js with
 | nil=>have hl2:0=2*m:=hl2;omega
 | cons i r =>
  have hr:∀j∈i::r,j<2:=λj hm=>qQ (hj.mem_iff.mp hm);have hi:=hr i (mem_cons_self ..);have hl2:r.length+1=2*m:=hl2;obtain⟨h1,h2⟩:=DT h r i hi λk hk=>hr k (m_ _ hk);show 2*m+1<=(pw (abP a b) i++glT (abP a b) i r).length/\((pw (abP a b) i++glT (abP a b) i r).length=2*m+1->_)
  rw [length_append,mN hi];show 2*m+1<=2+_/\(2+_=2*m+1->_)
  refine⟨by omega,λz=>⟨i,hi,?_⟩⟩;show pw (abP a b) i++glT (abP a b) i r=_;rw [h2 (by omega),mN hi,show 2*m+1=r.length+1+1 by omega];show _=f2 a b i::f2 a b (1 - i)::alN a b (1 - (1 - i)) r.length;rw [show 1 - (1 - i)=i by omega];rfl
def DX(h:a≠b){m:Nat}{t:List Nat}(hm:0<m)(ht:Lst (GlO (abP a b) [m,m]) t):t=if g9 [b,a] (m:Int)++[b]<g9 [a,b] (m:Int)++[a] then g9 [b,a] (m:Int)++[b] else g9 [a,b] (m:Int)++[a]:=by
 have eA:alN a b 0 (2*m+1)=g9 [a,b] (m:Int)++[a]:=xv 0 (by decide) m;have eB:alN a b 1 (2*m+1)=g9 [b,a] (m:Int)++[b]:=xv 1 (by decide) m;have gA:=zy h hm (i:=0) (by decide);have gB:=zy h hm (i:=1) (by decide);have lA:(alN a b 0 (2*m+1)).length=2*m+1:=xw _ _;have lB:(alN a b 1 (2*m+1)).length=2*m+1:=xw _ _
 have cs:∀u,GlO (abP a b) [m,m] u->2*m+1<u.length\/u=alN a b 0 (2*m+1)\/u=alN a b 1 (2*m+1):=λu hu=>by
  obtain⟨h1,h2⟩:=DW h hm hu
  rcases GX (2*m+1) u.length with z|z
  .exact .inl z
  .obtain⟨i,hi,e⟩:=h2 (by omega)
   rcases (show i=0\/i=1 by omega) with rfl|rfl
   .exact .inr (.inl e)
   .exact .inr (.inr e)
 rw [<- eA,<- eB];generalize alN a b 0 (2*m+1)=A at *;generalize alN a b 1 (2*m+1)=B at *;refine ht.uniq ?_
 by_cases c:B<A
 .rw [if_pos c];refine⟨gB,λu hu=>kj.mpr ?_⟩
  rcases cs u hu with z|rfl|rfl
  .exact .inl (by omega)
  .exact .inr ⟨by omega,λz=>i5 _ (kO _ _ _ (by omega) (by omega) z c)⟩
  .exact .inr ⟨rfl,i5 _⟩
 .rw [if_neg c];refine⟨gA,λu hu=>kj.mpr ?_⟩
  rcases cs u hu with z|rfl|rfl
  .exact .inl (by omega)
  .exact .inr ⟨rfl,i5 _⟩
  .exact .inr ⟨by omega,c⟩
end
def nt{ps:List (List Nat)}{n:Nat}(hn:∀i,i<ps.length->(pw ps i).length=n)(h:∀i j,i<ps.length->j<ps.length->i≠j->pw ps i≠pw ps j){i:Nat}(hi:i<ps.length):bM ps i=true :=
 j5 (λi j hi hj e z=>h i j hi hj e (z.eq_of_length (by rw [hn i hi,hn j hj]))) hi
def DY{js t:List Nat}(hp:js.Perm t)(hn:t.Nodup)(hl:2<=t.length):∃x y r,js=x::y::r/\x≠y/\x∈t/\y∈t:=by
 have h1:=hp.length_eq;have h2:=hp.nodup_iff.mpr hn
 match js,hp,h1,h2 with
 | [],_,h1,_=>have h1:0=t.length:=h1;omega
 | [_],_,h1,_=>have h1:1=t.length:=h1;omega
 | x::y::r,hp,_,h2 =>
  refine⟨x,y,r,rfl,λe=>?_,hp.mem_iff.mp (by simp),hp.mem_iff.mp (by simp)⟩;subst e;exact (Ia.mp h2).1 (mem_cons_self ..)
noncomputable def abc:List Nat:=[97,98,99,100,101,102,103,104,105,106,107,108,109,110,111,112,113,114,115,116,117,118,119,120,121,122]
def gN:abc.Nodup/\abc.length=26/\Lts abc:=⟨by decide,rfl,λc hc=>by
 have:∀c∈abc,97<=c/\c<=122:=by decide
 exact this c hc⟩
noncomputable def ee:FR:=λp ds Q=>oL (λes_=>cI (λc0=>cI (λc1=>cN (cN (SOk (c0,c1)/\∀s:Int×Int,SOk s->Q (.dat (.bl true)) (stv s)) ds))) es_) p
theorem zA{ps:List (List Nat)}:∀(js:List Nat) (i:Nat),(∀j∈i::js,(pw ps j).length=1)->glT ps i js=(js.map (pw ps)).flatten
 | [],_,_=>rfl
 | j::r,i,h=>by
  have hi:=h i (mem_cons_self ..);have hj:=h j (m_ _ (mem_cons_self ..));have hl:=(dQ (a:=pw ps i) (b:=pw ps j) (by omega) (by omega)).1;show (pw ps j).drop (cA (pw ps i) (pw ps j))++glT ps j r=pw ps j++(r.map (pw ps)).flatten;rw [show cA (pw ps i) (pw ps j)=0 by omega,zA r j λk hk=>h k (m_ _ hk)];rfl
def xx{ps:List (List Nat)}{js:List Nat}(h:∀j∈js,(pw ps j).length=1):glN ps js=(js.map (pw ps)).flatten:=by
 cases js with
 | nil=>rfl
 | cons i r=>show pw ps i++glT ps i r=_;rw [zA r i h];rfl
theorem qV:∀{t u:List Nat},t.Pairwise (·<=·)->u.Perm t->¬ u<t
 | [],u,_,h=>by rw [perm_nil.mp h];exact i5 _
 | a::t,[],_,h=>by have:=h.length_eq;cases this
 | a::t,b::u,hs,h=>by
  obtain⟨h1,h2⟩:=Ju.mp hs
  have hb:a<=b:=by
   rcases w_.mp (h.mem_iff.mp (mem_cons_self ..)) with e|e
   .omega
   .exact h1 b e
  intro z
  rcases GH.mp z with c|⟨e,c⟩
  .omega
  .subst e;exact qV h2 h.cons_inv c
noncomputable def wsL(x y z c1 c2 c3:Nat):List (List Nat):=[f_ c1 x,f_ c2 y,f_ c3 z]
section
variable {x y z c1 c2 c3:Nat}
def rw3:rwN [c1,c2,c3] 3=f_ c1 0++f_ c2 1++f_ c3 2:=by
 rw [show (3:Nat)=0+1+1+1 from rfl,eF,eF,eF];rfl
def Bt{u:List Nat}(h:GlO [[x],[y],[z]] [c1,c2,c3] u):u.Perm (wsL x y z c1 c2 c3).flatten:=by
 obtain⟨js,hj,rfl⟩:=h
 have hl:∀j∈js,(pw [[x],[y],[z]] j).length=1:=λj h=>by
  have:j<3:=qQ (hj.mem_iff.mp h);rcases (show j=0\/j=1\/j=2 by omega) with rfl|rfl|rfl <;> rfl
 rw [xx hl];refine ((hj.map _).flatten).trans ?_;rw [show [c1,c2,c3].length=3 from rfl,rw3,map_append,map_append,map_replicate,map_replicate,map_replicate,flatten_append,flatten_append]
 have e:∀(n c:Nat),(f_ n [c]).flatten=f_ n c:=λn c=>by
  induction n with
  | zero=>rfl
  | succ n ih=>rw [replicate_succ,flatten_cons,ih,replicate_succ];rfl
 show ((f_ c1 [x]).flatten++(f_ c2 [y]).flatten++(f_ c3 [z]).flatten).Perm (f_ c1 x++(f_ c2 y++(f_ c3 z++[])));rw [e,e,e,append_nil,append_assoc]
def Bu(hxy:x≠y)(hxz:x≠z)(hyz:y≠z)(h1:0<c1)(h2:0<c2)(h3:0<c3){ws:List (List Nat)}(hp:ws.Perm (wsL x y z c1 c2 c3))(hs:ws.Pairwise λa b=>¬ b<a){t:List Nat}(ht:Lst (GlO [[x],[y],[z]] [c1,c2,c3]) t):t=ws.flatten:=by
 have hpf:ws.flatten.Perm (wsL x y z c1 c2 c3).flatten:=hp.flatten
 have mem:∀w∈ws,∃v n,w=f_ (n+1) v:=λw hw=>by
  rcases w_.mp (hp.mem_iff.mp hw) with rfl|hw
  .exact⟨x,c1 - 1,by rw [show c1 - 1+1=c1 by omega]⟩
  .rcases w_.mp hw with rfl|hw
   .exact⟨y,c2 - 1,by rw [show c2 - 1+1=c2 by omega]⟩
   .rw [v_.mp hw];exact⟨z,c3 - 1,by rw [show c3 - 1+1=c3 by omega]⟩
 have srt:ws.flatten.Pairwise (·<=·):=pairwise_flatten.mpr ⟨λw hw=>by
  obtain⟨v,n,rfl⟩:=mem w hw;exact pairwise_replicate.mpr (.inr (o_ _)),hs.imp_of_mem λ{a b} ha hb hab p hpa q hqb=>by
  obtain⟨v,n,rfl⟩:=mem a ha;obtain⟨v2,n2,rfl⟩:=mem b hb;rw [(HH.mp hpa).2,(HH.mp hqb).2]
  rcases GX v2 v with c|c
  .refine absurd ?_ hab;rw [replicate_succ,replicate_succ];exact GH.mpr (.inl c)
  .exact c⟩
 refine ht.uniq ⟨⟨ws.flatten.map λc=>if c=x then 0 else if c=y then 1 else 2,?_,?_⟩,λu hu=>kj.mpr (.inr ?_)⟩
 .refine (hpf.map _).trans ?_;rw [show [c1,c2,c3].length=3 from rfl,rw3];show (List.map _ (f_ c1 x++(f_ c2 y++(f_ c3 z++[])))).Perm _;rw [append_nil,map_append,map_append,map_replicate,map_replicate,map_replicate,if_pos rfl,if_neg (HA hxy),if_pos rfl,if_neg (HA hxz),if_neg (HA hyz),append_assoc]
 .have mm:∀c∈ws.flatten,pw [[x],[y],[z]] (if c=x then 0 else if c=y then 1 else 2)=[c]:=λc hc=>by
   have hc:=hpf.mem_iff.mp hc
   by_cases e:c=x
   .rw [if_pos e,e];rfl
   .by_cases e2:c=y
    .rw [if_neg e,if_pos e2,e2];rfl
    .rw [if_neg e,if_neg e2]
     have:c=z:=by
      obtain⟨w,hw,hcw⟩:=mem_flatten.mp hc
      rcases w_.mp hw with rfl|hw
      .exact absurd (HH.mp hcw).2 e
      .rcases w_.mp hw with rfl|hw
       .exact absurd (HH.mp hcw).2 e2
       .rw [v_.mp hw] at hcw;exact (HH.mp hcw).2
     rw [this];rfl
  rw [xx λj hj=>by
   obtain⟨c,hc,rfl⟩:=Hb.mp hj;rw [mm c hc];rfl,map_map,Ja (f:=pw [[x],[y],[z]] ∘ λc=>if c=x then 0 else if c=y then 1 else 2) (g:=λc=>[c]) (λc hc=>mm c hc)]
  clear mm srt hpf;generalize ws.flatten=l
  induction l with
  | nil=>rfl
  | cons a l ih=>rw [map_cons,flatten_cons,<- ih];rfl
 .have hpu:=(Bt hu).trans hpf.symm;exact⟨hpu.length_eq,qV srt hpu⟩
end
def yC{js t:List Nat}(hp:js.Perm t)(hn:t.Nodup)(hl:3<=t.length):∃x y z r,js=x::y::z::r/\x≠y/\x≠z/\y≠z/\x∈t/\y∈t/\z∈t:=by
 have h1:=hp.length_eq;have h2:=hp.nodup_iff.mpr hn
 match js,hp,h1,h2 with
 | [],_,h1,_=>have h1:0=t.length:=h1;omega
 | [_],_,h1,_=>have h1:1=t.length:=h1;omega
 | [_,_],_,h1,_=>have h1:2=t.length:=h1;omega
 | x::y::z::r,hp,_,h2 =>
  have n1:=Ia.mp h2;have n2:=Ia.mp n1.2;exact⟨x,y,z,r,rfl,λe=>n1.1 (by rw [e];simp),λe=>n1.1 (by rw [e];simp),λe=>n2.1 (by rw [e];simp),hp.mem_iff.mp (by simp),hp.mem_iff.mp (by simp),hp.mem_iff.mp (by simp)⟩
def yD{js:List Nat}(hp:js.Perm [9,9,4]):∃c1 c2 c3,js=[c1,c2,c3]/\(∀c∈js,1<=c/\c<=9)/\stp js js.length<=500:=by
 have h1:js.length=3:=hp.length_eq
 match js,hp,h1 with
 | [c1,c2,c3],hp,_ =>
  have mb:∀c∈[c1,c2,c3],c=9\/c=4:=λc hc=>by
   have:=hp.mem_iff.mp hc;simp at this;exact this
  have hs:c1+(c2+(c3+0))=22:=hp.sum_nat;refine⟨c1,c2,c3,rfl,λc hc=>by rcases mb c hc with e|e <;> omega,?_⟩;show 1*(c1+1)*(c2+1)*(c3+1)<=500;rcases mb c1 (by simp) with rfl|rfl <;> rcases mb c2 (by simp) with rfl|rfl <;> rcases mb c3 (by simp) with rfl|rfl <;> first|omega|decide
noncomputable def cW:FR:=λp ds Q=>oL (λes_=>cI (λc0=>cI (λc1=>cN (cN (SOk (c0,c1)/\∀s:Int×Int,SOk s->Q (.dat (.bl true)) (stv s)) ds))) es_) p
def zB:Nat:=6
abbrev zC:FN:=FJ
noncomputable def qW(K:a_)(mg:Str->Option Value)(t:TxC K):=(have TC:=t;show LS K [] _ _ from (aK (C2 .list .tuple mK (ah (i:=0)))))
def xy:PTS:=psO qW
def xz:PRl lK xy 1 1:=λ_ Q h=>vk h λd _ h=>cC h λh=>pj rfl <| by
 walk_at "z";obtain⟨hd,q⟩:=h;cases d <;> first|(cases hd;done)|(walk_at "r";exact q)
noncomputable def km(K:a_)(mg:Str->Option Value)(t:TxC K):=(have TC:=t;show LS K [] _ _ from (aK (tM (tQ .int (ah (i:=0))) (yN (tQ .bool (ah (i:=0)))))))
def qX:PTS:=psO km
def qY:PRl gI qX 1 1:=λ_ Q h=>vk h λd _ h=>cC h λh=>pj rfl <| by
 walk_at "z";obtain⟨hd,q⟩:=h;cases d <;> first|(cases hd;done)|(walk_at "r";exact q)
noncomputable def zD(K:a_)(mg:Str->Option Value)(t:TxC K):=(have TC:=t;show LS K [] _ _ from (ao (cr (C5 (aa (ac (al dN (ac (aU rR (aa (ac (aU aW (aa (ah (i:=0)) ae))) (aa (ac (aU aW (aa (ah (i:=1)) ae))) ae)))) (ac (le_int (i:=1))))) (aa (ac (le_int (i:=0))) (aa (ac (Ax wC (ac (le_int (i:=1))))) ae)))) (au (i:=2) rfl) (bn (mI (wB AR (ai (i:=0)) (aa (ac (aM (ah (i:=1)) aO (aF (ai (i:=2))))) ae))) (aK (ai (i:=2))) aH)) (aK (le_int (i:=0)))))
def DZ:PTS:=psO zD
def D0:PRl qS DZ 3 2:=λ_ Q h=>ii h λa _ h=>ii h λb _ h=>cC h λh=>pj rfl <| by
 walk_at "z";obtain⟨⟨a0,a1⟩,⟨b0,b1⟩,q⟩:=h;have hm:(if (b.length:Int)<(a.length:Int) then (b.length:Int) else (a.length:Int))=((min a.length b.length:Nat):Int):=by split <;> omega
 walk_at "r"
 refine⟨λi ρ=>(∃v2:Option PV,ρ=[some (.dat (.str a)),some (.dat (.str b)),v2])/\∀j,min a.length b.length - i<=j->j<min a.length b.length->¬ b.take j <:+ a,⟨⟨_,rfl⟩,λj h1 h2=>by omega⟩,?_,?_⟩
 .rintro i ρ d hi ed ⟨⟨v2,rfl⟩,ih⟩;have hi:i<(((if (b.length:Int)<(a.length:Int) then (b.length:Int) else (a.length:Int)) - 1) - 0).toNat:=hi;have ed:d=.int (((if (b.length:Int)<(a.length:Int) then (b.length:Int) else (a.length:Int)) - 1) - (i:Int)):=ed;rw [hm] at hi ed;obtain⟨k,hk,hk2⟩:∃k:Nat,(((min a.length b.length:Nat):Int) - 1) - (i:Int)=(k:Int)/\k=min a.length b.length - 1 - i:=⟨min a.length b.length - 1 - i,by omega,rfl⟩
  rw [hk] at ed;subst ed;walk_at "r";rw [dL]
  refine cJ (λc=>?_) (λc=>?_)
  .walk_at "r"
   rw [show cA a b=k from ot ⟨by omega,c,λj h1 h2=>by
    rcases GX k j with h|h
    .exact absurd h2 (ih j (by omega) h1)
    .exact h⟩] at q
   exact q
  .refine⟨⟨_,rfl⟩,λj h1 h2=>?_⟩
   by_cases hj:j=k
   .rw [hj];exact c
   .exact ih j (by omega) h2
 .rintro ρ ⟨⟨v2,rfl⟩,ih⟩;rw [hm] at ih;walk_at "r"
  rw [show cA a b=0 from ot ⟨by omega,by rw [take_zero];exact Jc,λj h1 h2=>by
   rcases eq_zero_or_pos j with h|h
   .omega
   .exact absurd h2 (ih j (by omega) h1)⟩] at q
  exact q
noncomputable def lP(K:a_)(mg:Str->Option Value)(t:TxC K):=(have TC:=t;show LS K [] _ _ from (aK (aU i3 (aa (ac (bK (ix:=[none,some 0]) rfl (dA (ai (i:=0))) (λfs hc=>(au (i:=0) (jH hc (by decide)))) dB (aU i3 (aa (ac (bK (ix:=[none,some 0]) rfl (dA (ai (i:=1))) (λfs hc=>(au (i:=0) (jH hc (by decide)))) dB (ax (c:=qS) (aa (ac (ai (i:=1))) (aa (ac (ai (i:=0))) ae))))) ae)))) ae))))
def sd:PTS:=psO lP
def se:PRl fJ sd 1 1:=λ_ Q h=>BJ h λds _ h=>cC h λh=>pj rfl <| by
 walk_at "z";obtain⟨ws,rfl,⟨hn,hw⟩,q⟩:=h;have hlm:(ws.map D.str).length=ws.length:=length_map _
 have rr:∀f:List Nat->D,(e_ (ws.map D.str).length).map (λk=>f (pw ws k))=ws.map f:=λf=>by
  rw [hlm];apply IW;intro k;rw [i_,i_]
  by_cases hk:k<ws.length
  .rw [GK hk,dO hk];rfl
  .rw [we (by rw [B_];omega),we (by omega)];rfl
 walk_at "r"
 refine yW (λτ=>∃v,τ=[v,some (.dat (.tup (ws.map .str)))]) (λk=>.tup (ws.map λv=>.int (cA (pw ws k) v:Int))) ?_ ?_ ?_
 .exact⟨_,rfl⟩
 .rintro k τ d hk ed ⟨v,rfl⟩ K1 k1;rw [iy hk] at ed;subst ed;have w1:=hw _ (cK (show k<ws.length by omega));walk_at "r"
  refine yW (λτ=>∃v,τ=[v,some (.dat (.str (pw ws k)))]) (λj=>.int (cA (pw ws k) (pw ws j):Int)) ?_ ?_ ?_
  .exact⟨_,rfl⟩
  .rintro j τ d hj ed ⟨v,rfl⟩ K2 k2;rw [iy hj] at ed;subst ed;have w2:=hw _ (cK (show j<ws.length by omega));walk_at "r";exact k2 _ ⟨_,rfl⟩
  .rintro τ ⟨v,rfl⟩;rw [rr (λw=>D.int (cA (pw ws k) w:Int))];walk_at "r";exact k1 _ ⟨_,rfl⟩
 .rintro τ ⟨v,rfl⟩;rw [rr (λw=>D.tup (ws.map λv=>.int (cA w v:Int)))];walk_at "r";exact q
noncomputable def nu:PTS:=(h9 (AF (pOr (EA (pB (FF .str (pSl 0)))) (EA (pB (wv fLe fLe (pSl 1) (pFz (pCB AD (bH (pSl 0) eJ))) (pSl 2))))) (ww (pC (.bl false))) ll) (ww (pCB EU (bH (pFz (AJ [none] (C4 (qo 0)) (ei 0) x9 (wv fLe fLe (pFz (pC (.str [97]))) (pSl 0) (pFz (pC (.str [122])))))) eJ))))
def j6:PRl e9 nu 3 3:=λ_ Q h=>vk h λd _ h=>dq h λa _ h=>dq h λb _ h=>cC h λh=>pj rfl <| by
 walk_at "z";obtain⟨hd,hl,q⟩:=h
 cases d with
 | str l =>
  have hl:l.length<=1000000:=hl;walk_at "r"
  refine cJ (λc1=>?_) (λc1=>?_)
  .walk_at "r"
   refine nV (λc2=>?_) (λc2=>?_)
   .walk_at "r";rw [show yc (.str l) a b=false by rw [oj,decide_eq_false c2,Ka];rfl] at q;exact q
   .walk_at "r"
    refine yW (λτ=>∃v,τ=[v]) (λk=>.bl (ltB (l.getD k 0))) ?_ ?_ ?_
    .exact⟨_,rfl⟩
    .rintro k τ _ hk rfl ⟨v,rfl⟩ K1 k1;walk_at "r"
     refine nV (λc=>?_) (λc=>?_)
     .have hc:97<=l.getD k 0:=of_decide_eq_true (by rw [<- rV];rw [decide_eq_false c];rfl);walk_at "r";show K1 (.bl (!decide (([122]:List Nat)<[l.getD k 0]))) _;rw [rV];rw [show ltB (l.getD k 0)=decide (l.getD k 0<=122) by unfold ltB;rw [decide_eq_true hc];rfl] at k1;exact k1 _ ⟨_,rfl⟩
     .have hc:¬ 97<=l.getD k 0:=of_decide_eq_false (by rw [<- rV,decide_eq_true c];rfl);walk_at "r";rw [show ltB (l.getD k 0)=false by unfold ltB;rw [decide_eq_false hc];rfl] at k1;exact k1 _ ⟨_,rfl⟩
    .rintro τ ⟨v,rfl⟩;walk_at "r";refine⟨(e_ l.length).map λk=>ltB (l.getD k 0),by rw [map_map];rfl,?_⟩
     have e:yc (.str l) a b=(((e_ l.length).map λk=>ltB (l.getD k 0)).all id):=by
      rw [oj,decide_eq_true c1,decide_eq_true c2,Bool.and_self,Bool.true_and,rT];rw [all_map];rfl
     rw [e] at q;exact q
  .walk_at "r";rw [show yc (.str l) a b=false by rw [oj,decide_eq_false c1,J6];rfl] at q;exact q
 | non=>walk_at "r";exact q
 | bl b=>walk_at "r";exact q
 | int i=>walk_at "r";exact q
 | ty n=>cases hd
 | lst ds=>walk_at "r";exact q
 | tup ds=>walk_at "r";exact q
 | scr ns=>cases hd
 | dic ks ds=>walk_at "r";exact q
 | obj c ns ds=>cases hd
 | exc c ns ds=>cases hd
noncomputable def lQ(K:a_)(mg:Str->Option Value)(t:TxC K):=(have TC:=t;show LS K [] _ _ from (aK (tM (ax (c:=gI) (aa (ac (ai (i:=0))) ae)) (nZ uM uM (ah (i:=1)) (ah (i:=0)) (ah (i:=2))))))
def sg:PTS:=psO lQ
def sh:PRl iH sg 3 3:=λ_ Q h=>vk h λd _ h=>dq h λa _ h=>dq h λb _ h=>cC h λh=>pj rfl <| by
 walk_at "z";obtain⟨hd,q⟩:=h
 cases d with
 | int i =>
  walk_at "r"
  refine cJ (λc=>?_) (λc=>?_)
  .walk_at "r";rw [show BL (.int i) a b=decide (i<=b) by unfold BL;rw [show AT (.int i)=true from rfl,show toI (.int i)=i from rfl,decide_eq_true c];rfl] at q;exact q
  .walk_at "r";rw [show BL (.int i) a b=false by unfold BL;rw [show toI (.int i)=i from rfl,decide_eq_false c,J6,Ka]] at q;exact q
 | str l=>walk_at "r";exact q
 | non=>walk_at "r";exact q
 | bl b=>walk_at "r";exact q
 | lst ds=>walk_at "r";exact q
 | tup ds=>walk_at "r";exact q
 | ty n=>cases hd
 | scr ns=>cases hd
 | dic ks ds=>walk_at "r";exact q
 | obj c ns ds=>cases hd
 | exc c ns ds=>cases hd
noncomputable def il(K:a_)(mg:Str->Option Value)(t:TxC K):=(have TC:=t;show LS K [] _ _ from (aK (wB tX (ai (i:=0)) (aa (ah (i:=1)) ae))))
def mO:PTS:=psO il
def mP:PRl eS mO 2 2:=λ_ Q h=>ii h λa _ h=>ii h λb _ h=>cC h λh=>pj rfl <| by
 walk_at "z";walk_at "r";exact h
noncomputable def gP(K:a_)(mg:Str->Option Value)(t:TxC K):=(have TC:=t;show LS K [] _ _ from (ao (bn (dn (al h8 (ac (aU aW (aa (ah (i:=0)) ae))) (ac (le_int (i:=40))))) eo aH) (cr (rP (aa (ac (ai (i:=0))) ae)) (eM (n:=2) (aY (au (i:=1) rfl) (aY (au (i:=2) rfl) c8))) (bn (eY (mI (yb (c:=e9) (vs0:=[]) (ds:=[]) (by repeat (first|exact .nil|exact .cons (.int _) .nil|refine .cons (.int _) ?_)) (aa (ac (ai (i:=2))) (aa (ac (le_int (i:=1))) (aa (ac (le_int (i:=60))) ae)))))) eo aH))))
def lR:PTS:=psO gP
def lS:PRl cM lR 3 1:=λ_ Q h=>vk h λd _ h=>cC h λh=>pj rfl <| by
 walk_at "z";obtain⟨ws,hd,⟨hn,hp⟩,q⟩:=h;have hlm:(ws.map D.str).length=ws.length:=length_map _
 rcases hd with rfl|rfl
 .walk_at "r"
  refine⟨λk ρ=>∃v1 v2:Option PV,ρ=[some (.dat (.lst (ws.map .str))),v1,v2],⟨_,_,rfl⟩,?_,?_⟩
  .rintro k ρ d hk ed ⟨v1,v2,rfl⟩;have ed:d=.tup [.int k,itD (ws.map D.str) k]:=ed;rw [iy hk] at ed;subst ed;have hw:=hp _ (cK (show k<ws.length by omega));have ht:yc (.str (pw ws k)) 1 60=true:=wD.mpr hw;have h1:(pw ws k).length<=1000000:=by have:=hw.2.1;omega
   walk_at "r";refine Av ht ?_;exact⟨_,_,rfl⟩
  .rintro ρ ⟨v1,v2,rfl⟩;exact q
 .walk_at "r"
  refine⟨λk ρ=>∃v1 v2:Option PV,ρ=[some (.dat (.tup (ws.map .str))),v1,v2],⟨_,_,rfl⟩,?_,?_⟩
  .rintro k ρ d hk ed ⟨v1,v2,rfl⟩;have ed:d=.tup [.int k,itD (ws.map D.str) k]:=ed;rw [iy hk] at ed;subst ed;have hw:=hp _ (cK (show k<ws.length by omega));have ht:yc (.str (pw ws k)) 1 60=true:=wD.mpr hw;have h1:(pw ws k).length<=1000000:=by have:=hw.2.1;omega
   walk_at "r";refine Av ht ?_;exact⟨_,_,rfl⟩
  .rintro ρ ⟨v1,v2,rfl⟩;exact q
noncomputable def fX(K:a_)(mg:Str->Option Value)(t:TxC K):=(have TC:=t;show LS K [] _ _ from (aK (al CU (ac (ax (c:=eS) (aa (ac (ai (i:=1))) (aa (ac (ai (i:=0))) ae)))) (ac (le_int (i:=0))))))
def kF:PTS:=psO fX
def kG:PRl cE kF 2 2:=λ_ Q h=>ii h λa _ h=>ii h λb _ h=>cC h λh=>pj rfl <| by
 walk_at "z";walk_at "r";exact h
noncomputable def nv(K:a_)(mg:Str->Option Value)(t:TxC K):=(have TC:=t;show LS K [] _ _ from (ao (aw (al bg (ah (i:=0)) (ah (i:=1))) (ar (i:=2) rfl)) (ao (aw (bK (ix:=[none,some 2]) rfl (dA (ai (i:=0))) (λfs hc=>(au (i:=0) (jH hc (by decide)))) (dn (al h8 (ac (aU aW (aa (ah (i:=0)) ae))) (ac (aU aW (aa (ah (i:=1)) ae))))) (ai (i:=0))) (ar (i:=3) rfl)) (aK (tM (al (y8 (neg:=true)) (ah (i:=2)) (ac (aM (ah (i:=0)) aO (aF (ai (i:=1)))))) (yN (aU Dj (aa (ac (bK (ix:=[none,some 2]) rfl (dA (ai (i:=3))) (λfs hc=>(au (i:=0) (jH hc (by decide)))) dB (ax (c:=cE) (aa (ac (ai (i:=1))) (aa (ac (ai (i:=0))) ae))))) ae))))))))
def u5:PTS:=psO nv
def u6:PRl j2 u5 4 2:=λ_ Q h=>vk h λd _ h=>dq h λi _ h=>cC h λh=>pj rfl <| by
 walk_at "z";obtain⟨ws,hd,⟨hn,hw⟩,hi,q⟩:=h;obtain⟨k,rfl⟩:∃k:Nat,i=(k:Int):=⟨i.toNat,by omega⟩
 have hk:k<ws.length:=by omega
 have hlm:(ws.map D.str).length=ws.length:=length_map _;have w1:=hw _ (cK hk)
 rcases hd with rfl|rfl <;> (
  walk_at "r";refine⟨_,ft hk rfl,?_⟩;walk_at "r"
  refine cfm (λτ=>∃v,τ=[v,some (.dat (.str (pw ws k)))]) (λj=>if (pw ws k).length<(pw ws j).length then some (.str (pw ws j)) else none) ?_ ?_ ?_
  .exact⟨_,rfl⟩
  .rintro j τ d hj ed ⟨v,rfl⟩ K1 K2 k1 k2;rw [iy hj] at ed;subst ed;have w2:=hw _ (cK (show j<ws.length by omega));walk_at "r"
   refine cJ (λc=>?_) (λc=>?_)
   .walk_at "r";exact k1 _ _ (by rw [if_pos (by omega)]) ⟨_,rfl⟩
   .exact k2 _ (by rw [if_neg (by omega)]) ⟨_,rfl⟩
  .rintro τ ⟨v,rfl⟩
   have e1:(e_ (ws.map D.str).length).filterMap (λj=>if (pw ws k).length<(pw ws j).length then some (D.str (pw ws j)) else none)=(ws.filter λo=>decide ((pw ws k).length<o.length)).map D.str:=by
    rw [hlm,yi (λw=>if (pw ws k).length<w.length then some (D.str w) else none) ws,<- gk];congr 1;funext w
    by_cases h:(pw ws k).length<w.length
    .rw [if_pos h,if_pos (decide_eq_true h)]
    .rw [if_neg h,if_neg (by rw [decide_eq_false h];decide)]
   rw [e1];have hll:(ws.filter λo=>decide ((pw ws k).length<o.length)).length<=ws.length:=JB ..;generalize hL:(ws.filter λo=>decide ((pw ws k).length<o.length))=ls at hll ⊢;have hlm2:(ls.map D.str).length=ls.length:=length_map _;have c1:cZ (ws.map D.str) none (some (k:Int))=(ws.take k).map D.str:=by rw [dL,map_take]
   have hfl:(cZ (ws.map D.str) none (some (k:Int))).all D.fl=true:=by rw [c1];exact wM _
   have hin:inD (.str (pw ws k)) (cZ (ws.map D.str) none (some (k:Int)))=decide (pw ws k∈ws.take k):=by rw [c1];exact ou _ _
   have hkb:bM ws k=(!inD (.str (pw ws k)) (cZ (ws.map D.str) none (some (k:Int))) && !ls.any λo=>ia (pw ws k) o):=by
    unfold bM;rw [hin,hL]
   rw [toNat_natCast,hkb] at q;walk_at "r"
   refine Au (CO (λc=>?_) (λc=>?_))
   .walk_at "r";have c:inD (.str (pw ws k)) (cZ (ws.map D.str) none (some (k:Int)))=true:=c;rw [c] at q;exact q
   .have c:inD (.str (pw ws k)) (cZ (ws.map D.str) none (some (k:Int)))=false:=c;rw [c,Bool.not_false,Bool.true_and] at q;walk_at "r"
    refine yW (λτ=>∃v,τ=[v,some (.dat (.str (pw ws k)))]) (λj=>.bl (ia (pw ws k) (pw ls j))) ?_ ?_ ?_
    .exact⟨_,rfl⟩
    .rintro j τ d hj ed ⟨v,rfl⟩ K1 k1;rw [iy hj] at ed;subst ed;walk_at "r";exact k1 _ ⟨_,rfl⟩
    .rintro τ ⟨v,rfl⟩;walk_at "r"
     refine⟨ls.map λo=>ia (pw ws k) o,?_,?_⟩
     .rw [hlm2,map_map]
      conv=>rhs;rw [<- y6 ls,map_map]
      rfl
     .rw [show ((ls.map λo=>ia (pw ws k) o).any id)=ls.any (λo=>ia (pw ws k) o) by rw [any_map];rfl];walk_at "r";exact q)
noncomputable def im(K:a_)(mg:Str->Option Value)(t:TxC K):=(have TC:=t;show LS K [] _ _ from (cr (gi (aa (ac (aU aW (aa (ah (i:=0)) ae))) ae)) (au (i:=1) rfl) (bn (eY (mI (ax (c:=j2) (aa (ac (ai (i:=0))) (aa (ac (ai (i:=1))) ae))))) eo aH)))
def mQ:PTS:=psO im
def mR:PRl di mQ 2 1:=λ_ Q h=>vk h λd _ h=>cC h λh=>pj rfl <| by
 walk_at "z";obtain⟨ws,hd,⟨hn,hp,hk⟩,q⟩:=h;have hlm:(ws.map D.str).length=ws.length:=length_map _;walk_at "r";refine y0 hd ?_;walk_at "r"
 refine⟨λk ρ=>∃v:Option PV,ρ=[some (.dat d),v],⟨_,rfl⟩,?_,?_⟩
 .rintro k ρ _ hi rfl ⟨v,rfl⟩;have hi:k<ws.length:=by rw [hlm,toNat_natCast] at hi;exact hi
  have h1:ws.length<=1000/\∀w∈ws,w.length<=10000:=⟨by omega,λw hw=>E_ (hp w hw).2.1 (by decide)⟩
  have h2:0<=(k:Int)/\(k:Int)<(ws.length:Int):=⟨by omega,by omega⟩
  have h3:bM ws (k:Int).toNat=true:=hk k hi;walk_at "r";refine⟨ws,hd,h1,h2,?_⟩;rw [h3];walk_at "r";exact⟨_,rfl⟩
 .rintro ρ ⟨v,rfl⟩;walk_at "r";exact q
noncomputable def gQ(K:a_)(mg:Str->Option Value)(t:TxC K):=(have TC:=t;show LS K [] _ _ from (ao (bn (eY (mI (ax (c:=lK) (aa (ac (ai (i:=0))) ae)))) eo aH) (ao (cr (rP (aa (ac (aM (ah (i:=0)) aO (aF (ai (i:=1))))) ae)) (eM (n:=2) (aY (au (i:=2) rfl) (aY (au (i:=3) rfl) c8))) (bn (eY (mI (ax (c:=iH) (aa (ac (ai (i:=3))) (aa (ac (le_int (i:=1))) (aa (ac (le_int (i:=9))) ae)))))) eo aH)) (bn (dn (al fV (ac (aU aW (aa (ah (i:=0)) ae))) (ah (i:=1)))) eo aH))))
def lT:PTS:=psO gQ
def lU:PRl cP lT 4 2:=λ_ Q h=>vk h λd _ h=>dq h λm _ h=>cC h λh=>pj rfl <| by
 walk_at "z";obtain⟨cs,hd,⟨rfl,hn,hc⟩,q⟩:=h;have hlm:(cs.map nD).length=cs.length:=length_map _;have ec:cZ (cs.map nD) none (some (cs.length:Int))=cs.map nD:=by rw [dL];exact G0 (by omega)
 have cl:=bv (cs.map nD) none (some (cs.length:Int))
 rcases hd with rfl|rfl <;> (
  walk_at "r";rw [ec]
  refine Gx (xs:=cs) (e:=nD) (λ_ ρ=>∃v2 v3:Option PV,ρ=[_,_,v2,v3]) ⟨_,_,rfl⟩ ?_ ?_
  .rintro pre x suf ρ ew ⟨v2,v3,rfl⟩;have hx:=hc x (by rw [ew];simp)
   have hw:BL (nD x) 1 9=true:=by
    show (true && (decide ((1:Int)<=(x:Int)) && decide ((x:Int)<=9)))=true;rw [decide_eq_true (by omega),decide_eq_true (by omega)];rfl
   walk_at "r";rw [hw];exact⟨_,_,rfl⟩
  .rintro ρ ⟨v2,v3,rfl⟩;walk_at "r";exact q)
noncomputable def lV(K:a_)(mg:Str->Option Value)(t:TxC K):=(have TC:=t;show LS K [] _ _ from (ao (aw (cq ae) (ar (i:=1) rfl)) (ao (aw (le_int (i:=1)) (ar (i:=2) rfl)) (ao (cr (dA (ai (i:=0))) (au (i:=3) rfl) (ao (fq (qt (i:=1) (ai (i:=2)))) (Bd (i:=2) (ar (i:=2) rfl) (al aI (ah (i:=3)) (ac (le_int (i:=1))))))) (aK (lg (aa (ac (ai (i:=1))) (aa (ac (ai (i:=2))) ae))))))))
def si:PTS:=psO lV
def sj:PRl dZ si 4 1:=λ_ Q h=>vk h λd _ h=>cC h λh=>pj rfl <| by
 walk_at "z";obtain⟨cs,hd,⟨hn,hs,hc⟩,q⟩:=h;have hlm:(cs.map nD).length=cs.length:=length_map _;walk_at "r";refine Dr hd ?_
 refine Ea (xs:=cs) (e:=nD) (λpre ρ=>∃v:Option PV,ρ=[some (.dat d),some (.own ((e_ pre.length).map λi=>nD (stp cs i))),some (.dat (.int ((stp cs pre.length:Nat):Int))),v]) ⟨_,rfl⟩ ?_ ?_
 .rintro pre x suf ρ ew ⟨v,rfl⟩;have hl:pre.length<cs.length:=by rw [ew];simp
  have hx:x=cs.getD pre.length 0:=by
   rw [cx,ew,G3 (o_ _)];simp
  have hx9:=hc x (by rw [ew];simp);have hs1:stp cs pre.length<=500:=E_ (by have:=xg cs pre.length (cs.length - pre.length);rwa [show pre.length+(cs.length - pre.length)=cs.length by omega] at this) hs;have hsm:((e_ pre.length).map λi=>nD (stp cs i)).length=pre.length:=by rw [length_map,B_]
  have hm:yH ((stp cs pre.length:Nat):Int) ((x:Int)+1):=.inr ⟨by omega,by omega⟩;have e1:nD x=.int (x:Int):=rfl;rw [e1];walk_at "r";refine⟨some (.dat (.int (x:Int))),?_⟩;rw [length_append,show pre.length+[x].length=pre.length+1 from rfl,range_succ,map_append,show stp cs (pre.length+1)=stp cs pre.length*(x+1) by rw [hx];rfl,natCast_mul];rfl
 .rintro ρ ⟨v,rfl⟩;walk_at "r";exact q
noncomputable def i8:PTS:=(h9 (tS (iZ cM (bH (pFz (qo 1)) eJ))) (h9 (tS (iZ di (bH (pFz (qo 1)) eJ))) (h9 (tS (iZ cP (bH (pFz (qo 2)) (bH (pFz (pCB AD (bH (pSl 1) eJ))) eJ)))) (h9 (AF (pB (pOp fGt (pFz (pOp fIx (pFz (iZ dZ (bH (pFz (qo 2)) eJ))) (pFz (pC (.int 1))))) (pFz (pC (.int 500))))) wx ll) (h9 (qv "Often" [] "pieces" 0 (pCB tV (bH (pSl 1) eJ))) (h9 (qv "Often" ["pieces"] "counts" 0 (pCB tV (bH (pSl 2) eJ))) (h9 (qv "Often" ["pieces","counts"] "laps" 0 (iZ fJ (bH (pFz (D9 "Often" ["pieces","counts"] 0 (pSl 0))) eJ))) (qv "Often" ["pieces","counts","laps"] "total" 0 (pCB AM (bH (pFz (AJ [none,none] (C6 (bH (pFz (D9 "Often" ["pieces","counts","laps"] 0 (pSl 0))) (bH (pFz (D9 "Often" ["pieces","counts","laps"] 1 (pSl 0))) eJ))) (qB 2 (tR (ei 0) (tR (ei 1) AE))) x9 (pOp EI (pFz (pCB AD (bH (pSl 0) eJ))) (pSl 1)))) eJ))))))))))
def fO:RRl br i8 3 3:=λ_ _ Q h=>GC h λh=>vk h λd _ h=>vk h λe _ h=>cC h λh=>pj rfl <| by
 walk_at "z";obtain⟨ps,hd,cs,he,⟨hn,hp,hk,hcl,hc,hs⟩,q⟩:=h;have hpm:(ps.map D.str).length=ps.length:=length_map _;have hcm:(cs.map nD).length=cs.length:=length_map _;have g1:ps.length<=40/\Pcs 60 ps:=⟨by omega,hp⟩
 have g2:ps.length<=40/\Pcs 60 ps/\(∀i,i<ps.length->bM ps i=true):=⟨by omega,hp,hk⟩
 have g5:ps.length<=1000/\∀w∈ps,0<w.length/\w.length<=10000:=⟨by omega,λw hw=>⟨(hp w hw).1,E_ (hp w hw).2.1 (by decide)⟩⟩
 have g4:cs.length<=40/\stp cs cs.length<=500/\∀c∈cs,c<=9:=⟨by omega,hs,λc h=>(hc c h).2⟩
 walk_at "r";refine⟨ps,hd,g1,?_⟩;walk_at "r";refine⟨ps,hd,g2,?_⟩;walk_at "r";refine y0 hd ?_;walk_at "r";refine⟨cs,he,⟨by omega,by omega,λc h=>by have:=hc c h;omega⟩,?_⟩;walk_at "r";refine⟨cs,he,g4,?_⟩;walk_at "r"
 rcases hd with rfl|rfl <;> rcases he with rfl|rfl <;> (
  walk_at "r"
  refine cmZ (xs:=ps) (ys:=cs) (e:=D.str) (e':=nD) (λp c=>.int ((p.length:Int)*(c:Int))) ?_ ?_
  .intro p c hpc v w K1 k1;have h1:=(hp p (IZ hpc).1).2.1;have hm:yH (p.length:Int) (c:Int):=.inl ⟨by omega,by omega⟩;walk_at "r";exact k1 _ _
  intro v w;walk_at "r";refine⟨(ps.zip cs).map λp=>(p.1.length:Int)*(p.2:Int),by rw [map_map];rfl,?_⟩;walk_at "r";exact q)
noncomputable def lW(K:a_)(mg:Str->Option Value)(t:TxC K):=(have TC:=t;show LS K [] _ _ from (ao (bn (dn (al fV (ac (aU aW (aa (ah (i:=0)) ae))) (ac (aU aW (aa (ah (i:=1)) ae))))) (aK (al wt (ac (aU aW (aa (ah (i:=0)) ae))) (ac (aU aW (aa (ah (i:=1)) ae))))) aH) (aK (al wt (ah (i:=0)) (ah (i:=1))))))
def sk:PTS:=psO lW
def sm:PRl iI sk 2 2:=λ_ Q h=>ii h λa _ h=>ii h λb _ h=>cC h λh=>pj rfl <| by
 walk_at "z";have h:Q (.dat (.bl (ahB a b))):=h;unfold ahB at h;walk_at "r"
 refine nV (λc=>?_) (λc=>?_)
 .rw [if_pos (by omega)] at h;walk_at "r";rw [show decide ((a.length:Int)<(b.length:Int))=decide (a.length<b.length) from decide_eq_decide.mpr (by omega)];exact h
 .rw [if_neg (by omega)] at h;walk_at "r";exact h
noncomputable def lX(K:a_)(mg:Str->Option Value)(t:TxC K):=(have TC:=t;show LS K [] _ _ from (ao (aw (al bg (ah (i:=0)) (ac (le_int (i:=0)))) (ar (i:=1) rfl)) (ao (cr (dA (aM (ah (i:=0)) (aF (le_int (i:=1))) aO)) (au (i:=2) rfl) (bn (mI (ax (c:=iI) (aa (ac (ai (i:=2))) (aa (ac (ai (i:=1))) ae)))) (aw (ai (i:=2)) (ar (i:=1) rfl)) aH)) (aK (ai (i:=1))))))
def sr:PTS:=psO lX
def su:PRl d0 sr 3 1:=λ_ Q h=>kC h λds _ h=>cC h λh=>pj rfl <| by
 walk_at "z";obtain⟨ts,rfl,⟨hne,hl⟩,q⟩:=h;obtain⟨t0,r,rfl⟩:∃t0 r,ts=t0::r:=by cases ts with|nil=>exact absurd rfl hne|cons t0 r=>exact⟨t0,r,rfl⟩
 have hl:r.length+1<=100000:=hl;have c1:cZ ((t0::r).map D.str) (some 1) none=r.map D.str:=Gy _ _;have hat:atI ((t0::r).map D.str) 0=some (.str t0):=iV (j:=0) rfl rfl;walk_at "r";refine⟨_,hat,?_⟩;walk_at "r";rw [c1];walk_at "r"
 refine Ea (α:=List Nat) (e:=D.str) (xs:=r) (λ(pre:List (List Nat)) ρ=>∃(b:List Nat) (v:Option PV),Lst (·∈t0::pre) b/\ρ=[some (.dat (.lst ((t0::r).map .str))),some (.dat (.str b)),v]) ⟨_,_,rX t0,rfl⟩ ?_ ?_
 .rintro pre x suf ρ ej ⟨b,v,hb,rfl⟩;have hs:=ui (t:=x) hb;walk_at "r"
  refine CO (λc=>?_) (λc=>?_)
  .rw [if_pos c] at hs;walk_at "r";exact⟨x,_,hs,rfl⟩
  .rw [if_neg (by rw [c];decide)] at hs;exact⟨b,_,hs,rfl⟩
 rintro ρ ⟨b,v,hb,rfl⟩;walk_at "r";exact q b hb
noncomputable def lY(K:a_)(mg:Str->Option Value)(t:TxC K):=(have TC:=t;show LS K [] _ _ from (aK (ue (bK (ix:=[none,none]) rfl (tT (aa (ac (ai (i:=0))) (aa (ac (ai (i:=1))) ae))) (λfs hc=>(eM (n:=2) (aY (au (i:=0) (jH hc (by decide))) (aY (au (i:=1) (jH hc (by decide))) c8)))) dB (bK (ix:=[none,some 0]) rfl (dA (ai (i:=1))) (λfs hc=>(au (i:=0) (jH hc (by decide)))) dB (aM (ah (i:=1)) aO (aF (al dN (ac (aU aW (aa (ah (i:=1)) ae))) (ah (i:=0))))))))))
def sv:PTS:=psO lY
def sw:PRl iJ sv 2 2:=λ_ Q h=>BJ h λds _ h=>BJ h λls _ h=>cC h λh=>pj rfl <| by
 walk_at "z";obtain⟨ws,rfl,⟨hls,hn,hw⟩,q⟩:=h;unfold qE at hls;cases hls;have hm1:(ws.map D.str).length=ws.length:=length_map _;have hm2:(ws.map λw=>D.tup (ws.map λv=>.int (cA w v:Int))).length=ws.length:=length_map _;walk_at "r"
 refine yW (λτ=>∃v w:Option PV,τ=[v,w]) (λi=>.lst ((e_ ws.length).map λj=>.str (hdW ws i j))) ⟨_,_,rfl⟩ ?_ ?_
 .rintro i τ _ hi rfl ⟨v,w,rfl⟩ K1 k1;rw [hm1,hm2,min_self] at hi;have hwi:=hw _ (cK hi);rw [show itD (ws.map D.str) i=.str (pw ws i) from iY (by rw [i_,dO hi];rfl),show itD (ws.map λw=>D.tup (ws.map λv=>.int (cA w v:Int))) i=.tup (ws.map λv=>.int (cA (pw ws i) v:Int)) from iY (by rw [i_,dO hi];rfl)];walk_at "r"
  refine cm1 (e:=λu=>D.int (cA (pw ws i) u:Int)) (xs:=ws) (λu=>.str ((pw ws i).take ((pw ws i).length - cA (pw ws i) u))) (λu hu v K2 k2=>?_) (λv=>?_)
  .have hl:=(dQ hwi.1 (hw u hu).1).1;walk_at "r";rw [show ((pw ws i).length:Int) - (cA (pw ws i) u:Int)=(((pw ws i).length - cA (pw ws i) u:Nat):Int) by omega,dL];exact k2 _
  .rw [zk (α:=Nat) (λu=>D.str ((pw ws i).take ((pw ws i).length - cA (pw ws i) u))) ws];exact k1 _ ⟨_,_,rfl⟩
 .rintro τ ⟨v,w,rfl⟩;rw [hm1,hm2,min_self];exact q
noncomputable def lZ(K:a_)(mg:Str->Option Value)(t:TxC K):=(have TC:=t;show LS K [] _ _ from (ao (aw (cq ae) (ar (i:=3) rfl)) (ao (cr (dA (ai (i:=2))) (au (i:=4) rfl) (ao (aw (bK (ix:=[none,none,some 3]) rfl (dA (ai (i:=4))) (λfs hc=>(eM (n:=2) (aY (au (i:=0) (jH hc (by decide))) (aY (au (i:=1) (jH hc (by decide))) c8)))) dB (lg (aa (ac (ai (i:=0))) (aa (ac (al bg (ac (al bg (ah (i:=2)) (ah (i:=1)))) (ah (i:=0)))) ae)))) (ar (i:=5) rfl)) (fq (qt (i:=3) (ED (E6 (ai (i:=5))) (bK (ix:=[none,some 5]) rfl (dA (ai (i:=0))) (λfs hc=>(au (i:=0) (jH hc (by decide)))) dB (ax (c:=d0) (aa (ac (bK (ix:=[none,none,some 0]) rfl (dA (ai (i:=1))) (λfs hc=>(eM (n:=2) (aY (au (i:=0) (jH hc (by decide))) (aY (au (i:=1) (jH hc (by decide))) c8)))) dB (al aI (ac (al bg (ah (i:=2)) (ah (i:=0)))) (ah (i:=1))))) ae))) (aU n9 (aa (ah (i:=1)) ae))))))) (aK (ai (i:=3))))))
def sx:PTS:=psO lZ
def sy:PRl iM sx 6 3:=λ_ Q h=>kC h λhs _ h=>vk h λla _ h=>kC h λcs _ h=>cC h λh=>pj rfl <| by
 walk_at "z";obtain⟨w,hd,rfl,L,rfl,ls,⟨hla,hL,h60,hl60,hw⟩,q⟩:=h;have hcm:(L.map chD).length=L.length:=length_map _;have hmany:=hL.many;have hhl:(hdD w hd).length=w:=by unfold hdD;rw [length_map,B_]
 walk_at "r"
 refine⟨λk ρ=>∃(es:List (List (List Nat))) (v3 v4 v5:Option PV),lL L hd ls w k es/\ρ=[some (.dat (.lst (hdD w hd))),some (.dat la),some (.dat (.lst (L.map chD))),some (.own (esD es)),v4,v5],⟨[],none,_,_,⟨rfl,(λn h=>absurd h (G_ _)),λn h=>absurd h (G_ _)⟩,rfl⟩,?_,?_⟩
 .rintro k ρ d hk ed ⟨es,v3,v4,v5,hE,rfl⟩;rw [hcm] at hk;subst ed;rw [zl hk];have hch:=hL.ch k;have hfew:=hL.few k;have hel:=hE.len;generalize hc:L.getD k []=c at hch hfew;have hcl:(c.map λp=>D.tup [nD p.1,nD p.2]).length=c.length:=length_map _;have hesl:(esD es).length=k:=by unfold esD;rw [length_map];exact hel
  have hE2:∀p∈c,p.2<k/\p.1<w/\(es.getD p.2 []).length=w/\((es.getD p.2 []).getD p.1 []).length<=300000:=λp hp=>by
   have:=hch p hp;exact⟨this.2,this.1,hE.wid _ this.2,hE.txt hL h60 hl60 this.2 (by omega) this.1⟩
  walk_at "r"
  refine cm2 (e:=λp:Nat×Nat=>D.tup [nD p.1,nD p.2]) (xs:=c) (λp=>.tup [nD p.1,.str ((es.getD p.2 []).getD p.1 [])]) (λp hp v w2 K1 k1=>?_) (λv w2=>?_)
  .obtain⟨p1,p2,p3,p4⟩:=hE2 p hp;show qB 2 _ (.dat (.tup [.int (p.1:Int),.int (p.2:Int)])) _ _;walk_at "r";refine⟨_,zm (by omega),?_⟩;walk_at "r";refine⟨_,ft (k:=p.1) (by rw [p3];exact p2) rfl,?_⟩;walk_at "r";exact k1 _ _
  have hnl:(c.map λp=>D.tup [nD p.1,.str ((es.getD p.2 []).getD p.1 [])]).length=c.length:=length_map _;have hnil:(!(c.map λp=>D.tup [nD p.1,.str ((es.getD p.2 []).getD p.1 [])]).isEmpty)=!c.isEmpty:=by cases c <;> rfl
  walk_at "r";rw [hnil]
  cases hce:c.isEmpty with
  | true =>
   have hcn:c=[]:=isEmpty_iff.mp hce;walk_at "r";refine AW hla ?_;walk_at "r";refine⟨es++[(e_ w).map ls],none,_,_,hE.snoc (by rw [length_map,B_]) (λi hi=>by rw [zn hi];exact A6 (by rw [hc];exact hcn)),by unfold esD;rw [map_append,map_cons,map_map];rfl⟩
  | false =>
   have hcn:c≠[]:=λz=>by rw [z] at hce;cases hce
   walk_at "r";unfold hdD
   refine cm1 (e:=λi=>D.lst ((e_ w).map λj=>D.str (hd i j))) (xs:=e_ w) (λi=>.str (yu (c.map λp=>hd i p.1++(es.getD p.2 []).getD p.1 []))) (λi hi v K1 k1=>?_) (λv=>?_)
   .have hi:=GQ.mp hi;have hrl:((e_ w).map λj=>D.str (hd i j)).length=w:=by rw [length_map,B_]
    walk_at "r"
    refine cm2 (e:=λp:Nat×Nat=>D.tup [nD p.1,.str ((es.getD p.2 []).getD p.1 [])]) (xs:=c) (λp=>.str (hd i p.1++(es.getD p.2 []).getD p.1 [])) (λp hp v w2 K1 k1=>?_) (λv w2=>?_)
    .obtain⟨p1,p2,p3,p4⟩:=hE2 p hp;have h6:=h60 i p.1;show qB 2 _ (.dat (.tup [.int (p.1:Int),.str ((es.getD p.2 []).getD p.1 [])])) _ _;walk_at "r";refine⟨_,DJ p2,?_⟩;walk_at "r";exact k1 _ _
    have e1:c.map (λp=>D.str (hd i p.1++(es.getD p.2 []).getD p.1 []))=(c.map λp=>hd i p.1++(es.getD p.2 []).getD p.1 []).map .str:=by rw [map_map];rfl
    have hne:c.map (λp=>hd i p.1++(es.getD p.2 []).getD p.1 [])≠[]/\(c.map λp=>hd i p.1++(es.getD p.2 []).getD p.1 []).length<=100000:=⟨λz=>hcn (Je.mp z),by rw [length_map];omega⟩
    rw [e1];walk_at "r";intro t ht;rw [ht.uniq (uk hne.1)];exact k1 _
   walk_at "r";refine⟨es++[(e_ w).map λi=>yu (c.map λp=>hd i p.1++(es.getD p.2 []).getD p.1 [])],none,_,_,hE.snoc (by rw [length_map,B_]) (λi hi=>?_),by unfold esD;rw [map_append,map_cons,map_map];rfl⟩;rw [zn hi]
   refine yo (E:=λn j=>(es.getD n []).getD j []) (by rw [hc];exact hcn) (λp hp=>?_) ?_
   .rw [hc] at hp;have:=hch p hp;exact hE.lst _ this.2 _ this.1
   .rw [hc];exact uk λz=>hcn (Je.mp z)
 rintro ρ ⟨es,v3,v4,v5,hE,rfl⟩;rw [hcm] at hE;walk_at "r";exact q es hE
noncomputable def fY(K:a_)(mg:Str->Option Value)(t:TxC K):=(have TC:=t;show LS K [] _ _ from (ao (aw (ax (c:=iM) (aa (ac (ax (c:=iJ) (aa (ac (ai (i:=0))) (aa (ac (ai (i:=1))) ae)))) (aa (ac (ai (i:=0))) (aa (ac (ai (i:=2))) ae)))) (ar (i:=3) rfl)) (aK (ax (c:=d0) (aa (ac (DD (bK (ix:=[none,none,some 3]) rfl (dA (al bg (ah (i:=2)) (ac (Ax wC (ac (le_int (i:=1))))))) (λfs hc=>(eM (n:=2) (aY (au (i:=0) (jH hc (by decide))) (aY (au (i:=1) (jH hc (by decide))) c8)))) dB (al bg (ac (al bg (ah (i:=2)) (ah (i:=1)))) (ah (i:=0)))) (cq (aa (ac (le_str (l:=[]))) ae)))) ae)))))
def kH:PTS:=psO fY
def kI:PRl dy kH 4 3:=λ_ Q h=>BJ h λds _ h=>BJ h λls _ h=>kC h λcs _ h=>cC h λh=>pj rfl <| by
 walk_at "z";obtain⟨ws,rfl,L,rfl,⟨hls,hn,hw,hL,h0⟩,q⟩:=h;have g1:.tup ls=qE ws/\ws.length<=200/\∀w∈ws,0<w.length/\w.length<=60:=⟨hls,hn,hw⟩
 have hcm:(L.map chD).length=L.length:=length_map _;have hmany:=hL.many;have g2:jB (.tup (ws.map .str)) ((e_ ws.length).map λi=>.str (pw ws i))/\iK L ws.length/\(∀i j,(hdW ws i j).length<=60)/\(∀i,(pw ws i).length<=60)/\ws.length<=200:=⟨by rw [<- zk (α:=Nat) D.str ws];exact .inr rfl,hL,DK hw,A1 λw h=>(hw w h).2,hn⟩
 walk_at "r";refine⟨_,_,rfl,L,rfl,pw ws,g2,?_⟩;intro es hE;have hel:=hE.len
 have hlast:atI (L.map chD) (-1)=some (chD (L.getD (L.length - 1) [])):=by
  have:=Bk (ds:=L.map chD) (by omega);rw [this,hcm,zl (by omega)]
 have hch:=hL.ch (L.length - 1);have hfew:=hL.few (L.length - 1);generalize hc:L.getD (L.length - 1) []=c at hch hfew hlast;have hcl:(c.map λp=>D.tup [nD p.1,nD p.2]).length=c.length:=length_map _;have hnil:(!(c.map λp=>D.str ((es.getD p.2 []).getD p.1 [])).isEmpty)=!c.isEmpty:=by cases c <;> rfl
 walk_at "r";refine⟨_,hlast,?_⟩;walk_at "r"
 refine cm2 (e:=λp:Nat×Nat=>D.tup [nD p.1,nD p.2]) (xs:=c) (λp=>.str ((es.getD p.2 []).getD p.1 [])) (λp hp v w2 K1 k1=>?_) (λv w2=>?_)
 .have p0:=hch p hp;have p3:=hE.wid p.2 (by omega);show qB 2 _ (.dat (.tup [.int (p.1:Int),.int (p.2:Int)])) _ _;walk_at "r";refine⟨_,zm (by omega),?_⟩;walk_at "r";refine⟨_,ft (k:=p.1) (by rw [p3];exact p0.1) rfl,?_⟩;exact k1 _ _
 walk_at "r";rw [hnil]
 cases hce:c.isEmpty with
 | true =>
  have hcn:c=[]:=isEmpty_iff.mp hce;have e1:[D.str []]=[([]:List Nat)].map .str:=rfl;have g3:[([]:List Nat)]≠[]/\[([]:List Nat)].length<=100000:=⟨by decide,by decide⟩
  walk_at "r";refine⟨[[]],rfl,g3,?_⟩;intro t ht;rw [ht.uniq (rX [])];exact q _ (Bj (by rw [hc];exact hcn))
 | false =>
  have hcn:c≠[]:=λz=>by rw [z] at hce;cases hce
  have e1:c.map (λp=>D.str ((es.getD p.2 []).getD p.1 []))=(c.map λp=>(es.getD p.2 []).getD p.1 []).map .str:=by rw [map_map];rfl
  have g3:c.map (λp=>(es.getD p.2 []).getD p.1 [])≠[]/\(c.map λp=>(es.getD p.2 []).getD p.1 []).length<=100000:=⟨λz=>hcn (Je.mp z),by rw [length_map];omega⟩
  walk_at "r";refine⟨_,e1,g3,?_⟩;intro t ht;refine q _ (DL hw hL (by rw [hc];exact hcn) (A7 (E:=λn j=>(es.getD n []).getD j []) (by rw [hc];exact hcn) (λp hp=>?_) (by rw [hc];exact ht)));rw [hc] at hp;have p0:=hch p hp;exact hE.lst _ (by omega) _ p0.1
noncomputable def gR(K:a_)(mg:Str->Option Value)(t:TxC K):=(have TC:=t;show LS K [] _ _ from (aK (bK (ix:=[none,none,some 2,some 0]) rfl (rP (aa (ac (ai (i:=1))) ae)) (λfs hc=>(eM (n:=2) (aY (au (i:=0) (jH hc (by decide))) (aY (au (i:=1) (jH hc (by decide))) c8)))) (dn (al h8 (ac (al lh (ac (al li (ah (i:=2)) (ah (i:=1)))) (ac (al aI (ac (al bg (ah (i:=3)) (ah (i:=0)))) (ac (le_int (i:=1))))))) (ac (le_int (i:=0))))) (lg (aa (ac (ai (i:=0))) (aa (ac (al dN (ah (i:=2)) (ah (i:=1)))) ae))))))
def l0:PTS:=psO gR
def l5:PRl cQ l0 3 3:=λ_ Q h=>BJ h λds _ h=>kC h λes _ h=>dq h λm _ h=>cC h λh=>pj rfl <| by
 walk_at "z";obtain⟨cs,rfl,⟨rfl,hn,hs,hc⟩,m,rfl,hm,q⟩:=h;have hsm:((e_ cs.length).map λi=>nD (stp cs i)).length=cs.length:=by rw [length_map,B_]
 have ca:∀i,i<cs.length->atI (cs.map nD) (i:Int)=some (.int ((cs.getD i 0:Nat):Int)):=λi hi=>by
  refine iV (j:=i) ?_ rfl;rw [i_,cy hi,cx,cy hi];rfl
 walk_at "r"
 refine cfm (λτ=>∃v w:Option PV,τ=[v,w,some (.dat (.int (m:Int))),some (.dat (.tup (cs.map nD)))]) (λi=>if decide (0<dig cs i m)=true then some (.tup [nD i,nD (m - stp cs i)]) else none) ⟨_,_,rfl⟩ ?_ ?_
 .rintro i τ _ hi rfl ⟨v,w,rfl⟩ K1 K2 k1 k2;rw [hsm] at hi;rw [show itD ((e_ cs.length).map λi=>nD (stp cs i)) i=.int ((stp cs i:Nat):Int) from iY (by rw [i_,GK hi];rfl)];have hp:=j3 cs i;have hs1:stp cs i<=500:=E_ (by have:=xg cs i (cs.length - i);rwa [show i+(cs.length - i)=cs.length by omega] at this) hs;have gd:(0:Int)<((stp cs i:Nat):Int)/\((stp cs i:Nat):Int)<1073741824:=⟨by omega,by omega⟩
  have ed:(m:Int) / ((stp cs i:Nat):Int) % (((cs.getD i 0:Nat):Int)+1)=((dig cs i m:Nat):Int):=by
   unfold dig;rw [natCast_emod,natCast_ediv];rfl
  walk_at "r";refine⟨_,ca i hi,?_⟩;walk_at "r";rw [ed]
  refine cJ (λc=>?_) (λc=>?_)
  .have c:0<dig cs i m:=by omega
   have hle:stp cs i<=m:=by
    rcases GX m (stp cs i) with z|z
    .unfold dig at c;rw [div_eq_of_lt z,zero_mod] at c;omega
    .exact z
   walk_at "r";rw [show (m:Int) - ((stp cs i:Nat):Int)=((m - stp cs i:Nat):Int) by omega];exact k1 _ _ (if_pos (decide_eq_true c)) ⟨_,_,rfl⟩
  .exact k2 _ (if_neg (by rw [decide_eq_false (by omega)];decide)) ⟨_,_,rfl⟩
 .rintro τ ⟨v,w,rfl⟩;rw [hsm,gk,show ((e_ cs.length).filter λi=>decide (0<dig cs i m)).map (λi=>D.tup [nD i,nD (m - stp cs i)])=(uW cs m).map λp=>.tup [nD p.1,nD p.2] by unfold uW;rw [map_map];rfl];exact q
noncomputable def fb(K:a_)(mg:Str->Option Value)(t:TxC K):=(have TC:=t;show LS K [] _ _ from (ao (aw (ax (c:=dZ) (aa (ac (lu (ns0:=["pieces","counts","laps","total"]) TC.cl_Often TC.n_Often_counts (i:=1) (by decide +kernel) (ah (i:=0)))) ae)) (wJ (n:=2) (aY (au (i:=1) rfl) (aY (au (i:=2) rfl) c8)))) (ao (aw (bK (ix:=[none,some 1,some 0]) rfl (gi (aa (ac (ai (i:=2))) ae)) (λfs hc=>(au (i:=0) (jH hc (by decide)))) dB (ax (c:=cQ) (aa (ac (lu (ns0:=["pieces","counts","laps","total"]) TC.cl_Often TC.n_Often_counts (i:=1) (by decide +kernel) (ah (i:=2)))) (aa (ac (ai (i:=1))) (aa (ac (ai (i:=0))) ae))))) (ar (i:=3) rfl)) (aK (ax (c:=dy) (aa (ac (lu (ns0:=["pieces","counts","laps","total"]) TC.cl_Often TC.n_Often_pieces (i:=0) (by decide +kernel) (ah (i:=0)))) (aa (ac (lu (ns0:=["pieces","counts","laps","total"]) TC.cl_Often TC.n_Often_laps (i:=2) (by decide +kernel) (ah (i:=0)))) (aa (ac (ai (i:=3))) ae))))))))
def j7:PTS:=psO fb
def j8:PRl a9 j7 4 1:=λ_ Q h=>GB h λc ns fs _ h=>cC h λh=>pj rfl <| by
 walk_at "z";obtain⟨rfl,rfl,ps,cs,rfl,⟨hn,hp,hcl,hs,hc⟩,q⟩:=h;have g1:cs.length<=40/\stp cs cs.length<=500/\∀c∈cs,c<=9:=⟨by omega,hs,hc⟩
 have hw:∀w∈ps,0<w.length/\w.length<=60:=λw h=>⟨(hp w h).1,(hp w h).2.1⟩
 have hl:(uX cs).length=stp cs cs.length:=by unfold uX;rw [length_map,B_]
 have p0:=j3 cs cs.length;walk_at "r";rw [toNat_natCast]
 refine cmR (λm=>chD (uW cs m)) (λm hm v K1 k1=>?_) (λv=>?_)
 .have g2:((e_ cs.length).map λi=>nD (stp cs i))=((e_ cs.length).map λi=>nD (stp cs i))/\cs.length<=40/\stp cs cs.length<=500/\∀c∈cs,c<=9:=⟨rfl,by omega,hs,hc⟩
  walk_at "r";exact k1 _
 have e1:(e_ (stp cs cs.length)).map (λm=>chD (uW cs m))=(uX cs).map chD:=by unfold uX;rw [map_map];rfl
 rw [e1];have g3:qE ps=qE ps/\ps.length<=200/\(∀w∈ps,0<w.length/\w.length<=60)/\iK (uX cs) ps.length/\0<(uX cs).length:=⟨rfl,by omega,hw,by rw [<- hcl];exact Bl (by omega) hs,by omega⟩
 walk_at "r";refine λt ht=>q t ?_;rw [hl] at ht;exact ht.congr λu=>⟨λ⟨js,w,e⟩=>⟨js,xk.mp w,e⟩,λ⟨js,w,e⟩=>⟨js,xk.mpr w,e⟩⟩
noncomputable def i9(K:a_)(mg:Str->Option Value)(t:TxC K):=(have TC:=t;show LS K [] _ _ from (ao (aw (al aI (ac (al eZ (ac (le_int (i:=5))) (ah (i:=1)))) (ac (le_int (i:=3)))) (ar (i:=2) rfl)) (ao (dt (bn (dn (al h8 (ac (aU aW (aa (ah (i:=0)) ae))) (ac (le_int (i:=0))))) (aw (aU Dg (aa (ac (al bg (ah (i:=0)) (ac (al lh (ah (i:=1)) (ac (aU aW (aa (ah (i:=0)) ae))))))) ae)) (ar (i:=2) rfl)) aH)) (aK (cq (aa (ac (ai (i:=2))) (aa (ac (al aI (ac (al aI (ac (al lh (ah (i:=2)) (ac (le_int (i:=2147483629))))) (ac (al eZ (ac (le_int (i:=7919))) (ah (i:=1)))))) (ac (le_int (i:=11))))) ae)))))))
def oH:PTS:=psO i9
def oJ:PRl dC oH 3 2:=λ_ Q h=>GA h λns _ h=>dq h λk _ h=>cC h λh=>pj rfl <| by
 walk_at "z";obtain⟨⟨hk0,hk1,hn⟩,q⟩:=h;walk_at "r"
 refine⟨λρ=>∃c:Int,ρ=[some (.dat (.scr ns)),some (.dat (.int k)),some (.dat (.int c))]/\0<=c,?_,?_⟩
 .walk_at "r";refine cJ (λc=>?_) (λc=>⟨_,rfl,by omega⟩);obtain⟨n,hn1,hn2⟩:∃n:Nat,k % (ns.length:Int)=(n:Int)/\n<ns.length:=⟨(k % (ns.length:Int)).toNat,by have:=Kg k (show (ns.length:Int)≠0 by omega);omega,by have:=Kh k (show 0<(ns.length:Int) by omega);have:=Kg k (show (ns.length:Int)≠0 by omega);omega⟩
  walk_at "r";rw [hn1];refine⟨ns[n],iV (cy hn2) rfl,?_⟩;exact⟨_,rfl,by split <;> omega⟩
 .rintro ρ ⟨c,rfl,hc⟩;walk_at "r";exact q (c,c % 2147483629+7919*k+11) ⟨hc,by omega,by omega⟩
noncomputable def l6(K:a_)(mg:Str->Option Value)(t:TxC K):=(have TC:=t;show LS K [0] _ _ from (ao (bn (dn (al h8 (ac (al bg (ah (i:=0)) (ac (le_int (i:=0))))) (ac (le_int (i:=0))))) (ao (aw (al lh (ac (al bg (ah (i:=0)) (ac (le_int (i:=0))))) (ah (i:=1))) (ar (i:=2) rfl)) (ao (wy (i:=0) (al li (ac (al bg (ah (i:=0)) (ac (le_int (i:=0))))) (ah (i:=1))) (le_int (i:=0))) (aK (ai (i:=2))))) aH) (ao (wy (i:=0) (al lh (ac (al aI (ac (al eZ (ac (al bg (ah (i:=0)) (ac (le_int (i:=1))))) (ac (le_int (i:=48271))))) (ac (le_int (i:=12345))))) (ac (le_int (i:=2147483647)))) (le_int (i:=1))) (aK (al lh (ac (al li (ac (al lh (ac (al eZ (ac (al bg (ah (i:=0)) (ac (le_int (i:=1))))) (ac (al bg (ah (i:=0)) (ac (le_int (i:=1))))))) (ac (le_int (i:=2147483629))))) (ac (le_int (i:=7))))) (ah (i:=1)))))))
def sA:PTS:=psO l6
def sB:RRl aC sA 3 2:=λ_ _ Q h=>rC h λ_ h=>dq h λc0 _ h=>dq h λc1 _ h=>cC h λh=>dq h λm _ h=>cC h λh=>pj rfl <| by
 walk_at "z";obtain⟨⟨g0,g1,g2⟩,hm,hm2,q⟩:=h;have mod:∀z:Int,0<=z % m/\z % m<m:=λz=>⟨Kg z (by omega),Kh z hm⟩
 walk_at "r"
 refine cJ (λc=>?_) (λc=>?_)
 .walk_at "r";exact q _ (_,_) ⟨ediv_nonneg g0 (by omega),g1,g2⟩ (mod c0).1 (mod c0).2
 .have n0:0<=(c1*48271+12345) % 2147483647:=Kg _ (by decide);have n1:(c1*48271+12345) % 2147483647<2147483647:=Kh _ (by decide);walk_at "r";exact q _ (_,_) ⟨g0,n0,by omega⟩ (mod _).1 (mod _).2
noncomputable def l7(K:a_)(mg:Str->Option Value)(t:TxC K):=(have TC:=t;show LS K [0] _ _ from (aK (wB t7 (le_str (l:=[])) (aa (ac (bK (ix:=[none,some 1,some 0]) rfl (gi (aa (ac (al aI (ac (le_int (i:=1))) (ac (aD (c:=aC) (i:=0) (aa (ac (ai (i:=2))) ae))))) ae)) (λfs hc=>(au (i:=0) (jH hc (by decide)))) dB (al bg (ah (i:=1)) (ac (aD (c:=aC) (i:=2) (aa (ac (aU aW (aa (ah (i:=1)) ae))) ae)))))) ae))))
def sC:PTS:=psO l7
def sD:RRl d4 sC 3 3:=λ_ _ Q h=>rC h λ_ h=>dq h λc0 _ h=>dq h λc1 _ h=>cC h λh=>ii h λls _ h=>dq h λm _ h=>cC h λh=>pj rfl <| by
 walk_at "z";obtain⟨g,⟨h0,h26,hls⟩,⟨hm,hm2⟩,q⟩:=h;walk_at "r";intro x s hs hx0 hx1;walk_at "r"
 refine⟨λk ys τ=>∃(v:Option PV) (s:Int×Int) (ws:List Nat),τ=[v,some (.dat (.str ls)),some (stv s)]/\SOk s/\ys=ws.map (λc=>.str [c])/\ws.length=k/\Lts ws,⟨none,s,[],rfl,hs,rfl,rfl,Lts.nil⟩,?_,?_⟩
 .rintro k ys τ _ hk rfl ⟨v,⟨a,b⟩,ws,rfl,hs,rfl,hl,hL⟩;walk_at "r";intro z s2 hs2 hz0 hz1;obtain⟨j,rfl⟩:∃j:Nat,z=(j:Int):=⟨z.toNat,by omega⟩
  have hj:j<ls.length:=by omega
  walk_at "r";refine⟨_,iV (cy hj) rfl,?_⟩;exact⟨_,s2,ws++[ls[j]],rfl,hs2,by rw [map_append];rfl,by rw [length_append,hl];rfl,hL.app (Lts.one (hls _ (Hy hj)))⟩
 .rintro ys τ ⟨v,s2,ws,rfl,hs2,rfl,hl,hL⟩;walk_at "r"
  refine⟨ws.map λc=>[c],yd ws,?_,?_⟩
  .rw [ki];omega
  .rw [ki];walk_at "r";exact q ws s2 hs2 (by omega) (by omega) hL
noncomputable def ny(K:a_)(mg:Str->Option Value)(t:TxC K):=(have TC:=t;show LS K [0] _ _ from (ao (aw (aD (c:=aC) (i:=0) (aa (ac (aU aW (aa (ah (i:=1)) ae))) ae)) (ar (i:=3) rfl)) (aK (aM (ah (i:=1)) (aF (ai (i:=3))) (aF (al aI (ac (al aI (ah (i:=3)) (ac (le_int (i:=1))))) (ac (aD (c:=aC) (i:=0) (aa (ac (ai (i:=2))) ae)))))))))
def u7:PTS:=psO ny
def u8:RRl j4 u7 4 3:=λ_ _ Q h=>rC h λ_ h=>dq h λc0 _ h=>dq h λc1 _ h=>cC h λh=>ii h λt _ h=>dq h λm _ h=>cC h λh=>pj rfl <| by
 walk_at "z";obtain⟨g,⟨h0,h1,ht⟩,⟨hm,hm2⟩,q⟩:=h;walk_at "r";rintro x ⟨a,b⟩ hs hx0 hx1;walk_at "r";intro y s2 hs2 hy0 hy1;walk_at "r";obtain⟨i,rfl⟩:∃i:Nat,x=(i:Int):=⟨x.toNat,by omega⟩
 obtain⟨j,rfl⟩:∃j:Nat,y=(j:Int):=⟨y.toNat,by omega⟩
 show Q (.dat (.str (cZ t (some (i:Int)) (some ((i:Int)+1+(j:Int)))))) _;rw [show (i:Int)+1+(j:Int)=((i+1+j:Nat):Int) by omega,qc];exact q _ s2 hs2 (by rw [length_take,length_drop];omega) (by rw [length_take,length_drop];omega) ((ht.drop _).take _)
noncomputable def l8(K:a_)(mg:Str->Option Value)(t:TxC K):=(have TC:=t;show LS K [0] _ _ from (ao (aw (al bg (ac (cq (aa (ac (le_str (l:=[97,98]))) (aa (ac (le_str (l:=[97,98,99]))) (aa (ac (le_str (l:=[97,98,99,100,101,102,103,104,105,106,107,108,109,110,111,112,113,114,115,116,117,118,119,120,121,122]))) ae))))) (ac (aD (c:=aC) (i:=0) (aa (ac (le_int (i:=3))) ae)))) (ar (i:=2) rfl)) (ao (aw (aD (c:=d4) (i:=0) (aa (ac (ai (i:=2))) (aa (ac (al eZ (ac (le_int (i:=3))) (ah (i:=1)))) ae))) (ar (i:=3) rfl)) (ao (dt (bn (dn (al bU (ac (aD (c:=aC) (i:=0) (aa (ac (le_int (i:=3))) ae))) (ac (le_int (i:=0))))) (aw (al eZ (ac (aM (ah (i:=3)) aO (aF (al aI (ac (le_int (i:=1))) (ac (aD (c:=aC) (i:=0) (aa (ac (le_int (i:=3))) ae))))))) (ah (i:=1))) (ar (i:=3) rfl)) aH)) (aK (lg (aa (ac (ai (i:=2))) (aa (ac (ai (i:=3))) ae))))))))
def sE:PTS:=psO l8
def sF:RRl iN sE 4 2:=λ_ _ Q h=>rC h λ_ h=>dq h λc0 _ h=>dq h λc1 _ h=>cC h λh=>dq h λm _ h=>cC h λh=>pj rfl <| by
 walk_at "z";obtain⟨g,⟨hm,hm2⟩,q⟩:=h;walk_at "r";rintro x ⟨a,b⟩ hs hx0 hx1
 obtain⟨ls,hls,hl1,hl2,hL⟩:∃ls:List Nat,atI [D.str [97,98],D.str [97,98,99],D.str [97,98,99,100,101,102,103,104,105,106,107,108,109,110,111,112,113,114,115,116,117,118,119,120,121,122]] x=some (.str ls)/\0<ls.length/\ls.length<=26/\Lts ls:=by
  have lt:∀l:List Nat,(l.all λc=>decide (97<=c) && decide (c<=122))=true->Lts l:=λl h c hc=>by
   have:=Jm.mp h c hc;rw [and_eq_true,decide_eq_true_eq,decide_eq_true_eq] at this;exact this
  rcases (show x=0\/x=1\/x=2 by omega) with h|h|h <;> rw [h]
  all_goals exact⟨_,rfl,by decide,by decide,lt _ (by decide)⟩
 have gl:0<ls.length/\ls.length<=26/\Lts ls:=⟨hl1,hl2,hL⟩
 have g3:0<3*m/\3*m<=10000:=⟨by omega,by omega⟩
 walk_at "r";refine⟨_,hls,?_⟩;walk_at "r";rintro w ⟨a2,b2⟩ hs2 hw0 hw1 hwL;walk_at "r"
 refine⟨λρ=>∃(u:List Nat) (s:Int×Int),SOk s/\0<u.length/\u.length<=100000/\Lts u/\ρ=[some (stv s),some (.dat (.int m)),some (.dat (.str ls)),some (.dat (.str u))],?_,?_⟩
 .walk_at "r";rintro y ⟨a3,b3⟩ hs3 hy0 hy1;walk_at "r"
  refine cJ (λc=>?_) (λc=>?_)
  .walk_at "r";rintro z ⟨a4,b4⟩ hs4 hz0 hz1
   have ct:cZ w none (some (1+z))=w.take (1+z).toNat:=by
    obtain⟨n,hn⟩:∃n:Nat,1+z=(n:Int):=⟨(1+z).toNat,by omega⟩
    rw [hn,dL,toNat_natCast]
   have cl1:(w.take (1+z).toNat).length<=3:=by rw [length_take];omega
   have cl0:0<(w.take (1+z).toNat).length:=by rw [length_take];omega
   have w2:(-1000000:Int)<=m/\m<=1000000/\m.toNat*(cZ w none (some (1+z))).length<=1000000:=by
    refine⟨by omega,by omega,?_⟩;rw [ct];exact E_ (Jf (show m.toNat<=100 by omega) cl1) (by decide)
   walk_at "r";rw [ct]
   refine⟨_,(a4,b4),hs4,?_,?_,(hwL.take _).rep _,rfl⟩
   .rw [cF];exact mul_pos (by omega) cl0
   .rw [cF];exact E_ (Jf (show m.toNat<=100 by omega) cl1) (by decide)
  .exact⟨w,(a3,b3),hs3,hw0,by omega,hwL,rfl⟩
 .rintro ρ ⟨u,s,hs5,hu0,hu1,huL,rfl⟩;walk_at "r";exact q ls u s hs5 gl ⟨hu0,hu1,huL⟩
noncomputable def ja(K:a_)(mg:Str->Option Value)(t:TxC K):=(have TC:=t;show LS K [0] _ _ from (ao (aw (aD (c:=iN) (i:=0) (aa (ac (ai (i:=2))) ae)) (wJ (n:=2) (aY (au (i:=3) rfl) (aY (au (i:=4) rfl) c8)))) (ao (aw (cq ae) (ar (i:=5) rfl)) (ao (cr (gi (aa (ac (ai (i:=1))) ae)) (au (i:=6) rfl) (ao (aw (aD (c:=aC) (i:=0) (aa (ac (le_int (i:=5))) ae)) (ar (i:=7) rfl)) (ao (dt (bn (dn (al bU (ah (i:=7)) (ac (le_int (i:=0))))) (aw (aD (c:=d4) (i:=0) (aa (ac (ai (i:=3))) (aa (ac (ai (i:=2))) ae))) (ar (i:=8) rfl)) (bn (dn (al bU (ah (i:=7)) (ac (le_int (i:=1))))) (aw (al eZ (ac (aD (c:=d4) (i:=0) (aa (ac (ai (i:=3))) (aa (ac (le_int (i:=2))) ae)))) (ah (i:=2))) (ar (i:=8) rfl)) (aw (aD (c:=j4) (i:=0) (aa (ac (ai (i:=4))) (aa (ac (ai (i:=2))) ae))) (ar (i:=8) rfl))))) (fq (qt (i:=5) (aM (ah (i:=8)) aO (aF (ai (i:=2))))))))) (aK (ai (i:=5)))))))
def oK:PTS:=psO ja
def oM:RRl dD oK 9 3:=λ_ _ Q h=>rC h λ_ h=>dq h λc0 _ h=>dq h λc1 _ h=>cC h λh=>dq h λn _ h=>dq h λm _ h=>cC h λh=>pj rfl <| by
 walk_at "z";obtain⟨g,⟨hn0,hn1,hm0,hm1⟩,q⟩:=h;obtain⟨N,rfl⟩:∃N:Nat,n=(N:Int):=⟨n.toNat,by omega⟩
 have gm:0<m/\m<=100:=⟨hm0,by omega⟩
 have gm2:0<m/\m<=10000:=⟨hm0,by omega⟩
 walk_at "r";rintro ls b ⟨a1,b1⟩ hs1 hls hb;walk_at "r";rw [toNat_natCast]
 refine⟨λk ρ=>∃(ps:List (List Nat)) (s:Int×Int) (v6 v7 v8:Option PV),SOk s/\ps.length=k/\Pcs m.toNat ps/\ρ=[some (stv s),some (.dat (.int (N:Int))),some (.dat (.int m)),some (.dat (.str ls)),some (.dat (.str b)),some (.own (ps.map .str)),v6,v7,v8],⟨[],(a1,b1),_,_,_,hs1,rfl,(λw hw=>nomatch hw),rfl⟩,?_,?_⟩
 .rintro k ρ _ hk rfl ⟨ps,⟨a2,b2⟩,v6,v7,v8,hs2,hpl,hps,rfl⟩;have hpm:(ps.map D.str).length=ps.length:=length_map _;walk_at "r";rintro y ⟨a3,b3⟩ hs3 hy0 hy1;walk_at "r"
  refine⟨λρ=>∃(p:List Nat) (s:Int×Int),SOk s/\0<p.length/\p.length<=1000/\Lts p/\ρ=[some (stv s),some (.dat (.int (N:Int))),some (.dat (.int m)),some (.dat (.str ls)),some (.dat (.str b)),some (.own (ps.map .str)),some (.dat (.int (k:Int))),some (.dat (.int y)),some (.dat (.str p))],?_,?_⟩
  .walk_at "r"
   refine cJ (λc=>?_) (λc=>?_)
   .walk_at "r";rintro w s5 hs5 hw0 hw1 hwL;exact⟨w,s5,hs5,hw0,by omega,hwL,rfl⟩
   .walk_at "r"
    refine cJ (λc3=>?_) (λc3=>?_)
    .have g2:(0:Int)<2/\(2:Int)<=10000:=⟨by decide,by decide⟩
     walk_at "r";rintro w ⟨a5,b5⟩ hs5 hw0 hw1 hwL;have hw1:w.length<=2:=hw1;have r1:m.toNat*w.length<=60*2:=Jf (by omega) hw1;have r2:0<m.toNat*w.length:=mul_pos (by omega) hw0;have gr:-1000000<=m/\m<=1000000/\m.toNat*w.length<=1000000:=⟨by omega,by omega,by omega⟩
     have rl:=cF w m;walk_at "r"
     refine⟨_,(a5,b5),hs5,?_,?_,λc hc=>hwL c (yw hc),rfl⟩
     .omega
     .omega
    .walk_at "r";rintro w s5 hs5 hw0 hw1 hwL;exact⟨w,s5,hs5,hw0,by omega,hwL,rfl⟩
  rintro ρ ⟨p,⟨a6,b6⟩,hs6,hp0,hp1,hpL,rfl⟩;have ct:cZ p none (some m)=p.take m.toNat:=tG p (by omega);walk_at "r";rw [ct];refine⟨ps++[_],(a6,b6),_,_,_,hs6,by rw [length_append,hpl];rfl,λw hw=>?_,by rw [map_append];rfl⟩
  rcases HB.mp hw with h|h
  .exact hps w h
  .rw [v_.mp h];exact⟨by rw [length_take];omega,by rw [length_take];omega,hpL.take _⟩
 .rintro ρ ⟨ps,s,v6,v7,v8,hs2,hpl,hps,rfl⟩;walk_at "r";exact q ps s hs2 (by omega) hps
noncomputable def jb(K:a_)(mg:Str->Option Value)(t:TxC K):=(have TC:=t;show LS K [] _ _ from (ao (cr (dA (ai (i:=0))) (au (i:=2) rfl) (bn (qq (dn (al h8 (ac (aU aW (aa (ah (i:=2)) ae))) (ac (aU aW (aa (ac (al bg (ah (i:=0)) (ah (i:=1)))) ae))))) (dn (al CU (ac (wB tX (ai (i:=2)) (aa (ac (al bg (ah (i:=0)) (ah (i:=1)))) ae))) (ac (le_int (i:=0)))))) (aK (nW (i:=true))) aH)) (aK (al (y8 (neg:=false)) (ac (al bg (ah (i:=0)) (ah (i:=1)))) (ac (aM (ah (i:=0)) aO (aF (ai (i:=1)))))))))
def oN:PTS:=psO jb
def oO:PRl dE oN 3 2:=λ_ Q h=>kC h λds _ h=>dq h λi _ h=>cC h λh=>pj rfl <| by
 walk_at "z";obtain⟨ws,rfl,⟨hn,hp⟩,⟨h0,h1⟩,q⟩:=h;obtain⟨k,rfl⟩:∃k:Nat,i=(k:Int):=⟨i.toNat,by omega⟩
 rw [toNat_natCast] at q;have hk:k<ws.length:=by omega
 have w1:=(hp _ (cK hk)).2.1;have c1:cZ (ws.map D.str) none (some (k:Int))=(ws.take k).map D.str:=by rw [dL,map_take]
 have hfl:(cZ (ws.map D.str) none (some (k:Int))).all D.fl=true:=by rw [c1];exact wM _
 have hin:inD (.str (pw ws k)) (cZ (ws.map D.str) none (some (k:Int)))=decide (pw ws k∈ws.take k):=by rw [c1];exact ou _ _
 walk_at "r"
 refine Ea (λpre ρ=>(∃v2:Option PV,ρ=[some (.dat (.lst (ws.map .str))),some (.dat (.int (k:Int))),v2])/\∀o∈pre,(pw ws k).length<o.length->ia (pw ws k) o=false) ⟨⟨_,rfl⟩,λo ho=>nomatch ho⟩ ?_ ?_
 .rintro pre o suf ρ ew ⟨⟨v2,rfl⟩,ih⟩;have ho:o∈ws:=by rw [ew];simp
  have w2:=(hp o ho).2.1
  have keep:((pw ws k).length<o.length->ia (pw ws k) o=false)->∀o'∈pre++[o],(pw ws k).length<o'.length->ia (pw ws k) o'=false:=λh o' ho'=>by
   rcases HB.mp ho' with z|z
   .exact ih o' z
   .rw [v_.mp z];exact h
  have found:(pw ws k).length<o.length->ia (pw ws k) o=true->bM ws k=false:=λh1 h2=>by
   cases e:bM ws k with
   | false=>rfl
   | true =>
    have:=(fu.mp e).2 o ho h1;rw [h2] at this;cases this
  walk_at "r";refine⟨_,ft hk rfl,?_⟩;walk_at "r"
  refine cJ (λc=>?_) (λc=>?_)
  .walk_at "r";refine⟨_,ft hk rfl,?_⟩;walk_at "r"
   refine cJ (λc2=>?_) (λc2=>?_)
   .walk_at "r";rw [found (by omega) (AY.mpr (by omega))] at q;exact q
   .exact⟨⟨_,rfl⟩,keep λ_=>yj.mpr (by omega)⟩
  .exact⟨⟨_,rfl⟩,keep λz=>by omega⟩
 .rintro ρ ⟨⟨v2,rfl⟩,ih⟩
  have hq:(!bM ws k)=decide (pw ws k∈ws.take k):=by
   by_cases e:pw ws k∈ws.take k
   .rw [decide_eq_true e]
    cases e2:bM ws k with
    | false=>rfl
    | true=>exact absurd e (fu.mp e2).1
   .rw [decide_eq_false e,fu.mpr ⟨e,ih⟩];rfl
  rw [hq] at q;walk_at "r";refine⟨_,ft hk rfl,?_⟩;walk_at "r";rw [hin];exact q
noncomputable def kn(K:a_)(mg:Str->Option Value)(t:TxC K):=(have TC:=t;show LS K [0] _ _ from (ao (aw (aD (c:=dD) (i:=0) (aa (ac (ai (i:=1))) (aa (ac (ai (i:=2))) ae))) (ar (i:=3) rfl)) (aK (bK (ix:=[none,some 3]) rfl (gi (aa (ac (aU aW (aa (ah (i:=3)) ae))) ae)) (λfs hc=>(au (i:=0) (jH hc (by decide)))) (eY (mI (ax (c:=dE) (aa (ac (ai (i:=1))) (aa (ac (ai (i:=0))) ae))))) (al bg (ah (i:=1)) (ah (i:=0)))))))
def qZ:PTS:=psO kn
def q0:RRl gJ qZ 4 3:=λ_ _ Q h=>rC h λ_ h=>dq h λc0 _ h=>dq h λc1 _ h=>cC h λh=>dq h λn _ h=>dq h λm _ h=>cC h λh=>pj rfl <| by
 walk_at "z";obtain⟨g,⟨hn0,hn1,hm0,hm1⟩,q⟩:=h;have gp:0<=n/\n<=100/\0<m/\m<=60:=⟨hn0,hn1,hm0,hm1⟩
 walk_at "r";rintro ps s1 hs1 hpl hpp;have hp:Pcs 60 ps:=λw hw=>⟨(hpp w hw).1,by have:=(hpp w hw).2.1;omega,(hpp w hw).2.2⟩
 have hpm:(ps.map D.str).length=ps.length:=length_map _;have hw:ps.length<=100/\Pcs 60 ps:=⟨by omega,hp⟩
 walk_at "r";rw [hpm,toNat_natCast]
 refine cfR (λk=>bM ps k) (λk=>.str (pw ps k)) (λk hk v K1 K2 k1 k2=>?_) (λv=>?_)
 .have hk2:0<=(k:Int)/\(k:Int)<(ps.length:Int):=⟨by omega,by omega⟩
  have ek:bM ps (k:Int).toNat=bM ps k:=rfl;walk_at "r";rw [ek]
  cases hc:bM ps k with
  | true =>
   walk_at "r";refine⟨_,ft hk rfl,?_⟩;exact k1 _ hc
  | false=>exact k2 _ hc
 .have e:((e_ ps.length).filter λk=>bM ps k).map (λk=>D.str (pw ps k))=(cB ps).map .str:=by unfold cB ig;rw [map_map];rfl
  rw [e];walk_at "r";exact q ps s1 hs1 hpl hpp
noncomputable def jc(K:a_)(mg:Str->Option Value)(t:TxC K):=(have TC:=t;show LS K [0] _ _ from (aK (bK (ix:=[none,some 0,some 2]) rfl (gi (aa (ac (ai (i:=1))) ae)) (λfs hc=>(au (i:=0) (jH hc (by decide)))) dB (al aI (ac (le_int (i:=1))) (ac (aD (c:=aC) (i:=1) (aa (ac (ai (i:=2))) ae)))))))
def oQ:PTS:=psO jc
def oS:RRl fK oQ 3 3:=λ_ _ Q h=>rC h λ_ h=>dq h λc0 _ h=>dq h λc1 _ h=>cC h λh=>dq h λn _ h=>dq h λm _ h=>cC h λh=>pj rfl <| by
 walk_at "z";obtain⟨g,⟨hn0,hn1,hm0,hm1⟩,q⟩:=h;walk_at "r"
 refine⟨λk ys τ=>∃(v:Option PV) (s:Int×Int) (cs:List Nat),τ=[v,some (stv s),some (.dat (.int m))]/\SOk s/\cs.length=k/\(∀c∈cs,1<=c/\c<=m.toNat)/\ys=cs.map nD,⟨none,(c0,c1),[],rfl,g,rfl,(λ_ h=>nomatch h),rfl⟩,?_,?_⟩
 .rintro k ys τ d hk ed ⟨v,⟨u,w⟩,cs,rfl,hs,hl,hc,rfl⟩;walk_at "r";rintro z s2 hs2 hz0 hz1;obtain⟨i,rfl⟩:∃i:Nat,z=(i:Int):=⟨z.toNat,by omega⟩
  walk_at "r";refine⟨_,s2,cs++[1+i],rfl,hs2,by rw [length_append,hl];rfl,λc h=>(HB.mp h).elim (hc c) λh=>by rw [v_.mp h];omega,?_⟩;rw [map_append];show _=_++[D.int ((1+i:Nat):Int)]
  rw [show ((1+i:Nat):Int)=1+(i:Int) by omega]
 .rintro ys τ ⟨v,s2,cs,rfl,hs2,hl,hc,rfl⟩;walk_at "r";exact q cs s2 hs2 hl hc
noncomputable def nA(K:a_)(mg:Str->Option Value)(t:TxC K):=(have TC:=t;show LS K [] _ _ from (ao (cr (C5 (aa (ac (al dN (ac (aU rR (aa (ac (aU aW (aa (ah (i:=0)) ae))) (aa (ac (aU aW (aa (ah (i:=1)) ae))) ae)))) (ac (le_int (i:=1))))) (aa (ac (le_int (i:=0))) (aa (ac (Ax wC (ac (le_int (i:=1))))) ae)))) (au (i:=2) rfl) (bn (dn (al bU (ac (aM (ah (i:=0)) (aF (al dN (ac (aU aW (aa (ah (i:=0)) ae))) (ah (i:=2)))) aO)) (ac (aM (ah (i:=1)) aO (aF (ai (i:=2))))))) (aK (ai (i:=2))) aH)) (aK (le_int (i:=0)))))
def u9:PTS:=psO nA
def va:PRl bN u9 3 2:=λ_ Q h=>ii h λa _ h=>ii h λb _ h=>cC h λh=>pj rfl <| by
 walk_at "z";obtain⟨a1,⟨b0,b1⟩,q⟩:=h;have hm:(if (b.length:Int)<(a.length:Int) then (b.length:Int) else (a.length:Int))=((min a.length b.length:Nat):Int):=by split <;> omega
 walk_at "r";rw [hm]
 refine⟨λi ρ=>(∃v2:Option PV,ρ=[some (.dat (.str a)),some (.dat (.str b)),v2])/\∀j,min a.length b.length - i<=j->j<min a.length b.length->¬ b.take j <:+ a,⟨⟨_,rfl⟩,λj h1 h2=>by omega⟩,?_,?_⟩
 .rintro i ρ d hi ed ⟨⟨v2,rfl⟩,ih⟩;obtain⟨k,hk,hk2⟩:∃k:Nat,(((min a.length b.length:Nat):Int) - 1) - (i:Int)=(k:Int)/\k=min a.length b.length - 1 - i:=⟨min a.length b.length - 1 - i,by omega,rfl⟩
  have hk0:0<k:=by omega
  rw [hk] at ed;subst ed;have cd:cZ a (some ((a.length:Int) - (k:Int))) none=a.drop (a.length - k):=by rw [show (a.length:Int) - (k:Int)=((a.length - k:Nat):Int) by omega,eV]
  have ct:=dL b k;walk_at "r";rw [cd,ct]
  refine cJ (λc=>?_) (λc=>?_)
  .walk_at "r"
   rw [show cA a b=k from ot ⟨by omega,by rw [<- c];exact drop_suffix ..,λj h1 h2=>by
    rcases GX k j with h|h
    .exact absurd h2 (ih j (by omega) h1)
    .exact h⟩] at q
   exact q
  .refine⟨⟨_,rfl⟩,λj h1 h2=>?_⟩
   by_cases hj:j=k
   .subst hj;intro z;refine c ?_;obtain⟨t,ht⟩:=z;have hjb:j<=b.length:=by omega
    rw [<- ht,show (t++b.take j).length - j=t.length by rw [length_append,length_take,Ii hjb,add_sub_cancel],drop_left]
   .exact ih j (by omega) h2
 .rintro ρ ⟨⟨v2,rfl⟩,ih⟩;walk_at "r"
  by_cases a0:0<a.length
  .rw [show cA a b=0 from ot ⟨by omega,by rw [take_zero];exact Jc,λj h1 h2=>by
    rcases GX 0 j with h|h
    .exact absurd h2 (ih j (by omega) h1)
    .exact h⟩] at q
   exact q
  .rw [show cA a b=0 by
    unfold cA;rw [dif_neg];rintro⟨k,hk⟩;have:=hk.1;omega] at q
   exact q
noncomputable def gT(K:a_)(mg:Str->Option Value)(t:TxC K):=(have TC:=t;show LS K [0] _ _ from (ao (aw (aU n9 (aa (ah (i:=1)) ae)) (ar (i:=2) rfl)) (ao (aw (cq ae) (ar (i:=3) rfl)) (ao (n5 (dn (al fV (ah (i:=2)) (ac (cq ae)))) (fq (qt (i:=3) (t9 (i:=2) (aD (c:=aC) (i:=0) (aa (ac (aU aW (aa (ah (i:=2)) ae))) ae)))))) (aK (ue (ai (i:=3))))))))
def l9:PTS:=psO gT
def ma:RRl cU l9 4 2:=λ_ _ Q h=>rC h λ_ h=>dq h λc0 _ h=>dq h λc1 _ h=>cC h λh=>kC h λds _ h=>cC h λh=>pj rfl <| by
 walk_at "z";obtain⟨xs,rfl,⟨g,hn⟩,q⟩:=h;have hxm:(xs.map nD).length=xs.length:=length_map _;walk_at "r";refine⟨λk ρ=>∃(rs js:List Nat) (s:Int×Int) (v1:Option PV),(js++rs).Perm xs/\SOk s/\k=rs.length/\ρ=[some (stv s),v1,some (.own (rs.map nD)),some (.own (js.map nD))],⟨xs.length,xs,[],(c0,c1),_,Kf _,g,rfl,rfl⟩,?_⟩;rintro k ρ ⟨rs,js,⟨a,b⟩,v1,hp,hs,rfl,rfl⟩;have hpl:=hp.length_eq;rw [length_append] at hpl
 have e1:=xo rs;have e2:=Bo rs;walk_at "r";rw [e2]
 refine nV (λc=>?_) (λc=>?_)
 .have hrl:0<rs.length:=Jg.mpr c;have hrm:(rs.map nD).length=rs.length:=length_map _;have hjm:(js.map nD).length=js.length:=length_map _;walk_at "r";rintro z s2 hs2 hz0 hz1;obtain⟨i,rfl⟩:∃i:Nat,z=(i:Int):=⟨z.toNat,by omega⟩
  have hir:i<rs.length:=by omega
  walk_at "r";refine⟨i,nD rs[i],⟨by rw [hrm];exact FY hir,by omega⟩,by rw [i_,cy hir];rfl,by show (js.map nD).length<_;omega,rs.length - 1,by omega,rs.eraseIdx i,js++[rs[i]],s2,v1,?_,hs2,by rw [length_eraseIdx,if_pos hir],by rw [map_append,qJ];rfl⟩;rw [append_assoc];exact ((perm_append_comm.trans (qK hir)).append_left js).trans hp
 .have c:rs=[]:=c;subst c;rw [append_nil] at hp;walk_at "r";exact q js (a,b) hp hs
noncomputable def fc(K:a_)(mg:Str->Option Value)(t:TxC K):=(have TC:=t;show LS K [0] _ _ from (ao (aw (aU yq (aa (ah (i:=1)) ae)) (ar (i:=2) rfl)) (ao (aw (cq ae) (ar (i:=3) rfl)) (ao (n5 (dn (al fV (ah (i:=2)) (ac (cq ae)))) (fq (qt (i:=3) (t9 (i:=2) (aD (c:=aC) (i:=0) (aa (ac (aU aW (aa (ah (i:=2)) ae))) ae)))))) (aK (ue (ai (i:=3))))))))
def j9:PTS:=psO fc
def kc:RRl cj j9 4 2:=λ_ _ Q h=>rC h λ_ h=>dq h λc0 _ h=>dq h λc1 _ h=>cC h λh=>ii h λt _ h=>cC h λh=>pj rfl <| by
 walk_at "z";obtain⟨⟨g,hn,hL⟩,q⟩:=h;walk_at "r";rw [<- zr];refine⟨λk ρ=>∃(rs js:List Nat) (s:Int×Int),(js++rs).Perm t/\SOk s/\k=rs.length/\ρ=[some (stv s),some (.dat (.str t)),some (.own (rs.map sgD)),some (.own (js.map sgD))],⟨t.length,t,[],(c0,c1),Kf _,g,rfl,rfl⟩,?_⟩;rintro k ρ ⟨rs,js,⟨a,b⟩,hp,hs,rfl,rfl⟩;have hpl:=hp.length_eq;rw [length_append] at hpl;have e1:=uZ (rs:=rs) λc hc=>hL c (hp.mem_iff.mp (C0 _ hc))
 have e2:=yx rs;walk_at "r";rw [e2]
 refine nV (λc=>?_) (λc=>?_)
 .have hrl:0<rs.length:=Jg.mpr c;have hrm:(rs.map sgD).length=rs.length:=length_map _;have hjm:(js.map sgD).length=js.length:=length_map _;walk_at "r";rintro z s2 hs2 hz0 hz1;obtain⟨i,rfl⟩:∃i:Nat,z=(i:Int):=⟨z.toNat,by omega⟩
  have hir:i<rs.length:=by omega
  walk_at "r";refine⟨i,sgD rs[i],⟨by rw [hrm];exact FY hir,by omega⟩,by rw [i_,cy hir];rfl,by show (js.map sgD).length<_;omega,rs.length - 1,by omega,rs.eraseIdx i,js++[rs[i]],s2,?_,hs2,by rw [length_eraseIdx,if_pos hir],by rw [map_append,qJ];rfl⟩;rw [append_assoc];exact ((perm_append_comm.trans (qK hir)).append_left js).trans hp
 .have c:rs=[]:=c;subst c;rw [append_nil] at hp;walk_at "r";exact q js (a,b) hp hs
noncomputable def jd(K:a_)(mg:Str->Option Value)(t:TxC K):=(have TC:=t;show LS K [0] _ _ from (ao (n5 (dn (al h8 (ah (i:=3)) (ac (le_int (i:=0))))) (ao (bn (qq (dn (al bU (ac (aM (ah (i:=1)) (aF (al dN (ac (aU aW (aa (ah (i:=1)) ae))) (ah (i:=3)))) aO)) (ac (aM (ah (i:=2)) aO (aF (ai (i:=3))))))) (dn (al bU (ac (aD (c:=aC) (i:=0) (aa (ac (le_int (i:=2))) ae))) (ac (le_int (i:=0)))))) (aK (ai (i:=3))) aH) (aw (al dN (ah (i:=3)) (ac (le_int (i:=1)))) (ar (i:=3) rfl)))) (aK (le_int (i:=0)))))
def oU:PTS:=psO jd
def oV:RRl fL oU 4 4:=λ_ _ Q h=>rC h λ_ h=>dq h λc0 _ h=>dq h λc1 _ h=>cC h λh=>ii h λa _ h=>ii h λb _ h=>dq h λm _ h=>cC h λh=>pj rfl <| by
 walk_at "z";obtain⟨g,⟨h0,hm,ha,hb⟩,q⟩:=h;walk_at "r";refine⟨λk ρ=>∃s:Int×Int,SOk s/\(k:Int)<=m/\ρ=[some (stv s),some (.dat (.str a)),some (.dat (.str b)),some (.dat (.int (k:Int)))],⟨m.toNat,(c0,c1),g,by omega,by rw [toNat_of_nonneg h0];rfl⟩,?_⟩;rintro k ρ ⟨⟨u,v⟩,hs,hk,rfl⟩;have cl1:=bv a (some ((a.length:Int) - (k:Int))) none;have cl2:=bv b none (some (k:Int));have ea:cZ a (some ((a.length:Int) - (k:Int))) none=a.drop (a.length - k):=by rw [show (a.length:Int) - (k:Int)=((a.length - k:Nat):Int) by omega,eV]
 have eb:cZ b none (some (k:Int))=b.take k:=dL b k;walk_at "r"
 refine cJ (λc=>?_) (λc=>?_)
 .walk_at "r"
  refine cJ (λc2=>?_) (λc2=>?_)
  .walk_at "r";rintro z s2 hs2 hz0 hz1;walk_at "r"
   refine cJ (λc3=>?_) (λc3=>?_)
   .rw [ea,eb] at c2;walk_at "r";exact q k s2 hs2 hk (by rw [<- c2];exact drop_suffix _ _)
   .walk_at "r";refine⟨k - 1,by omega,s2,hs2,by omega,?_⟩;rw [show (k:Int) - 1=((k - 1:Nat):Int) by omega]
  .walk_at "r";refine⟨k - 1,by omega,(u,v),hs,by omega,?_⟩;rw [show (k:Int) - 1=((k - 1:Nat):Int) by omega]
 .walk_at "r";exact q 0 (u,v) hs (by omega) (by rw [take_zero];exact Jc)
noncomputable def md(K:a_)(mg:Str->Option Value)(t:TxC K):=(have TC:=t;show LS K [0] _ _ from (ao (aw (aM (ac (le_str (l:=[112,113]))) aO (aF (al li (ac (aD (c:=aC) (i:=0) (aa (ac (le_int (i:=3))) ae))) (ac (le_int (i:=2)))))) (ar (i:=2) rfl)) (ao (aw (le_str (l:=[])) (ar (i:=3) rfl)) (ao (cr (dA (ai (i:=1))) (au (i:=4) rfl) (ao (aw (aD (c:=aC) (i:=0) (aa (ac (le_int (i:=4))) ae)) (ar (i:=5) rfl)) (ao (aw (le_int (i:=0)) (ar (i:=6) rfl)) (ao (dt (bn (qq (dn (al fV (ah (i:=3)) (ac (le_str (l:=[]))))) (dn (al h8 (ah (i:=5)) (ac (le_int (i:=0)))))) (aw (ax (c:=bN) (aa (ac (ai (i:=3))) (aa (ac (ai (i:=4))) ae))) (ar (i:=6) rfl)) aH)) (ao (dt (bn (dn (al bU (ah (i:=5)) (ac (le_int (i:=1))))) (aw (aD (c:=fL) (i:=0) (aa (ac (ai (i:=3))) (aa (ac (ai (i:=4))) (aa (ac (ai (i:=6))) ae)))) (ar (i:=6) rfl)) aH)) (ao (dt (bn (dn (al bU (ah (i:=5)) (ac (le_int (i:=0))))) (aw (al aI (ah (i:=2)) (ac (aM (ac (le_str (l:=[98,97]))) aO (aF (aD (c:=aC) (i:=0) (aa (ac (le_int (i:=3))) ae)))))) (ar (i:=2) rfl)) aH)) (ao (aw (al aI (ah (i:=2)) (ac (aM (ah (i:=4)) (aF (ai (i:=6))) aO))) (ar (i:=2) rfl)) (aw (ai (i:=4)) (ar (i:=3) rfl))))))))) (aK (al aI (ah (i:=2)) (ac (aM (ac (le_str (l:=[113,112]))) aO (aF (al li (ac (aD (c:=aC) (i:=0) (aa (ac (le_int (i:=3))) ae))) (ac (le_int (i:=2)))))))))))))
def sG:PTS:=psO md
def sH:RRl iO sG 7 2:=λ_ _ Q h=>rC h λ_ h=>dq h λc0 _ h=>dq h λc1 _ h=>cC h λh=>kC h λds _ h=>cC h λh=>pj rfl <| by
 walk_at "z";obtain⟨ws,rfl,⟨g,hn,hp⟩,q⟩:=h;have hwm:(ws.map D.str).length=ws.length:=length_map _;walk_at "r";rintro z s1 hs1 hz0 hz1;have c2:(cZ [112,113] none (some (z / 2))).length<=2:=bv [112,113] none (some (z / 2));walk_at "r"
 refine Ea (xs:=ws) (e:=D.str) (λpre ρ=>∃(s:Int×Int) (T one:List Nat) (v4 v5 v6:Option PV),SOk s/\T.length<=2+62*pre.length/\(∃S,u0 pre T S/\(0<pre.length->one <:+ T/\S (pre.length - 1)=T.length - one.length))/\(pre=[]/\one=[]\/∃p,pre=p++[one])/\ρ=[some (stv s),some (.dat (.lst (ws.map .str))),some (.dat (.str T)),some (.dat (.str one)),v4,v5,v6]) ⟨s1,_,[],_,_,_,hs1,by omega,⟨λ_=>0,⟨λk h=>absurd h (G_ _),λk h=>absurd h (G_ _)⟩,λh=>absurd h (GF _)⟩,.inl ⟨rfl,rfl⟩,rfl⟩ ?_ ?_
 .rintro pre x suf ρ ew ⟨⟨u,v⟩,T,one,v4,v5,v6,hs,hT,⟨S,hS,hlast⟩,ho,rfl⟩;have hx:=hp x (by rw [ew];simp);have hx2:=hx.2.1
  have hone:one.length<=60:=by
   rcases ho with ⟨_,e⟩|⟨p,e⟩
   .rw [e];exact G4 _
   .exact (hp one (by rw [ew,e];simp)).2.1
  have hpl:pre.length<40:=by
   have:=congrArg J_ ew;rw [length_append,length_cons] at this;omega
  have hne:0<pre.length->one≠[]:=λh z=>by
   rcases ho with ⟨e,_⟩|⟨p,e⟩
   .rw [e] at h;exact absurd h (GF _)
   .have:=(hp one (by rw [ew,e];simp)).1;rw [z] at this;exact absurd this (GF _)
  have hpo:one≠[]->0<pre.length:=λh=>by
   rcases ho with ⟨_,e⟩|⟨p,e⟩
   .exact absurd e h
   .rw [e,length_append];exact Ke _
  have gx:one.length<=10000/\(0<x.length/\x.length<=10000):=⟨by omega,hx.1,by omega⟩
  walk_at "r";rintro w ⟨u2,v2⟩ hs2 hw0 hw1;walk_at "r"
  refine⟨λρ=>∃k:Nat,((w=0\/one=[])/\k=0\/0<w/\one≠[]/\k=cA one x)/\ρ=[some (stv (u2,v2)),some (.dat (.lst (ws.map .str))),some (.dat (.str T)),some (.dat (.str one)),some (.dat (.str x)),some (.dat (.int w)),some (.dat (.int (k:Int)))],?_,?_⟩
  .walk_at "r"
   refine nV (λc=>?_) (λc=>?_)
   .walk_at "r"
    refine cJ (λc2=>?_) (λc2=>?_)
    .walk_at "r";exact⟨cA one x,.inr ⟨c2,c,rfl⟩,rfl⟩
    .exact⟨0,.inl ⟨.inl (by omega),rfl⟩,rfl⟩
   .exact⟨0,.inl ⟨.inr c,rfl⟩,rfl⟩
  rintro ρ ⟨k,hk,rfl⟩
  have hk1:k=0\/one≠[]/\k<one.length/\k<=x.length/\x.take k <:+ one:=by
   rcases hk with ⟨_,e⟩|⟨_,e,rfl⟩
   .exact .inl e
   .have:=dQ (Jg.mpr e) hx.1;exact .inr ⟨e,by have:=this.1;omega,by have:=this.1;omega,this.2.1⟩
  have hkw:w=0->k=0:=λh=>by
   rcases hk with ⟨_,e⟩|⟨e,_⟩
   .exact e
   .omega
  clear hk;walk_at "r"
  refine⟨λρ=>∃(k:Nat) (s:Int×Int),SOk s/\(k=0\/one≠[]/\k<one.length/\k<=x.length/\x.take k <:+ one)/\(w=0->k=0)/\ρ=[some (stv s),some (.dat (.lst (ws.map .str))),some (.dat (.str T)),some (.dat (.str one)),some (.dat (.str x)),some (.dat (.int w)),some (.dat (.int (k:Int)))],?_,?_⟩
  .have g2:0<=(k:Int)/\(k:Int)<=(one.length:Int)/\one.length<=10000/\x.length<=10000:=⟨by omega,by rcases hk1 with e|e <;> omega,by omega,by omega⟩
   walk_at "r"
   refine cJ (λc=>?_) (λc=>?_)
   .walk_at "r";rintro r s3 hs3 hr hsuf;refine⟨r,s3,hs3,?_,λz=>by omega,rfl⟩
    rcases hk1 with e|e
    .exact .inl (by omega)
    .exact .inr ⟨e.1,by omega,by omega,hsuf⟩
   .exact⟨k,(u2,v2),hs2,hk1,hkw,rfl⟩
  rintro ρ ⟨k,⟨u3,v3⟩,hs3,hk1,hkw,rfl⟩;walk_at "r"
  refine⟨λρ=>∃(F:List Nat) (s:Int×Int),SOk s/\T <+: F/\(F=T\/k=0)/\F.length<=T.length+2/\ρ=[some (stv s),some (.dat (.lst (ws.map .str))),some (.dat (.str F)),some (.dat (.str one)),some (.dat (.str x)),some (.dat (.int w)),some (.dat (.int (k:Int)))],?_,?_⟩
  .walk_at "r"
   refine cJ (λc=>?_) (λc=>?_)
   .walk_at "r";rintro y s4 hs4 hy0 hy1;have cl4:(cZ [98,97] none (some y)).length<=2:=bv [98,97] none (some y);walk_at "r";exact⟨_,s4,hs4,prefix_append _ _,.inr (hkw c),by rw [length_append];omega,rfl⟩
   .exact⟨T,(u3,v3),hs3,prefix_refl _,.inl rfl,by omega,rfl⟩
  rintro ρ ⟨F,⟨u4,v4⟩,hs4,hF1,hF3,hF2,rfl⟩;have ec:cZ x (some (k:Int)) none=x.drop k:=eV x k;have el:=bv x (some (k:Int)) none;have hFT:=hF1.length_le
  have hkF:x.take k <:+ F:=by
   rcases hk1 with e|⟨e1,e2,e3,e4⟩
   .rw [e,take_zero];exact Jc
   .rcases hF3 with rfl|e
    .exact e4.trans (hlast (hpo e1)).1
    .rw [e,take_zero];exact Jc
  obtain⟨st1,st2,st3⟩:=xp hS hF1 hkF (by rcases hk1 with e|e <;> omega) λh=>by
   obtain⟨h1,h2⟩:=hlast h;have:=h1.length_le;have:=Jg.mpr (hne h);rcases hk1 with e|e <;> omega
  walk_at "r";rw [ec]
  refine⟨(u4,v4),F++x.drop k,x,_,_,_,hs4,?_,⟨_,st1,λ_=>⟨st2,?_⟩⟩,.inr ⟨pre,rfl⟩,rfl⟩
  .rw [length_append,length_append,length_drop];show _<=2+62*(pre.length+1);omega
  .show (if (pre++[x]).length - 1<pre.length then _ else F.length - k)=_;rw [length_append,if_neg (by show ¬ pre.length+1 - 1<pre.length;omega),length_append,length_drop];have:k<=x.length:=by rcases hk1 with e|e <;> omega
   omega
 .rintro ρ ⟨⟨u,v⟩,T,one,v4,v5,v6,hs,hT,⟨S,hS,_⟩,ho,rfl⟩;walk_at "r";rintro y s2 hs2 hy0 hy1;have cl3:(cZ [113,112] none (some (y / 2))).length<=2:=bv [113,112] none (some (y / 2));walk_at "r";exact q _ s2 hs2 (by rw [length_append];omega) ⟨S,λk hk=>zt (hS.1 k hk),hS.2⟩
noncomputable def nB(K:a_)(mg:Str->Option Value)(t:TxC K):=(have TC:=t;show LS K [0] _ _ from (ao (aw (cq ae) (ar (i:=2) rfl)) (ao (cr (gi (aa (ac (aU aW (aa (ah (i:=1)) ae))) ae)) (au (i:=3) rfl) (fq (Dz (i:=2) (al eZ (ac (cq (aa (ac (ai (i:=3))) ae))) (ac (al bg (ah (i:=1)) (ah (i:=3)))))))) (aK (ue (aD (c:=cU) (i:=0) (aa (ac (ai (i:=2))) ae)))))))
def vb:PTS:=psO nB
def vc:RRl h7 vb 4 2:=λ_ _ Q h=>rC h λ_ h=>dq h λc0 _ h=>dq h λc1 _ h=>cC h λh=>kC h λds _ h=>cC h λh=>pj rfl <| by
 walk_at "z";obtain⟨cs,rfl,⟨g,hn,hc⟩,q⟩:=h;have hcm:(cs.map nD).length=cs.length:=length_map _;walk_at "r"
 refine⟨λk ρ=>∃v3:Option PV,ρ=[some (.own [.int c0,.int c1]),some (.dat (.lst (cs.map nD))),some (.own ((rwN cs k).map nD)),v3],⟨_,rfl⟩,?_,?_⟩
 .rintro k ρ _ hk rfl ⟨v3,rfl⟩;have hk:k<cs.length:=by rw [hcm,toNat_natCast] at hk;exact hk
  have ca:atI (cs.map nD) (k:Int)=some (.int ((cs.getD k 0:Nat):Int)):=iV (j:=k) (by rw [i_,cy hk,cx,cy hk];rfl) rfl;have cb:cs.getD k 0<=9:=by rw [cx,cy hk];exact hc _ (Hy _)
  have er:g9 [D.int (k:Int)] ((cs.getD k 0:Nat):Int)=(f_ (cs.getD k 0) k).map nD:=by rw [tY,map_replicate];rfl
  have gm:(-1000000:Int)<=((cs.getD k 0:Nat):Int)/\((cs.getD k 0:Nat):Int)<=1000000/\[D.int (k:Int)].length*(((cs.getD k 0:Nat):Int)).toNat<=1000000:=⟨by omega,by omega,by show 1*_<=_;omega⟩
  have hl:=lI hc k;walk_at "r";refine⟨_,ca,?_⟩;walk_at "r";rw [er];walk_at "r";rw [eF,map_append];exact⟨by rw [length_map,length_map,length_replicate];omega,_,rfl⟩
 .rintro ρ ⟨v3,rfl⟩;rw [hcm,toNat_natCast];have hl:=lI hc cs.length;have gs:SOk (c0,c1)/\(rwN cs cs.length).length<=1000:=⟨g,by omega⟩
  walk_at "r";intro js s hj hs;walk_at "r";exact q js s hj hs
noncomputable def je(K:a_)(mg:Str->Option Value)(t:TxC K):=(have TC:=t;show LS K [] _ _ from (aK (bK (ix:=[none,some 1,some 0]) rfl (gi (aa (ac (aU aW (aa (ah (i:=0)) ae))) ae)) (λfs hc=>(au (i:=0) (jH hc (by decide)))) (dn (al bU (ac (aM (ah (i:=2)) (aF (ai (i:=0))) (aF (al aI (ah (i:=0)) (ac (aU aW (aa (ah (i:=1)) ae))))))) (ah (i:=1)))) (ai (i:=0)))))
def oW:PTS:=psO je
def oX:PRl fM oW 2 2:=λ_ Q h=>ii h λt _ h=>ii h λw _ h=>cC h λh=>pj rfl <| by
 walk_at "z";obtain⟨⟨ht,hw⟩,q⟩:=h;walk_at "r"
 refine cfR (λk=>stA t w k) (λk=>nD k) (λk hk v K1 K2 k1 k2=>?_) (λv=>?_)
 .have hk:k<t.length:=hk
  have e:cZ t (some (k:Int)) (some ((k:Int)+(w.length:Int)))=(t.drop k).take w.length:=by
   rw [show ((k:Int)+(w.length:Int))=((k+w.length:Nat):Int) from rfl,qc];congr 1;omega
  have hs:stA t w k=decide ((t.drop k).take w.length=w):=by
   unfold stA
   by_cases h:(t.drop k).take w.length=w
   .have hl:=congrArg J_ h;rw [length_take,length_drop] at hl;rw [decide_eq_true h,decide_eq_true ⟨by omega,h⟩]
   .rw [decide_eq_false h,decide_eq_false λz=>h z.2]
  rw [hs,<- e] at k1 k2;walk_at "r"
  refine cJ (λc=>?_) (λc=>?_)
  .walk_at "r";exact k1 _ (decide_eq_true c)
  .exact k2 _ (decide_eq_false c)
 .exact q
noncomputable def jf(K:a_)(mg:Str->Option Value)(t:TxC K):=(have TC:=t;show LS K [] _ _ from (ao (cr (tT (aa (ac (ai (i:=1))) (aa (ac (ai (i:=2))) ae))) (eM (n:=2) (aY (au (i:=3) rfl) (aY (au (i:=4) rfl) c8))) (bn (dn (al wt (ac (aU aW (aa (ac (ax (c:=fM) (aa (ac (ai (i:=0))) (aa (ac (ai (i:=3))) ae)))) ae))) (ah (i:=4)))) (aK (nW (i:=false))) aH)) (aK (nW (i:=true)))))
def oY:PTS:=psO jf
def oZ:PRl fN oY 5 3:=λ_ Q h=>ii h λt _ h=>kC h λds _ h=>kC h λes _ h=>cC h λh=>pj rfl <| by
 walk_at "z";obtain⟨ps,rfl,cs,rfl,⟨ht,hw,hcl,he⟩,q⟩:=h;have hpm:(ps.map D.str).length=ps.length:=length_map _;have hcm:(cs.map nD).length=cs.length:=length_map _;walk_at "r"
 refine⟨λk ρ=>∃v3 v4:Option PV,ρ=[some (.dat (.str t)),some (.dat (.lst (ps.map .str))),some (.dat (.lst (cs.map nD))),v3,v4],⟨_,_,rfl⟩,?_,?_⟩
 .rintro k ρ _ hk rfl ⟨v3,v4,rfl⟩;have hk1:k<ps.length:=by omega
  rw [iy (by rw [hpm];exact hk1),Ds (by rw [hcm];omega)];have g:t.length<=100000/\(pw ps k).length<=100000:=⟨ht,by have:=hw _ (cK hk1);omega⟩
  have hk2:=he k hk1;have plm:((plN t (pw ps k)).map nD).length=(plN t (pw ps k)).length:=length_map _;walk_at "r";exact⟨_,_,rfl⟩
 .rintro ρ ⟨v3,v4,rfl⟩;walk_at "r";exact q
noncomputable def ko(K:a_)(mg:Str->Option Value)(t:TxC K):=(have TC:=t;show LS K [] _ _ from (aK (CS (al wt (ac (aU aW (aa (ah (i:=0)) ae))) (ac (aU aW (aa (ah (i:=1)) ae)))) (tM (al bU (ac (aU aW (aa (ah (i:=0)) ae))) (ac (aU aW (aa (ah (i:=1)) ae)))) (al wt (ah (i:=0)) (ah (i:=1)))))))
def rc:PTS:=psO ko
def re:PRl bG rc 2 2:=λ_ Q h=>ii h λa _ h=>ii h λb _ h=>cC h λh=>pj rfl <| by
 walk_at "z";have h:Q (.dat (.bl (ahB a b))):=h;unfold ahB at h;walk_at "r"
 refine cJ (λc=>?_) (λc=>?_)
 .rw [if_pos (by omega),decide_eq_true (by omega:a.length<b.length)] at h;exact h
 walk_at "r"
 refine cJ (λc2=>?_) (λc2=>?_)
 .rw [if_neg (by omega)] at h;walk_at "r";exact h
 .rw [if_pos (by omega),decide_eq_false (by omega:¬ a.length<b.length)] at h;exact h
noncomputable def jg(K:a_)(mg:Str->Option Value)(t:TxC K):=(have TC:=t;show LS K [] _ _ from (ao (bn (dn (al bU (ac (aU jI (aa (ah (i:=1)) ae))) (ac (le_int (i:=0))))) (aK (ai (i:=2))) aH) (ao (aw gh (ar (i:=4) rfl)) (ao (cr (gi (aa (ac (aU aW (aa (ah (i:=0)) ae))) ae)) (au (i:=5) rfl) (bn (dn (al h8 (ac (al bg (ah (i:=1)) (ah (i:=5)))) (ac (le_int (i:=0))))) (ao (aw (le_int (i:=0)) (ar (i:=6) rfl)) (ao (dt (bn (dn (al fV (ah (i:=3)) (ac (le_str (l:=[]))))) (aw (ax (c:=bN) (aa (ac (ai (i:=3))) (aa (ac (al bg (ah (i:=0)) (ah (i:=5)))) ae))) (ar (i:=6) rfl)) aH)) (ao (aw (al aI (ac (al aI (ac (aM (ah (i:=1)) aO (aF (ai (i:=5))))) (ac (cq (aa (ac (al dN (ac (al bg (ah (i:=1)) (ah (i:=5)))) (ac (le_int (i:=1))))) ae))))) (ac (aM (ah (i:=1)) (aF (al aI (ah (i:=5)) (ac (le_int (i:=1))))) aO))) (ar (i:=7) rfl)) eo))) aH)) (aK (ai (i:=4)))))))
def o0:PTS:=psO jg
def o7:PRl dF o0 9 4:=λ_ Q h=>kC h λds _ h=>kC h λes _ h=>ii h λt _ h=>ii h λo _ h=>cC h λh=>pj rfl <| by
 walk_at "z";obtain⟨ps,rfl,cs,rfl,g,q⟩:=h;obtain⟨hn0,hn,hp,hcl,hs,ht,ho⟩:=g;have h0:cs.sum=0:=by omega
 walk_at "r";refine⟨cs.map λc=>((c:Nat):Int),by rw [map_map];rfl,by rw [length_map];omega,λm hm hle=>?_⟩;obtain⟨c1,hc1,rfl⟩:=Hb.mp hm;have hc0:c1=0:=Ha.mp h0 _ hc1;subst hc0;walk_at "r";exact q t ⟨(kP h0).mpr rfl,λu hu=>by rw [(kP h0).mp hu];exact ly t⟩
noncomputable def jh(K:a_)(mg:Str->Option Value)(t:TxC K):=(have TC:=t;show LS K [] _ _ from (ao (bn (dn (al bU (ac (aU jI (aa (ah (i:=1)) ae))) (ac (le_int (i:=0))))) (aK (ai (i:=2))) aH) (ao (aw gh (ar (i:=4) rfl)) (ao (cr (gi (aa (ac (aU aW (aa (ah (i:=0)) ae))) ae)) (au (i:=5) rfl) (bn (dn (al h8 (ac (al bg (ah (i:=1)) (ah (i:=5)))) (ac (le_int (i:=0))))) (ao (aw (le_int (i:=0)) (ar (i:=6) rfl)) (ao (dt (bn (dn (al fV (ah (i:=3)) (ac (le_str (l:=[]))))) (aw (ax (c:=bN) (aa (ac (ai (i:=3))) (aa (ac (al bg (ah (i:=0)) (ah (i:=5)))) ae))) (ar (i:=6) rfl)) aH)) (ao (aw (al aI (ac (al aI (ac (aM (ah (i:=1)) aO (aF (ai (i:=5))))) (ac (cq (aa (ac (al dN (ac (al bg (ah (i:=1)) (ah (i:=5)))) (ac (le_int (i:=1))))) ae))))) (ac (aM (ah (i:=1)) (aF (al aI (ah (i:=5)) (ac (le_int (i:=1))))) aO))) (ar (i:=7) rfl)) (ao (aw (ax (c:=dF) (aa (ac (ai (i:=0))) (aa (ac (ai (i:=7))) (aa (ac (al aI (ah (i:=2)) (ac (aM (ac (al bg (ah (i:=0)) (ah (i:=5)))) (aF (ai (i:=6))) aO)))) (aa (ac (al bg (ah (i:=0)) (ah (i:=5)))) ae))))) (ar (i:=8) rfl)) (bn (nX (dn (al (wu (neg:=false)) (ah (i:=4)) (ac gh))) (mI (ax (c:=bG) (aa (ac (ai (i:=8))) (aa (ac (ai (i:=4))) ae))))) (aw (ai (i:=8)) (ar (i:=4) rfl)) aH))))) aH)) (aK (ai (i:=4)))))))
def o8:PTS:=psO jh
def o9:PRl dG o8 9 4:=λ_ Q h=>kC h λds _ h=>kC h λes _ h=>ii h λt _ h=>ii h λo _ h=>cC h λh=>pj rfl <| by
 walk_at "z";obtain⟨ps,rfl,cs,rfl,g,q⟩:=h;exact rdB (c:=dF) (λps cs t o Q g q=>⟨ps,rfl,cs,rfl,g,q⟩) g q
noncomputable def ji(K:a_)(mg:Str->Option Value)(t:TxC K):=(have TC:=t;show LS K [] _ _ from (ao (bn (dn (al bU (ac (aU jI (aa (ah (i:=1)) ae))) (ac (le_int (i:=0))))) (aK (ai (i:=2))) aH) (ao (aw gh (ar (i:=4) rfl)) (ao (cr (gi (aa (ac (aU aW (aa (ah (i:=0)) ae))) ae)) (au (i:=5) rfl) (bn (dn (al h8 (ac (al bg (ah (i:=1)) (ah (i:=5)))) (ac (le_int (i:=0))))) (ao (aw (le_int (i:=0)) (ar (i:=6) rfl)) (ao (dt (bn (dn (al fV (ah (i:=3)) (ac (le_str (l:=[]))))) (aw (ax (c:=bN) (aa (ac (ai (i:=3))) (aa (ac (al bg (ah (i:=0)) (ah (i:=5)))) ae))) (ar (i:=6) rfl)) aH)) (ao (aw (al aI (ac (al aI (ac (aM (ah (i:=1)) aO (aF (ai (i:=5))))) (ac (cq (aa (ac (al dN (ac (al bg (ah (i:=1)) (ah (i:=5)))) (ac (le_int (i:=1))))) ae))))) (ac (aM (ah (i:=1)) (aF (al aI (ah (i:=5)) (ac (le_int (i:=1))))) aO))) (ar (i:=7) rfl)) (ao (aw (ax (c:=dG) (aa (ac (ai (i:=0))) (aa (ac (ai (i:=7))) (aa (ac (al aI (ah (i:=2)) (ac (aM (ac (al bg (ah (i:=0)) (ah (i:=5)))) (aF (ai (i:=6))) aO)))) (aa (ac (al bg (ah (i:=0)) (ah (i:=5)))) ae))))) (ar (i:=8) rfl)) (bn (nX (dn (al (wu (neg:=false)) (ah (i:=4)) (ac gh))) (mI (ax (c:=bG) (aa (ac (ai (i:=8))) (aa (ac (ai (i:=4))) ae))))) (aw (ai (i:=8)) (ar (i:=4) rfl)) aH))))) aH)) (aK (ai (i:=4)))))))
def pd:PTS:=psO ji
def pq:PRl dH pd 9 4:=λ_ Q h=>kC h λds _ h=>kC h λes _ h=>ii h λt _ h=>ii h λo _ h=>cC h λh=>pj rfl <| by
 walk_at "z";obtain⟨ps,rfl,cs,rfl,g,q⟩:=h;exact rdB (c:=dG) (λps cs t o Q g q=>⟨ps,rfl,cs,rfl,g,q⟩) g q
noncomputable def jj(K:a_)(mg:Str->Option Value)(t:TxC K):=(have TC:=t;show LS K [] _ _ from (ao (bn (dn (al bU (ac (aU jI (aa (ah (i:=1)) ae))) (ac (le_int (i:=0))))) (aK (ai (i:=2))) aH) (ao (aw gh (ar (i:=4) rfl)) (ao (cr (gi (aa (ac (aU aW (aa (ah (i:=0)) ae))) ae)) (au (i:=5) rfl) (bn (dn (al h8 (ac (al bg (ah (i:=1)) (ah (i:=5)))) (ac (le_int (i:=0))))) (ao (aw (le_int (i:=0)) (ar (i:=6) rfl)) (ao (dt (bn (dn (al fV (ah (i:=3)) (ac (le_str (l:=[]))))) (aw (ax (c:=bN) (aa (ac (ai (i:=3))) (aa (ac (al bg (ah (i:=0)) (ah (i:=5)))) ae))) (ar (i:=6) rfl)) aH)) (ao (aw (al aI (ac (al aI (ac (aM (ah (i:=1)) aO (aF (ai (i:=5))))) (ac (cq (aa (ac (al dN (ac (al bg (ah (i:=1)) (ah (i:=5)))) (ac (le_int (i:=1))))) ae))))) (ac (aM (ah (i:=1)) (aF (al aI (ah (i:=5)) (ac (le_int (i:=1))))) aO))) (ar (i:=7) rfl)) (ao (aw (ax (c:=dH) (aa (ac (ai (i:=0))) (aa (ac (ai (i:=7))) (aa (ac (al aI (ah (i:=2)) (ac (aM (ac (al bg (ah (i:=0)) (ah (i:=5)))) (aF (ai (i:=6))) aO)))) (aa (ac (al bg (ah (i:=0)) (ah (i:=5)))) ae))))) (ar (i:=8) rfl)) (bn (nX (dn (al (wu (neg:=false)) (ah (i:=4)) (ac gh))) (mI (ax (c:=bG) (aa (ac (ai (i:=8))) (aa (ac (ai (i:=4))) ae))))) (aw (ai (i:=8)) (ar (i:=4) rfl)) aH))))) aH)) (aK (ai (i:=4)))))))
def px:PTS:=psO jj
def pz:PRl dI px 9 4:=λ_ Q h=>kC h λds _ h=>kC h λes _ h=>ii h λt _ h=>ii h λo _ h=>cC h λh=>pj rfl <| by
 walk_at "z";obtain⟨ps,rfl,cs,rfl,g,q⟩:=h;exact rdB (c:=dH) (λps cs t o Q g q=>⟨ps,rfl,cs,rfl,g,q⟩) g q
noncomputable def jk(K:a_)(mg:Str->Option Value)(t:TxC K):=(have TC:=t;show LS K [] _ _ from (ao (bn (dn (al bU (ac (aU jI (aa (ah (i:=1)) ae))) (ac (le_int (i:=0))))) (aK (ai (i:=2))) aH) (ao (aw gh (ar (i:=4) rfl)) (ao (cr (gi (aa (ac (aU aW (aa (ah (i:=0)) ae))) ae)) (au (i:=5) rfl) (bn (dn (al h8 (ac (al bg (ah (i:=1)) (ah (i:=5)))) (ac (le_int (i:=0))))) (ao (aw (le_int (i:=0)) (ar (i:=6) rfl)) (ao (dt (bn (dn (al fV (ah (i:=3)) (ac (le_str (l:=[]))))) (aw (ax (c:=bN) (aa (ac (ai (i:=3))) (aa (ac (al bg (ah (i:=0)) (ah (i:=5)))) ae))) (ar (i:=6) rfl)) aH)) (ao (aw (al aI (ac (al aI (ac (aM (ah (i:=1)) aO (aF (ai (i:=5))))) (ac (cq (aa (ac (al dN (ac (al bg (ah (i:=1)) (ah (i:=5)))) (ac (le_int (i:=1))))) ae))))) (ac (aM (ah (i:=1)) (aF (al aI (ah (i:=5)) (ac (le_int (i:=1))))) aO))) (ar (i:=7) rfl)) (ao (aw (ax (c:=dI) (aa (ac (ai (i:=0))) (aa (ac (ai (i:=7))) (aa (ac (al aI (ah (i:=2)) (ac (aM (ac (al bg (ah (i:=0)) (ah (i:=5)))) (aF (ai (i:=6))) aO)))) (aa (ac (al bg (ah (i:=0)) (ah (i:=5)))) ae))))) (ar (i:=8) rfl)) (bn (nX (dn (al (wu (neg:=false)) (ah (i:=4)) (ac gh))) (mI (ax (c:=bG) (aa (ac (ai (i:=8))) (aa (ac (ai (i:=4))) ae))))) (aw (ai (i:=8)) (ar (i:=4) rfl)) aH))))) aH)) (aK (ai (i:=4)))))))
def pA:PTS:=psO jk
def pD:PRl dJ pA 9 4:=λ_ Q h=>kC h λds _ h=>kC h λes _ h=>ii h λt _ h=>ii h λo _ h=>cC h λh=>pj rfl <| by
 walk_at "z";obtain⟨ps,rfl,cs,rfl,g,q⟩:=h;exact rdB (c:=dI) (λps cs t o Q g q=>⟨ps,rfl,cs,rfl,g,q⟩) g q
noncomputable def me(K:a_)(mg:Str->Option Value)(t:TxC K):=(have TC:=t;show LS K [] _ _ from (ao (bn (dn (al bU (ac (aU jI (aa (ah (i:=1)) ae))) (ac (le_int (i:=0))))) (aK (ai (i:=2))) aH) (ao (aw gh (ar (i:=4) rfl)) (ao (cr (gi (aa (ac (aU aW (aa (ah (i:=0)) ae))) ae)) (au (i:=5) rfl) (bn (dn (al h8 (ac (al bg (ah (i:=1)) (ah (i:=5)))) (ac (le_int (i:=0))))) (ao (aw (le_int (i:=0)) (ar (i:=6) rfl)) (ao (dt (bn (dn (al fV (ah (i:=3)) (ac (le_str (l:=[]))))) (aw (ax (c:=bN) (aa (ac (ai (i:=3))) (aa (ac (al bg (ah (i:=0)) (ah (i:=5)))) ae))) (ar (i:=6) rfl)) aH)) (ao (aw (al aI (ac (al aI (ac (aM (ah (i:=1)) aO (aF (ai (i:=5))))) (ac (cq (aa (ac (al dN (ac (al bg (ah (i:=1)) (ah (i:=5)))) (ac (le_int (i:=1))))) ae))))) (ac (aM (ah (i:=1)) (aF (al aI (ah (i:=5)) (ac (le_int (i:=1))))) aO))) (ar (i:=7) rfl)) (ao (aw (ax (c:=dJ) (aa (ac (ai (i:=0))) (aa (ac (ai (i:=7))) (aa (ac (al aI (ah (i:=2)) (ac (aM (ac (al bg (ah (i:=0)) (ah (i:=5)))) (aF (ai (i:=6))) aO)))) (aa (ac (al bg (ah (i:=0)) (ah (i:=5)))) ae))))) (ar (i:=8) rfl)) (bn (nX (dn (al (wu (neg:=false)) (ah (i:=4)) (ac gh))) (mI (ax (c:=bG) (aa (ac (ai (i:=8))) (aa (ac (ai (i:=4))) ae))))) (aw (ai (i:=8)) (ar (i:=4) rfl)) aH))))) aH)) (aK (ai (i:=4)))))))
def sI:PTS:=psO me
def sJ:PRl iP sI 9 4:=λ_ Q h=>kC h λds _ h=>kC h λes _ h=>ii h λt _ h=>ii h λo _ h=>cC h λh=>pj rfl <| by
 walk_at "z";obtain⟨ps,rfl,cs,rfl,g,q⟩:=h;exact rdB (c:=dJ) (λps cs t o Q g q=>⟨ps,rfl,cs,rfl,g,q⟩) g q
noncomputable def kq(K:a_)(mg:Str->Option Value)(t:TxC K):=(have TC:=t;show LS K [0] _ _ from (ao (aw (lv (c0:="Often") (c:=br) (aa (ac (aU n9 (aa (ah (i:=1)) ae))) (aa (ac (aU i3 (aa (ah (i:=2)) ae))) ae))) (ar (i:=3) rfl)) (ao (aw (ax (c:=a9) (aa (ac (ai (i:=3))) ae)) (ar (i:=4) rfl)) (ao (bn (nX (eY (mI (tQ .str (ah (i:=4))))) (nX (eY (mI (ax (c:=fN) (aa (ac (ai (i:=4))) (aa (ac (ai (i:=1))) (aa (ac (ai (i:=2))) ae)))))) (dn (al fV (ac (ax (c:=a9) (aa (ac (ai (i:=3))) ae))) (ah (i:=4)))))) (aK (nW (i:=false))) aH) (ao (cr (gi (aa (ac (le_int (i:=4))) ae)) (au (i:=5) rfl) (ao (aw (bK (ix:=[none,some 1]) rfl (dA (aD (c:=h7) (i:=0) (aa (ac (ai (i:=2))) ae))) (λfs hc=>(au (i:=0) (jH hc (by decide)))) dB (al bg (ah (i:=1)) (ah (i:=0)))) (ar (i:=6) rfl)) (bn (mI (ax (c:=bG) (aa (ac (aD (c:=iO) (i:=0) (aa (ac (ai (i:=6))) ae))) (aa (ac (ai (i:=4))) ae)))) (aK (nW (i:=false))) aH))) (aK (CS (al h8 (ac (aU wA (aa (ah (i:=2)) ae))) (ac (le_int (i:=5)))) (al bU (ah (i:=4)) (ac (ax (c:=iP) (aa (ac (ai (i:=1))) (aa (ac (aU n9 (aa (ah (i:=2)) ae))) (aa (ac (le_str (l:=[]))) (aa (ac (le_str (l:=[]))) ae))))))))))))))
def rf:PTS:=psO kq
def rg:RRl gL rf 7 3:=λ_ _ Q h=>rC h λ_ h=>dq h λc0 _ h=>dq h λc1 _ h=>cC h λh=>kC h λds _ h=>kC h λes _ h=>cC h λh=>pj rfl <| by
 walk_at "z";obtain⟨ps,rfl,cs,rfl,⟨g,hn0,hn,hp,hk,hcl,hc⟩,q⟩:=h;have hp6:Pcs 60 ps:=hp;have hpos:∀w∈ps,0<w.length:=λw h=>(hp w h).1;have hs:=E_ (DR (λc h=>(hc c h).2) cs.length) (Bq (by omega));have hpm:(ps.map D.str).length=ps.length:=length_map _;have hcm:(cs.map nD).length=cs.length:=length_map _;have gO:ps.length<=40/\Pcs 60 ps/\(∀i,i<ps.length->bM ps i=true)/\cs.length=ps.length/\(∀c∈cs,1<=c/\c<=9)/\stp cs cs.length<=500:=⟨by omega,hp6,hk,hcl,λc h=>by have:=hc c h;omega,by omega⟩
 have gS:ps.length<=40/\Pcs 60 ps/\cs.length=ps.length/\stp cs cs.length<=500/\∀c∈cs,c<=9:=⟨by omega,hp6,hcl,by omega,λc h=>by have:=hc c h;omega⟩
 walk_at "r";refine⟨ps,cs,rfl,gS,λt ht=>?_⟩;have hE:=DP hpos hcl hk ht
 have htl:t.length<=3000:=by
  obtain⟨js,hj,rfl⟩:=ht.1;have h1:=Dx (A1 λw hw=>(hp6 w hw).2.1) js;have h2:=hj.length_eq;have h3:=lI (cs:=cs) (λc h=>by have:=hc c h;omega) cs.length;omega
 have ge:t.length<=100000/\(∀w∈ps,w.length<=60)/\cs.length=ps.length/\∀j,j<ps.length->cs.getD j 0<=(plN t (pw ps j)).length:=⟨by omega,λw h=>(hp6 w h).2.1,hcl,hE.1⟩
 walk_at "r";refine⟨ps,cs,rfl,gS,λt2 ht2=>?_⟩;have et:=ht.uniq ht2;subst et;walk_at "r"
 refine⟨λk ρ=>∃(s:Int×Int) (v5 v6:Option PV),SOk s/\ρ=[some (stv s),some (.dat (.lst (ps.map .str))),some (.dat (.lst (cs.map nD))),some (.dat (.obj "Often" Fb (Fc ps cs))),some (.dat (.str t)),v5,v6],⟨(c0,c1),_,_,g,rfl⟩,?_,?_⟩
 .rintro k ρ _ hk0 rfl ⟨⟨a,b⟩,v5,v6,g,rfl⟩;have gr:SOk (a,b)/\cs.length<=20/\∀c∈cs,c<=9:=⟨g,by omega,λc h=>by have:=hc c h;omega⟩
  walk_at "r";rintro js ⟨a,b⟩ hj g;have lt:∀j∈js,j<ps.length:=λj h=>by rw [<- hcl];exact qQ (hj.mem_iff.mp h)
  have hjl:=hj.length_eq;have hrl:=lI (cs:=cs) (λc h=>by have:=hc c h;omega) cs.length
  have pcs:Pcs 60 (js.map (pw ps)):=λw hw=>by
   obtain⟨i,hi,rfl⟩:=Hb.mp hw;exact hp6 _ (cK (lt i hi))
  walk_at "r"
  refine cm1 (λj=>.str (pw ps j)) (λj hj v K1 k1=>?_) (λv=>?_)
  .walk_at "r";refine⟨_,ft (lt j hj) rfl,?_⟩;exact k1 _
  have e1:js.map (λj=>D.str (pw ps j))=(js.map (pw ps)).map .str:=by rw [map_map];rfl
  rw [e1];have gl:SOk (a,b)/\(js.map (pw ps)).length<=40/\Pcs 60 (js.map (pw ps)):=⟨g,by rw [length_map];omega,pcs⟩
  walk_at "r";rintro T ⟨a,b⟩ g hT ⟨S,hS⟩
  have hEn:EnO ps cs T:=λj hjl=>DN (js:=js) (S:=S) hpos hcl hj (λk hk=>by
   have:=hS.1 k (by rw [length_map];exact hk)
   rwa [qT hk] at this) (λi j h1 h2=>hS.lt h1 (by rw [length_map];exact h2)) hjl
  have hah:ahB T t=false:=hE.2 T hEn;walk_at "r";exact⟨(a,b),_,_,g,rfl⟩
 .rintro ρ ⟨⟨a,b⟩,v5,v6,g,rfl⟩;walk_at "r";refine⟨cs.map λc=>((c:Nat):Int),by rw [map_map];rfl,?_⟩;rw [yA];walk_at "r"
  refine cJ (λc=>?_) (λc=>?_)
  .walk_at "r";exact q _ g
  have gB:BOk 5 ps cs [] []:=⟨hn0,by omega,hp6,hcl,by omega,by decide,by decide⟩
  walk_at "r";intro u hu;have eu:=ht.uniq (hu.congr λu=>Br hpos hcl);walk_at "r";rw [decide_eq_true eu];exact q _ g
noncomputable def kr(K:a_)(mg:Str->Option Value)(t:TxC K):=(have TC:=t;show LS K [0] _ _ from (ao (aw (al bg (ac (aD (c:=dD) (i:=0) (aa (ac (le_int (i:=1))) (aa (ac (le_int (i:=12))) ae)))) (ac (le_int (i:=0)))) (ar (i:=1) rfl)) (ao (aw (al aI (ac (le_int (i:=1))) (ac (aD (c:=aC) (i:=0) (aa (ac (le_int (i:=9))) ae)))) (ar (i:=2) rfl)) (ao (aw (al dN (ac (aU aW (aa (ah (i:=1)) ae))) (ac (ax (c:=bN) (aa (ac (ai (i:=1))) (aa (ac (ai (i:=1))) ae))))) (ar (i:=3) rfl)) (aK (al bU (ac (ax (c:=a9) (aa (ac (lv (c0:="Often") (c:=br) (aa (ac (cq (aa (ac (ai (i:=1))) ae))) (aa (ac (cq (aa (ac (ai (i:=2))) ae))) ae)))) ae))) (ac (al aI (ac (al eZ (ac (aM (ah (i:=1)) aO (aF (ai (i:=3))))) (ac (al dN (ah (i:=2)) (ac (le_int (i:=1))))))) (ah (i:=1))))))))))
def rh:PTS:=psO kr
def rj:RRl gM rh 4 1:=λ_ _ Q h=>rC h λ_ h=>dq h λc0 _ h=>dq h λc1 _ h=>cC h λh=>cC h λh=>pj rfl <| by
 walk_at "z";obtain⟨g,q⟩:=h;have g1:(0:Int)<=1/\(1:Int)<=100/\(0:Int)<12/\(12:Int)<=60:=⟨by decide,by decide,by decide,by decide⟩
 walk_at "r";rintro ps ⟨a,b⟩ g hpl hpp
 obtain⟨p,rfl⟩:∃p,ps=[p]:=by
  cases ps with
  | nil=>cases hpl
  | cons p r =>
   cases r with
   | nil=>exact⟨p,rfl⟩
   | cons x r=>have hpl:r.length+1+1=1:=hpl;omega
 have hp:=hpp p (mem_cons_self ..);have hp1:p.length<=12:=hp.2.1;walk_at "r";rintro x ⟨a,b⟩ g hx0 hx1;obtain⟨n,rfl⟩:∃n:Nat,x=(n:Int):=⟨x.toNat,by omega⟩
 have gl:p.length<=10000/\(0<p.length/\p.length<=10000):=⟨by omega,hp.1,by omega⟩
 have hlap:=(dQ hp.1 hp.1).1;have hP:Pcs 60 [p]:=λw hw=>by rw [v_.mp hw];exact⟨hp.1,by omega,hp.2.2⟩
 have hk:∀i,i<[p].length->bM [p] i=true:=λi hi=>j5 (λi j hi hj h=>absurd (show i=j by have:i<1:=hi;have:j<1:=hj;omega) h) hi;have hst:stp [n+1] [n+1].length<=500:=by show 1*(n+1+1)<=500;omega
 walk_at "r"
 have es:jB (.lst [.int (1+(n:Int))]) ([n+1].map nD):=by
  show jB (.lst [.int (1+(n:Int))]) [.int ((n+1:Nat):Int)];rw [show ((n+1:Nat):Int)=1+(n:Int) by omega];exact jB.lst _
 have hc:∀c∈[n+1],1<=c/\c<=9:=λc hc=>by rw [v_.mp hc];omega
 refine⟨[p],jB.lst _,[n+1],es,⟨by show 1<=40;decide,hP,hk,rfl,hc,hst⟩,?_⟩;have gS:[p].length<=40/\Pcs 60 [p]/\[n+1].length=[p].length/\stp [n+1] [n+1].length<=500/\∀c∈[n+1],c<=9:=⟨by show 1<=40;decide,hP,rfl,hst,λc h=>(hc c h).2⟩
 walk_at "r";refine⟨[p],[n+1],rfl,gS,λt ht=>?_⟩;have et:=Bs hp.1 ht.1
 have ec:cZ p none (some ((p.length:Int) - (cA p p:Int)))=p.take (p.length - cA p p):=by
  rw [tG p (by omega)];congr 1;omega
 have en:1+(n:Int) - 1=(n:Int):=by omega
 walk_at "r";rw [ec,en];have lr:n*(p.take (p.length - cA p p)).length<=9*12:=Jf (by omega) (by rw [length_take];omega);have lq:=cF (p.take (p.length - cA p p)) (n:Int);rw [toNat_natCast] at lq;refine⟨⟨by omega,by omega,by rw [toNat_natCast];omega⟩,?_⟩;walk_at "r";rw [decide_eq_true et];exact q _ g
noncomputable def gU(K:a_)(mg:Str->Option Value)(t:TxC K):=(have TC:=t;show LS K [0] _ _ from (ao (aw (aM (ac (aD (c:=cj) (i:=0) (aa (ac (le_str (l:=[97,98,99,100,101,102,103,104,105,106,107,108,109,110,111,112,113,114,115,116,117,118,119,120,121,122]))) ae))) aO (aF (le_int (i:=2)))) (wJ (n:=2) (aY (au (i:=1) rfl) (aY (au (i:=2) rfl) c8)))) (ao (aw (al aI (ac (le_int (i:=3))) (ac (aD (c:=aC) (i:=0) (aa (ac (le_int (i:=7))) ae)))) (ar (i:=3) rfl)) (ao (aw (aU Be (aa (ac (al aI (ac (al eZ (ac (al aI (ah (i:=1)) (ah (i:=2)))) (ah (i:=3)))) (ah (i:=1)))) (aa (ac (al aI (ac (al eZ (ac (al aI (ah (i:=2)) (ah (i:=1)))) (ah (i:=3)))) (ah (i:=2)))) ae))) (ar (i:=4) rfl)) (aK (al bU (ac (ax (c:=a9) (aa (ac (lv (c0:="Often") (c:=br) (aa (ac (cq (aa (ac (al aI (ah (i:=1)) (ah (i:=2)))) (aa (ac (al aI (ah (i:=2)) (ah (i:=1)))) ae)))) (aa (ac (lg (aa (ac (ai (i:=3))) (aa (ac (ai (i:=3))) ae)))) ae)))) ae))) (ah (i:=4))))))))
def mf:PTS:=psO gU
def mh:RRl ee mf 5 1:=λ_ _ Q h=>rC h λ_ h=>dq h λc0 _ h=>dq h λc1 _ h=>cC h λh=>cC h λh=>pj rfl <| by
 walk_at "z";obtain⟨g,q⟩:=h;have ga:SOk (c0,c1)/\abc.length<=100/\Lts abc:=⟨g,by rw [gN.2.1];decide,gN.2.2⟩
 walk_at "r";rintro js ⟨u,v⟩ hj g;obtain⟨x,y,r,rfl,hxy,hx,hy⟩:=DY hj gN.1 (by show 2<=26;decide);have Lx:=gN.2.2 x hx;have Ly:=gN.2.2 y hy;have ex:sgD x=.str [x]:=rfl;have ey:sgD y=.str [y]:=rfl;walk_at "r";rintro z ⟨u,v⟩ g hz0 hz1;obtain⟨n,rfl⟩:∃n:Nat,z=(n:Int):=⟨z.toNat,by omega⟩
 have em:3+(n:Int)=((n+3:Nat):Int):=by omega
 have lq:=cF [x,y] ((n+3:Nat):Int);have lq2:=cF [y,x] ((n+3:Nat):Int);rw [toNat_natCast] at lq lq2;have lq:(g9 [x,y] ((n+3:Nat):Int)).length=(n+3)*2:=lq;have lq2:(g9 [y,x] ((n+3:Nat):Int)).length=(n+3)*2:=lq2;rw [ex,ey];walk_at "r";rw [em];have e1:[x]++[y]=[x,y]:=rfl;have e2:[y]++[x]=[y,x]:=rfl;walk_at "r";rw [e1];refine⟨by rw [lq];show _+1<=_;omega,?_⟩;walk_at "r";rw [e2];refine⟨by rw [lq2];show _+1<=_;omega,?_⟩
 walk_at "r"
 have hP:Pcs 60 (abP x y):=λw hw=>by
  rcases w_.mp hw with rfl|hw
  .exact⟨by show 0<2;decide,by show 2<=60;decide,λc hc=>by rcases w_.mp hc with rfl|hc;exact Lx;rw [v_.mp hc];exact Ly⟩
  .rw [v_.mp hw];exact⟨by show 0<2;decide,by show 2<=60;decide,λc hc=>by rcases w_.mp hc with rfl|hc;exact Ly;rw [v_.mp hc];exact Lx⟩
 have hk:∀i,i<(abP x y).length->bM (abP x y) i=true:=λi hi=>nt (n:=2) (λi hi=>by rw [mN hi];rfl) (λi j hi hj e=>by
  have hi:i<2:=hi;have hj:j<2:=hj;rw [mN hi,mN hj];intro z;have z:=(List.cons.inj z).1
  rcases (show i=0\/i=1 by omega) with rfl|rfl <;> rcases (show j=0\/j=1 by omega) with rfl|rfl
  .exact e rfl
  .exact hxy z
  .exact hxy z.symm
  .exact e rfl) hi
 have hc:∀c∈[n+3,n+3],1<=c/\c<=9:=λc hc=>by
  rcases w_.mp hc with rfl|hc
  .omega
  .rw [v_.mp hc];omega
 have hst:stp [n+3,n+3] [n+3,n+3].length<=500:=by
  show 1*(n+3+1)*(n+3+1)<=500;have:(n+3+1)*(n+3+1)<=10*10:=Jf (by omega) (by omega);rw [one_mul];omega
 refine⟨abP x y,jB.lst _,[n+3,n+3],jB.tup _,⟨by show 2<=40;decide,hP,hk,rfl,hc,hst⟩,rfl,?_⟩;have gS:(abP x y).length<=40/\Pcs 60 (abP x y)/\[n+3,n+3].length=(abP x y).length/\stp [n+3,n+3] [n+3,n+3].length<=500/\∀c∈[n+3,n+3],c<=9:=⟨by show 2<=40;decide,hP,rfl,hst,λc h=>(hc c h).2⟩
 walk_at "r";refine⟨abP x y,[n+3,n+3],rfl,gS,λt ht=>?_⟩;have et:=DX hxy (Ke _) ht;walk_at "r";rw [decide_eq_true et];exact q _ g
noncomputable def eG(K:a_)(mg:Str->Option Value)(t:TxC K):=(have TC:=t;show LS K [0] _ _ from (ao (aw (aM (ac (aD (c:=cj) (i:=0) (aa (ac (le_str (l:=[97,98,99,100,101,102,103,104,105,106,107,108,109,110,111,112,113,114,115,116,117,118,119,120,121,122]))) ae))) aO (aF (le_int (i:=3)))) (ar (i:=1) rfl)) (ao (aw (aD (c:=cU) (i:=0) (aa (ac (cq (aa (ac (le_int (i:=9))) (aa (ac (le_int (i:=9))) (aa (ac (le_int (i:=4))) ae))))) ae)) (ar (i:=2) rfl)) (ao (aw (wB t7 (le_str (l:=[])) (aa (ac (aU yp (aa (ac (bK (ix:=[none,none]) rfl (tT (aa (ac (ai (i:=1))) (aa (ac (ai (i:=2))) ae))) (λfs hc=>(eM (n:=2) (aY (au (i:=0) (jH hc (by decide))) (aY (au (i:=1) (jH hc (by decide))) c8)))) dB (al eZ (ah (i:=0)) (ah (i:=1))))) ae))) ae)) (ar (i:=3) rfl)) (aK (al bU (ac (ax (c:=a9) (aa (ac (lv (c0:="Often") (c:=br) (aa (ac (ai (i:=1))) (aa (ac (ai (i:=2))) ae)))) ae))) (ah (i:=3))))))))
def jl:PTS:=psO eG
def jm:RRl cW jl 4 1:=λ_ _ Q h=>rC h λ_ h=>dq h λc0 _ h=>dq h λc1 _ h=>cC h λh=>cC h λh=>pj rfl <| by
 walk_at "z";obtain⟨g,q⟩:=h;have ga:SOk (c0,c1)/\abc.length<=100/\Lts abc:=⟨g,by rw [gN.2.1];decide,gN.2.2⟩
 walk_at "r";rintro js ⟨u,v⟩ hj g;obtain⟨x,y,z,r,rfl,hxy,hxz,hyz,hx,hy,hz⟩:=yC hj gN.1 (by show 3<=26;decide);have Lx:=gN.2.2 x hx;have Ly:=gN.2.2 y hy;have Lz:=gN.2.2 z hz;have e1:cZ ((x::y::z::r).map sgD) none (some 3)=[[x],[y],[z]].map .str:=by rw [show (3:Int)=((3:Nat):Int) from rfl,dL];rfl
 walk_at "r";rw [e1];refine⟨[9,9,4],rfl,⟨g,by decide⟩,λjs ⟨u,v⟩ hjc g=>?_⟩;obtain⟨c1,c2,c3,rfl,hc,hst⟩:=yD hjc;have h1:=hc c1 (by simp);have h2:=hc c2 (by simp);have h3:=hc c3 (by simp);walk_at "r"
 refine cmZ (xs:=[[x],[y],[z]]) (ys:=[c1,c2,c3]) (e:=D.str) (e':=nD) (λp c=>.str (f_ c (p.headD 0))) ?_ ?_
 .intro p c hpc v w K1 k1
  have hp1:∃a,p=[a]:=by
   have:=(IZ hpc).1;simp at this;rcases this with rfl|rfl|rfl <;> exact⟨_,rfl⟩
  obtain⟨a,rfl⟩:=hp1;have hcc:=hc c (IZ hpc).2;have er:g9 [a] (c:Int)=f_ c a:=tY a c;walk_at "r";rw [er];exact k1 _ _
 intro v w;have e2:(([[x],[y],[z]].zip [c1,c2,c3]).map λp=>D.str (f_ p.2 (p.1.headD 0)))=(wsL x y z c1 c2 c3).map .str:=rfl;rw [e2];walk_at "r";intro ws hws hsr
 have hfl:ws.flatten.length<=27:=by
  rw [hws.flatten.length_eq];show (f_ c1 x++(f_ c2 y++(f_ c3 z++[]))).length<=27;simp only [length_append,length_replicate,length_nil];omega
 have hP:Pcs 60 [[x],[y],[z]]:=λw hw=>by
  simp at hw
  rcases hw with rfl|rfl|rfl
  .exact⟨one_pos,by show 1<=60;decide,λc hc=>by rw [v_.mp hc];exact Lx⟩
  .exact⟨one_pos,by show 1<=60;decide,λc hc=>by rw [v_.mp hc];exact Ly⟩
  .exact⟨one_pos,by show 1<=60;decide,λc hc=>by rw [v_.mp hc];exact Lz⟩
 have hk:∀i,i<[[x],[y],[z]].length->bM [[x],[y],[z]] i=true:=λi hi=>nt (n:=1) (λi hi=>by
   have hi:i<3:=hi;rcases (show i=0\/i=1\/i=2 by omega) with rfl|rfl|rfl <;> rfl) (λi j hi hj e=>by
  have hi:i<3:=hi;have hj:j<3:=hj;have n1:∀a b:Nat,a≠b->[a]≠[b]:=λa b h z=>h (List.cons.inj z).1
  rcases (show i=0\/i=1\/i=2 by omega) with rfl|rfl|rfl <;> rcases (show j=0\/j=1\/j=2 by omega) with rfl|rfl|rfl
  .exact absurd rfl e
  .exact n1 _ _ hxy
  .exact n1 _ _ hxz
  .exact n1 _ _ hxy.symm
  .exact absurd rfl e
  .exact n1 _ _ hyz
  .exact n1 _ _ hxz.symm
  .exact n1 _ _ hyz.symm
  .exact absurd rfl e) hi
 have gO:[[x],[y],[z]].length<=40/\Pcs 60 [[x],[y],[z]]/\(∀i,i<[[x],[y],[z]].length->bM [[x],[y],[z]] i=true)/\[c1,c2,c3].length=[[x],[y],[z]].length/\(∀c∈[c1,c2,c3],1<=c/\c<=9)/\stp [c1,c2,c3] [c1,c2,c3].length<=500:=⟨by show 3<=40;decide,hP,hk,rfl,hc,hst⟩
 have gS:[[x],[y],[z]].length<=40/\Pcs 60 [[x],[y],[z]]/\[c1,c2,c3].length=[[x],[y],[z]].length/\stp [c1,c2,c3] [c1,c2,c3].length<=500/\∀c∈[c1,c2,c3],c<=9:=⟨by show 3<=40;decide,hP,rfl,hst,λc h=>(hc c h).2⟩
 walk_at "r";refine⟨[[x],[y],[z]],[c1,c2,c3],rfl,gS,λt ht=>?_⟩;have et:=Bu hxy hxz hyz (by omega) (by omega) (by omega) hws hsr ht;walk_at "r";rw [decide_eq_true et];exact q _ g
noncomputable def zE(K:a_)(mg:Str->Option Value)(t:TxC K):=(have TC:=t;show LS K [] _ _ from (ao (cr (gi (aa (ac (aU AL (aa (ac (le_int (i:=2))) (aa (ac (aU rR (aa (ac (le_int (i:=3))) (aa (ac (aU aW (aa (ah (i:=0)) ae))) ae)))) ae)))) ae)) (au (i:=1) rfl) (ao (aw (ax (c:=dC) (aa (ac (ai (i:=0))) (aa (ac (ai (i:=1))) ae))) (ar (i:=2) rfl)) (ao (cr (gi (aa (ac (le_int (i:=2))) ae)) (au (i:=3) rfl) (ao (aw (aD (c:=gJ) (i:=2) (aa (ac (al aI (ac (le_int (i:=1))) (ac (aD (c:=aC) (i:=2) (aa (ac (le_int (i:=4))) ae))))) (aa (ac (le_int (i:=7))) ae))) (ar (i:=4) rfl)) (ao (aw (aD (c:=fK) (i:=2) (aa (ac (aU aW (aa (ah (i:=4)) ae))) (aa (ac (le_int (i:=3))) ae))) (ar (i:=5) rfl)) (bn (nX (eY (mI (aD (c:=gL) (i:=2) (aa (ac (ai (i:=4))) (aa (ac (ai (i:=5))) ae))))) (eY (mI (aD (c:=gM) (i:=2) ae)))) (aK (nW (i:=false))) aH)))) (bn (qq (dn (al bU (ac (aD (c:=aC) (i:=2) (aa (ac (le_int (i:=8))) ae))) (ac (le_int (i:=0))))) (eY (mI (aD (c:=ee) (i:=2) ae)))) (aK (nW (i:=false))) aH)))) (ao (aw (ax (c:=dC) (aa (ac (ai (i:=0))) (aa (ac (le_int (i:=7))) ae))) (ar (i:=2) rfl)) (ao (bn (qq (dn (al bU (ac (aD (c:=aC) (i:=2) (aa (ac (le_int (i:=4))) ae))) (ac (le_int (i:=1))))) (eY (mI (aD (c:=cW) (i:=2) ae)))) (aK (nW (i:=false))) aH) (aK (al bU (ac (ax (c:=a9) (aa (ac (lv (c0:="Often") (c:=br) (aa (ac (lg ae)) (aa (ac (lg ae)) ae)))) ae))) (ac (le_str (l:=[])))))))))
def xA:PTS:=psO zE
def Bv(ns:List Int)(h63:ns.length<=63)(Q:PV->Prop)(q:Q (.dat (.bl true))):BH xA zB [.scr ns] Q:=by
 show xA _ [some (.dat (.scr ns)),none,none,none,none,none]
 have hmax:(if (if (ns.length:Int)<3 then (ns.length:Int) else 3) > 2 then if (ns.length:Int)<3 then (ns.length:Int) else 3 else 2).toNat<=3:=by
  split
  .split <;> omega
  .omega
 walk_at "r"
 refine⟨λk ρ=>∃v1 v2 v3 v4 v5:Option PV,ρ=[some (.dat (.scr ns)),v1,v2,v3,v4,v5],⟨_,_,_,_,_,rfl⟩,?_,?_⟩
 .rintro k ρ _ hk rfl ⟨v1,v2,v3,v4,v5,rfl⟩;have hk3:k<3:=u_ hk hmax;clear hk hmax;walk_at "r";rintro⟨a,b⟩ g;walk_at "r"
  refine⟨λj ρ=>∃(s:Int×Int) (v3 v4 v5:Option PV),SOk s/\ρ=[some (.dat (.scr ns)),some (.dat (.int (k:Int))),some (stv s),v3,v4,v5],⟨(a,b),_,_,_,g,rfl⟩,?_,?_⟩
  .rintro j ρ _ hj rfl ⟨⟨a,b⟩,v3,v4,v5,g,rfl⟩;walk_at "r";rintro y ⟨a,b⟩ g hy0 hy1;have hy2:0<=1+y/\1+y<=100/\(0:Int)<7/\(7:Int)<=60:=⟨by omega,by omega,by decide,by decide⟩
   walk_at "r";rintro ps ⟨a,b⟩ g hpl hpp;have hpl:ps.length=(1+y).toNat:=hpl;have hp:Pcs 60 ps:=λw hw=>⟨(hpp w hw).1,by have h:=(hpp w hw).2.1;have h:w.length<=7:=h;omega,(hpp w hw).2.2⟩
   have w0:=yB (ps:=ps) (by omega) λw hw=>(hp w hw).2.1;have wk:=λi (h:i<(cB ps).length)=>xr h;have wp:=uP hp;have w5:(cB ps).length<=4:=by have:=uQ ps;omega
   generalize cB ps=ws at w0 wk wp w5;clear hpl hpp hy2 hy0 hy1 hp;have hlm:(ws.map D.str).length=ws.length:=length_map _;have hc2:0<=((ws.map D.str).length:Int)/\((ws.map D.str).length:Int)<=100/\(0:Int)<3/\(3:Int)<=60:=⟨by omega,by omega,by decide,by decide⟩
   walk_at "r";rintro cs ⟨a,b⟩ g hcl hcc;have hcl:cs.length=ws.length:=by rw [hcl,hlm,toNat_natCast]
   have hcc:∀c∈cs,1<=c/\c<=3:=hcc;have gs:SOk (a,b)/\0<ws.length/\ws.length<=4/\Pcs 60 ws/\(∀i,i<ws.length->bM ws i=true)/\cs.length=ws.length/\(∀c∈cs,1<=c/\c<=3):=⟨g,w0,w5,wp,wk,hcl,hcc⟩
   walk_at "r";rintro⟨a,b⟩ g;walk_at "r";rintro⟨a,b⟩ g;walk_at "r";exact⟨(a,b),_,_,_,g,rfl⟩
  .rintro ρ ⟨⟨a,b⟩,v3,v4,v5,g,rfl⟩;walk_at "r";rintro y ⟨a,b⟩ g hy0 hy1;walk_at "r"
   refine cJ (λc=>?_) (λc=>?_)
   .walk_at "r";rintro⟨a,b⟩ g;walk_at "r";exact⟨_,_,_,_,_,rfl⟩
   .exact⟨_,_,_,_,_,rfl⟩
 .rintro ρ ⟨v1,v2,v3,v4,v5,rfl⟩;walk_at "r";rintro⟨a,b⟩ g;walk_at "r";rintro y ⟨a,b⟩ g hy0 hy1
  have et:∀t,Lst (GlO [] []) t->t=[]:=λt ht=>by
   obtain⟨js,hj,rfl⟩:=ht.1;rw [perm_nil.mp (show js.Perm [] from hj)];rfl
  have p0:Pcs 60 []:=λ_ h=>nomatch h
  have c0:∀c∈([]:List Nat),1<=c/\c<=9:=λ_ h=>nomatch h
  have c9:∀c∈([]:List Nat),c<=9:=λ_ h=>nomatch h
  have k0:∀i,i<([]:List (List Nat)).length->bM [] i=true:=λi h=>absurd h (G_ _);have s0:stp [] ([]:List Nat).length<=500:=by decide
  have gS:([]:List (List Nat)).length<=40/\Pcs 60 []/\([]:List Nat).length=([]:List (List Nat)).length/\stp [] ([]:List Nat).length<=500/\∀c∈([]:List Nat),c<=9:=⟨by decide,p0,rfl,s0,c9⟩
  walk_at "r"
  refine cJ (λc=>?_) (λc=>?_)
  .walk_at "r";rintro⟨a,b⟩ g;walk_at "r";refine⟨[],jB.tup _,[],jB.tup _,⟨by decide,p0,k0,rfl,c0,s0⟩,rfl,?_⟩;walk_at "r";refine⟨[],[],rfl,gS,λt ht=>?_⟩;rw [et t ht];walk_at "r";exact q
  .walk_at "r";refine⟨[],jB.tup _,[],jB.tup _,⟨by decide,p0,k0,rfl,c0,s0⟩,rfl,?_⟩;walk_at "r";refine⟨[],[],rfl,gS,λt ht=>?_⟩;rw [et t ht];walk_at "r";exact q
def D1:PRl zC xA zB 1:=λ_ Q h=>match h with|⟨ns,e,h63,q⟩=>e ▸ ⟨rfl,Bv ns h63 Q q⟩
local macro_rules | `(tactic| walk_at "l")=>`(tactic| (intros;rename_i h;split at h <;> first | rfl | exact h.elim))
local macro_rules | `(tactic| walk_at "b0")=>`(tactic| exact fun _ _ _ _ _ _ us hl=>match us,hl with | [],_=>rfl)
local macro_rules | `(tactic| walk_at "b1")=>`(tactic| exact fun _ _ _ _ _ _ us hl=>match us,hl with | [_],_=>rfl)
local macro_rules | `(tactic| walk_at "b2")=>`(tactic| exact fun _ _ _ _ _ _ us hl=>match us,hl with | [_,_],_=>rfl)
local macro_rules | `(tactic| walk_at "b3")=>`(tactic| exact fun _ _ _ _ _ _ us hl=>match us,hl with | [_,_,_],_=>rfl)
local macro_rules | `(tactic| walk_at "b4")=>`(tactic| exact fun _ _ _ _ _ _ us hl=>match us,hl with | [_,_,_,_],_=>rfl)
local macro_rules | `(tactic| walk_at "b5")=>`(tactic| exact fun _ _ _ _ _ _ us hl=>match us,hl with | [_,_,_,_,_],_=>rfl)
local macro_rules | `(tactic| walk_at "b6")=>`(tactic| exact fun _ _ _ _ _ _ us hl=>match us,hl with | [_,_,_,_,_,_],_=>rfl)
local macro_rules | `(tactic| walk_at "b7")=>`(tactic| exact fun _ _ _ _ _ _ us hl=>match us,hl with | [_,_,_,_,_,_,_],_=>rfl)
section
variable (P:s_) (w:World) (K:a_) (mg:Str->Option Value) (base:Heap)
abbrev rk:=Cal P w K mg base 1 "is_row" ["thing"] (spP K lK)
abbrev kt:=Cal P w K mg base 1 "is_number" ["thing"] (spP K gI)
abbrev zF:=Cal P w K mg base 1 "lap" ["one","other"] (spP K qS)
abbrev mj:=Cal P w K mg base 2 "all_laps" ["words"] (spP K fJ)
abbrev ml:=Cal P w K mg base 2 "is_whole" ["thing","least","most"] (spP K iH)
abbrev io:=Cal P w K mg base 1 "first_place" ["text","piece"] (spP K eS)
abbrev vd:=CK P w K mg base 1 "is_text" ["thing","least","most"] [.int 0,.int 4000] (spP K e9)
abbrev gW:=Cal P w K mg base 2 "check_pieces" ["things"] (spP K cM)
abbrev fZ:=Cal P w K mg base 2 "stands_within" ["piece","other"] (spP K cE)
abbrev nC:=Cal P w K mg base 3 "is_kept" ["pieces","at"] (spP K j2)
abbrev ip:=Cal P w K mg base 4 "check_apart" ["pieces"] (spP K di)
abbrev gX:=Cal P w K mg base 3 "check_counts" ["counts","many"] (spP K cP)
abbrev iQ:=Cal P w K mg base 1 "steps_of" ["counts"] (spP K dZ)
abbrev mn:=Cal P w K mg base 1 "is_ahead" ["one","other"] (spP K iI)
abbrev iR:=Cal P w K mg base 2 "foremost" ["texts"] (spP K d0)
abbrev mo:=Cal P w K mg base 1 "heads_of" ["words","laps"] (spP K iJ)
abbrev mq:=Cal P w K mg base 3 "all_ends" ["heads","lasts","lefts"] (spP K iM)
abbrev f7:=Cal P w K mg base 4 "foremost_text" ["words","laps","lefts"] (spP K dy)
abbrev gY:=Cal P w K mg base 1 "choices_left" ["counts","steps","number"] (spP K cQ)
abbrev bw:=Cal P w K mg base 5 "shortest_often" ["often"] (spP K a9)
abbrev jn:=Cal P w K mg base 1 "_law_stream" ["_law_script","_law_k"] (spP K dC)
abbrev bc:=Cal P w K mg base 1 "_law_next" ["_law_stream_here","_law_many"] (spR K aC)
abbrev iT:=Cal P w K mg base 2 "_law_word" ["_law_stream_here","_law_letters","_law_most"] (spR K d4)
abbrev nE:=Cal P w K mg base 2 "_law_cut" ["_law_stream_here","_law_text","_law_most"] (spR K j4)
abbrev mr:=Cal P w K mg base 3 "_law_base" ["_law_stream_here","_law_most"] (spR K iN)
abbrev fP:=Cal P w K mg base 4 "_law_pieces" ["_law_stream_here","_law_many","_law_most"] (spR K dD)
abbrev jo:=Cal P w K mg base 1 "_law_within" ["_law_pieces_here","_law_k"] (spP K dE)
abbrev ku:=Cal P w K mg base 5 "_law_apart" ["_law_stream_here","_law_many","_law_most"] (spR K gJ)
abbrev jp:=Cal P w K mg base 2 "_law_counts" ["_law_stream_here","_law_many","_law_most"] (spR K fK)
abbrev ck:=Cal P w K mg base 1 "_law_lap" ["_law_one","_law_other"] (spP K bN)
abbrev ef:=Cal P w K mg base 2 "_law_shuffled" ["_law_stream_here","_law_row_here"] (spR K cU)
abbrev dg:=Cal P w K mg base 2 "_law_shuffled" ["_law_stream_here","_law_row_here"] (spR K cj)
abbrev jq:=Cal P w K mg base 2 "_law_lesser" ["_law_stream_here","_law_one","_law_other","_law_many"] (spR K fL)
abbrev mw:=Cal P w K mg base 3 "_law_laid" ["_law_stream_here","_law_texts"] (spR K iO)
abbrev nF:=Cal P w K mg base 3 "_law_row" ["_law_stream_here","_law_counts_here"] (spR K h7)
abbrev jr:=Cal P w K mg base 1 "_law_places" ["_law_text","_law_piece"] (spP K fM)
abbrev jt:=Cal P w K mg base 2 "_law_enough" ["_law_text","_law_pieces_here","_law_counts_here"] (spP K fN)
abbrev bY:=Cal P w K mg base 1 "_law_ahead" ["_law_one","_law_other"] (spP K bG)
abbrev ju:=Cal P w K mg base 2 "_law_best" ["_law_pieces_here","_law_left","_law_text","_law_one"] (spP K dF)
abbrev jv:=Cal P w K mg base 3 "_law_best" ["_law_pieces_here","_law_left","_law_text","_law_one"] (spP K dG)
abbrev jw:=Cal P w K mg base 4 "_law_best" ["_law_pieces_here","_law_left","_law_text","_law_one"] (spP K dH)
abbrev jx:=Cal P w K mg base 5 "_law_best" ["_law_pieces_here","_law_left","_law_text","_law_one"] (spP K dI)
abbrev jy:=Cal P w K mg base 6 "_law_best" ["_law_pieces_here","_law_left","_law_text","_law_one"] (spP K dJ)
abbrev mx:=Cal P w K mg base 7 "_law_best" ["_law_pieces_here","_law_left","_law_text","_law_one"] (spP K iP)
abbrev cX:=CN P w K mg base 5 (cG K "Often") "Often" ["self","pieces","counts"] (spR K br)
abbrev kv:=Cal P w K mg base 8 "_law_short" ["_law_stream_here","_law_pieces_here","_law_counts_here"] (spR K gL)
abbrev kx:=Cal P w K mg base 7 "_law_alone" ["_law_stream_here"] (spR K gM)
abbrev gZ:=Cal P w K mg base 7 "_law_by_turns" ["_law_stream_here"] (spR K ee)
abbrev eH:=Cal P w K mg base 7 "_law_many_places" ["_law_stream_here"] (spR K cW)
abbrev D2:=Cal P w K mg base 9 "law" ["_law_script"] (spP K zC)
end
section
variable (P:s_) (w:World) {K:a_}{mg:Str->Option Value} (base:Heap)
def xB(D:aV K mg "is_row" oA)(T:Txt mg)(TC:TxC K):rk P w K mg base:=D.oP2 xc (by walk_at "b1") xz rfl rfl λ_ _ _ _ _ _ _ hr hu=>⟨_,(aj (aJ (am (EL K rfl) rfl T.b_isinstance HY (paC (pv 0) (paC (kg (paC (jC (v:=.ty "list") rfl T.b_list JC rfl) (paC (jC (v:=.ty "tuple") rfl T.b_tuple Jh rfl) af))) af))))),(qW K mg TC)⟩
def rm(D:aV K mg "is_number" iB)(T:Txt mg)(TC:TxC K):kt P w K mg base:=D.oP2 qO (by walk_at "b1") qY rfl rfl λ_ _ _ _ _ _ _ hr hu=>⟨_,(aj (aJ (sZ (am (x8 K rfl) rfl T.b_isinstance HY (paC (pv 0) (paC (jC (v:=.ty "int") rfl T.b_int boot_int rfl) af))) (kU (yE (am (x8 K rfl) rfl T.b_isinstance HY (paC (pv 0) (paC (jC (v:=.ty "bool") rfl T.b_bool boot_bool rfl) af)))))))),(km K mg TC)⟩
def D3(D:aV K mg "lap" Bf)(T:Txt mg)(TC:TxC K):zF P w K mg base:=D.oP2 zj (by walk_at "b2") D0 rfl rfl λ_ _ _ _ _ _ _ hr hu=>⟨_,(ag (cm r_ rfl (qd rfl T.b_range (paC (aP iw (am (wz rfl) rfl T.b_min boot_min (paC (am (bA K rfl) rfl T.b_len g_ (paC (pv 0) af)) (paC (am (bA K rfl) rfl T.b_len g_ (paC (pv 1) af)) af))) ap) (paC ap (paC (zO vt ap) af)))) (aB (i:=2) zj.nd rfl (by walk_at "o")) (aj (bi (bL (eX K rfl Hh PySem.F.slot_str_endswith PySem.F.type_str_endswith AQ (pv 0) (paC (aL (fT K rfl) (pv 1) aT (aQ (pv 2))) af))) (aj (aJ (pv 2))) aG))) (aj (aJ ap))),(zD K mg TC)⟩
def sK(D:aV K mg "all_laps" jM)(T:Txt mg)(TC:TxC K)(C'2:zF P w K mg base):mj P w K mg base:=D.oP2 rY (by walk_at "b1") se rfl rfl λ_ _ _ _ _ _ _ hr hu=>⟨_,(aj (aJ (bP (lp K rfl) rfl T.b_tuple Jh (paC (bT (wi:=(qs K (bu 0))) (g:=(bQ 0)) (tts:=mH) (te:=(tCB (AN K) (ba (rK [none,some 0] (qs K (bu 1)) (bQ 0) mH (f9 (spP K qS) [] E0 (ba (bu 1) (ba (bu 0) fi)))) fi))) ["one","words"] [none,some 0] rfl (dz K rfl (pv 0)) (λ_ _ _ _=>⟨(aB (i:=0) (by show y_ (["one","words"]:List Str);decide +kernel) rfl (by walk_at "o")),cu,(bP (lp K rfl) rfl T.b_tuple Jh (paC (bT (wi:=(qs K (bu 1))) (g:=(bQ 0)) (tts:=mH) (te:=(f9 (spP K qS) [] E0 (ba (bu 1) (ba (bu 0) fi)))) ["other","one"] [none,some 0] rfl (dz K rfl (pv 1)) (λ_ _ _ _=>⟨(aB (i:=0) (by show y_ (["other","one"]:List Str);decide +kernel) rfl (by walk_at "o")),cu,(aq C'2 (hr.m rfl) (paC (pv 1) (paC (pv 0) af)))⟩) (by kernel_rfl)) af))⟩) (by kernel_rfl)) af)))),(lP K mg TC)⟩
def ve(D:tJ K mg "is_text" e8 [.int 0,.int 4000])(T:Txt mg)(TC:TxC K):CK P w K mg base 1 "is_text" ["thing","least","most"] [.int 0,.int 4000] (spP K e9):=by
 refine D.ok uV (λdT kV doc pm an cdv ct items us n hi hn hl=>?_) (λvs H Q E h=>?_) (λf cdv A outer s H vs Q E hr h=>?_)
 .obtain⟨i0,i1,rfl⟩:=DF hi;have hn':n=0\/n=1\/n=2:=by (have:n<=2:=hn);omega
  rcases hn' with rfl|rfl|rfl
  .have hl2:us.length=1:=by (simp at hl;omega)
   obtain⟨_,rfl⟩:=E9 hl2;exact⟨_,rfl,rfl⟩
  .have hl2:us.length=2:=by (simp at hl;omega)
   obtain⟨_,_,rfl⟩:=DF hl2;exact⟨_,rfl,rfl⟩
  .have hl2:us.length=3:=by (simp at hl;omega)
   obtain⟨_,_,_,rfl⟩:=Fa hl2;exact⟨_,rfl,rfl⟩
 .exact FU (λds Q h=>(j6 ds Q h).1) h
 .have hu:=hr.units;exact⟨_,(ag (bi (PW.pt (nI (eT (bL (am (x8 K rfl) rfl T.b_isinstance HY (paC (pv 0) (paC (jC (v:=.ty "str") rfl T.b_str boot_str rfl) af))))) (kf (eT (xJ BD BD (pv 1) (am (bA K rfl) rfl T.b_len g_ (paC (pv 0) af)) (pv 2)))))) (aj (aJ nH)) aG) (aj (aJ (am (ES K rfl rfl) rfl T.b_all boot_all (paC (bT (wi:=(qs K (bu 0))) (g:=(bQ 0)) (tts:=mH) (te:=(tq D8 D8 (tC (V.str (S [97]))) (bu 0) (tC (V.str (S [122]))))) ["sign"] [none] rfl (dz K rfl (pv 0)) (λ_ _ _ _=>⟨(aB (i:=0) (by show y_ (["sign"]:List Str);decide +kernel) rfl (by walk_at "o")),cu,(tu BD BD (bp (l:=[97]) (by decide +kernel)) (pv 0) (bp (l:=[122]) (by decide +kernel)))⟩) (by kernel_rfl)) af))))),fnP (K:=K) (c:=e9) (ps:=nu) (N:=["thing","least","most"]) (ao (bn (nX (eY (mI (tQ .str (ah (i:=0))))) (eY (dn (nZ uM uM (ah (i:=1)) (ac (aU aW (aa (ah (i:=0)) ae))) (ah (i:=2)))))) (aK (nW (i:=false))) aH) (aK (aU Di (aa (ac (bK (ix:=[none]) rfl (dA (ai (i:=0))) (λfs hc=>(au (i:=0) (jH hc (by decide)))) dB (nZ uM uM (ac (le_str (l:=[97]))) (ah (i:=0)) (ac (le_str (l:=[122])))))) ae)))) (λds Q h=>E_ (J9 (j6 ds Q h).1) (by decide)) (λds Q h=>(j6 ds Q h).2) h⟩
def sL(D:aV K mg "is_whole" jN)(T:Txt mg)(TC:TxC K)(C'1:kt P w K mg base):ml P w K mg base:=D.oP2 rZ (by walk_at "b3") sh rfl rfl λ_ _ _ _ _ _ _ hr hu=>⟨_,(aj (aJ (sZ (aq C'1 (hr.m rfl) (paC (pv 0) af)) (kU (tu BD BD (pv 1) (pv 0) (pv 2)))))),(lQ K mg TC)⟩
def mS(D:aV K mg "first_place" fA)(T:Txt mg)(TC:TxC K):io P w K mg base:=D.oP2 mM (by walk_at "b2") mP rfl rfl λ_ _ _ _ _ _ _ hr hu=>⟨_,(aj (aJ (eX K rfl Hh JZ J0 tW (pv 0) (paC (pv 1) af)))),(il K mg TC)⟩
def my(D:aV K mg "check_pieces" eN)(T:Txt mg)(TC:TxC K)(C'4:vd P w K mg base):gW P w K mg base:=D.oP2 dU (by walk_at "b1") lS rfl rfl λ_ _ _ _ _ _ _ hr hu=>⟨_,(ag (bi (aE rB (am (bA K rfl) rfl T.b_len g_ (paC (pv 0) af)) (kM rfl T.g_MOST_PIECES) (aN _)) (aj fg) aG) (aj (cm r_ rfl (oh K rfl rfl T.b_enumerate (paC (pv 0) af)) (e7 K rfl (n:=2) rfl (aX (aB (i:=1) dU.nd rfl (by walk_at "o")) (aX (aB (i:=2) dU.nd rfl (by walk_at "o")) c7))) (aj (bi (eT (bL (yg 2 C'4 (hr.m rfl) (by decide) (paC (pv 2) (paC ap (paC (kM rfl T.g_MOST_SIGNS) af)))))) (aj fg) aG))))),(gP K mg TC)⟩
def kJ(D:aV K mg "stands_within" dR)(T:Txt mg)(TC:TxC K)(C'6:io P w K mg base):fZ P w K mg base:=D.oP2 kE (by walk_at "b2") kG rfl rfl λ_ _ _ _ _ _ _ hr hu=>⟨_,(aj (aJ (cH FT (aq C'6 (hr.m rfl) (paC (pv 1) (paC (pv 0) af))) ap (aN _)))),(fX K mg TC)⟩
def vf(D:aV K mg "is_kept" lz)(T:Txt mg)(TC:TxC K)(C'8:fZ P w K mg base):nC P w K mg base:=D.oP2 jZ (by walk_at "b2") u6 rfl rfl λ_ _ _ _ _ _ _ hr hu=>⟨_,(ag (ay (i:=2) jZ.nd rfl (by walk_at "o") (bf (dh K rfl) (pv 0) (pv 1) (λ_ _=>rfl))) (ag (rL (wi:=(qs K (bu 0))) (g:=(bQ 0)) (tts:=(ur (tOp EW (tCB (lj K) (ba (bu 0) fi)) (tCB (lj K) (ba (bu 1) fi))))) (te:=(bu 0)) (i:=3) ["other","piece"] [none,some 2] jZ.nd rfl (Or.inl rfl) rfl (dz K rfl (pv 0)) (λ_ _ _ _=>⟨(aB (i:=0) (by show y_ (["other","piece"]:List Str);decide +kernel) rfl (by walk_at "o")),(nR (aE rB (am (bA K rfl) rfl T.b_len g_ (paC (pv 0) af)) (am (bA K rfl) rfl T.b_len g_ (paC (pv 1) af)) (aN _))),(pv 0)⟩) (by kernel_rfl)) (aj (aJ (sZ (cH (yl K rfl) (pv 2) (aL (fT K rfl) (pv 0) aT (aQ (pv 1))) (by with_unfolding_all rfl)) (kU (yE (am (ET K rfl rfl) rfl T.b_any boot_any (paC (bT (wi:=(qs K (bu 3))) (g:=(bQ 0)) (tts:=mH) (te:=(f9 (spP K cE) [] E0 (ba (bu 1) (ba (bu 0) fi)))) ["other","piece"] [none,some 2] rfl (dz K rfl (pv 3)) (λ_ _ _ _=>⟨(aB (i:=0) (by show y_ (["other","piece"]:List Str);decide +kernel) rfl (by walk_at "o")),cu,(aq C'8 (hr.m rfl) (paC (pv 1) (paC (pv 0) af)))⟩) (by kernel_rfl)) af))))))))),(nv K mg TC)⟩
def mT(D:aV K mg "check_apart" fB)(T:Txt mg)(TC:TxC K)(C'9:nC P w K mg base):ip P w K mg base:=D.oP2 ik (by walk_at "b1") mR rfl rfl λ_ _ _ _ _ _ _ hr hu=>⟨_,(aj (cm r_ rfl (bh rfl T.b_range (paC (am (bA K rfl) rfl T.b_len g_ (paC (pv 0) af)) af)) (aB (i:=1) ik.nd rfl (by walk_at "o")) (aj (bi (eT (bL (aq C'9 (hr.m rfl) (paC (pv 0) (paC (pv 1) af))))) (aj fg) aG)))),(im K mg TC)⟩
def mB(D:aV K mg "check_counts" eO)(T:Txt mg)(TC:TxC K)(C'0:rk P w K mg base)(C'5:ml P w K mg base):gX P w K mg base:=D.oP2 dW (by walk_at "b2") lU rfl rfl λ_ _ _ _ _ _ _ hr hu=>⟨_,(ag (bi (eT (bL (aq C'0 (hr.m rfl) (paC (pv 0) af)))) (aj fg) aG) (ag (cm r_ rfl (oh K rfl rfl T.b_enumerate (paC (aL (fT K rfl) (pv 0) aT (aQ (pv 1))) af)) (e7 K rfl (n:=2) rfl (aX (aB (i:=2) dW.nd rfl (by walk_at "o")) (aX (aB (i:=3) dW.nd rfl (by walk_at "o")) c7))) (aj (bi (eT (bL (aq C'5 (hr.m rfl) (paC (pv 3) (paC ap (paC (kM rfl T.g_MOST_COUNT) af)))))) (aj fg) aG))) (aj (bi (aE (kA K rfl hu) (am (bA K rfl) rfl T.b_len g_ (paC (pv 0) af)) (pv 1) (aN _)) (aj fg) aG)))),(gQ K mg TC)⟩
def sM(D:aV K mg "steps_of" jO)(T:Txt mg)(TC:TxC K):iQ P w K mg base:=D.oP2 dX (by walk_at "b1") sj rfl rfl λ_ _ _ _ _ _ _ hr hu=>⟨_,(ag (ay (i:=1) dX.nd rfl (by walk_at "o") (cp af)) (ag (ay (i:=2) dX.nd rfl (by walk_at "o") ap) (ag (cm r_ rfl (dz K rfl (pv 0)) (aB (i:=3) dX.nd rfl (by walk_at "o")) (ag (fe (eX K rfl GE G5 G6 eU (pv 1) (paC (pv 2) af))) (aj (B6 (i:=2) dX.nd rfl (by walk_at "o") (aP (aS K rfl) (pv 3) ap) Bc)))) (aj (aJ (kg (paC (pv 1) (paC (pv 2) af)))))))),(lV K mg TC)⟩
def pE(D:tL K mg (cG K "Often") "Often" "Often.__init__" bV)(T:Txt mg)(TC:TxC K)(C'3:mj P w K mg base)(C'10:ip P w K mg base)(C'11:gX P w K mg base)(C'7:gW P w K mg base)(C'12:iQ P w K mg base):CN P w K mg base 5 (cG K "Often") "Often" ["self","pieces","counts"] (spR K br):=by
 refine D.ok oB (λ_ _ _ _ _ _ us hl=>match us,hl with|[_,_,_],_=>rfl) (λvs H Q E h=>?_) (λf cdv A outer s H vs Q E hr h=>?_)
 .exact FW (λp ds Q h=>(fO p ds Q h).1) h
 .have hu:=hr.units;exact⟨_,(ag (fe (aq C'7 (hr.mono (by decide)) (paC (pv 1) af))) (ag (fe (aq C'10 (hr.mono (by decide)) (paC (pv 1) af))) (ag (fe (aq C'11 (hr.mono (by decide)) (paC (pv 2) (paC (am (bA K rfl) rfl T.b_len g_ (paC (pv 1) af)) af)))) (ag (bi (aE rB (bf (dh K rfl) (aq C'12 (hr.mono (by decide)) (paC (pv 2) af)) ap (λ_ _=>rfl)) (kM rfl T.g_MOST_PRODUCT) (aN _)) (aj fg) aG) (ag (tw (pv 0) (bP (lp K rfl) rfl T.b_tuple Jh (paC (pv 1) af)) rfl) (ag (tw (pv 0) (bP (lp K rfl) rfl T.b_tuple Jh (paC (pv 2) af)) rfl) (ag (tw (pv 0) (aq C'3 (hr.mono (by decide)) (paC (iu K rfl (pv 0) rfl) af)) rfl) (aj (tw (pv 0) (am (yT K rfl rfl) rfl T.b_sum boot_sum (paC (bT (wi:=(uK K (ba (BA K (bu 0) "pieces") (ba (BA K (bu 0) "counts") fi)))) (g:=(wI K 2 (f8 (bQ 0) (f8 (bQ 1) xC)))) (tts:=mH) (te:=(tOp x6 (tCB (lj K) (ba (bu 0) fi)) (bu 1))) ["piece","count"] [none,none] rfl (oi K rfl rfl T.b_zip (paC (iu K rfl (pv 0) rfl) (paC (iu K rfl (pv 0) rfl) af))) (λ_ _ _ _=>⟨(e7 K rfl (n:=2) rfl (aX (aB (i:=0) (by show y_ (["piece","count"]:List Str);decide +kernel) rfl (by walk_at "o")) (aX (aB (i:=1) (by show y_ (["piece","count"]:List Str);decide +kernel) rfl (by walk_at "o")) c7))),cu,(aP jF (am (bA K rfl) rfl T.b_len g_ (paC (pv 0) af)) (pv 1))⟩) (by kernel_rfl)) af)) rfl))))))))),fnR (K:=K) (c:=br) (ps:=i8) (N:=["self","pieces","counts"]) (ao (fq (ax (c:=cM) (aa (ac (ai (i:=1))) ae))) (ao (fq (ax (c:=di) (aa (ac (ai (i:=1))) ae))) (ao (fq (ax (c:=cP) (aa (ac (ai (i:=2))) (aa (ac (aU aW (aa (ah (i:=1)) ae))) ae)))) (ao (bn (dn (al h8 (ac (al bg (ac (ax (c:=dZ) (aa (ac (ai (i:=2))) ae))) (ac (le_int (i:=1))))) (ac (le_int (i:=500))))) eo aH) (ao (og (c0:="Often") (ns0:=[]) (i:=0) TC.cl_Often TC.n_Often_pieces (by decide +kernel) (aU i3 (aa (ah (i:=1)) ae))) (ao (og (c0:="Often") (ns0:=["pieces"]) (i:=0) TC.cl_Often TC.n_Often_counts (by decide +kernel) (aU i3 (aa (ah (i:=2)) ae))) (ao (og (c0:="Often") (ns0:=["pieces","counts"]) (i:=0) TC.cl_Often TC.n_Often_laps (by decide +kernel) (ax (c:=fJ) (aa (ac (lu (ns0:=["pieces","counts"]) TC.cl_Often TC.n_Often_pieces (i:=0) (by decide +kernel) (ah (i:=0)))) ae))) (og (c0:="Often") (ns0:=["pieces","counts","laps"]) (i:=0) TC.cl_Often TC.n_Often_total (by decide +kernel) (aU wA (aa (ac (bK (ix:=[none,none]) rfl (tT (aa (ac (lu (ns0:=["pieces","counts","laps"]) TC.cl_Often TC.n_Often_pieces (i:=0) (by decide +kernel) (ah (i:=0)))) (aa (ac (lu (ns0:=["pieces","counts","laps"]) TC.cl_Often TC.n_Often_counts (i:=1) (by decide +kernel) (ah (i:=0)))) ae))) (λfs hc=>(eM (n:=2) (aY (au (i:=0) (jH hc (by decide))) (aY (au (i:=1) (jH hc (by decide))) c8)))) dB (al eZ (ac (aU aW (aa (ah (i:=0)) ae))) (ah (i:=1))))) ae)))))))))) (λp ds Q h=>E_ (J9 (fO p ds Q h).1) (by decide)) (λp ds Q _ h=>(fO p ds Q h).2) h⟩
def sN(D:aV K mg "is_ahead" jP)(T:Txt mg)(TC:TxC K):mn P w K mg base:=D.oP2 r0 (by walk_at "b2") sm rfl rfl λ_ _ _ _ _ _ _ hr hu=>⟨_,(ag (bi (aE (kA K rfl hu) (am (bA K rfl) rfl T.b_len g_ (paC (pv 0) af)) (am (bA K rfl) rfl T.b_len g_ (paC (pv 1) af)) (aN _)) (aj (aJ (cH CT (am (bA K rfl) rfl T.b_len g_ (paC (pv 0) af)) (am (bA K rfl) rfl T.b_len g_ (paC (pv 1) af)) (aN _)))) aG) (aj (aJ (cH CT (pv 0) (pv 1) (aN _))))),(lW K mg TC)⟩
def sO(D:aV K mg "foremost" jQ)(T:Txt mg)(TC:TxC K)(C'14:mn P w K mg base):iR P w K mg base:=D.oP2 fC (by walk_at "b1") su rfl rfl λ_ _ _ _ _ _ _ hr hu=>⟨_,(ag (ay (i:=1) fC.nd rfl (by walk_at "o") (bf (dh K rfl) (pv 0) ap (λ_ _=>rfl))) (ag (cm r_ rfl (dz K rfl (aL (fT K rfl) (pv 0) (aQ ap) aT)) (aB (i:=2) fC.nd rfl (by walk_at "o")) (aj (bi (bL (aq C'14 (hr.m rfl) (paC (pv 2) (paC (pv 1) af)))) (aj (ay (i:=1) fC.nd rfl (by walk_at "o") (pv 2))) aG))) (aj (aJ (pv 1))))),(lX K mg TC)⟩
def sP(D:aV K mg "heads_of" jR)(T:Txt mg)(TC:TxC K):mo P w K mg base:=D.oP2 r8 (by walk_at "b2") sw rfl rfl λ_ _ _ _ _ _ _ hr hu=>⟨_,(aj (aJ (bT (wi:=(uK K (ba (bu 0) (ba (bu 1) fi)))) (g:=(wI K 2 (f8 (bQ 0) (f8 (bQ 1) xC)))) (tts:=mH) (te:=(rK [none,some 0] (qs K (bu 1)) (bQ 0) mH (tSl (BE K) (bu 1) nL (uE (tOp ya (tCB (lj K) (ba (bu 1) fi)) (bu 0)))))) ["word","row"] [none,none] rfl (oi K rfl rfl T.b_zip (paC (pv 0) (paC (pv 1) af))) (λ_ _ _ _=>⟨(e7 K rfl (n:=2) rfl (aX (aB (i:=0) (by show y_ (["word","row"]:List Str);decide +kernel) rfl (by walk_at "o")) (aX (aB (i:=1) (by show y_ (["word","row"]:List Str);decide +kernel) rfl (by walk_at "o")) c7))),cu,(bT (wi:=(qs K (bu 1))) (g:=(bQ 0)) (tts:=mH) (te:=(tSl (BE K) (bu 1) nL (uE (tOp ya (tCB (lj K) (ba (bu 1) fi)) (bu 0))))) ["k","word"] [none,some 0] rfl (dz K rfl (pv 1)) (λ_ _ _ _=>⟨(aB (i:=0) (by show y_ (["k","word"]:List Str);decide +kernel) rfl (by walk_at "o")),cu,(aL (fT K rfl) (pv 1) aT (aQ (aP iw (am (bA K rfl) rfl T.b_len g_ (paC (pv 1) af)) (pv 0))))⟩) (by kernel_rfl))⟩) (by kernel_rfl)))),(lY K mg TC)⟩
def sQ(D:aV K mg "all_ends" jT)(T:Txt mg)(TC:TxC K)(C'15:iR P w K mg base):mq P w K mg base:=D.oP2 fE (by walk_at "b3") sy rfl rfl λ_ _ _ _ _ _ _ hr hu=>⟨_,(ag (ay (i:=3) fE.nd rfl (by walk_at "o") (cp af)) (ag (cm r_ rfl (dz K rfl (pv 2)) (aB (i:=4) fE.nd rfl (by walk_at "o")) (ag (ay (i:=5) fE.nd rfl (by walk_at "o") (bT (wi:=(qs K (bu 4))) (g:=(wI K 2 (f8 (bQ 0) (f8 (bQ 1) xC)))) (tts:=mH) (te:=(Cd (ba (bu 0) (ba (tOp (uN K) (tOp (uN K) (bu 2) (bu 1)) (bu 0)) fi)))) ["j","rest","ends"] [none,none,some 3] rfl (dz K rfl (pv 4)) (λ_ _ _ _=>⟨(e7 K rfl (n:=2) rfl (aX (aB (i:=0) (by show y_ (["j","rest","ends"]:List Str);decide +kernel) rfl (by walk_at "o")) (aX (aB (i:=1) (by show y_ (["j","rest","ends"]:List Str);decide +kernel) rfl (by walk_at "o")) c7))),cu,(kg (paC (pv 0) (paC (bf (dh K rfl) (bf (dh K rfl) (pv 2) (pv 1) (λ_ _=>rfl)) (pv 0) (λ_ _=>rfl)) af)))⟩) (by kernel_rfl))) (aj (fe (eX K rfl GE G5 G6 eU (pv 3) (paC (xH (A9 K rfl (pv 5)) (bT (wi:=(qs K (bu 0))) (g:=(bQ 0)) (tts:=mH) (te:=(f9 (spP K d0) [] E0 (ba (rK [none,none,some 0] (qs K (bu 1)) (wI K 2 (f8 (bQ 0) (f8 (bQ 1) xC))) mH (tOp (qL K) (tOp (uN K) (bu 2) (bu 0)) (bu 1))) fi))) ["row","nexts"] [none,some 5] rfl (dz K rfl (pv 0)) (λ_ _ _ _=>⟨(aB (i:=0) (by show y_ (["row","nexts"]:List Str);decide +kernel) rfl (by walk_at "o")),cu,(aq C'15 (hr.m rfl) (paC (bT (wi:=(qs K (bu 1))) (g:=(wI K 2 (f8 (bQ 0) (f8 (bQ 1) xC)))) (tts:=mH) (te:=(tOp (qL K) (tOp (uN K) (bu 2) (bu 0)) (bu 1))) ["j","end","row"] [none,none,some 0] rfl (dz K rfl (pv 1)) (λ_ _ _ _=>⟨(e7 K rfl (n:=2) rfl (aX (aB (i:=0) (by show y_ (["j","end","row"]:List Str);decide +kernel) rfl (by walk_at "o")) (aX (aB (i:=1) (by show y_ (["j","end","row"]:List Str);decide +kernel) rfl (by walk_at "o")) c7))),cu,(aP (aS K rfl) (bf (dh K rfl) (pv 2) (pv 0) (λ_ _=>rfl)) (pv 1))⟩) (by kernel_rfl)) af))⟩) (by kernel_rfl)) (bP (tU K rfl) rfl T.b_list JC (paC (pv 1) af))) af)))))) (aj (aJ (pv 3))))),(lZ K mg TC)⟩
def kK(D:aV K mg "foremost_text" dS)(T:Txt mg)(TC:TxC K)(C'17:mq P w K mg base)(C'15:iR P w K mg base)(C'16:mo P w K mg base):f7 P w K mg base:=D.oP2 fW (by walk_at "b3") kI rfl rfl λ_ _ _ _ _ _ _ hr hu=>⟨_,(ag (ay (i:=3) fW.nd rfl (by walk_at "o") (aq C'17 (hr.m rfl) (paC (aq C'16 (hr.m rfl) (paC (pv 0) (paC (pv 1) af))) (paC (pv 0) (paC (pv 2) af))))) (aj (aJ (aq C'15 (hr.m rfl) (paC (DC K rfl (bT (wi:=(qs K (tOp (uN K) (bu 2) (tUn Do (tC (V.int 1)))))) (g:=(wI K 2 (f8 (bQ 0) (f8 (bQ 1) xC)))) (tts:=mH) (te:=(tOp (uN K) (tOp (uN K) (bu 2) (bu 1)) (bu 0))) ["j","rest","ends"] [none,none,some 3] rfl (dz K rfl (bf (dh K rfl) (pv 2) (zO vt ap) (λ_ _=>rfl))) (λ_ _ _ _=>⟨(e7 K rfl (n:=2) rfl (aX (aB (i:=0) (by show y_ (["j","rest","ends"]:List Str);decide +kernel) rfl (by walk_at "o")) (aX (aB (i:=1) (by show y_ (["j","rest","ends"]:List Str);decide +kernel) rfl (by walk_at "o")) c7))),cu,(bf (dh K rfl) (bf (dh K rfl) (pv 2) (pv 1) (λ_ _=>rfl)) (pv 0) (λ_ _=>rfl))⟩) (by kernel_rfl)) (kU (cp (paC (bp (l:=[]) (by decide +kernel)) af)))) af))))),(fY K mg TC)⟩
def mC(D:aV K mg "choices_left" eP)(T:Txt mg)(TC:TxC K):gY P w K mg base:=D.oP2 lF (by walk_at "b3") l5 rfl rfl λ_ _ _ _ _ _ _ hr hu=>⟨_,(aj (aJ (bT (wi:=(x5 K (ba (bu 1) fi))) (g:=(wI K 2 (f8 (bQ 0) (f8 (bQ 1) xC)))) (tts:=(ur (tOp EW (tOp Dm (tOp Dn (bu 2) (bu 1)) (tOp (qL K) (tOp (uN K) (bu 3) (bu 0)) (tC (V.int 1)))) (tC (V.int 0))))) (te:=(Cd (ba (bu 0) (ba (tOp ya (bu 2) (bu 1)) fi)))) ["i","step","number","counts"] [none,none,some 2,some 0] rfl (oh K rfl rfl T.b_enumerate (paC (pv 1) af)) (λ_ _ _ _=>⟨(e7 K rfl (n:=2) rfl (aX (aB (i:=0) (by show y_ (["i","step","number","counts"]:List Str);decide +kernel) rfl (by walk_at "o")) (aX (aB (i:=1) (by show y_ (["i","step","number","counts"]:List Str);decide +kernel) rfl (by walk_at "o")) c7))),(nR (aE rB (aP rS (aP qw (pv 2) (pv 1)) (aP (aS K rfl) (bf (dh K rfl) (pv 3) (pv 0) (λ_ _=>rfl)) ap)) ap (aN _))),(kg (paC (pv 0) (paC (aP iw (pv 2) (pv 1)) af)))⟩) (by kernel_rfl)))),(gR K mg TC)⟩
def kd(D:aV K mg "shortest_often" du)(T:Txt mg)(TC:TxC K)(C'19:gY P w K mg base)(C'18:f7 P w K mg base)(C'12:iQ P w K mg base):bw P w K mg base:=D.oP2 b9 (by walk_at "b1") j8 rfl rfl λ_ _ _ _ _ _ _ hr hu=>⟨_,(ag (tm (aq C'12 (hr.m rfl) (paC (iu K rfl (pv 0) rfl) af)) (e7 K rfl (n:=2) rfl (aX (aB (i:=1) b9.nd rfl (by walk_at "o")) (aX (aB (i:=2) b9.nd rfl (by walk_at "o")) c7)))) (ag (rL (wi:=(rE (ba (bu 2) fi))) (g:=(bQ 0)) (tts:=mH) (te:=(f9 (spP K cQ) [] E0 (ba (BA K (bu 2) "counts") (ba (bu 1) (ba (bu 0) fi))))) (i:=3) ["number","steps","often"] [none,some 1,some 0] b9.nd rfl (Or.inl rfl) rfl (bh rfl T.b_range (paC (pv 2) af)) (λ_ _ _ _=>⟨(aB (i:=0) (by show y_ (["number","steps","often"]:List Str);decide +kernel) rfl (by walk_at "o")),cu,(aq C'19 (hr.m rfl) (paC (iu K rfl (pv 2) rfl) (paC (pv 1) (paC (pv 0) af))))⟩) (by kernel_rfl)) (aj (aJ (aq C'18 (hr.m rfl) (paC (iu K rfl (pv 0) rfl) (paC (iu K rfl (pv 0) rfl) (paC (pv 3) af)))))))),(fb K mg TC)⟩
def pF(D:aV K mg "_law_stream" gn)(T:Txt mg)(TC:TxC K):jn P w K mg base:=D.oP2 fF (by walk_at "b2") oJ rfl rfl λ_ _ _ _ _ _ _ hr hu=>⟨_,(ag (ay (i:=2) fF.nd rfl (by walk_at "o") (aP (aS K rfl) (aP jF ap (pv 1)) ap)) (ag (dr (bi (aE rB (am (bA K rfl) rfl T.b_len g_ (paC (pv 0) af)) ap (aN _)) (aj (ay (i:=2) fF.nd rfl (by walk_at "o") (am ER rfl T.b_abs boot_abs (paC (bf (dh K rfl) (pv 0) (aP rS (pv 1) (am (bA K rfl) rfl T.b_len g_ (paC (pv 0) af))) (λ_ _=>rfl)) af)))) aG)) (aj (aJ (cp (paC (pv 2) (paC (aP (aS K rfl) (aP (aS K rfl) (aP rS (pv 2) ap) (aP jF ap (pv 1))) ap) af))))))),(i9 K mg TC)⟩
def sR(D:aV K mg "_law_next" jU)(T:Txt mg)(TC:TxC K):bc P w K mg base:=D.oR2 lG (by walk_at "b2") sB rfl rfl λ_ _ _ _ _ _ _ hr hu=>⟨_,(ag (bi (aE rB (bf (dh K rfl) (pv 0) ap (λ_ _=>rfl)) ap (aN _)) (ag (ay (i:=2) lG.nd rfl (by walk_at "o") (aP rS (bf (dh K rfl) (pv 0) ap (λ_ _=>rfl)) (pv 1))) (ag (wX (aP qw (bf (dh K rfl) (pv 0) ap (λ_ _=>rfl)) (pv 1)) (yF (pv 0) ap tD)) (aj (aJ (pv 2))))) aG) (ag (wX (aP rS (aP (aS K rfl) (aP jF (bf (dh K rfl) (pv 0) ap (λ_ _=>rfl)) ap) ap) ap) (yF (pv 0) ap tD)) (aj (aJ (aP rS (aP qw (aP rS (aP jF (bf (dh K rfl) (pv 0) ap (λ_ _=>rfl)) (bf (dh K rfl) (pv 0) ap (λ_ _=>rfl))) ap) ap) (pv 1)))))),(l6 K mg TC)⟩
def sS(D:aV K mg "_law_word" jV)(T:Txt mg)(TC:TxC K)(C'22:bc P w K mg base):iT P w K mg base:=D.oR2 r9 (by walk_at "b3") sD rfl rfl λ_ _ _ _ _ _ _ hr hu=>⟨_,(aj (aJ (eX K rfl Hh J1 J2 (tZ K rfl) (bp (l:=[]) (by decide +kernel)) (paC (bT (wi:=(rE (ba (tOp (qL K) (tC (V.int 1)) (f9 (spR K aC) [] E0 (ba (bu 0) (ba (bu 2) fi)))) fi))) (g:=(bQ 0)) (tts:=mH) (te:=(tOp (uN K) (bu 1) (f9 (spR K aC) [] E0 (ba (bu 2) (ba (tCB (lj K) (ba (bu 1) fi)) fi))))) ["_law_k","_law_letters","_law_stream_here"] [none,some 1,some 0] rfl (bh rfl T.b_range (paC (aP (aS K rfl) ap (aq C'22 (hr.m rfl) (paC (pv 0) (paC (pv 2) af)))) af)) (λ_ _ _ _=>⟨(aB (i:=0) (by show y_ (["_law_k","_law_letters","_law_stream_here"]:List Str);decide +kernel) rfl (by walk_at "o")),cu,(bf (dh K rfl) (pv 1) (aq C'22 (hr.m rfl) (paC (pv 2) (paC (am (bA K rfl) rfl T.b_len g_ (paC (pv 1) af)) af))) (λ_ _=>rfl))⟩) (by kernel_rfl)) af)))),(l7 K mg TC)⟩
def vg(D:aV K mg "_law_cut" lC)(T:Txt mg)(TC:TxC K)(C'22:bc P w K mg base):nE P w K mg base:=D.oR2 nk (by walk_at "b3") u8 rfl rfl λ_ _ _ _ _ _ _ hr hu=>⟨_,(ag (ay (i:=3) nk.nd rfl (by walk_at "o") (aq C'22 (hr.m rfl) (paC (pv 0) (paC (am (bA K rfl) rfl T.b_len g_ (paC (pv 1) af)) af)))) (aj (aJ (aL (fT K rfl) (pv 1) (aQ (pv 3)) (aQ (aP (aS K rfl) (aP (aS K rfl) (pv 3) ap) (aq C'22 (hr.m rfl) (paC (pv 0) (paC (pv 2) af))))))))),(ny K mg TC)⟩
def sU(D:aV K mg "_law_base" jW)(T:Txt mg)(TC:TxC K)(C'22:bc P w K mg base)(C'23:iT P w K mg base):mr P w K mg base:=D.oR2 fG (by walk_at "b2") sF rfl rfl λ_ _ _ _ _ _ _ hr hu=>⟨_,(ag (ay (i:=2) fG.nd rfl (by walk_at "o") (bf (dh K rfl) (cp (paC (bp (l:=[97,98]) (by decide +kernel)) (paC (bp (l:=[97,98,99]) (by decide +kernel)) (paC (bp (l:=[97,98,99,100,101,102,103,104,105,106,107,108,109,110,111,112,113,114,115,116,117,118,119,120,121,122]) (by decide +kernel)) af)))) (aq C'22 (hr.m rfl) (paC (pv 0) (paC ap af))) (λ_ _=>rfl))) (ag (ay (i:=3) fG.nd rfl (by walk_at "o") (aq C'23 (hr.m rfl) (paC (pv 0) (paC (pv 2) (paC (aP jF ap (pv 1)) af))))) (ag (dr (bi (aE (dP K rfl hu) (aq C'22 (hr.m rfl) (paC (pv 0) (paC ap af))) ap (aN _)) (aj (ay (i:=3) fG.nd rfl (by walk_at "o") (aP jF (aL (fT K rfl) (pv 3) aT (aQ (aP (aS K rfl) ap (aq C'22 (hr.m rfl) (paC (pv 0) (paC ap af)))))) (pv 1)))) aG)) (aj (aJ (kg (paC (pv 2) (paC (pv 3) af)))))))),(l8 K mg TC)⟩
def pG(D:aV K mg "_law_pieces" gq)(T:Txt mg)(TC:TxC K)(C'25:mr P w K mg base)(C'24:nE P w K mg base)(C'22:bc P w K mg base)(C'23:iT P w K mg base):fP P w K mg base:=D.oR2 bq (by walk_at "b3") oM rfl rfl λ_ _ _ _ _ _ _ hr hu=>⟨_,(ag (tm (aq C'25 (hr.m rfl) (paC (pv 0) (paC (pv 2) af))) (e7 K rfl (n:=2) rfl (aX (aB (i:=3) bq.nd rfl (by walk_at "o")) (aX (aB (i:=4) bq.nd rfl (by walk_at "o")) c7)))) (ag (ay (i:=5) bq.nd rfl (by walk_at "o") (cp af)) (ag (cm r_ rfl (bh rfl T.b_range (paC (pv 1) af)) (aB (i:=6) bq.nd rfl (by walk_at "o")) (ag (ay (i:=7) bq.nd rfl (by walk_at "o") (aq C'22 (hr.m rfl) (paC (pv 0) (paC ap af)))) (ag (dr (bi (aE (dP K rfl hu) (pv 7) ap (aN _)) (aj (ay (i:=8) bq.nd rfl (by walk_at "o") (aq C'23 (hr.m rfl) (paC (pv 0) (paC (pv 3) (paC (pv 2) af)))))) (aj (bi (aE (dP K rfl hu) (pv 7) ap (aN _)) (aj (ay (i:=8) bq.nd rfl (by walk_at "o") (aP jF (aq C'23 (hr.m rfl) (paC (pv 0) (paC (pv 3) (paC ap af)))) (pv 2)))) (aj (ay (i:=8) bq.nd rfl (by walk_at "o") (aq C'24 (hr.m rfl) (paC (pv 0) (paC (pv 4) (paC (pv 2) af)))))))))) (aj (fe (eX K rfl GE G5 G6 eU (pv 5) (paC (aL (fT K rfl) (pv 8) aT (aQ (pv 2))) af))))))) (aj (aJ (pv 5)))))),(ja K mg TC)⟩
def pH(D:aV K mg "_law_within" gu)(T:Txt mg)(TC:TxC K):jo P w K mg base:=D.oP2 i6 (by walk_at "b2") oO rfl rfl λ_ _ _ _ _ _ _ hr hu=>⟨_,(ag (cm r_ rfl (dz K rfl (pv 0)) (aB (i:=2) i6.nd rfl (by walk_at "o")) (aj (bi (PW.pt (pS (aE rB (am (bA K rfl) rfl T.b_len g_ (paC (pv 2) af)) (am (bA K rfl) rfl T.b_len g_ (paC (bf (dh K rfl) (pv 0) (pv 1) (λ_ _=>rfl)) af)) (aN _)) (kT (aE FT (eX K rfl Hh JZ J0 tW (pv 2) (paC (bf (dh K rfl) (pv 0) (pv 1) (λ_ _=>rfl)) af)) ap (aN _))))) (aj (aJ nH)) aG))) (aj (aJ (cH (E5 K rfl) (bf (dh K rfl) (pv 0) (pv 1) (λ_ _=>rfl)) (aL (fT K rfl) (pv 0) aT (aQ (pv 1))) (by with_unfolding_all rfl))))),(jb K mg TC)⟩
def rn(D:aV K mg "_law_apart" iC)(T:Txt mg)(TC:TxC K)(C'26:fP P w K mg base)(C'27:jo P w K mg base):ku P w K mg base:=D.oR2 kl (by walk_at "b3") q0 rfl rfl λ_ _ _ _ _ _ _ hr hu=>⟨_,(ag (ay (i:=3) kl.nd rfl (by walk_at "o") (aq C'26 (hr.m rfl) (paC (pv 0) (paC (pv 1) (paC (pv 2) af))))) (aj (aJ (bT (wi:=(rE (ba (tCB (lj K) (ba (bu 3) fi)) fi))) (g:=(bQ 0)) (tts:=(Eb (tB (f9 (spP K dE) [] E0 (ba (bu 1) (ba (bu 0) fi)))))) (te:=(tOp (uN K) (bu 1) (bu 0))) ["_law_k","_law_pieces_here"] [none,some 3] rfl (bh rfl T.b_range (paC (am (bA K rfl) rfl T.b_len g_ (paC (pv 3) af)) af)) (λ_ _ _ _=>⟨(aB (i:=0) (by show y_ (["_law_k","_law_pieces_here"]:List Str);decide +kernel) rfl (by walk_at "o")),(nR (eT (bL (aq C'27 (hr.m rfl) (paC (pv 1) (paC (pv 0) af)))))),(bf (dh K rfl) (pv 1) (pv 0) (λ_ _=>rfl))⟩) (by kernel_rfl))))),(kn K mg TC)⟩
def pI(D:aV K mg "_law_counts" gv)(T:Txt mg)(TC:TxC K)(C'22:bc P w K mg base):jp P w K mg base:=D.oR2 oE (by walk_at "b3") oS rfl rfl λ_ _ _ _ _ _ _ hr hu=>⟨_,(aj (aJ (bT (wi:=(rE (ba (bu 1) fi))) (g:=(bQ 0)) (tts:=mH) (te:=(tOp (qL K) (tC (V.int 1)) (f9 (spR K aC) [] E0 (ba (bu 1) (ba (bu 2) fi))))) ["_law_k","_law_stream_here","_law_most"] [none,some 0,some 2] rfl (bh rfl T.b_range (paC (pv 1) af)) (λ_ _ _ _=>⟨(aB (i:=0) (by show y_ (["_law_k","_law_stream_here","_law_most"]:List Str);decide +kernel) rfl (by walk_at "o")),cu,(aP (aS K rfl) ap (aq C'22 (hr.m rfl) (paC (pv 1) (paC (pv 2) af))))⟩) (by kernel_rfl)))),(jc K mg TC)⟩
def vh(D:aV K mg "_law_lap" lD)(T:Txt mg)(TC:TxC K):ck P w K mg base:=D.oP2 nq (by walk_at "b2") va rfl rfl λ_ _ _ _ _ _ _ hr hu=>⟨_,(ag (cm r_ rfl (qd rfl T.b_range (paC (aP iw (am (wz rfl) rfl T.b_min boot_min (paC (am (bA K rfl) rfl T.b_len g_ (paC (pv 0) af)) (paC (am (bA K rfl) rfl T.b_len g_ (paC (pv 1) af)) af))) ap) (paC ap (paC (zO vt ap) af)))) (aB (i:=2) nq.nd rfl (by walk_at "o")) (aj (bi (aE (dP K rfl hu) (aL (fT K rfl) (pv 0) (aQ (aP iw (am (bA K rfl) rfl T.b_len g_ (paC (pv 0) af)) (pv 2))) aT) (aL (fT K rfl) (pv 1) aT (aQ (pv 2))) (aN _)) (aj (aJ (pv 2))) aG))) (aj (aJ ap))),(nA K mg TC)⟩
def mD(D:aV K mg "_law_shuffled" eQ)(T:Txt mg)(TC:TxC K)(C'22:bc P w K mg base):ef P w K mg base:=D.oR2 dY (by walk_at "b2") ma rfl rfl λ_ _ _ _ _ _ _ hr hu=>⟨_,(ag (ay (i:=2) dY.nd rfl (by walk_at "o") (bP (tU K rfl) rfl T.b_list JC (paC (pv 1) af))) (ag (ay (i:=3) dY.nd rfl (by walk_at "o") (cp af)) (ag (nJ r_ (aE (kA K rfl hu) (pv 2) (cp af) (aN _)) (aj (fe (eX K rfl GE G5 G6 eU (pv 3) (paC (eX K rfl GE J3 J4 tF (pv 2) (paC (aq C'22 (hr.m rfl) (paC (pv 0) (paC (am (bA K rfl) rfl T.b_len g_ (paC (pv 2) af)) af))) af)) af))))) (aj (aJ (pv 3)))))),(gT K mg TC)⟩
def ke(D:aV K mg "_law_shuffled" dw)(T:Txt mg)(TC:TxC K)(C'22:bc P w K mg base):dg P w K mg base:=D.oR2 df (by walk_at "b2") kc rfl rfl λ_ _ _ _ _ _ _ hr hu=>⟨_,(ag (ay (i:=2) df.nd rfl (by walk_at "o") (bP (Bb rfl) rfl T.b_list JC (paC (pv 1) af))) (ag (ay (i:=3) df.nd rfl (by walk_at "o") (cp af)) (ag (nJ r_ (aE (kA K rfl hu) (pv 2) (cp af) (aN _)) (aj (fe (eX K rfl GE G5 G6 eU (pv 3) (paC (eX K rfl GE J3 J4 tF (pv 2) (paC (aq C'22 (hr.m rfl) (paC (pv 0) (paC (am (bA K rfl) rfl T.b_len g_ (paC (pv 2) af)) af))) af)) af))))) (aj (aJ (pv 3)))))),(fc K mg TC)⟩
def pJ(D:aV K mg "_law_lesser" gw)(T:Txt mg)(TC:TxC K)(C'22:bc P w K mg base):jq P w K mg base:=D.oR2 i7 (by walk_at "b4") oV rfl rfl λ_ _ _ _ _ _ _ hr hu=>⟨_,(ag (nJ r_ (aE rB (pv 3) ap (aN _)) (ag (bi (PW.pt (pS (aE (dP K rfl hu) (aL (fT K rfl) (pv 1) (aQ (aP iw (am (bA K rfl) rfl T.b_len g_ (paC (pv 1) af)) (pv 3))) aT) (aL (fT K rfl) (pv 2) aT (aQ (pv 3))) (aN _)) (kT (aE (dP K rfl hu) (aq C'22 (hr.m rfl) (paC (pv 0) (paC ap af))) ap (aN _))))) (aj (aJ (pv 3))) aG) (aj (ay (i:=3) i7.nd rfl (by walk_at "o") (aP iw (pv 3) ap))))) (aj (aJ ap))),(jd K mg TC)⟩
def sV(D:aV K mg "_law_laid" jX)(T:Txt mg)(TC:TxC K)(C'30:ck P w K mg base)(C'33:jq P w K mg base)(C'22:bc P w K mg base):mw P w K mg base:=D.oR2 bz (by walk_at "b2") sH rfl rfl λ_ _ _ _ _ _ _ hr hu=>⟨_,(ag (ay (i:=2) bz.nd rfl (by walk_at "o") (aL (fT K rfl) (bp (l:=[112,113]) (by decide +kernel)) aT (aQ (aP qw (aq C'22 (hr.m rfl) (paC (pv 0) (paC ap af))) ap)))) (ag (ay (i:=3) bz.nd rfl (by walk_at "o") (bp (l:=[]) (by decide +kernel))) (ag (cm r_ rfl (dz K rfl (pv 1)) (aB (i:=4) bz.nd rfl (by walk_at "o")) (ag (ay (i:=5) bz.nd rfl (by walk_at "o") (aq C'22 (hr.m rfl) (paC (pv 0) (paC ap af)))) (ag (ay (i:=6) bz.nd rfl (by walk_at "o") ap) (ag (dr (bi (PW.pt (pS (aE (kA K rfl hu) (pv 3) (bp (l:=[]) (by decide +kernel)) (aN _)) (kT (aE rB (pv 5) ap (aN _))))) (aj (ay (i:=6) bz.nd rfl (by walk_at "o") (aq C'30 (hr.m rfl) (paC (pv 3) (paC (pv 4) af))))) aG)) (ag (dr (bi (aE (dP K rfl hu) (pv 5) ap (aN _)) (aj (ay (i:=6) bz.nd rfl (by walk_at "o") (aq C'33 (hr.m rfl) (paC (pv 0) (paC (pv 3) (paC (pv 4) (paC (pv 6) af))))))) aG)) (ag (dr (bi (aE (dP K rfl hu) (pv 5) ap (aN _)) (aj (ay (i:=2) bz.nd rfl (by walk_at "o") (aP (aS K rfl) (pv 2) (aL (fT K rfl) (bp (l:=[98,97]) (by decide +kernel)) aT (aQ (aq C'22 (hr.m rfl) (paC (pv 0) (paC ap af)))))))) aG)) (ag (ay (i:=2) bz.nd rfl (by walk_at "o") (aP (aS K rfl) (pv 2) (aL (fT K rfl) (pv 4) (aQ (pv 6)) aT))) (aj (ay (i:=3) bz.nd rfl (by walk_at "o") (pv 4)))))))))) (aj (aJ (aP (aS K rfl) (pv 2) (aL (fT K rfl) (bp (l:=[113,112]) (by decide +kernel)) aT (aQ (aP qw (aq C'22 (hr.m rfl) (paC (pv 0) (paC ap af))) ap))))))))),(md K mg TC)⟩
def vi(D:aV K mg "_law_row" lE)(T:Txt mg)(TC:TxC K)(C'31:ef P w K mg base):nF P w K mg base:=D.oR2 j1 (by walk_at "b2") vc rfl rfl λ_ _ _ _ _ _ _ hr hu=>⟨_,(ag (ay (i:=2) j1.nd rfl (by walk_at "o") (cp af)) (ag (cm r_ rfl (bh rfl T.b_range (paC (am (bA K rfl) rfl T.b_len g_ (paC (pv 1) af)) af)) (aB (i:=3) j1.nd rfl (by walk_at "o")) (aj (fe (eX K rfl GE PySem.F.slot_list_extend PySem.F.type_list_extend vL (pv 2) (paC (aP jF (cp (paC (pv 3) af)) (bf (dh K rfl) (pv 1) (pv 3) (λ_ _=>rfl))) af))))) (aj (aJ (aq C'31 (hr.m rfl) (paC (pv 0) (paC (pv 2) af))))))),(nB K mg TC)⟩
def pK(D:aV K mg "_law_places" gy)(T:Txt mg)(TC:TxC K):jr P w K mg base:=D.oP2 oF (by walk_at "b2") oX rfl rfl λ_ _ _ _ _ _ _ hr hu=>⟨_,(aj (aJ (bT (wi:=(rE (ba (tCB (lj K) (ba (bu 0) fi)) fi))) (g:=(bQ 0)) (tts:=(ur (tOp (wH K false) (tSl (BE K) (bu 2) (uE (bu 0)) (uE (tOp (qL K) (bu 0) (tCB (lj K) (ba (bu 1) fi))))) (bu 1)))) (te:=(bu 0)) ["_law_at","_law_piece","_law_text"] [none,some 1,some 0] rfl (bh rfl T.b_range (paC (am (bA K rfl) rfl T.b_len g_ (paC (pv 0) af)) af)) (λ_ _ _ _=>⟨(aB (i:=0) (by show y_ (["_law_at","_law_piece","_law_text"]:List Str);decide +kernel) rfl (by walk_at "o")),(nR (aE (dP K rfl hu) (aL (fT K rfl) (pv 2) (aQ (pv 0)) (aQ (aP (aS K rfl) (pv 0) (am (bA K rfl) rfl T.b_len g_ (paC (pv 1) af))))) (pv 1) (aN _))),(pv 0)⟩) (by kernel_rfl)))),(je K mg TC)⟩
def pL(D:aV K mg "_law_enough" gC)(T:Txt mg)(TC:TxC K)(C'36:jr P w K mg base):jt P w K mg base:=D.oP2 fH (by walk_at "b3") oZ rfl rfl λ_ _ _ _ _ _ _ hr hu=>⟨_,(ag (cm r_ rfl (oi K rfl rfl T.b_zip (paC (pv 1) (paC (pv 2) af))) (e7 K rfl (n:=2) rfl (aX (aB (i:=3) fH.nd rfl (by walk_at "o")) (aX (aB (i:=4) fH.nd rfl (by walk_at "o")) c7))) (aj (bi (aE CT (am (bA K rfl) rfl T.b_len g_ (paC (aq C'36 (hr.m rfl) (paC (pv 0) (paC (pv 3) af))) af)) (pv 4) (aN _)) (aj (aJ nH)) aG))) (aj (aJ nH))),(jf K mg TC)⟩
def rp(D:aV K mg "_law_ahead" iD)(T:Txt mg)(TC:TxC K):bY P w K mg base:=D.oP2 qP (by walk_at "b2") re rfl rfl λ_ _ _ _ _ _ _ hr hu=>⟨_,(aj (aJ (B2 (cH CT (am (bA K rfl) rfl T.b_len g_ (paC (pv 0) af)) (am (bA K rfl) rfl T.b_len g_ (paC (pv 1) af)) (aN _)) (kU (sZ (cH (dP K rfl hu) (am (bA K rfl) rfl T.b_len g_ (paC (pv 0) af)) (am (bA K rfl) rfl T.b_len g_ (paC (pv 1) af)) (aN _)) (kU (cH CT (pv 0) (pv 1) (aN _)))))))),(ko K mg TC)⟩
def pM(D:aV K mg "_law_best" gD)(T:Txt mg)(TC:TxC K)(C'30:ck P w K mg base):ju P w K mg base:=D.oP2 cf (by walk_at "b4") o7 rfl rfl λ_ _ _ _ _ _ _ hr hu=>⟨_,(ag (bi (aE (dP K rfl hu) (am (m8 K rfl rfl) rfl T.b_max JD (paC (pv 1) af)) ap (aN _)) (aj (aJ (pv 2))) aG) (ag (ay (i:=4) cf.nd rfl (by walk_at "o") gf) (ag (cm r_ rfl (bh rfl T.b_range (paC (am (bA K rfl) rfl T.b_len g_ (paC (pv 0) af)) af)) (aB (i:=5) cf.nd rfl (by walk_at "o")) (aj (bi (aE rB (bf (dh K rfl) (pv 1) (pv 5) (λ_ _=>rfl)) ap (aN _)) (ag (ay (i:=6) cf.nd rfl (by walk_at "o") ap) (ag (dr (bi (aE (kA K rfl hu) (pv 3) (bp (l:=[]) (by decide +kernel)) (aN _)) (aj (ay (i:=6) cf.nd rfl (by walk_at "o") (aq C'30 (hr.m rfl) (paC (pv 3) (paC (bf (dh K rfl) (pv 0) (pv 5) (λ_ _=>rfl)) af))))) aG)) (ag (ay (i:=7) cf.nd rfl (by walk_at "o") (aP (aS K rfl) (aP (aS K rfl) (aL (fT K rfl) (pv 1) aT (aQ (pv 5))) (cp (paC (aP iw (bf (dh K rfl) (pv 1) (pv 5) (λ_ _=>rfl)) ap) af))) (aL (fT K rfl) (pv 1) (aQ (aP (aS K rfl) (pv 5) ap)) aT))) A4))) aG))) (aj (aJ (pv 4)))))),(jg K mg TC)⟩
def pN(D:aV K mg "_law_best" gE)(T:Txt mg)(TC:TxC K)(C'38:bY P w K mg base)(C'39:ju P w K mg base)(C'30:ck P w K mg base):jv P w K mg base:=D.oP2 bC (by walk_at "b4") o9 rfl rfl λ_ _ _ _ _ _ _ hr hu=>⟨_,(ag (bi (aE (dP K rfl hu) (am (m8 K rfl rfl) rfl T.b_max JD (paC (pv 1) af)) ap (aN _)) (aj (aJ (pv 2))) aG) (ag (ay (i:=4) bC.nd rfl (by walk_at "o") gf) (ag (cm r_ rfl (bh rfl T.b_range (paC (am (bA K rfl) rfl T.b_len g_ (paC (pv 0) af)) af)) (aB (i:=5) bC.nd rfl (by walk_at "o")) (aj (bi (aE rB (bf (dh K rfl) (pv 1) (pv 5) (λ_ _=>rfl)) ap (aN _)) (ag (ay (i:=6) bC.nd rfl (by walk_at "o") ap) (ag (dr (bi (aE (kA K rfl hu) (pv 3) (bp (l:=[]) (by decide +kernel)) (aN _)) (aj (ay (i:=6) bC.nd rfl (by walk_at "o") (aq C'30 (hr.m rfl) (paC (pv 3) (paC (bf (dh K rfl) (pv 0) (pv 5) (λ_ _=>rfl)) af))))) aG)) (ag (ay (i:=7) bC.nd rfl (by walk_at "o") (aP (aS K rfl) (aP (aS K rfl) (aL (fT K rfl) (pv 1) aT (aQ (pv 5))) (cp (paC (aP iw (bf (dh K rfl) (pv 1) (pv 5) (λ_ _=>rfl)) ap) af))) (aL (fT K rfl) (pv 1) (aQ (aP (aS K rfl) (pv 5) ap)) aT))) (ag (ay (i:=8) bC.nd rfl (by walk_at "o") (aq C'39 (hr.m rfl) (paC (pv 0) (paC (pv 7) (paC (aP (aS K rfl) (pv 2) (aL (fT K rfl) (bf (dh K rfl) (pv 0) (pv 5) (λ_ _=>rfl)) (aQ (pv 6)) aT)) (paC (bf (dh K rfl) (pv 0) (pv 5) (λ_ _=>rfl)) af)))))) (aj (bi (PW.pt (nI (aE CW (pv 4) gf (aN _)) (kf (bL (aq C'38 (hr.m rfl) (paC (pv 8) (paC (pv 4) af))))))) (aj (ay (i:=4) bC.nd rfl (by walk_at "o") (pv 8))) aG)))))) aG))) (aj (aJ (pv 4)))))),(jh K mg TC)⟩
def pO(D:aV K mg "_law_best" gF)(T:Txt mg)(TC:TxC K)(C'38:bY P w K mg base)(C'40:jv P w K mg base)(C'30:ck P w K mg base):jw P w K mg base:=D.oP2 bD (by walk_at "b4") pq rfl rfl λ_ _ _ _ _ _ _ hr hu=>⟨_,(ag (bi (aE (dP K rfl hu) (am (m8 K rfl rfl) rfl T.b_max JD (paC (pv 1) af)) ap (aN _)) (aj (aJ (pv 2))) aG) (ag (ay (i:=4) bD.nd rfl (by walk_at "o") gf) (ag (cm r_ rfl (bh rfl T.b_range (paC (am (bA K rfl) rfl T.b_len g_ (paC (pv 0) af)) af)) (aB (i:=5) bD.nd rfl (by walk_at "o")) (aj (bi (aE rB (bf (dh K rfl) (pv 1) (pv 5) (λ_ _=>rfl)) ap (aN _)) (ag (ay (i:=6) bD.nd rfl (by walk_at "o") ap) (ag (dr (bi (aE (kA K rfl hu) (pv 3) (bp (l:=[]) (by decide +kernel)) (aN _)) (aj (ay (i:=6) bD.nd rfl (by walk_at "o") (aq C'30 (hr.m rfl) (paC (pv 3) (paC (bf (dh K rfl) (pv 0) (pv 5) (λ_ _=>rfl)) af))))) aG)) (ag (ay (i:=7) bD.nd rfl (by walk_at "o") (aP (aS K rfl) (aP (aS K rfl) (aL (fT K rfl) (pv 1) aT (aQ (pv 5))) (cp (paC (aP iw (bf (dh K rfl) (pv 1) (pv 5) (λ_ _=>rfl)) ap) af))) (aL (fT K rfl) (pv 1) (aQ (aP (aS K rfl) (pv 5) ap)) aT))) (ag (ay (i:=8) bD.nd rfl (by walk_at "o") (aq C'40 (hr.m rfl) (paC (pv 0) (paC (pv 7) (paC (aP (aS K rfl) (pv 2) (aL (fT K rfl) (bf (dh K rfl) (pv 0) (pv 5) (λ_ _=>rfl)) (aQ (pv 6)) aT)) (paC (bf (dh K rfl) (pv 0) (pv 5) (λ_ _=>rfl)) af)))))) (aj (bi (PW.pt (nI (aE CW (pv 4) gf (aN _)) (kf (bL (aq C'38 (hr.m rfl) (paC (pv 8) (paC (pv 4) af))))))) (aj (ay (i:=4) bD.nd rfl (by walk_at "o") (pv 8))) aG)))))) aG))) (aj (aJ (pv 4)))))),(ji K mg TC)⟩
def pP(D:aV K mg "_law_best" gG)(T:Txt mg)(TC:TxC K)(C'38:bY P w K mg base)(C'41:jw P w K mg base)(C'30:ck P w K mg base):jx P w K mg base:=D.oP2 bE (by walk_at "b4") pz rfl rfl λ_ _ _ _ _ _ _ hr hu=>⟨_,(ag (bi (aE (dP K rfl hu) (am (m8 K rfl rfl) rfl T.b_max JD (paC (pv 1) af)) ap (aN _)) (aj (aJ (pv 2))) aG) (ag (ay (i:=4) bE.nd rfl (by walk_at "o") gf) (ag (cm r_ rfl (bh rfl T.b_range (paC (am (bA K rfl) rfl T.b_len g_ (paC (pv 0) af)) af)) (aB (i:=5) bE.nd rfl (by walk_at "o")) (aj (bi (aE rB (bf (dh K rfl) (pv 1) (pv 5) (λ_ _=>rfl)) ap (aN _)) (ag (ay (i:=6) bE.nd rfl (by walk_at "o") ap) (ag (dr (bi (aE (kA K rfl hu) (pv 3) (bp (l:=[]) (by decide +kernel)) (aN _)) (aj (ay (i:=6) bE.nd rfl (by walk_at "o") (aq C'30 (hr.m rfl) (paC (pv 3) (paC (bf (dh K rfl) (pv 0) (pv 5) (λ_ _=>rfl)) af))))) aG)) (ag (ay (i:=7) bE.nd rfl (by walk_at "o") (aP (aS K rfl) (aP (aS K rfl) (aL (fT K rfl) (pv 1) aT (aQ (pv 5))) (cp (paC (aP iw (bf (dh K rfl) (pv 1) (pv 5) (λ_ _=>rfl)) ap) af))) (aL (fT K rfl) (pv 1) (aQ (aP (aS K rfl) (pv 5) ap)) aT))) (ag (ay (i:=8) bE.nd rfl (by walk_at "o") (aq C'41 (hr.m rfl) (paC (pv 0) (paC (pv 7) (paC (aP (aS K rfl) (pv 2) (aL (fT K rfl) (bf (dh K rfl) (pv 0) (pv 5) (λ_ _=>rfl)) (aQ (pv 6)) aT)) (paC (bf (dh K rfl) (pv 0) (pv 5) (λ_ _=>rfl)) af)))))) (aj (bi (PW.pt (nI (aE CW (pv 4) gf (aN _)) (kf (bL (aq C'38 (hr.m rfl) (paC (pv 8) (paC (pv 4) af))))))) (aj (ay (i:=4) bE.nd rfl (by walk_at "o") (pv 8))) aG)))))) aG))) (aj (aJ (pv 4)))))),(jj K mg TC)⟩
def pQ(D:aV K mg "_law_best" gH)(T:Txt mg)(TC:TxC K)(C'38:bY P w K mg base)(C'42:jx P w K mg base)(C'30:ck P w K mg base):jy P w K mg base:=D.oP2 bF (by walk_at "b4") pD rfl rfl λ_ _ _ _ _ _ _ hr hu=>⟨_,(ag (bi (aE (dP K rfl hu) (am (m8 K rfl rfl) rfl T.b_max JD (paC (pv 1) af)) ap (aN _)) (aj (aJ (pv 2))) aG) (ag (ay (i:=4) bF.nd rfl (by walk_at "o") gf) (ag (cm r_ rfl (bh rfl T.b_range (paC (am (bA K rfl) rfl T.b_len g_ (paC (pv 0) af)) af)) (aB (i:=5) bF.nd rfl (by walk_at "o")) (aj (bi (aE rB (bf (dh K rfl) (pv 1) (pv 5) (λ_ _=>rfl)) ap (aN _)) (ag (ay (i:=6) bF.nd rfl (by walk_at "o") ap) (ag (dr (bi (aE (kA K rfl hu) (pv 3) (bp (l:=[]) (by decide +kernel)) (aN _)) (aj (ay (i:=6) bF.nd rfl (by walk_at "o") (aq C'30 (hr.m rfl) (paC (pv 3) (paC (bf (dh K rfl) (pv 0) (pv 5) (λ_ _=>rfl)) af))))) aG)) (ag (ay (i:=7) bF.nd rfl (by walk_at "o") (aP (aS K rfl) (aP (aS K rfl) (aL (fT K rfl) (pv 1) aT (aQ (pv 5))) (cp (paC (aP iw (bf (dh K rfl) (pv 1) (pv 5) (λ_ _=>rfl)) ap) af))) (aL (fT K rfl) (pv 1) (aQ (aP (aS K rfl) (pv 5) ap)) aT))) (ag (ay (i:=8) bF.nd rfl (by walk_at "o") (aq C'42 (hr.m rfl) (paC (pv 0) (paC (pv 7) (paC (aP (aS K rfl) (pv 2) (aL (fT K rfl) (bf (dh K rfl) (pv 0) (pv 5) (λ_ _=>rfl)) (aQ (pv 6)) aT)) (paC (bf (dh K rfl) (pv 0) (pv 5) (λ_ _=>rfl)) af)))))) (aj (bi (PW.pt (nI (aE CW (pv 4) gf (aN _)) (kf (bL (aq C'38 (hr.m rfl) (paC (pv 8) (paC (pv 4) af))))))) (aj (ay (i:=4) bF.nd rfl (by walk_at "o") (pv 8))) aG)))))) aG))) (aj (aJ (pv 4)))))),(jk K mg TC)⟩
def sW(D:aV K mg "_law_best" jY)(T:Txt mg)(TC:TxC K)(C'38:bY P w K mg base)(C'43:jy P w K mg base)(C'30:ck P w K mg base):mx P w K mg base:=D.oP2 bW (by walk_at "b4") sJ rfl rfl λ_ _ _ _ _ _ _ hr hu=>⟨_,(ag (bi (aE (dP K rfl hu) (am (m8 K rfl rfl) rfl T.b_max JD (paC (pv 1) af)) ap (aN _)) (aj (aJ (pv 2))) aG) (ag (ay (i:=4) bW.nd rfl (by walk_at "o") gf) (ag (cm r_ rfl (bh rfl T.b_range (paC (am (bA K rfl) rfl T.b_len g_ (paC (pv 0) af)) af)) (aB (i:=5) bW.nd rfl (by walk_at "o")) (aj (bi (aE rB (bf (dh K rfl) (pv 1) (pv 5) (λ_ _=>rfl)) ap (aN _)) (ag (ay (i:=6) bW.nd rfl (by walk_at "o") ap) (ag (dr (bi (aE (kA K rfl hu) (pv 3) (bp (l:=[]) (by decide +kernel)) (aN _)) (aj (ay (i:=6) bW.nd rfl (by walk_at "o") (aq C'30 (hr.m rfl) (paC (pv 3) (paC (bf (dh K rfl) (pv 0) (pv 5) (λ_ _=>rfl)) af))))) aG)) (ag (ay (i:=7) bW.nd rfl (by walk_at "o") (aP (aS K rfl) (aP (aS K rfl) (aL (fT K rfl) (pv 1) aT (aQ (pv 5))) (cp (paC (aP iw (bf (dh K rfl) (pv 1) (pv 5) (λ_ _=>rfl)) ap) af))) (aL (fT K rfl) (pv 1) (aQ (aP (aS K rfl) (pv 5) ap)) aT))) (ag (ay (i:=8) bW.nd rfl (by walk_at "o") (aq C'43 (hr.m rfl) (paC (pv 0) (paC (pv 7) (paC (aP (aS K rfl) (pv 2) (aL (fT K rfl) (bf (dh K rfl) (pv 0) (pv 5) (λ_ _=>rfl)) (aQ (pv 6)) aT)) (paC (bf (dh K rfl) (pv 0) (pv 5) (λ_ _=>rfl)) af)))))) (aj (bi (PW.pt (nI (aE CW (pv 4) gf (aN _)) (kf (bL (aq C'38 (hr.m rfl) (paC (pv 8) (paC (pv 4) af))))))) (aj (ay (i:=4) bW.nd rfl (by walk_at "o") (pv 8))) aG)))))) aG))) (aj (aJ (pv 4)))))),(me K mg TC)⟩
def rq(D:aV K mg "_law_short" iF)(T:Txt mg)(TC:TxC K)(C'13:cX P w K mg base)(C'38:bY P w K mg base)(C'44:mx P w K mg base)(C'37:jt P w K mg base)(C'34:mw P w K mg base)(C'35:nF P w K mg base)(C'20:bw P w K mg base):kv P w K mg base:=D.oR2 dk (by walk_at "b3") rg rfl rfl λ_ _ _ _ _ _ _ hr hu=>⟨_,(ag (ay (i:=3) dk.nd rfl (by walk_at "o") (i4 C'13 (hr.m rfl) (paC (bP (tU K rfl) rfl T.b_list JC (paC (pv 1) af)) (paC (bP (lp K rfl) rfl T.b_tuple Jh (paC (pv 2) af)) af)))) (ag (ay (i:=4) dk.nd rfl (by walk_at "o") (aq C'20 (hr.m rfl) (paC (pv 3) af))) (ag (bi (PW.pt (nI (eT (bL (am (x8 K rfl) rfl T.b_isinstance HY (paC (pv 4) (paC (jC (v:=.ty "str") rfl T.b_str boot_str rfl) af))))) (nI (eT (bL (aq C'37 (hr.m rfl) (paC (pv 4) (paC (pv 1) (paC (pv 2) af)))))) (kf (aE (kA K rfl hu) (aq C'20 (hr.m rfl) (paC (pv 3) af)) (pv 4) (aN _)))))) (aj (aJ nH)) aG) (ag (cm r_ rfl (bh rfl T.b_range (paC ap af)) (aB (i:=5) dk.nd rfl (by walk_at "o")) (ag (rL (wi:=(qs K (f9 (spR K h7) [] E0 (ba (bu 0) (ba (bu 2) fi))))) (g:=(bQ 0)) (tts:=mH) (te:=(tOp (uN K) (bu 1) (bu 0))) (i:=6) ["_law_one","_law_pieces_here"] [none,some 1] dk.nd rfl (Or.inl rfl) rfl (dz K rfl (aq C'35 (hr.m rfl) (paC (pv 0) (paC (pv 2) af)))) (λ_ _ _ _=>⟨(aB (i:=0) (by show y_ (["_law_one","_law_pieces_here"]:List Str);decide +kernel) rfl (by walk_at "o")),cu,(bf (dh K rfl) (pv 1) (pv 0) (λ_ _=>rfl))⟩) (by kernel_rfl)) (aj (bi (bL (aq C'38 (hr.m rfl) (paC (aq C'34 (hr.m rfl) (paC (pv 0) (paC (pv 6) af))) (paC (pv 4) af)))) (aj (aJ nH)) aG)))) (aj (aJ (B2 (cH rB (am (yT K rfl rfl) rfl T.b_sum boot_sum (paC (pv 2) af)) ap (aN _)) (kU (cH (dP K rfl hu) (pv 4) (aq C'44 (hr.m rfl) (paC (pv 1) (paC (bP (tU K rfl) rfl T.b_list JC (paC (pv 2) af)) (paC (bp (l:=[]) (by decide +kernel)) (paC (bp (l:=[]) (by decide +kernel)) af))))) (aN _)))))))))),(kq K mg TC)⟩
def rz(D:aV K mg "_law_alone" iG)(T:Txt mg)(TC:TxC K)(C'13:cX P w K mg base)(C'30:ck P w K mg base)(C'22:bc P w K mg base)(C'26:fP P w K mg base)(C'20:bw P w K mg base):kx P w K mg base:=D.oR2 eE (by walk_at "b1") rj rfl rfl λ_ _ _ _ _ _ _ hr hu=>⟨_,(ag (ay (i:=1) eE.nd rfl (by walk_at "o") (bf (dh K rfl) (aq C'26 (hr.m rfl) (paC (pv 0) (paC ap (paC ap af)))) ap (λ_ _=>rfl))) (ag (ay (i:=2) eE.nd rfl (by walk_at "o") (aP (aS K rfl) ap (aq C'22 (hr.m rfl) (paC (pv 0) (paC ap af))))) (ag (ay (i:=3) eE.nd rfl (by walk_at "o") (aP iw (am (bA K rfl) rfl T.b_len g_ (paC (pv 1) af)) (aq C'30 (hr.m rfl) (paC (pv 1) (paC (pv 1) af))))) (aj (aJ (cH (dP K rfl hu) (aq C'20 (hr.m rfl) (paC (i4 C'13 (hr.m rfl) (paC (cp (paC (pv 1) af)) (paC (cp (paC (pv 2) af)) af))) af)) (aP (aS K rfl) (aP jF (aL (fT K rfl) (pv 1) aT (aQ (pv 3))) (aP iw (pv 2) ap)) (pv 1)) (aN _))))))),(kr K mg TC)⟩
def mE(D:aV K mg "_law_by_turns" eR)(T:Txt mg)(TC:TxC K)(C'13:cX P w K mg base)(C'22:bc P w K mg base)(C'32:dg P w K mg base)(C'20:bw P w K mg base):gZ P w K mg base:=D.oR2 bX (by walk_at "b1") mh rfl rfl λ_ _ _ _ _ _ _ hr hu=>⟨_,(ag (tm (aL (fT K rfl) (aq C'32 (hr.m rfl) (paC (pv 0) (paC (bp (l:=[97,98,99,100,101,102,103,104,105,106,107,108,109,110,111,112,113,114,115,116,117,118,119,120,121,122]) (by decide +kernel)) af))) aT (aQ ap)) (e7 K rfl (n:=2) rfl (aX (aB (i:=1) bX.nd rfl (by walk_at "o")) (aX (aB (i:=2) bX.nd rfl (by walk_at "o")) c7)))) (ag (ay (i:=3) bX.nd rfl (by walk_at "o") (aP (aS K rfl) ap (aq C'22 (hr.m rfl) (paC (pv 0) (paC ap af))))) (ag (ay (i:=4) bX.nd rfl (by walk_at "o") (am (DH rfl) rfl T.b_min boot_min (paC (aP (aS K rfl) (aP jF (aP (aS K rfl) (pv 1) (pv 2)) (pv 3)) (pv 1)) (paC (aP (aS K rfl) (aP jF (aP (aS K rfl) (pv 2) (pv 1)) (pv 3)) (pv 2)) af)))) (aj (aJ (cH (dP K rfl hu) (aq C'20 (hr.m rfl) (paC (i4 C'13 (hr.m rfl) (paC (cp (paC (aP (aS K rfl) (pv 1) (pv 2)) (paC (aP (aS K rfl) (pv 2) (pv 1)) af))) (paC (kg (paC (pv 3) (paC (pv 3) af))) af))) af)) (pv 4) (aN _))))))),(gU K mg TC)⟩
def jA(D:aV K mg "_law_many_places" de)(T:Txt mg)(TC:TxC K)(C'13:cX P w K mg base)(C'31:ef P w K mg base)(C'32:dg P w K mg base)(C'20:bw P w K mg base):eH P w K mg base:=D.oR2 bR (by walk_at "b1") jm rfl rfl λ_ _ _ _ _ _ _ hr hu=>⟨_,(ag (ay (i:=1) bR.nd rfl (by walk_at "o") (aL (fT K rfl) (aq C'32 (hr.m rfl) (paC (pv 0) (paC (bp (l:=[97,98,99,100,101,102,103,104,105,106,107,108,109,110,111,112,113,114,115,116,117,118,119,120,121,122]) (by decide +kernel)) af))) aT (aQ ap))) (ag (ay (i:=2) bR.nd rfl (by walk_at "o") (aq C'31 (hr.m rfl) (paC (pv 0) (paC (cp (paC ap (paC ap (paC ap af)))) af)))) (ag (ay (i:=3) bR.nd rfl (by walk_at "o") (eX K rfl Hh J1 J2 (tZ K rfl) (bp (l:=[]) (by decide +kernel)) (paC (am (Ba K rfl) rfl T.b_sorted boot_sorted (paC (bT (wi:=(uK K (ba (bu 1) (ba (bu 2) fi)))) (g:=(wI K 2 (f8 (bQ 0) (f8 (bQ 1) xC)))) (tts:=mH) (te:=(tOp x6 (bu 0) (bu 1))) ["_law_letter","_law_count"] [none,none] rfl (oi K rfl rfl T.b_zip (paC (pv 1) (paC (pv 2) af))) (λ_ _ _ _=>⟨(e7 K rfl (n:=2) rfl (aX (aB (i:=0) (by show y_ (["_law_letter","_law_count"]:List Str);decide +kernel) rfl (by walk_at "o")) (aX (aB (i:=1) (by show y_ (["_law_letter","_law_count"]:List Str);decide +kernel) rfl (by walk_at "o")) c7))),cu,(aP jF (pv 0) (pv 1))⟩) (by kernel_rfl)) af)) af))) (aj (aJ (cH (dP K rfl hu) (aq C'20 (hr.m rfl) (paC (i4 C'13 (hr.m rfl) (paC (pv 1) (paC (pv 2) af))) af)) (pv 3) (aN _))))))),(eG K mg TC)⟩
def D4(D:aV K mg "law" yt)(T:Txt mg)(TC:TxC K)(C'13:cX P w K mg base)(C'46:kx P w K mg base)(C'28:ku P w K mg base)(C'47:gZ P w K mg base)(C'29:jp P w K mg base)(C'48:eH P w K mg base)(C'22:bc P w K mg base)(C'45:kv P w K mg base)(C'21:jn P w K mg base)(C'20:bw P w K mg base):D2 P w K mg base:=D.oP2 lH (by walk_at "b1") D1 rfl rfl λ_ _ _ _ _ _ _ hr hu=>⟨_,(ag (cm r_ rfl (bh rfl T.b_range (paC (am (Dd rfl) rfl T.b_max JD (paC ap (paC (am (wz rfl) rfl T.b_min boot_min (paC ap (paC (am (bA K rfl) rfl T.b_len g_ (paC (pv 0) af)) af))) af))) af)) (aB (i:=1) lH.nd rfl (by walk_at "o")) (ag (ay (i:=2) lH.nd rfl (by walk_at "o") (aq C'21 (hr.m rfl) (paC (pv 0) (paC (pv 1) af)))) (ag (cm r_ rfl (bh rfl T.b_range (paC ap af)) (aB (i:=3) lH.nd rfl (by walk_at "o")) (ag (ay (i:=4) lH.nd rfl (by walk_at "o") (aq C'28 (hr.m rfl) (paC (pv 2) (paC (aP (aS K rfl) ap (aq C'22 (hr.m rfl) (paC (pv 2) (paC ap af)))) (paC ap af))))) (ag (ay (i:=5) lH.nd rfl (by walk_at "o") (aq C'29 (hr.m rfl) (paC (pv 2) (paC (am (bA K rfl) rfl T.b_len g_ (paC (pv 4) af)) (paC ap af))))) (aj (bi (PW.pt (nI (eT (bL (aq C'45 (hr.m rfl) (paC (pv 2) (paC (pv 4) (paC (pv 5) af)))))) (kf (eT (bL (aq C'46 (hr.m rfl) (paC (pv 2) af))))))) (aj (aJ nH)) aG))))) (aj (bi (PW.pt (pS (aE (dP K rfl hu) (aq C'22 (hr.m rfl) (paC (pv 2) (paC ap af))) ap (aN _)) (kT (eT (bL (aq C'47 (hr.m rfl) (paC (pv 2) af))))))) (aj (aJ nH)) aG))))) (ag (ay (i:=2) lH.nd rfl (by walk_at "o") (aq C'21 (hr.m rfl) (paC (pv 0) (paC ap af)))) (ag (bi (PW.pt (pS (aE (dP K rfl hu) (aq C'22 (hr.m rfl) (paC (pv 2) (paC ap af))) ap (aN _)) (kT (eT (bL (aq C'48 (hr.m rfl) (paC (pv 2) af))))))) (aj (aJ nH)) aG) (aj (aJ (cH (dP K rfl hu) (aq C'20 (hr.m rfl) (paC (i4 C'13 (hr.m rfl) (paC (kg af) (paC (kg af) af))) af)) (bp (l:=[]) (by decide +kernel)) (aN _))))))),(zE K mg TC)⟩
end
def D5{l:JT}{w:World}{K:a_}{h:Heap}{mg:Str->Option Value}{fa:Addr}(X:K.In h)(G:h.Ns mainGlobals mg)(hfa:mg "law"=some (.ref fa))
  {C_Often:Addr} (aC_Often:tf K mainGlobals "Often"=some (some (.ref C_Often))) (pg_Often:IC K C_Often Str.empty=true) (hd_Often:Iq K C_Often=true) (po_Often:Jk K C_Often=true) (sa_Often:pf K (.ref C_Often) "__setattr__"=some (some (.builtin "object.__setattr__"))) (mk_Often:JS K C_Often=true) (kc_Often:A_ K (.ref C_Often)=true)
  (n_Often_pieces:pf K (.ref C_Often) "pieces"=some none)
  (n_Often_counts:pf K (.ref C_Often) "counts"=some none)
  (n_Often_laps:pf K (.ref C_Often) "laps"=some none)
  (n_Often_total:pf K (.ref C_Often) "total"=some none)
  (d1:eC K "is_row" oA)
  (d2:eC K "is_number" iB)
  (d3:eC K "lap" Bf)
  {f4:Addr}{oc4 kV4 dc4 pm4 cd4 ct4:Value}{od4 an4 dd4:Option Addr}{sl4 st4:Array (Option Value)}{dT4:Addr}{n4:Nat}{u4_0 u4_1:Tok} (a4:tf K mainGlobals "is_text"=some (some (.ref f4))) (l4:K.lookup f4=some ⟨oc4,od4,.func (C_ "is_text" "is_text" (bS e8) (bj e8) (ak e8) (.ref dT4) kV4 dc4 pm4 an4 cd4 ct4),sl4⟩) (c4:GT K cd4 "is_text"=true) (k4:A_ K (.ref f4)=true) (t4:K.lookup dT4=some ⟨.type "tuple",dd4,.seq [.int 0 u4_0,.int 4000 u4_1].toArray n4,st4⟩)
  (d5:eC K "first_place" fA)
  (d6:eC K "steps_of" jO)
  (d7:eC K "is_ahead" jP)
  (d8:eC K "heads_of" jR)
  (d9:eC K "choices_left" eP)
  (d10:eC K "_law_stream" gn)
  (d11:eC K "_law_next" jU)
  (d12:eC K "_law_within" gu)
  (d13:eC K "_law_lap" lD)
  (d14:eC K "_law_places" gy)
  (d15:eC K "_law_ahead" iD)
  (d16:eC K "all_laps" jM)
  (d17:eC K "is_whole" jN)
  (d18:eC K "check_pieces" eN)
  (d19:eC K "stands_within" dR)
  (d20:eC K "foremost" jQ)
  (d21:eC K "_law_word" jV)
  (d22:eC K "_law_cut" lC)
  (d23:eC K "_law_counts" gv)
  (d24:eC K "_law_shuffled" eQ)
  (d26:eC K "_law_lesser" gw)
  (d27:eC K "_law_enough" gC)
  (d29:eC K "is_kept" lz)
  (d30:eC K "check_counts" eO)
  (d31:eC K "all_ends" jT)
  (d32:eC K "_law_base" jW)
  (d33:eC K "_law_laid" jX)
  (d34:eC K "_law_row" lE)
  (d36:eC K "check_apart" fB)
  (d37:eC K "foremost_text" dS)
  (d38:eC K "_law_pieces" gq)
  {f40:Addr}{oc40 kV40 dc40 pm40 cd40 ct40:Value}{od40 an40:Option Addr}{sl40:Array (Option Value)} (a40:pf K (.ref C_Often) "__init__"=some (some (.ref f40))) (i40:PySem.W.isFn K (.ref f40)=true) (l40:K.lookup f40=some ⟨oc40,od40,.func (C_ "__init__" "Often.__init__" (bS bV) (bj bV) (ak bV) .none kV40 dc40 pm40 an40 cd40 ct40),sl40⟩) (c40:GT K cd40 "Often.__init__"=true) (k40:A_ K (.ref f40)=true)
  (d41:eC K "shortest_often" du)
  (d42:eC K "_law_apart" iC)
  (d45:eC K "_law_best" jY)
  (d46:eC K "_law_alone" iG)
  (d47:eC K "_law_by_turns" eR)
  (d48:eC K "_law_many_places" de)
  (d49:eC K "_law_short" iF)
  (d50:eC K "law" yt)
  (z1:tf K mainGlobals "abs"=some none)
  (z2:tf K mainGlobals "all"=some none)
  (z3:tf K mainGlobals "any"=some none)
  (z4:tf K mainGlobals "bool"=some none)
  (z5:tf K mainGlobals "enumerate"=some none)
  (z6:tf K mainGlobals "int"=some none)
  (z7:tf K mainGlobals "isinstance"=some none)
  (z8:tf K mainGlobals "len"=some none)
  (z9:tf K mainGlobals "list"=some none)
  (z10:tf K mainGlobals "max"=some none)
  (z11:tf K mainGlobals "min"=some none)
  (z12:tf K mainGlobals "range"=some none)
  (z13:tf K mainGlobals "sorted"=some none)
  (z14:tf K mainGlobals "str"=some none)
  (z15:tf K mainGlobals "sum"=some none)
  (z16:tf K mainGlobals "tuple"=some none)
  (z17:tf K mainGlobals "zip"=some none)
  {ty1:Tok} (y1:tf K mainGlobals "MOST_COUNT"=some (some (.int 9 ty1)))
  {ty2:Tok} (y2:tf K mainGlobals "MOST_PIECES"=some (some (.int 40 ty2)))
  {ty3:Tok} (y3:tf K mainGlobals "MOST_PRODUCT"=some (some (.int 500 ty3)))
  {ty4:Tok} (y4:tf K mainGlobals "MOST_SIGNS"=some (some (.int 60 ty4))) :
  ∃fd:G7,(∀(s:c_) (v:Value),JH s fd ⟨[v],[]⟩ [("_law_script",v)])/\∀base:Heap,K.In base->base.Ns mainGlobals mg->pU l.prog w K mg base CX0 9 fa fd ["_law_script"] (uI K):=by
 have eC_Often:=x0 aC_Often;have TC:TxC K:=⟨by rw [eC_Often];exact⟨pg_Often,hd_Often,po_Often,sa_Often⟩,by show pf K (.ref (cG K "Often")) "pieces"=some none;rw [eC_Often];exact n_Often_pieces,by show pf K (.ref (cG K "Often")) "counts"=some none;rw [eC_Often];exact n_Often_counts,by show pf K (.ref (cG K "Often")) "laps"=some none;rw [eC_Often];exact n_Often_laps,by show pf K (.ref (cG K "Often")) "total"=some none;rw [eC_Often];exact n_Often_total⟩
 have D'0:=a8 d1 X G;have D'1:=a8 d2 X G;have D'2:=a8 d3 X G;have D'4:tJ K mg "is_text" e8 [.int 0,.int 4000]:=⟨⟨f4,dT4,oc4,od4,an4,dd4,kV4,dc4,pm4,cd4,ct4,sl4,st4,[.int 0 u4_0,.int 4000 u4_1],n4,l4,c4,k4,HF X G a4,t4,(.cons ⟨_,rfl⟩ (.cons ⟨_,rfl⟩ .nil))⟩⟩
 have D'6:=a8 d5 X G;have D'12:=a8 d6 X G;have D'14:=a8 d7 X G;have D'16:=a8 d8 X G;have D'19:=a8 d9 X G;have D'21:=a8 d10 X G;have D'22:=a8 d11 X G;have D'27:=a8 d12 X G;have D'30:=a8 d13 X G;have D'36:=a8 d14 X G;have D'38:=a8 d15 X G;have D'3:=a8 d16 X G;have D'5:=a8 d17 X G;have D'7:=a8 d18 X G
 have D'8:=a8 d19 X G;have D'15:=a8 d20 X G;have D'23:=a8 d21 X G;have D'24:=a8 d22 X G;have D'29:=a8 d23 X G;have D'31:=a8 d24 X G;have D'33:=a8 d26 X G;have D'37:=a8 d27 X G;have D'9:=a8 d29 X G;have D'11:=a8 d30 X G;have D'17:=a8 d31 X G;have D'25:=a8 d32 X G;have D'34:=a8 d33 X G;have D'35:=a8 d34 X G
 have D'10:=a8 d36 X G;have D'18:=a8 d37 X G;have D'26:=a8 d38 X G;have D'13:tL K mg (cG K "Often") "Often" "Often.__init__" bV:=by rw [eC_Often];exact⟨⟨f40,_,yM (st:=bV) l40 c40 k40,⟨mk_Often,a40,i40,kc_Often⟩,HF X G aC_Often⟩⟩
 have D'20:=a8 d41 X G;have D'28:=a8 d42 X G;have D'44:=a8 d45 X G;have D'46:=a8 d46 X G;have D'47:=a8 d47 X G;have D'48:=a8 d48 X G;have D'45:=a8 d49 X G;have D'49:=a8 d50 X G;have D'32:aV K mg "_law_shuffled" dw:=D'31;have D'39:aV K mg "_law_best" gD:=D'44;have D'40:aV K mg "_law_best" gE:=D'44
 have D'41:aV K mg "_law_best" gF:=D'44;have D'42:aV K mg "_law_best" gG:=D'44;have D'43:aV K mg "_law_best" gH:=D'44;have T:Txt mg:=⟨tj X G z1,tj X G z2,tj X G z3,tj X G z4,tj X G z5,tj X G z6,tj X G z7,tj X G z8,tj X G z9,tj X G z10,tj X G z11,tj X G z12,tj X G z13,tj X G z14,tj X G z15,tj X G z16,tj X G z17,⟨_,HF X G y1⟩,⟨_,HF X G y2⟩,⟨_,HF X G y3⟩,⟨_,HF X G y4⟩⟩
 refine CF (st:=yt) hfa D'49 (λ_ _ _ _ _ _ s v=>.of_eq rfl) λbase=>?_;have C'0:=xB l.prog w base D'0 T TC;have C'1:=rm l.prog w base D'1 T TC;have C'2:=D3 l.prog w base D'2 T TC;have C'4:=ve l.prog w base D'4 T TC;have C'6:=mS l.prog w base D'6 T TC;have C'12:=sM l.prog w base D'12 T TC;have C'14:=sN l.prog w base D'14 T TC
 have C'16:=sP l.prog w base D'16 T TC;have C'19:=mC l.prog w base D'19 T TC;have C'21:=pF l.prog w base D'21 T TC;have C'22:=sR l.prog w base D'22 T TC;have C'27:=pH l.prog w base D'27 T TC;have C'30:=vh l.prog w base D'30 T TC;have C'36:=pK l.prog w base D'36 T TC;have C'38:=rp l.prog w base D'38 T TC
 have C'3:=sK l.prog w base D'3 T TC C'2;have C'5:=sL l.prog w base D'5 T TC C'1;have C'7:=my l.prog w base D'7 T TC C'4;have C'8:=kJ l.prog w base D'8 T TC C'6;have C'15:=sO l.prog w base D'15 T TC C'14;have C'23:=sS l.prog w base D'23 T TC C'22;have C'24:=vg l.prog w base D'24 T TC C'22
 have C'29:=pI l.prog w base D'29 T TC C'22;have C'31:=mD l.prog w base D'31 T TC C'22;have C'32:=ke l.prog w base D'32 T TC C'22;have C'33:=pJ l.prog w base D'33 T TC C'22;have C'37:=pL l.prog w base D'37 T TC C'36;have C'39:=pM l.prog w base D'39 T TC C'30
 have C'9:=vf l.prog w base D'9 T TC C'8;have C'11:=mB l.prog w base D'11 T TC C'0 C'5;have C'17:=sQ l.prog w base D'17 T TC C'15;have C'25:=sU l.prog w base D'25 T TC C'22 C'23;have C'34:=sV l.prog w base D'34 T TC C'30 C'33 C'22;have C'35:=vi l.prog w base D'35 T TC C'31
 have C'40:=pN l.prog w base D'40 T TC C'38 C'39 C'30;have C'10:=mT l.prog w base D'10 T TC C'9;have C'18:=kK l.prog w base D'18 T TC C'17 C'15 C'16;have C'26:=pG l.prog w base D'26 T TC C'25 C'24 C'22 C'23;have C'41:=pO l.prog w base D'41 T TC C'38 C'40 C'30
 have C'13:=pE l.prog w base D'13 T TC C'3 C'10 C'11 C'7 C'12;have C'20:=kd l.prog w base D'20 T TC C'19 C'18 C'12;have C'28:=rn l.prog w base D'28 T TC C'26 C'27;have C'42:=pP l.prog w base D'42 T TC C'38 C'41 C'30;have C'43:=pQ l.prog w base D'43 T TC C'38 C'42 C'30
 have C'44:=sW l.prog w base D'44 T TC C'38 C'43 C'30;have C'46:=rz l.prog w base D'46 T TC C'13 C'30 C'22 C'26 C'20;have C'47:=mE l.prog w base D'47 T TC C'13 C'22 C'32 C'20;have C'48:=jA l.prog w base D'48 T TC C'13 C'31 C'32 C'20
 have C'45:=rq l.prog w base D'45 T TC C'13 C'38 C'44 C'37 C'34 C'35 C'20;exact (D4 l.prog w base D'49 T TC C'13 C'46 C'28 C'47 C'29 C'48 C'22 C'45 C'21 C'20).imp λ_ _ _ _ h=>AK h
end K56

open PySem PySem.W PyProof.Rows
local macro_rules | `(tactic| walk_at "fn") => `(tactic| (refine' L2.Dy ?a ?l ?c ?k; (case a => k_is); (case l => k_is); (case c => k_is); (case k => k_is)))
local macro_rules | `(tactic| walk_at "xi") => `(tactic| (refine' L2.E7 ?a ?l ?g ?h ?s ?c ?k; (case a => k_is); (case l => k_is); (case g => k_is); (case h => k_is); (case s => k_is); (case c => k_is); (case k => k_is)))
local macro_rules | `(tactic| walk_at "xj") => `(tactic| (refine' L2.E8 ?i ?t ?l ?c ?k ?n; (case i => k_is); (case t => k_is); (case l => k_is); (case c => k_is); (case k => k_is); (case n => k_is)))
set_option maxRecDepth 100000 in
set_option maxHeartbeats 0 in
theorem PySem.Challenge.cw_shortglue_k56_shortest_often_holds : PySem.Challenge.rw_shortglue_k56_shortest_often.Holds := by
  refine topHd ?_
  k_fill
  refine L2.CG (l := PySem.Challenge.rw_shortglue_k56_shortest_often) (k := 9) (x := "_law_script") rfl rfl ⟨rfl, by decide, by decide⟩ (fun w h Y => PySem.W.kIn_of Y) ?F
  case F =>
    intro w mg fa h KX G hmg
    refine' K56.D5 KX G hmg ?aC_Often ?pg_Often ?hd_Often ?po_Often ?sa_Often ?mk_Often ?kc_Often ?n_Often_pieces ?n_Often_counts ?n_Often_laps ?n_Often_total ?d1 ?d2 ?d3 ?a4 ?l4 ?c4 ?k4 ?t4 ?d5 ?d6 ?d7 ?d8 ?d9 ?d10 ?d11 ?d12 ?d13 ?d14 ?d15 ?d16 ?d17 ?d18 ?d19 ?d20 ?d21 ?d22 ?d23 ?d24 ?d26 ?d27 ?d29 ?d30 ?d31 ?d32 ?d33 ?d34 ?d36 ?d37 ?d38 ?a40 ?i40 ?l40 ?c40 ?k40 ?d41 ?d42 ?d45 ?d46 ?d47 ?d48 ?d49 ?d50 ?z1 ?z2 ?z3 ?z4 ?z5 ?z6 ?z7 ?z8 ?z9 ?z10 ?z11 ?z12 ?z13 ?z14 ?z15 ?z16 ?z17 ?y1 ?y2 ?y3 ?y4
    (case aC_Often => k_is)
    (case pg_Often => k_is)
    (case hd_Often => k_is)
    (case po_Often => k_is)
    (case sa_Often => k_is)
    (case mk_Often => k_is)
    (case kc_Often => k_is)
    (case n_Often_pieces => k_is)
    (case n_Often_counts => k_is)
    (case n_Often_laps => k_is)
    (case n_Often_total => k_is)
    (case d1 => walk_at "fn")
    (case d2 => walk_at "fn")
    (case d3 => walk_at "fn")
    (case a4 => k_is)
    (case l4 => k_is)
    (case c4 => k_is)
    (case k4 => k_is)
    (case t4 => k_is)
    (case d5 => walk_at "fn")
    (case d6 => walk_at "fn")
    (case d7 => walk_at "fn")
    (case d8 => walk_at "fn")
    (case d9 => walk_at "fn")
    (case d10 => walk_at "fn")
    (case d11 => walk_at "fn")
    (case d12 => walk_at "fn")
    (case d13 => walk_at "fn")
    (case d14 => walk_at "fn")
    (case d15 => walk_at "fn")
    (case d16 => walk_at "fn")
    (case d17 => walk_at "fn")
    (case d18 => walk_at "fn")
    (case d19 => walk_at "fn")
    (case d20 => walk_at "fn")
    (case d21 => walk_at "fn")
    (case d22 => walk_at "fn")
    (case d23 => walk_at "fn")
    (case d24 => walk_at "fn")
    (case d26 => walk_at "fn")
    (case d27 => walk_at "fn")
    (case d29 => walk_at "fn")
    (case d30 => walk_at "fn")
    (case d31 => walk_at "fn")
    (case d32 => walk_at "fn")
    (case d33 => walk_at "fn")
    (case d34 => walk_at "fn")
    (case d36 => walk_at "fn")
    (case d37 => walk_at "fn")
    (case d38 => walk_at "fn")
    (case a40 => k_is)
    (case i40 => k_is)
    (case l40 => k_is)
    (case c40 => k_is)
    (case k40 => k_is)
    (case d41 => walk_at "fn")
    (case d42 => walk_at "fn")
    (case d45 => walk_at "fn")
    (case d46 => walk_at "fn")
    (case d47 => walk_at "fn")
    (case d48 => walk_at "fn")
    (case d49 => walk_at "fn")
    (case d50 => walk_at "fn")
    (case z1 => k_is)
    (case z2 => k_is)
    (case z3 => k_is)
    (case z4 => k_is)
    (case z5 => k_is)
    (case z6 => k_is)
    (case z7 => k_is)
    (case z8 => k_is)
    (case z9 => k_is)
    (case z10 => k_is)
    (case z11 => k_is)
    (case z12 => k_is)
    (case z13 => k_is)
    (case z14 => k_is)
    (case z15 => k_is)
    (case z16 => k_is)
    (case z17 => k_is)
    (case y1 => k_is)
    (case y2 => k_is)
    (case y3 => k_is)
    (case y4 => k_is)
